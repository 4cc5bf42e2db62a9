import Derived.Test.YtiamjjonoeaggabGreatDoorGA
import Derived.Test.YtiamjjonoeaggabGreatDoorGB
import Derived.Test.YtiamjjonoeaggabGreatDoorG18
set_option maxRecDepth 100000
set_option maxHeartbeats 16000000
namespace Go.Proofs.YtiamjjonoeaggabGreatDoor
open Go.RowKit
theorem q9A (a:Nat)(h:a<4):(q2f a==[120])=((a:Int)==0)∧(q2f a==[121])=((a:Int)==1):=by
 have:a=0∨a=1∨a=2∨a=3:=by omega
 rcases this with rfl|rfl|rfl|rfl<;>exact⟨by decide,by decide⟩
theorem j0F (n:By)(gs:List (By))(x:By):zh (evF n gs) x=gs.any fun a=>a==x:=rfl
theorem j4K (k:Nat)(a:By):zs (evF (nmK k) [a])=nmK k++[40]++a++[41]:=by
 unfold evF
 simp only[zs,(q9N k).1,if_true]
 simp
theorem j4L (k:Nat)(a b:By):zs (evF (nmK k) [a,b])=nmK k++[40]++a++[44]++b++[41]:=by
 unfold evF
 simp only[zs,(q9N k).1,if_true]
 simp
theorem j8h (n:By)(gs:List (By)):qm (evF n gs)=evF n (gs.map q0M):=rfl
theorem AtmAt.facts {w wr:World}{fb:Nat}{t o:By}{x y:Bool}(h:AtmAt w wr fb t o x y):wr.cell? ⟨w.heap.size+1,0,none⟩=some (bs t)∧wr.cell? ⟨w.heap.size+1,1,none⟩=some (bs o)∧wr.cell? ⟨w.heap.size+1,2,none⟩=some (.bool x)∧wr.cell? ⟨w.heap.size+1,3,none⟩=some (.bool y)∧wr.cell? ⟨w.heap.size+1,4,none⟩=some (.int .i64 (-1))∧(∀j,wr.frozen? ⟨w.heap.size+1,j,none⟩=false)∧w.heap.size+1<wr.heap.size:=
 ⟨zC _ _ 0 _ _ _ h.made,zC _ _ 1 _ _ _ h.made,zC _ _ 2 _ _ _ h.made,zC _ _ 3 _ _ _ h.made,zC _ _ 4 _ _ _ h.made,fun j=>zF _ _ j _ _ h.made,by have:=h.size;omega⟩
theorem AtmAt.facts0 {w wr:World}{fb:Nat}{t o:By}{x y:Bool}(h:AtmAt w wr fb t o x y):wr.cell? ⟨w.heap.size,0,none⟩=some (bs [])∧wr.cell? ⟨w.heap.size,1,none⟩=some (bs [])∧wr.cell? ⟨w.heap.size,2,none⟩=some (.bool false)∧wr.cell? ⟨w.heap.size,3,none⟩=some (.bool false)∧wr.cell? ⟨w.heap.size,4,none⟩=some (.int .i64 0)∧(∀j,wr.frozen? ⟨w.heap.size,j,none⟩=false)∧w.heap.size<wr.heap.size:=
 ⟨zC _ _ 0 _ _ _ h.res,zC _ _ 1 _ _ _ h.res,zC _ _ 2 _ _ _ h.res,zC _ _ 3 _ _ _ h.res,zC _ _ 4 _ _ _ h.res,fun j=>zF _ _ j _ _ h.res,by have:=h.size;omega⟩
theorem AtmAt.names {w wr:World}{fb:Nat}{t o:By}{x y:Bool}(h:AtmAt w wr fb t o x y)(k:Nat)(hk:k<3):wr.cell? ⟨w.heap.size+1+1,k,none⟩=some (bs (nmK k)):=(zC _ _ k _ _ _ h.nm).trans (nmK_at k hk)
theorem AtmAt.args {w wr:World}{fb:Nat}{t o:By}{x y:Bool}(h:AtmAt w wr fb t o x y)(k:Nat)(hk:k<4):wr.cell? ⟨w.heap.size+1+1+1,k,none⟩=some (bs (q2f k))∧wr.cell? ⟨w.heap.size+1+1+1+1,k,none⟩=some (bs (q0M (q2f k))):=⟨(zC _ _ k _ _ _ h.ar).trans (j8e k hk).1,(zC _ _ k _ _ _ h.ot).trans (j8e k hk).2⟩
theorem OnlyB.fresh {bl:List Nat}{w W:World}{b:Nat}(h:OnlyB bl w W)(hb:w.heap.size≤b)(o:Nat)(v:Value):OnlyB bl w (W.setCell ⟨b,o,none⟩ v):=
 ⟨h.os,h.tape,h.output,by simpa using h.size,fun k hk hn=>by rw[Below.heap_setCell W _ _ k (by show k≠b;omega)];exact h.block k hk hn⟩
theorem FeedAt.set {W:World}{fb b:Nat}{s:By}{i:Nat}(h:FeedAt W fb s i)(hb:fb≠b)(o:Nat)(v:Value):FeedAt (W.setCell ⟨b,o,none⟩ v) fb s i:=
 ⟨by rw[Below.heap_setCell W _ _ fb hb];exact h.blk,h.le,h.sm⟩
theorem j3x {w W:World}{fb:Nat}{s:By}{i:Nat}(h:FeedAt W fb s i)(ho:OnlyB [fb] w W)(hl:fb<w.heap.size)(v0 v1 v2 v3 v4:Value) :
  FeedAt (((((W.setCell ⟨w.heap.size,0,none⟩ v0).setCell ⟨w.heap.size,1,none⟩ v1).setCell ⟨w.heap.size,2,none⟩ v2).setCell ⟨w.heap.size,3,none⟩ v3).setCell ⟨w.heap.size,4,none⟩ v4) fb s i∧OnlyB [fb] w (((((W.setCell ⟨w.heap.size,0,none⟩ v0).setCell ⟨w.heap.size,1,none⟩ v1).setCell ⟨w.heap.size,2,none⟩ v2).setCell ⟨w.heap.size,3,none⟩ v3).setCell ⟨w.heap.size,4,none⟩ v4):=
 ⟨(((((h.set (by omega) _ _).set (by omega) _ _).set (by omega) _ _).set (by omega) _ _).set (by omega) _ _),(((((ho.fresh (zL _) _ _).fresh (zL _) _ _).fresh (zL _) _ _).fresh (zL _) _ _).fresh (zL _) _ _)⟩
theorem j5l (fb:Nat)(s:By)(i:Nat)(w:World)(h:FeedAt w fb s i) :
  Calls Tryz.prog 23 #[.pointer (some ⟨fb,0,none⟩)] w fun e w'=>e=.returned (qx (zs (q2K s i).1) (zs (qm (q2K s i).1)) (zh (q2K s i).1 [120]) (zh (q2K s i).1 [121]) (-1))∧FeedAt w' fb s (q2K s i).2∧OnlyB [fb] w w':=by
 have HN:=zb (fun j n hn W q=>q1B fb s j n hn W q)
 have HF:=zb h
 have hlt:=h.lt
 obtain⟨R,hR⟩:∃R,R=q2K s i:=⟨_,rfl⟩
 rw[←hR]
 unfold q2K at hR
 have HRE:=zb hR
 clear hR h
 go_enter Tryz.func23,Tryz.ntmps23
 go_wp2_with fail
 obtain⟨W0,hW0⟩:∃W0,W0=((((w.alloc (.cells #[bs [],bs [],.bool false,.bool false,.int .i64 0] 23)).alloc (.cells #[bs [],bs [],.bool false,.bool false,.int .i64 (-1)] 23)).alloc (.cells #[bs [112],bs [113],bs [114]] 9)).alloc (.cells #[bs [120],bs [121],bs [49],bs [50]] 9)).alloc (.cells #[bs [121],bs [120],bs [49],bs [50]] 9):=⟨_,rfl⟩
 have A0:AtmAt w W0 fb [] [] false false:=by
  refine⟨?_,?_,?_,?_,?_,?_,hlt⟩
  ·rw[hW0,zO _ _ (by simp<;>omega),zO _ _ (by simp<;>omega),zO _ _ (by simp<;>omega),zO _ _ (by simp)];exact zN _ _
  ·rw[hW0,zO _ _ (by simp<;>omega),zO _ _ (by simp<;>omega),zO _ _ (by simp)]
   have:=zN (w.alloc (.cells #[bs [],bs [],.bool false,.bool false,.int .i64 0] 23)) (.cells #[bs [],bs [],.bool false,.bool false,.int .i64 (-1)] 23)
   simpa using this
  ·rw[hW0,zO _ _ (by simp<;>omega),zO _ _ (by simp)]
   have:=zN ((w.alloc (.cells #[bs [],bs [],.bool false,.bool false,.int .i64 0] 23)).alloc (.cells #[bs [],bs [],.bool false,.bool false,.int .i64 (-1)] 23)) (.cells #[bs [112],bs [113],bs [114]] 9)
   simpa using this
  ·rw[hW0,zO _ _ (by simp)]
   have:=zN (((w.alloc (.cells #[bs [],bs [],.bool false,.bool false,.int .i64 0] 23)).alloc (.cells #[bs [],bs [],.bool false,.bool false,.int .i64 (-1)] 23)).alloc (.cells #[bs [112],bs [113],bs [114]] 9)) (.cells #[bs [120],bs [121],bs [49],bs [50]] 9)
   simpa using this
  ·rw[hW0]
   have:=zN ((((w.alloc (.cells #[bs [],bs [],.bool false,.bool false,.int .i64 0] 23)).alloc (.cells #[bs [],bs [],.bool false,.bool false,.int .i64 (-1)] 23)).alloc (.cells #[bs [112],bs [113],bs [114]] 9)).alloc (.cells #[bs [120],bs [121],bs [49],bs [50]] 9)) (.cells #[bs [121],bs [120],bs [49],bs [50]] 9)
   simpa using this
  ·rw[hW0]
   exact .of_below (((((zB _ _).alloc (zL _) _).alloc (by simp) _).alloc (by simp<;>omega) _).alloc (by simp<;>omega) _ |>.alloc (by simp<;>omega) _)
 have BW:Below w.heap.size w W0:=by
  rw[hW0]
  exact(((((zB _ _).alloc (zL _) _).alloc (by simp) _).alloc (by simp<;>omega) _).alloc (by simp<;>omega) _ |>.alloc (by simp<;>omega) _)
 have F0:FeedAt W0 fb s i:=HF.out.below BW
 rw[←hW0]
 have HA0:=zb A0
 have HF0:=zb F0
 clear hW0 A0 F0 BW HF
 refine(HN.out i 9 (by omega) _ HF0.out).mono ?_
 rintro e w1 ⟨rfl,f1,o1⟩
 have HA1:=zb (HA0.out.next o1)
 have HF1:=zb f1
 clear f1 o1 HA0 HF0
 generalize zk s i 9=r9 at *
 obtain⟨k9,i9⟩:=r9
 simp only[]at *
 by_cases hk9:k9=1
 ·obtain⟨x0,x1,x2,x3,x4,x5,x6⟩:=HA1.out.facts
  obtain⟨y0,y1,y2,y3,y4,y5,y6⟩:=HA1.out.facts0
  have hr:=HRE.out
  rw[if_pos hk9]at hr
  have HR:=zb hr
  clear HRE hr
  subst hk9
  go_wp2_with fail
  have hR:=HR.out
  subst hR
  exact zP (v:=qx [116,114,117,101] [116,114,117,101] false false (-1)) (by simp[results,Tryz.results23,go_sem,y0,y1,y2,y3,y4]) rfl ⟨rfl,j3x ((HF1.out.set (by omega) _ _).set (by omega) _ _) ((HA1.out.only.fresh (by omega) _ _).fresh (by omega) _ _) hlt _ _ _ _ _⟩
 ·have hk9':((k9:Int)==1)=false:=by simp;omega
  have hr:=HRE.out
  rw[if_neg hk9]at hr
  have HR:=zb hr
  clear HRE hr
  go_wp2_with fail
  refine(HN.out i9 3 (by omega) _ HF1.out).mono ?_
  rintro e w2 ⟨rfl,f2,o2⟩
  have HA2:=zb (HA1.out.next o2)
  have HF2:=zb f2
  have hk3:=ql s i9 (n:=3) (by omega)
  clear f2 o2 HA1 HF1
  generalize zk s i9 3=r3 at *
  obtain⟨k3,i3⟩:=r3
  simp only[]at *
  have n0:=HA2.out.names k3 hk3
  have hl2:=HA2.out.size
  have hk3i:(k3:Int)<3:=by omega
  have hk30:(0:Int)≤(k3:Int):=by omega
  have hl2':w.heap.size+1+1<w2.heap.size:=by omega
  have hnl:=(q9N k3).2.2.1
  obtain⟨nn,hnn⟩:∃nn,nn=nmK k3:=⟨_,rfl⟩
  rw[←hnn]at n0 hnl
  have HNN:=zb hnn
  clear hnn
  go_wp2_with fail
  refine(HN.out i3 4 (by omega) _ HF2.out).mono ?_
  rintro e w3 ⟨rfl,f3,o3⟩
  have HA3:=zb (HA2.out.next o3)
  have HF3:=zb f3
  have hk4:=ql s i3 (n:=4) (by omega)
  clear f3 o3 HA2 HF2 n0 hl2 hl2'
  generalize zk s i3 4=r4 at *
  obtain⟨a,i4⟩:=r4
  simp only[]at *
  obtain⟨p0,p1⟩:=HA3.out.args a hk4
  have hl3:=HA3.out.size
  have hk4i:(a:Int)<4:=by omega
  have hk40:(0:Int)≤(a:Int):=by omega
  have hl3':w.heap.size+1+1+1<w3.heap.size:=by omega
  have hl3'':w.heap.size+1+1+1+1<w3.heap.size:=by omega
  obtain⟨x0,x1,x2,x3,x4,x5,x6⟩:=HA3.out.facts
  have hal:=(q8y a).2.2
  have hsl:=j3n (q2f a) hal
  obtain⟨ta,hta⟩:∃ta,ta=q2f a:=⟨_,rfl⟩
  obtain⟨sa,hsa⟩:∃sa,sa=q0M (q2f a):=⟨_,rfl⟩
  rw[←hsa]at p1 hsl
  rw[←hta]at p0 hal
  have HTA:=zb hta
  have HSA:=zb hsa
  clear hta hsa
  go_wp2_with fail
  have e1:∀q:By,ByteArray.mk nn.toArray++ByteArray.mk #[40]++ByteArray.mk q.toArray=ByteArray.mk (nn++[40]++q).toArray:=fun q=>by rw[←qE,←qE]
  rw[e1,e1]
  obtain⟨W4,hW4⟩:∃W4,W4=(((w3.setCell ⟨w.heap.size+1,0,none⟩ (bs (nn++[40]++ta))).setCell ⟨w.heap.size+1,1,none⟩ (bs (nn++[40]++sa))).setCell ⟨w.heap.size+1,2,none⟩ (.bool ((a:Int)==0))).setCell ⟨w.heap.size+1,3,none⟩ (.bool ((a:Int)==1)):=⟨_,rfl⟩
  rw[←hW4]
  have HA4:Hid (AtmAt w W4 fb (nn++[40]++ta) (nn++[40]++sa) ((a:Int)==0) ((a:Int)==1)):=zb (by rw[hW4];exact(((HA3.out.put (t':=nn++[40]++ta) (o':=[]) (x':=false) (y':=false) 0 _ rfl).put (t':=nn++[40]++ta) (o':=nn++[40]++sa) (x':=false) (y':=false) 1 _ rfl).put (t':=nn++[40]++ta) (o':=nn++[40]++sa) (x':=((a:Int)==0)) (y':=false) 2 _ rfl).put 3 _ rfl)
  have HF4:Hid (FeedAt W4 fb s i4):=zb (by rw[hW4];exact(((HF3.out.set (by omega) _ _).set (by omega) _ _).set (by omega) _ _).set (by omega) _ _)
  clear hW4 e1 HA3 HF3 p0 p1 x0 x1 x2 x3 x4 x5 x6 hl3 hl3' hl3''
  refine(HN.out i4 2 (by omega) _ HF4.out).mono ?_
  rintro e w5 ⟨rfl,f5,o5⟩
  have HA5:=zb (HA4.out.next o5)
  have HF5:=zb f5
  clear f5 o5 HA4 HF4
  generalize zk s i4 2=r2 at *
  obtain⟨k2,i5⟩:=r2
  simp only[]at *
  by_cases hk2:k2=1
  ·rw[if_pos hk2]at HR
   subst hk2
   go_wp2_with fail
   refine(HN.out i5 4 (by omega) _ HF5.out).mono ?_
   rintro e w6 ⟨rfl,f6,o6⟩
   have HA6:=zb (HA5.out.next o6)
   have HF6:=zb f6
   have hkb:=ql s i5 (n:=4) (by omega)
   clear f6 o6 HA5 HF5
   generalize zk s i5 4=rb at *
   obtain⟨b,i6⟩:=rb
   simp only[]at *
   have hkbi:(b:Int)<4:=by omega
   have hkb0:(0:Int)≤(b:Int):=by omega
   have hbl:=(q8y b).2.2
   have hbsl:=j3n (q2f b) hbl
   have HAG:=zb (fun(W:World) (q:AtmAt w W fb (nn++[40]++ta) (nn++[40]++sa) ((a:Int)==0) ((a:Int)==1))=>q.args b hkb)
   obtain⟨tb,htb⟩:∃tb,tb=q2f b:=⟨_,rfl⟩
   obtain⟨sb,hsb⟩:∃sb,sb=q0M (q2f b):=⟨_,rfl⟩
   rw[←hsb]at HAG hbsl
   rw[←htb]at HAG hbl
   have HTB:=zb htb
   have HSB:=zb hsb
   clear htb hsb
   obtain⟨p0,p1⟩:=HAG.out _ HA6.out
   obtain⟨x0,x1,x2,x3,x4,x5,x6⟩:=HA6.out.facts
   have hl6:=HA6.out.size
   have hl6':w.heap.size+1+1+1<w6.heap.size:=by omega
   have hl6'':w.heap.size+1+1+1+1<w6.heap.size:=by omega
   have htl0:(nn++[40]++ta).length≤10:=by simp only[List.length_append,List.length_cons,List.length_nil];omega
   have hol0:(nn++[40]++sa).length≤10:=by simp only[List.length_append,List.length_cons,List.length_nil];omega
   obtain⟨tt,htt⟩:∃tt,tt=nn++[40]++ta:=⟨_,rfl⟩
   obtain⟨oo,hoo⟩:∃oo,oo=nn++[40]++sa:=⟨_,rfl⟩
   rw[←htt]at x0 htl0 HA6
   rw[←hoo]at x1 hol0 HA6
   have HTT0:=zb htt
   have HOO0:=zb hoo
   have q1:¬9223372036854775807<tt.length+1:=by omega
   have q2:¬9223372036854775807<tt.length+1+1:=by omega
   have q3:¬9223372036854775807<oo.length+1:=by omega
   have q4:¬9223372036854775807<oo.length+1+1:=by omega
   clear htt hoo HAG
   go_wp2_with fail
   refine wp_region_held_drew (S:=fun w'=>w'.cell? ⟨w.heap.size+1+1+1,b,none⟩=some (bs tb)) (by kernel_rfl) (by exact p0) (fun hS0=>?_)
   simp only[rz,Nat.zero_add,Nat.reduceAdd]
   refine tq 0 54 ?_
   simp only[Act.put,pz]
   refine tq 3 57 ?_
   simp only[Act.put,pz]
   refine tq 4 58 ?_
   simp only[Act.put,pz]
   refine tq 5 59 ?_
   simp only[Act.put,pz]
   refine tq 6 60 ?_
   simp only[Act.put,pz]
   refine rd1 1 rfl fun K hK=>?_
   go_simp
   refine hK.out _ _ (by exact p0) (fun _=>?_)
   clear hK K
   refine tq 2 56 ?_
   simp only[Act.put,List.setIfInBounds_toArray]
   refine tq 7 61 ?_
   simp only[Act.put,List.setIfInBounds_toArray]
   refine tq 8 62 ?_
   simp only[Act.put,List.setIfInBounds_toArray]
   refine rd1 9 rfl fun K hK=>?_
   go_simp
   have e44:∀p q:By,ByteArray.mk p.toArray++ByteArray.mk #[44]++ByteArray.mk q.toArray=ByteArray.mk (p++[44]++q).toArray:=fun p q=>by rw[←qE,←qE]
   have HE44:=zb e44
   clear e44
   rw[HE44.out]
   obtain⟨W7,hW7⟩:∃W7,W7=(w6.setCell ⟨w.heap.size+1,0,none⟩ (bs (tt++[44]++tb))).drew:=⟨_,rfl⟩
   rw[←hW7]
   have HA7:Hid (AtmAt w W7 fb (tt++[44]++tb) oo ((a:Int)==0) ((a:Int)==1)):=zb (by rw[hW7];exact(HA6.out.put (t':=tt++[44]++tb) (o':=oo) (x':=((a:Int)==0)) (y':=((a:Int)==1)) 0 _ rfl).next (.of_below (zB _ _).drew))
   have HF7:Hid (FeedAt W7 fb s i6):=zb (by rw[hW7];exact(HF6.out.set (by omega) _ _).below (zB _ _).drew)
   refine hK.out _ _ (by have:=(HA7.out.args b hkb).1;rw[←HTB.out]at this;exact this) (fun _=>?_)
   clear hK K hW7 HA6 HF6 p0 p1 x0 x1 x2 x3 x4 x5 x6 hl6 hl6' hl6'' q1 q2
   refine zD (by kernel_rfl) ?_ _
   have p1:=(HA7.out.args b hkb).2
   rw[←HSB.out]at p1
   obtain⟨x0,x1,x2,x3,x4,x5,x6⟩:=HA7.out.facts
   have hl7:=HA7.out.size
   have hl7'':w.heap.size+1+1+1+1<W7.heap.size:=by omega
   go_wp2_with fail
   refine wp_region_held_drew (S:=fun w'=>w'.cell? ⟨w.heap.size+1+1+1+1,b,none⟩=some (bs sb)) (by kernel_rfl) (by exact p1) (fun hS0=>?_)
   simp only[rz,Nat.zero_add,Nat.reduceAdd]
   refine tq 0 63 ?_
   simp only[Act.put,pz]
   refine tq 3 66 ?_
   simp only[Act.put,pz]
   refine tq 4 67 ?_
   simp only[Act.put,pz]
   refine tq 5 68 ?_
   simp only[Act.put,pz]
   refine tq 6 69 ?_
   simp only[Act.put,pz]
   refine rd1 1 rfl fun K hK=>?_
   go_simp
   refine hK.out _ _ (by exact p1) (fun _=>?_)
   clear hK K
   refine tq 2 65 ?_
   simp only[Act.put,List.setIfInBounds_toArray]
   refine tq 7 70 ?_
   simp only[Act.put,List.setIfInBounds_toArray]
   refine tq 8 71 ?_
   simp only[Act.put,List.setIfInBounds_toArray]
   refine rd1 9 rfl fun K hK=>?_
   go_simp
   rw[HE44.out]
   obtain⟨W8,hW8⟩:∃W8,W8=(W7.setCell ⟨w.heap.size+1,1,none⟩ (bs (oo++[44]++sb))).drew:=⟨_,rfl⟩
   rw[←hW8]
   have HA8:Hid (AtmAt w W8 fb (tt++[44]++tb) (oo++[44]++sb) ((a:Int)==0) ((a:Int)==1)):=zb (by rw[hW8];exact(HA7.out.put (t':=tt++[44]++tb) (o':=oo++[44]++sb) (x':=((a:Int)==0)) (y':=((a:Int)==1)) 1 _ rfl).next (.of_below (zB _ _).drew))
   have HF8:Hid (FeedAt W8 fb s i6):=zb (by rw[hW8];exact(HF7.out.set (by omega) _ _).below (zB _ _).drew)
   refine hK.out _ _ (by have:=(HA8.out.args b hkb).2;rw[←HSB.out]at this;exact this) (fun _=>?_)
   clear hK K hW8 HA7 HF7 p1 x0 x1 x2 x3 x4 x5 x6 hl7 hl7'' q3 q4 HE44
   refine zD (by kernel_rfl) ?_ _
   have hT8:(tt++[44]++tb).length≤20:=by simp only[List.length_append,List.length_cons,List.length_nil];omega
   have hO8:(oo++[44]++sb).length≤20:=by simp only[List.length_append,List.length_cons,List.length_nil];omega
   obtain⟨t8,ht8⟩:∃t8,t8=tt++[44]++tb:=⟨_,rfl⟩
   obtain⟨o8,ho8⟩:∃o8,o8=oo++[44]++sb:=⟨_,rfl⟩
   rw[←ht8]at HA8 hT8
   rw[←ho8]at HA8 hO8
   have HT8:=zb ht8
   have HO8:=zb ho8
   clear ht8 ho8
   have hR:=HR.out
   subst hR
   have HFIN:Hid (qx (t8++[41]) (o8++[41]) (((a:Int)==0) || ((b:Int)==0)) (((a:Int)==1) || ((b:Int)==1)) (-1)=qx (zs (evF (nmK k3) [q2f a,q2f b])) (zs (qm (evF (nmK k3) [q2f a,q2f b]))) (zh (evF (nmK k3) [q2f a,q2f b]) [120]) (zh (evF (nmK k3) [q2f a,q2f b]) [121]) (-1)):=zb (by
    rw[j8h,j0F,j0F,List.map_cons,List.map_cons,List.map_nil,j4L,j4L,HT8.out,HO8.out,HTT0.out,HOO0.out,HNN.out,HTA.out,HSA.out,HTB.out,HSB.out]
    simp only[List.any_cons,List.any_nil,Bool.or_false,(q9A a hk4).1,(q9A a hk4).2,(q9A b hkb).1,(q9A b hkb).2])
   obtain⟨MV,hMV⟩:∃MV,MV=qx (zs (evF (nmK k3) [q2f a,q2f b])) (zs (qm (evF (nmK k3) [q2f a,q2f b]))) (zh (evF (nmK k3) [q2f a,q2f b]) [120]) (zh (evF (nmK k3) [q2f a,q2f b]) [121]) (-1):=⟨_,rfl⟩
   rw[←hMV]at HFIN
   have HMV:=zb hMV
   clear hMV
   obtain⟨x0,x1,x2,x3,x4,x5,x6⟩:=HA8.out.facts
   obtain⟨y0,y1,y2,y3,y4,y5,y6⟩:=HA8.out.facts0
   generalize ((a:Int)==0)=xa at *
   generalize ((a:Int)==1)=ya at *
   have e7:∀q:By,ByteArray.mk q.toArray++ByteArray.mk #[41]=ByteArray.mk (q++[41]).toArray:=fun q=>by rw[←qE]
   have HE7:=zb e7
   clear e7
   cases xa<;>cases ya <;>
   ·go_wp2_with fail
    rw[HE7.out,HE7.out]
    refine zP (v:=MV) (by rw[←HFIN.out];simp[results,Tryz.results23,go_sem,y0,y1,y2,y3,y4]) rfl ⟨by rw[HMV.out],j3x ((((HF8.out.set (by omega) _ _).set (by omega) _ _).set (by omega) _ _).set (by omega) _ _) ((((HA8.out.only.fresh (by omega) _ _).fresh (by omega) _ _).fresh (by omega) _ _).fresh (by omega) _ _) hlt _ _ _ _ _⟩
  ·have hk2':((k2:Int)==1)=false:=by simp;omega
   rw[if_neg hk2]at HR
   obtain⟨x0,x1,x2,x3,x4,x5,x6⟩:=HA5.out.facts
   obtain⟨y0,y1,y2,y3,y4,y5,y6⟩:=HA5.out.facts0
   obtain⟨tt,htt⟩:∃tt,tt=nn++[40]++ta:=⟨_,rfl⟩
   obtain⟨oo,hoo⟩:∃oo,oo=nn++[40]++sa:=⟨_,rfl⟩
   have htl:tt.length≤10:=by rw[htt];simp only[List.length_append,List.length_cons,List.length_nil];omega
   have hol:oo.length≤10:=by rw[hoo];simp only[List.length_append,List.length_cons,List.length_nil];omega
   rw[←htt]at x0
   rw[←hoo]at x1
   have HTT:=zb htt
   have HOO:=zb hoo
   clear htt hoo
   go_wp2_with fail
   have e7:∀q:By,ByteArray.mk q.toArray++ByteArray.mk #[41]=ByteArray.mk (q++[41]).toArray:=fun q=>by rw[←qE]
   rw[e7,e7]
   have hR:=HR.out
   skip
   subst hR
   refine zP (v:=qx (tt++[41]) (oo++[41]) ((a:Int)==0) ((a:Int)==1) (-1)) (by simp[results,Tryz.results23,go_sem,y0,y1,y2,y3,y4]) rfl ⟨?_,j3x ((HF5.out.set (by omega) _ _).set (by omega) _ _) ((HA5.out.only.fresh (by omega) _ _).fresh (by omega) _ _) hlt _ _ _ _ _⟩
   rw[HTT.out,HOO.out]
   show _=Ending.returned (qx (zs (evF (nmK k3) [q2f a])) (zs (qm (evF (nmK k3) [q2f a]))) _ _ _)
   rw[j8h,j0F,j0F,List.map_cons,List.map_nil,j4K,j4K,HNN.out,HTA.out,HSA.out]
   simp only[List.any_cons,List.any_nil,Bool.or_false,(q9A a hk4).1,(q9A a hk4).2]
abbrev exT (v:By):By:=[101,120,105,115,116,115,32]++v++[40]
def j4b (t o:By)(x y:Bool)(rc:Int)(yb:Bool):Value:=
 if (y&&(yb || !x))=true then qx (exT [121]++t++[41]) (exT [120]++o++[41]) x false rc
 else if x=true then qx (exT [120]++t++[41]) (exT [121]++o++[41]) false y rc
 else qx t o x y rc
theorem j1r (t o:By)(x y:Bool)(rc:Int)(yb:Bool)(h2:t.length≤300)(h3:o.length≤300)(w:World):Calls Tryz.prog 25 #[qx t o x y rc,.bool yb] w fun e w'=>e=.returned (j4b t o x y rc yb)∧Below w.heap.size w w':=by
 have ex:∀q:By,ByteArray.mk #[101,120,105,115,116,115,32,120,40]++ByteArray.mk q.toArray++ByteArray.mk #[41]=ByteArray.mk (exT [120]++q++[41]).toArray:=fun q=>by rw[←qE,←qE];rfl
 have ey:∀q:By,ByteArray.mk #[101,120,105,115,116,115,32,121,40]++ByteArray.mk q.toArray++ByteArray.mk #[41]=ByteArray.mk (exT [121]++q++[41]).toArray:=fun q=>by rw[←qE,←qE];rfl
 have HX:=zb ex
 have HY:=zb ey
 clear ex ey
 unfold j4b
 cases y with
 |true =>
  by_cases hc:(yb || !x)=true
  ·rw[if_pos (by rw[hc];rfl)]
   cases yb with
   |true =>
    go_enter Tryz.func25,Tryz.ntmps25
    go_wp2_with fail
    rw[HX.out,HY.out]
    exact zP (v:=qx _ _ _ _ _) (by simp[results,Tryz.results25,go_sem];(first|done|exact⟨rfl,rfl⟩)) rfl ⟨rfl,Joins.below_alloc2 _ _ _⟩
   |false =>
    cases x with
    |true=>simp at hc
    |false =>
     go_enter Tryz.func25,Tryz.ntmps25
     go_wp2_with fail
     rw[HX.out,HY.out]
     exact zP (v:=qx _ _ _ _ _) (by simp[results,Tryz.results25,go_sem];(first|done|exact⟨rfl,rfl⟩)) rfl ⟨rfl,Joins.below_alloc2 _ _ _⟩
  ·cases yb with
   |true=>simp at hc
   |false =>
    cases x with
    |false=>simp at hc
    |true =>
     rw[if_neg (by simp),if_pos rfl]
     go_enter Tryz.func25,Tryz.ntmps25
     go_wp2_with fail
     rw[HX.out,HY.out]
     exact zP (v:=qx _ _ _ _ _) (by simp[results,Tryz.results25,go_sem];(first|done|exact⟨rfl,rfl⟩)) rfl ⟨rfl,Joins.below_alloc2 _ _ _⟩
 |false =>
  rw[if_neg (by simp)]
  cases x with
  |true =>
   rw[if_pos rfl]
   go_enter Tryz.func25,Tryz.ntmps25
   go_wp2_with fail
   rw[HX.out,HY.out]
   exact zP (v:=qx _ _ _ _ _) (by simp[results,Tryz.results25,go_sem];(first|done|exact⟨rfl,rfl⟩)) rfl ⟨rfl,Joins.below_alloc2 _ _ _⟩
  |false =>
   rw[if_neg (by simp)]
   go_enter Tryz.func25,Tryz.ntmps25
   go_wp2_with fail
   exact zP (v:=qx _ _ _ _ _) (by simp[results,Tryz.results25,go_sem];(first|done|exact⟨rfl,rfl⟩)) rfl ⟨rfl,Joins.below_alloc2 _ _ _⟩
abbrev q6H (F:zg):Value:=qx (zs F) (zs (qm F)) (zh F [120]) (zh F [121]) (zf F)
theorem j7s (a b:Int)(h:-1≤a):mxI (mxI (-1) a) b=if a<b then b else a:=by
 have:mxI (-1) a=a:=by unfold mxI;split<;>omega
 rw[this]
 rfl
theorem mx_nil (a:Int)(h:-1≤a):mxI (mxI (-1) a) (-1)=a:=by
 rw[j7s a (-1) h]
 split<;>omega
theorem q7x {w lo hi:By}{A B:zg}(hA:A≠.nil)(hw:(w==[101,120,105,115,116,115])=false)(x:By):zh (opF w lo hi A B) x=(zh A x || zh B x):=by
 unfold opF
 cases A with
 |nil=>exact absurd rfl hA
 |node a b c d e =>
  show(!(w==[101,120,105,115,116,115]&&([]:List (By))==[x])&&(zh (.node a b c d e) x || zh B x))=_
  rw[hw]
  rfl
theorem j4f (w lo hi:By)(A B:zg):qm (opF w lo hi A B)=opF w lo hi (qm A) (qm B):=rfl
theorem q8w {w:By}(hw:qj w=true)(A B:zg):zs (opF w [] [] A B)=w++[40]++zs A++[44]++zs B++[41]:=by
 have k:=q0d.1 hw
 unfold opF
 simp only[zs,k.1,k.2,hw,Bool.false_eq_true,if_false,if_true]
theorem j6v {w:By}(hw:qJ w=true)(lo hi:By)(A:zg)(n:Nat):zs (opF w lo hi A .nil)=(w++q2O (lo,hi,n))++[40]++zs A++[41]:=by
 have k:=q0d.2.1 hw
 unfold opF
 simp only[zs,k.1,k.2.1,k.2.2,hw,Bool.false_eq_true,if_false,if_true]
 simp
theorem j6w {w:By}(hw:qG w=true)(lo hi:By)(A B:zg)(n:Nat):zs (opF w lo hi A B)=(w++q2O (lo,hi,n))++[40]++zs A++[44]++zs B++[41]:=by
 have k:=q0d.2.2 hw
 unfold opF
 simp only[zs,k.1,k.2.1,k.2.2.1,k.2.2.2,hw,Bool.false_eq_true,if_false,if_true]
 simp
theorem q4H {w lo hi:By}(hw:q0B w=false)(A B:zg):zf (opF w lo hi A B)=if zf A<zf B then zf B else zf A:=by
 unfold opF
 rw[zf]
 simp only[hw,Bool.false_eq_true,if_false]
 exact j7s _ _ (q2Y A)
theorem q5D {w lo hi:By}(hw:q0B w=true)(A B:zg):zf (opF w lo hi A B)=if (if zf A<zf B then zf B else zf A) = -1 then(q0h hi:Int)else(if zf A<zf B then zf B else zf A)+(q0h hi:Int):=by
 unfold opF
 rw[zf]
 simp only[hw,if_true]
 rw[j7s _ _ (q2Y A)]
 generalize (if zf A<zf B then zf B else zf A)=q
 by_cases hq:q = -1
 ·subst hq
  simp
 ·have:(q==-1)=false:=by simpa using hq
  rw[this,if_neg hq]
  rfl
theorem q5g {w:By}(hw:qj w=true){A B:zg}(hA:A≠.nil):qx (w++[40]++zs A++[44]++zs B++[41]) (w++[40]++zs (qm A)++[44]++zs (qm B)++[41]) (zh A [120] || zh B [120]) (zh A [121] || zh B [121]) (if zf A<zf B then zf B else zf A)=q6H (opF w [] [] A B):=by
 have k:=q0d.1 hw
 have ha:q0B w=false:=by
  unfold qj inB q4c at hw
  simp at hw
  rcases hw with hw|hw|hw<;>subst hw<;>decide
 unfold q6H
 rw[j4f,q8w hw,q8w hw,q7x hA k.2,q7x hA k.2,q4H ha]
theorem j8z {F:zg}(hF:F≠.nil):(qx (exT [121]++zs F++[41]) (exT [120]++zs (qm F)++[41]) (zh F [120]) false (zf F)=q6H (exF [121] F))∧(qx (exT [120]++zs F++[41]) (exT [121]++zs (qm F)++[41]) false (zh F [121]) (zf F)=q6H (exF [120] F)):=by
 have k1:zx [101,120,105,115,116,115]=false:=by decide
 have ht:∀(v:By) (G:zg),zs (exF v G)=exT v++zs G++[41]:=fun v G=>by
  unfold exF
  simp only[zs,k1,Bool.false_eq_true,if_false,beq_self_eq_true,if_true,List.headD_cons]
  simp
 have hr:∀v,zf (exF v F)=zf F:=fun v=>by
  unfold exF
  rw[zf,show q0B [101,120,105,115,116,115]=false by decide]
  simp only[Bool.false_eq_true,if_false]
  exact mx_nil _ (q2Y F)
 have hf:∀v x,zh (exF v F) x=(!([v]==[x])&&zh F x):=fun v x=>by
  unfold exF
  cases F with
  |nil=>exact absurd rfl hF
  |node a b c d e =>
   show(!(([101,120,105,115,116,115]:By)==[101,120,105,115,116,115]&&[v]==[x])&&(zh (.node a b c d e) x || zh .nil x))=_
   rw[show zh .nil x=false from rfl,Bool.or_false]
   simp
 have hs1:qm (exF [121] F)=exF [120] (qm F):=by unfold exF;rfl
 have hs2:qm (exF [120] F)=exF [121] (qm F):=by unfold exF;rfl
 constructor
 ·unfold q6H
  rw[hs1,ht,ht,hr,hf,hf]
  rfl
 ·unfold q6H
  rw[hs2,ht,ht,hr,hf,hf]
  rfl
theorem j7p {F:zg}(hF:F≠.nil)(yb:Bool):j4b (zs F) (zs (qm F)) (zh F [120]) (zh F [121]) (zf F) yb=q6H (q5j F yb):=by
 unfold j4b q5j
 split
 ·exact(j8z hF).1
 ·split
  ·rename_i h1 h2
   have:=(j8z hF).2
   exact this
  ·rfl
theorem qy:(Tryz.prog.info? 23).map (·.size)=some 5:=by kernel_rfl
theorem j0B (t o:By)(x y:Bool)(r:Int):(#[bs t,bs o,.bool x,.bool y,.int .i64 r]:Array Value).all (·.oneCell')=true:=by
 simp[Value.oneCell']
theorem q1M {P:Program}(ty t:TypeId)(W:World)(b:Nat)(cs:Array Value)(fr:Nat × Nat)(d:TypeDesc)(hg:W.heap[b]?=some (.cells cs t fr))(hu:P.underlying ty=some d)(hd:(match d with | .struct _ | .array _ _=>true|_=>false)=true)(hi:(P.info? ty).map (·.size)=some cs.size) :
 (loadVar ty ⟨b,0,none⟩).run P W=.ok (.agg cs) W:=run_loadVar_row W b t ty cs fr d hg hu hd hi
theorem j5n (fb:Nat)(s:By)(i:Nat)(ta oa tb ob:By)(xa ya xb yb:Bool)(ra rb:Int)(h1:ta.length≤300)(h2:oa.length≤300)(h3:tb.length≤300)(h4:ob.length≤300)(k:Nat)(hk:(zk s i 6).1=k)(hk0:k=0)(hc:(xa==xb&&ya==yb)=true)(w:World)(h:FeedAt w fb s i) :
  Calls Tryz.prog 24 #[.pointer (some ⟨fb,0,none⟩),qx ta oa xa ya ra,qx tb ob xb yb rb] w fun e w'=>e=.returned (qx ([111,114]++[40]++ta++[44]++tb++[41]) ([111,114]++[40]++oa++[44]++ob++[41]) (xa || xb) (ya || yb) (if ra<rb then rb else ra))∧FeedAt w' fb s (zk s i 6).2∧OnlyB [fb] w w':=by
 have HN:=zb (fun W q=>q1B fb s i 6 (by omega) W q)
 have HJ:=zb (q2u [111,114] ta oa tb ob xa ya xb yb ra rb (by decide) h1 h2 h3 h4)
 have HF:=zb h
 have hlt:=h.lt
 clear h
 obtain⟨MC,hMC⟩:∃MC:Array Value,MC=#[bs ([111,114]++[40]++ta++[44]++tb++[41]),bs ([111,114]++[40]++oa++[44]++ob++[41]),.bool (xa || xb),.bool (ya || yb),.int .i64 (if ra<rb then rb else ra)]:=⟨_,rfl⟩
 unfold qx at HJ ⊢
 rw[←hMC]at HJ ⊢
 have HMC:=zb hMC
 clear hMC
 generalize hnx:zk s i 6=rx at *
 obtain⟨k',ik⟩:=rx
 simp only[]at hk
 subst hk
 have HNX:=zb hnx
 clear hnx
 go_enter Tryz.func24,Tryz.ntmps24
 go_wp2_with fail
 obtain⟨W0,hW0⟩:∃W0,W0=((w.alloc (.cells #[bs ta,bs oa,.bool xa,.bool ya,.int .i64 ra] 23)).alloc (.cells #[bs tb,bs ob,.bool xb,.bool yb,.int .i64 rb] 23)).alloc (.cells #[bs [],bs [],.bool false,.bool false,.int .i64 0] 23):=⟨_,rfl⟩
 have BW:Below w.heap.size w W0:=by rw[hW0];exact Joins.below_alloc3 _ _ _ _
 have g0:W0.heap[w.heap.size]?=some (.cells #[bs ta,bs oa,.bool xa,.bool ya,.int .i64 ra] 23 (0,0)):=by
  rw[hW0,zO _ _ (by simp<;>omega),zO _ _ (by simp)];exact zN _ _
 have g1:W0.heap[w.heap.size+1]?=some (.cells #[bs tb,bs ob,.bool xb,.bool yb,.int .i64 rb] 23 (0,0)):=by
  rw[hW0,zO _ _ (by simp)]
  have:=zN (w.alloc (.cells #[bs ta,bs oa,.bool xa,.bool ya,.int .i64 ra] 23)) (.cells #[bs tb,bs ob,.bool xb,.bool yb,.int .i64 rb] 23)
  simpa using this
 have g2:W0.heap[w.heap.size+2]?=some (.cells #[bs [],bs [],.bool false,.bool false,.int .i64 0] 23 (0,0)):=by
  rw[hW0]
  have:=zN ((w.alloc (.cells #[bs ta,bs oa,.bool xa,.bool ya,.int .i64 ra] 23)).alloc (.cells #[bs tb,bs ob,.bool xb,.bool yb,.int .i64 rb] 23)) (.cells #[bs [],bs [],.bool false,.bool false,.int .i64 0] 23)
  simpa using this
 rw[←hW0]
 have HF0:=zb (HF.out.below BW)
 refine(HN.out _ HF0.out).mono ?_
 rintro e w1 ⟨rfl,f1,o1⟩
 have hn:∀q,fb<q→q∉[fb]:=fun q hq e=>by simp at e;omega
 have G0:=o1.row g0 (hn _ hlt)
 have G1:=o1.row g1 (hn _ (by omega))
 have G2:=o1.row g2 (hn _ (by omega))
 have HO1:Hid (OnlyB [fb] w w1):=zb ((OnlyB.of_below BW).trans o1)
 have HF1:=zb f1
 have HG2:=zb G2
 have c0:=zC _ _ 0 _ _ _ G0
 have c1:=zC _ _ 1 _ _ _ G0
 have c2:=zC _ _ 2 _ _ _ G0
 have c3:=zC _ _ 3 _ _ _ G0
 have c4:=zC _ _ 4 _ _ _ G0
 have d0:=zC _ _ 0 _ _ _ G1
 have d1:=zC _ _ 1 _ _ _ G1
 have d2:=zC _ _ 2 _ _ _ G1
 have d3:=zC _ _ 3 _ _ _ G1
 have d4:=zC _ _ 4 _ _ _ G1
 simp only[gz]at c0 c1 c2 c3 c4 d0 d1 d2 d3 d4
 have hl0:w.heap.size<w1.heap.size:=zd G0
 have hl1:w.heap.size+1<w1.heap.size:=zd G1
 have hl2:w.heap.size+2<w1.heap.size:=zd G2
 clear hW0 BW g0 g1 g2 f1 o1 G0 G1 G2 HF HF0 HN hn
 subst hk0
 cases xa<;>cases ya<;>cases xb<;>cases yb<;>(try(exfalso;revert hc;decide)) <;>
 ·go_wp2_with fail
  refine(HJ.out _).mono ?_
  rintro e w2 ⟨rfl,b2⟩
  have HF2:=zb (HF1.out.below b2)
  have HO2:=zb (HO1.out.trans (.of_below b2))
  have G2:=(b2.block _ hl2).trans HG2.out
  have hsz:MC.size=5:=by rw[HMC.out];rfl
  obtain⟨W3,s1,s2,s3,s4,s5,s6,s7⟩:=q0n (P:=Tryz.prog) 23 23 w2 (w.heap.size+2) _ MC G2 (by rw[hsz];exact qy) (by rw[hsz];rfl) (by rw[HMC.out];exact j0B _ _ _ _ _)
  have HL:=zb (q1M (P:=Tryz.prog) 23 23 W3 (w.heap.size+2) MC (0,0) _ s2 Tryz.underlying23 rfl (by rw[hsz];exact qy))
  have B3:Below w.heap.size w2 W3:=⟨s5,s6,s7,Nat.le_of_eq s4.symm,fun q hq=>s3 q (by omega)⟩
  have HS:=zb s1
  clear s1
  go_wp2_with (refine ze rfl 23 (.tmp 6) (.tmp 49) rfl ⟨w.heap.size+1+1,0,none⟩ (.agg MC) rfl rfl W3 HS.out ?_)
  have hfl:=hlt
  exact zP (v:=.agg MC) (zl rfl _ _ _ _ rfl HL.out) rfl ⟨rfl,⟨(s3 fb (by omega)).trans HF2.out.blk,HF2.out.le,HF2.out.sm⟩,⟨s5.trans HO2.out.os,s6.trans HO2.out.tape,s7.trans HO2.out.output,by rw[s4];exact HO2.out.size,fun q hq hn=>(s3 q (by omega)).trans (HO2.out.block q hq hn)⟩⟩
theorem j3P (fb:Nat)(s:By)(i:Nat)(ta oa tb ob:By)(xa ya xb yb:Bool)(ra rb:Int)(h1:ta.length≤300)(h2:oa.length≤300)(h3:tb.length≤300)(h4:ob.length≤300)(k:Nat)(hk:(zk s i 6).1=k)(hk0:k=1)(hc:((!xb || xa)&&(!yb || ya))=true)(w:World)(h:FeedAt w fb s i) :
  Calls Tryz.prog 24 #[.pointer (some ⟨fb,0,none⟩),qx ta oa xa ya ra,qx tb ob xb yb rb] w fun e w'=>e=.returned (qx ([98,117,116]++[40]++ta++[44]++tb++[41]) ([98,117,116]++[40]++oa++[44]++ob++[41]) (xa || xb) (ya || yb) (if ra<rb then rb else ra))∧FeedAt w' fb s (zk s i 6).2∧OnlyB [fb] w w':=by
 have HN:=zb (fun W q=>q1B fb s i 6 (by omega) W q)
 have HJ:=zb (q2u [98,117,116] ta oa tb ob xa ya xb yb ra rb (by decide) h1 h2 h3 h4)
 have HF:=zb h
 have hlt:=h.lt
 clear h
 obtain⟨MC,hMC⟩:∃MC:Array Value,MC=#[bs ([98,117,116]++[40]++ta++[44]++tb++[41]),bs ([98,117,116]++[40]++oa++[44]++ob++[41]),.bool (xa || xb),.bool (ya || yb),.int .i64 (if ra<rb then rb else ra)]:=⟨_,rfl⟩
 unfold qx at HJ ⊢
 rw[←hMC]at HJ ⊢
 have HMC:=zb hMC
 clear hMC
 generalize hnx:zk s i 6=rx at *
 obtain⟨k',ik⟩:=rx
 simp only[]at hk
 subst hk
 have HNX:=zb hnx
 clear hnx
 go_enter Tryz.func24,Tryz.ntmps24
 go_wp2_with fail
 obtain⟨W0,hW0⟩:∃W0,W0=((w.alloc (.cells #[bs ta,bs oa,.bool xa,.bool ya,.int .i64 ra] 23)).alloc (.cells #[bs tb,bs ob,.bool xb,.bool yb,.int .i64 rb] 23)).alloc (.cells #[bs [],bs [],.bool false,.bool false,.int .i64 0] 23):=⟨_,rfl⟩
 have BW:Below w.heap.size w W0:=by rw[hW0];exact Joins.below_alloc3 _ _ _ _
 have g0:W0.heap[w.heap.size]?=some (.cells #[bs ta,bs oa,.bool xa,.bool ya,.int .i64 ra] 23 (0,0)):=by
  rw[hW0,zO _ _ (by simp<;>omega),zO _ _ (by simp)];exact zN _ _
 have g1:W0.heap[w.heap.size+1]?=some (.cells #[bs tb,bs ob,.bool xb,.bool yb,.int .i64 rb] 23 (0,0)):=by
  rw[hW0,zO _ _ (by simp)]
  have:=zN (w.alloc (.cells #[bs ta,bs oa,.bool xa,.bool ya,.int .i64 ra] 23)) (.cells #[bs tb,bs ob,.bool xb,.bool yb,.int .i64 rb] 23)
  simpa using this
 have g2:W0.heap[w.heap.size+2]?=some (.cells #[bs [],bs [],.bool false,.bool false,.int .i64 0] 23 (0,0)):=by
  rw[hW0]
  have:=zN ((w.alloc (.cells #[bs ta,bs oa,.bool xa,.bool ya,.int .i64 ra] 23)).alloc (.cells #[bs tb,bs ob,.bool xb,.bool yb,.int .i64 rb] 23)) (.cells #[bs [],bs [],.bool false,.bool false,.int .i64 0] 23)
  simpa using this
 rw[←hW0]
 have HF0:=zb (HF.out.below BW)
 refine(HN.out _ HF0.out).mono ?_
 rintro e w1 ⟨rfl,f1,o1⟩
 have hn:∀q,fb<q→q∉[fb]:=fun q hq e=>by simp at e;omega
 have G0:=o1.row g0 (hn _ hlt)
 have G1:=o1.row g1 (hn _ (by omega))
 have G2:=o1.row g2 (hn _ (by omega))
 have HO1:Hid (OnlyB [fb] w w1):=zb ((OnlyB.of_below BW).trans o1)
 have HF1:=zb f1
 have HG2:=zb G2
 have c0:=zC _ _ 0 _ _ _ G0
 have c1:=zC _ _ 1 _ _ _ G0
 have c2:=zC _ _ 2 _ _ _ G0
 have c3:=zC _ _ 3 _ _ _ G0
 have c4:=zC _ _ 4 _ _ _ G0
 have d0:=zC _ _ 0 _ _ _ G1
 have d1:=zC _ _ 1 _ _ _ G1
 have d2:=zC _ _ 2 _ _ _ G1
 have d3:=zC _ _ 3 _ _ _ G1
 have d4:=zC _ _ 4 _ _ _ G1
 simp only[gz]at c0 c1 c2 c3 c4 d0 d1 d2 d3 d4
 have hl0:w.heap.size<w1.heap.size:=zd G0
 have hl1:w.heap.size+1<w1.heap.size:=zd G1
 have hl2:w.heap.size+2<w1.heap.size:=zd G2
 clear hW0 BW g0 g1 g2 f1 o1 G0 G1 G2 HF HF0 HN hn
 subst hk0
 cases xa<;>cases ya<;>cases xb<;>cases yb<;>(try(exfalso;revert hc;decide)) <;>
 ·go_wp2_with fail
  refine(HJ.out _).mono ?_
  rintro e w2 ⟨rfl,b2⟩
  have HF2:=zb (HF1.out.below b2)
  have HO2:=zb (HO1.out.trans (.of_below b2))
  have G2:=(b2.block _ hl2).trans HG2.out
  have hsz:MC.size=5:=by rw[HMC.out];rfl
  obtain⟨W3,s1,s2,s3,s4,s5,s6,s7⟩:=q0n (P:=Tryz.prog) 23 23 w2 (w.heap.size+2) _ MC G2 (by rw[hsz];exact qy) (by rw[hsz];rfl) (by rw[HMC.out];exact j0B _ _ _ _ _)
  have HL:=zb (q1M (P:=Tryz.prog) 23 23 W3 (w.heap.size+2) MC (0,0) _ s2 Tryz.underlying23 rfl (by rw[hsz];exact qy))
  have B3:Below w.heap.size w2 W3:=⟨s5,s6,s7,Nat.le_of_eq s4.symm,fun q hq=>s3 q (by omega)⟩
  have HS:=zb s1
  clear s1
  go_wp2_with (refine ze rfl 23 (.tmp 6) (.tmp 57) rfl ⟨w.heap.size+1+1,0,none⟩ (.agg MC) rfl rfl W3 HS.out ?_)
  have hfl:=hlt
  exact zP (v:=.agg MC) (zl rfl _ _ _ _ rfl HL.out) rfl ⟨rfl,⟨(s3 fb (by omega)).trans HF2.out.blk,HF2.out.le,HF2.out.sm⟩,⟨s5.trans HO2.out.os,s6.trans HO2.out.tape,s7.trans HO2.out.output,by rw[s4];exact HO2.out.size,fun q hq hn=>(s3 q (by omega)).trans (HO2.out.block q hq hn)⟩⟩
end Go.Proofs.YtiamjjonoeaggabGreatDoor
