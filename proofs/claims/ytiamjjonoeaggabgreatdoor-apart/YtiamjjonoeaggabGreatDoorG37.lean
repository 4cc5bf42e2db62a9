import Derived.Test.YtiamjjonoeaggabGreatDoorGA
import Derived.Test.YtiamjjonoeaggabGreatDoorGB
import Derived.Test.YtiamjjonoeaggabGreatDoorG00
import Derived.Test.YtiamjjonoeaggabGreatDoorG01
import Derived.Test.YtiamjjonoeaggabGreatDoorG18
import Derived.Test.YtiamjjonoeaggabGreatDoorG35
import Derived.Test.YtiamjjonoeaggabGreatDoorG36
set_option maxRecDepth 100000
set_option maxHeartbeats 16000000
namespace Go.Proofs.YtiamjjonoeaggabGreatDoor
open Go.RowKit
theorem j5s (c:Int)(hc:-9223372036854775808≤c∧c≤9223372036854775807)(n:Nat)(hn:0<n)(w:World) :
  Calls Tryz.prog 11 #[.int .i64 c,.int .i64 n] w fun e w'=>e=.returned (.int .i64 (q6J c n))∧w'=w:=by
 obtain⟨hc1,hc2⟩:=hc
 have hn0:¬(n:Int)=0:=by omega
 by_cases h:c<0
 ·have h1:IntKind.i64.wrap (c+1)=c+1:=by rw[IntKind.wrap_i64];omega
  have h2:IntKind.i64.wrap (-(c+1)) = -(c+1):=by rw[IntKind.wrap_i64];omega
  go_enter Tryz.func11,Tryz.ntmps11
  go_wp2_with fail
  go_ret
  exact⟨q1t (j2U h n),rfl⟩
 ·go_enter Tryz.func11,Tryz.ntmps11
  go_wp2_with fail
  go_ret
  exact⟨q1t (by rw[←j2V (c:=c) (by omega) n,Int.tmod_eq_emod_of_nonneg (by omega)]),rfl⟩
def q1F (l:LnK):LnV:=(l.stamp,l.time,q0H l.haps,q1W l.stamp l.haps)
def nmS (k:Nat):By:=[32]++nmL k++[40]
theorem j3U (k:Nat)(h:k<4):(#[.string ⟨#[32,112,40]⟩,.string ⟨#[32,113,40]⟩,.string ⟨#[32,114,40]⟩,.string ⟨#[32,120,40]⟩]:Array Value)[k]?=some (bs (nmS k)):=by
 have:k=0∨k=1∨k=2∨k=3:=by omega
 rcases this with rfl|rfl|rfl|rfl<;>rfl
theorem j0M (k:Nat):(nmS k).length=3:=by
 unfold nmS nmL
 split
 ·rfl
 ·split
  ·rfl
  ·split<;>rfl
theorem q3G (D:List Hp)(h:Hp):q0H (D++[h])=q0H D++32::q4l h:=by simp[q0H]
structure LgAt (w W:World)(s:By)(i:Nat)(vo:Value)(D:List LnK):Prop where
 feed:FeedAt W w.heap.size s i
 row:W.ownsRow w.heap.size 41 4 vo D.length (q0O (D.map q1F))
 bel:Below w.heap.size w W
theorem LgAt.next {w W W':World}{s:By}{i j:Nat}{vo:Value}{D:List LnK}(h:LgAt w W s i vo D)(f:FeedAt W' w.heap.size s j)(o:OnlyB [w.heap.size] W W'):LgAt w W' s j vo D:=
 ⟨f,q7j h.row o (fun k hv hm=>by
  simp only[List.mem_singleton]at hm
  subst hm
  exact q8v h.feed.blk h.row (by decide) hv.symm),h.bel.trans (o.below h.bel.size (fun q hq=>by simp at hq;omega))⟩
theorem LgAt.below {w W W':World}{s:By}{i:Nat}{vo:Value}{D:List LnK}(h:LgAt w W s i vo D)(hb:Below W.heap.size W W'):LgAt w W' s i vo D:=
 ⟨h.feed.below hb,zp h.row hb,h.bel.trans (hb.mono h.bel.size)⟩
theorem mk3 (a b c:By):ByteArray.mk a.toArray++ByteArray.mk b.toArray++ByteArray.mk c.toArray=ByteArray.mk (a++b++c).toArray:=by rw[←qE,←qE]
theorem mk4 (a b c d:By):ByteArray.mk a.toArray++ByteArray.mk b.toArray++ByteArray.mk c.toArray++ByteArray.mk d.toArray=ByteArray.mk (a++b++c++d).toArray:=by rw[←qE,←qE,←qE]
theorem mk6 (a b c d e f:By):ByteArray.mk a.toArray++ByteArray.mk b.toArray++ByteArray.mk c.toArray++ByteArray.mk d.toArray++ByteArray.mk e.toArray++ByteArray.mk f.toArray=ByteArray.mk (a++b++c++d++e++f).toArray:=by rw[←qE,←qE,←qE,←qE,←qE]
theorem j0J:(Tryz.prog.info? 41).map (fun i=>(i.zero,i.size,i.bytes))=some (some (.agg #[.int .u16 0,.int .i64 0,bs [],bs []]),4,48):=by kernel_rfl
theorem q7w {w1:World}{a b c d:Value}{e:TypeId}:∀(j:Nat) (v:Value),[a,b,c,d][j]?=some v→(w1.alloc (.cells #[a,b,c,d] e)).cell? ((⟨w1.heap.size,0,none⟩:Addr).add j)=some v:=by
 intro j v hj
 rw[q4x,Nat.zero_add,zC _ _ j _ _ _ (zN w1 _)]
 simpa using hj
theorem LgAt.app {w W W':World}{s:By}{i:Nat}{vo v':Value}{D:List LnK}{l:LnK}(h:LgAt w W s i vo D)(gr:W.grownBy W' vo.ownBlock)(own:W'.ownsRow w.heap.size 41 4 v' (D.length+1) (q0O (D.map q1F)++lnCs (q1F l))):LgAt w W' s i v' (D++[l]):=by
 have hne:some w.heap.size≠vo.ownBlock:=fun e=>q8v h.feed.blk h.row (by decide) e
 refine⟨⟨(gr.block _ h.feed.lt hne).trans h.feed.blk,h.feed.le,h.feed.sm⟩,?_,h.bel.trans ⟨gr.os,gr.tape,gr.output,gr.size,fun k hk=>gr.block k (zT hk h.bel.size) (fun e=>?_)⟩⟩
 ·rw[List.length_append,List.map_append]
  have e:q0O (D.map q1F++[l].map q1F)=q0O (D.map q1F)++lnCs (q1F l):=by simp[q0O]
  rw[e]
  exact own
 ·have:=j0L h.row k (by rw[←e];simp)
  omega
def HpRel (w:World)(s:By)(kk j5:Nat)(vo:Value)(D:List LnK)(g:Nat)(vh vk:Value)(wr:World):Prop:=
 ∃(m i':Nat) (E:List Hp),m≤g∧vk=.int .i64 m∧vh=bs (q0H E)∧E.length+m≤4∧(∀h∈E,HpL h)∧(q3p s kk j5).1=E++(q3p s m i').1∧(q3p s kk j5).2=(q3p s m i').2∧LgAt w wr s i' vo D
def LgRel (w:World)(fb:Nat)(s:By)(X:List LnK)(n:Nat)(g:Nat)(vo vst vt vi:Value)(wr:World):Prop:=
 ∃(k i st t:Nat) (D:List LnK),k≤n∧n-k≤g∧vi=.int .i64 k∧vst=.int .u16 st∧vt=.int .i64 t∧st≤65535∧t≤k*32768∧D.length=k∧X=D++q8W s (n-k) i k st t∧FeedAt wr fb s i∧wr.ownsRow w.heap.size 41 4 vo D.length (q0O (D.map q1F))∧Below w.heap.size w wr
theorem kep_log (s:By)(hs:s.length≤maxLen)(sh:Int)(hsh:-9223372036854775808≤sh∧sh≤9223372036854775807)(w:World)(htab:TabB w) :
  Calls Tryz.prog 8 #[bs s,.int .i64 sh] w fun e w'=>∃v,e=.returned v∧w'.ownsRow w.heap.size 41 4 v ((q1v s (q6J sh 65536)).map q1F).length (q0O ((q1v s (q6J sh 65536)).map q1F))∧Below w.heap.size w w':=by
 have HN:=zb (fun fb i n hn W q=>q1B fb s i n hn W q)
 have HPK:=zb (fun W=>j5s sh hsh 65536 (by omega) W)
 have hpl:=j5I sh (n:=65536) (by omega)
 have HTB:=zb htab
 clear htab hsh
 unfold q1v
 simp only[]
 have h8:=ql s 0 (n:=8) (by omega)
 generalize q6J sh 65536=pk at *
 have HF0:Hid (∀W fb,W.heap[fb]?=some (.cells #[bs s,.int .i64 0] 27 (0,0))→FeedAt W fb s 0):=zb (fun W fb h=>⟨h,zZ _,hs⟩)
 have HN8:=zb (fun fb W q=>HN.out fb 0 8 (by omega) W q)
 generalize zk s 0 8=ra at *
 obtain⟨a,i1⟩:=ra
 simp only[]at h8 HN8 ⊢
 have h13:=ql s i1 (n:=13) (by omega)
 have HN13:=zb (fun fb W q=>HN.out fb i1 13 (by omega) W q)
 generalize zk s i1 13=rn at *
 obtain⟨n,i2⟩:=rn
 simp only[]at h13 HN13 ⊢
 obtain⟨X,hX⟩:∃X,X=q8W s n i2 0 ((65530+a+pk) % 65536) 0:=⟨_,rfl⟩
 rw[←hX]
 have hw1:IntKind.i64.wrap (65530+(a:Int))=65530+(a:Int):=by rw[IntKind.wrap_i64];omega
 have hw2:IntKind.i64.wrap (65530+(a:Int)+(pk:Int))=((65530+a+pk:Nat):Int):=by rw[IntKind.wrap_i64];omega
 obtain⟨st0,hst0⟩:∃st0,st0=(65530+a+pk) % 65536:=⟨_,rfl⟩
 have hw3:IntKind.u16.wrap (65530+(a:Int)+(pk:Int))=(st0:Int):=by rw[IntKind.wrap_u16,hst0];omega
 have hs0:st0≤65535:=by omega
 rw[←hst0]at hX
 clear hst0
 have HX:=zb hX
 clear hX
 go_enter Tryz.func8,Tryz.ntmps8
 go_wp2_with fail
 have BW:Below w.heap.size w (w.alloc (.cells #[bs s,.int .i64 0] 27)):=(zB _ _).alloc (zL _) _
 have g0:=zN w (.cells #[bs s,.int .i64 0] 27)
 refine(HN8.out _ _ (HF0.out _ _ g0)).mono ?_
 rintro e w1 ⟨rfl,f1,o1⟩
 have hof:∀(W W':World),Below w.heap.size w W→OnlyB [w.heap.size] W W'→Below w.heap.size w W':=fun W W' hb ho=>hb.trans (ho.below hb.size (fun q hq=>by simp at hq;omega))
 have HOF:=zb hof
 have HF1:=zb f1
 have HB1:=zb (hof _ _ BW o1)
 clear f1 o1 g0 BW HN8 hof
 go_wp2_with fail
 refine(HPK.out _).mono ?_
 rintro e w2 ⟨rfl,rfl⟩
 clear HPK
 go_wp2_with fail
 refine(HN13.out _ _ HF1.out).mono ?_
 rintro e w3 ⟨rfl,f3,o3⟩
 have HF3:=zb f3
 have HB3:=zb (HOF.out _ _ HB1.out o3)
 clear f3 o3 HF1 HB1 HN13
 go_wp2_with fail
 go_loopg [6,7,8,10] n (fun g vo vst vt vi wr=>LgRel w w.heap.size s X n g vo vst vt vi wr)
 case atStart=>exact⟨0,i2,st0,0,[],zZ _,by omega,rfl,by first|rfl|(rw[hw3])|(simp only[hw3]),rfl,hs0,by omega,rfl,HX.out,HF3.out,zW _ _ _ _,HB3.out⟩
 case round =>
  obtain⟨k,i,st,t,D,hk,hg,rfl,rfl,rfl,hst,ht,hD,hXD,hF,hO,hB⟩:=hrel
  have HG:=zb hg
  have HXD:=zb hXD
  have HF:=zb hF
  have HO:=zb hO
  have HB:=zb hB
  clear hg hXD hF hO hB HF3 HB3 HX hw1 hw2 hw3
  by_cases hkn:k<n
  ·skip
   have hd5:=ql s i (n:=5) (by omega)
   have HN5:=zb (fun W q=>HN.out w.heap.size i 5 (by omega) W q)
   have hxd:=HXD.out
   rw[show n-k=(n-k-1)+1 by omega,q8W]at hxd
   obtain⟨LN,hLN⟩:∃LN,LN=lnK s i k st t:=⟨_,rfl⟩
   rw[←hLN]at hxd
   have HXE:=zb hxd
   unfold lnK at hLN
   simp only[]at hLN
   obtain⟨GP,hGP⟩:∃GP,GP=q8q s i:=⟨_,rfl⟩
   have hgl:GP.1<32768:=by rw[hGP];exact j8o s i
   rw[←hGP]at hLN
   unfold q8q at hGP
   simp only[]at hGP
   have HGP:=zb hGP
   have HLN:=zb hLN
   have HLG0:Hid (LgAt w wr s i u6 D):=zb ⟨HF.out,HO.out,HB.out⟩
   clear hxd hLN hGP HXD HF HO HB
   generalize zk s i 5=r5 at *
   obtain⟨d,j1⟩:=r5
   simp only[]at hd5 HN5 HGP
   have HN16:=zb (fun W q=>HN.out w.heap.size j1 16 (by omega) W q)
   generalize zk s j1 16=r16 at *
   obtain⟨e16,j2⟩:=r16
   simp only[]at HN16 HGP
   have h256:=ql s j2 (n:=256) (by omega)
   have HN256:=zb (fun W q=>HN.out w.heap.size j2 256 (by omega) W q)
   generalize zk s j2 256=r256 at *
   obtain⟨g256,j3⟩:=r256
   simp only[]at h256 HN256 HGP
   go_wp2_with fail
   refine(HN5.out _ HLG0.out.feed).mono ?_
   rintro e w4 ⟨rfl,f4,o4⟩
   have HLG1:=zb (HLG0.out.next f4 o4)
   clear f4 o4 HLG0 HN5
   go_wp2_with fail
   refine(HN16.out _ HLG1.out.feed).mono ?_
   rintro e w5 ⟨rfl,f5,o5⟩
   have HLG2:=zb (HLG1.out.next f5 o5)
   clear f5 o5 HLG1 HN16
   obtain⟨dd,jj⟩:=GP
   simp only[]at hgl HLN
   obtain⟨st',hst'e⟩:∃st',st'=if 0<k then(st+dd) % 65536 else st:=⟨_,rfl⟩
   obtain⟨t',ht'e⟩:∃t',t'=if 0<k then t+dd else t:=⟨_,rfl⟩
   have hst':st'≤65535:=by rw[hst'e];split<;>omega
   have ht':t'≤(k+1)*32768:=by rw[ht'e];split<;>omega
   have hln:=HLN.out
   rw[←hst'e,←ht'e]at hln
   have HLN2:=zb hln
   clear hln HLN
   have HNk:=zb (fun W q=>HN.out w.heap.size jj 5 (by omega) W q)
   have hk5:=ql s jj (n:=5) (by omega)
   generalize zk s jj 5=rk5 at *
   obtain⟨kk,j5⟩:=rk5
   simp only[]at HNk hk5 HLN2
   have HSTE:=zb hst'e
   have HTTE:=zb ht'e
   clear hst'e ht'e
   by_cases he1:e16=1
   ·subst he1
    have hgp:dd=128*g256∧jj=j3:=by have:=HGP.out;rw[if_pos rfl]at this;simpa using this
    obtain⟨hdd,rfl⟩:=hgp
    have hw128:IntKind.i64.wrap (128*(g256:Int))=128*(g256:Int):=by rw[IntKind.wrap_i64];omega
    go_wp2_with fail
    refine(HN256.out _ HLG2.out.feed).mono ?_
    rintro e w5b ⟨rfl,f5,o5⟩
    have HLG2':=zb (HLG2.out.next f5 o5)
    clear f5 o5 HLG2
    have HLG2:=HLG2'
    clear HLG2'
    by_cases hk0:0<k
    ·skip
     have hw16:IntKind.u16.wrap (128*(g256:Int))=128*(g256:Int):=by rw[IntKind.wrap_u16];omega
     have hws:IntKind.u16.wrap ((st:Int)+128*(g256:Int))=(st':Int):=by rw[HSTE.out,if_pos hk0,IntKind.wrap_u16];omega
     have hwt:IntKind.i64.wrap ((t:Int)+128*(g256:Int))=(t':Int):=by rw[HTTE.out,if_pos hk0,IntKind.wrap_i64];omega
     go_wp2_with fail
     refine(HNk.out _ HLG2.out.feed).mono ?_
     rintro e w6 ⟨rfl,f6,o6⟩
     have HL5:=zb (HLG2.out.next f6 o6)
     clear f6 o6 HLG2 HNk
     go_wp2_with fail
     obtain⟨go,hgo⟩:∃go,go=gk:=⟨_,rfl⟩
     rw[←hgo]at HG
     go_loopg [12,13] kk (fun gk2 vh vk wr2=>HpRel w s kk j5 u6 D gk2 vh vk wr2)
     case atStart=>exact⟨kk,j5,[],by omega,rfl,rfl,by simp;omega,fun h hh=>by simp at hh,rfl,rfl,HL5.out⟩
     case round =>
      obtain⟨m,i',E,hmg,rfl,rfl,hE1,hE2,hE3,hE4,hLG⟩:=hrel
      have HG2:=zb hmg
      have HE3:=zb hE3
      have HE4:=zb hE4
      have HE2:=zb hE2
      have HLG:=zb hLG
      clear hmg hE2 hE3 hE4 hLG HL5
      by_cases hm0:0<m
      ·obtain⟨m',rfl⟩:∃m',m=m'+1:=⟨m-1,by omega⟩
       have hlH:(q0H E).length≤28:=by have:=(q2C E HE2.out).1;omega
       obtain⟨Z,hZ⟩:∃Z,Z=q8L s i':=⟨_,rfl⟩
       have hzo:HpL Z.1:=by rw[hZ];exact q8M s i'
       have he3:=HE3.out
       have he4:=HE4.out
       rw[q3p,←hZ]at he3 he4
       simp only[]at he3 he4
       have HE5:=zb he3
       have HE6:=zb he4
       have HZO:=zb hzo
       unfold q8L at hZ
       simp only[]at hZ
       have HZ:=zb hZ
       clear hZ he3 he4 hzo HE3 HE4
       have ha4:=ql s i' (n:=4) (by omega)
       have HNa:=zb (fun W q=>HN.out w.heap.size i' 4 (by omega) W q)
       generalize zk s i' 4=rr1 at *
       obtain⟨a4,ja⟩:=rr1
       simp only[]at ha4 HNa HZ
       have hb4:=ql s ja (n:=4) (by omega)
       have HNb:=zb (fun W q=>HN.out w.heap.size ja 4 (by omega) W q)
       generalize zk s ja 4=rr2 at *
       obtain⟨b4,jb⟩:=rr2
       simp only[]at hb4 HNb HZ
       have HNc:=zb (fun W q=>HN.out w.heap.size jb 2 (by omega) W q)
       generalize zk s jb 2=rr3 at *
       obtain⟨c2,jc⟩:=rr3
       simp only[]at HNc HZ
       have hd4:=ql s jc (n:=4) (by omega)
       have HNd:=zb (fun W q=>HN.out w.heap.size jc 4 (by omega) W q)
       generalize zk s jc 4=rr4 at *
       obtain⟨d4,jd⟩:=rr4
       simp only[]at hd4 HNd HZ
       have HIB:=zb (q3c b4 (by omega))
       have HID:=zb (q3c d4 (by omega))
       have hdb:(q0g b4).length≤1:=zL _
       have hdd:(q0g d4).length≤1:=zL _
       obtain⟨NM,hNM⟩:∃NM,NM=nmS a4:=⟨_,rfl⟩
       have hnl:NM.length≤3:=by rw[hNM,j0M];exact zL _
       have HNM:=zb hNM
       have hat:=j3U a4 ha4
       rw[←hNM]at hat
       have HAT:=zb hat
       obtain⟨H,hH⟩:∃H,H=q0H E:=⟨_,rfl⟩
       have HH:=zb hH
       rw[←hH]at hlH ⊢
       have hq1:¬9223372036854775807<H.length+NM.length:=by omega
       have hq2:¬9223372036854775807<H.length+NM.length+(q0g b4).length:=by omega
       clear hH hNM hat
       go_wp2_with fail
       have BL:Below wr.heap.size wr (wr.alloc (.cells #[.string ⟨#[32,112,40]⟩,.string ⟨#[32,113,40]⟩,.string ⟨#[32,114,40]⟩,.string ⟨#[32,120,40]⟩] 9)):=(zB _ _).alloc (zL _) _
       have gL:=zN wr (.cells #[.string ⟨#[32,112,40]⟩,.string ⟨#[32,113,40]⟩,.string ⟨#[32,114,40]⟩,.string ⟨#[32,120,40]⟩] 9)
       have hfr:w.heap.size<wr.heap.size:=HLG.out.feed.lt
       have hnf:wr.heap.size∉[w.heap.size]:=by simp;omega
       have HL0:=zb ((HLG.out.below BL).below (zB _ _).drew)
       have gD:(wr.alloc (.cells #[.string ⟨#[32,112,40]⟩,.string ⟨#[32,113,40]⟩,.string ⟨#[32,114,40]⟩,.string ⟨#[32,120,40]⟩] 9)).drew.heap[wr.heap.size]?=some (.cells #[.string ⟨#[32,112,40]⟩,.string ⟨#[32,113,40]⟩,.string ⟨#[32,114,40]⟩,.string ⟨#[32,120,40]⟩] 9 (0,0)):=gL
       have HSL:Hid (∀W:World,W.heap[wr.heap.size]?=some (.cells #[.string ⟨#[32,112,40]⟩,.string ⟨#[32,113,40]⟩,.string ⟨#[32,114,40]⟩,.string ⟨#[32,120,40]⟩] 9 (0,0))→W.cell? ⟨wr.heap.size,a4,none⟩=some (bs NM)):=zb (fun W hW=>(zC _ _ a4 _ _ _ hW).trans HAT.out)
       refine wp_region_held_drew (S:=fun w'=>w'.heap[wr.heap.size]?=some (.cells #[.string ⟨#[32,112,40]⟩,.string ⟨#[32,113,40]⟩,.string ⟨#[32,114,40]⟩,.string ⟨#[32,120,40]⟩] 9 (0,0))) (by kernel_rfl) gD (fun hS0=>?_)
       simp only[rz,Nat.zero_add,Nat.reduceAdd]
       refine tq 0 56 ?_
       simp only[Act.put,pz]
       refine tq 1 57 ?_
       simp only[Act.put,pz]
       refine tq 2 58 ?_
       simp only[Act.put,pz]
       refine tq 7 63 ?_
       simp only[Act.put,pz]
       refine rd1 3 rfl fun K hK=>?_
       go_simp
       refine(HNa.out _ HL0.out.feed).mono ?_
       rintro e w4 ⟨rfl,f4,o4⟩
       have S4:=o4.row gD hnf
       have HL4:=zb (HL0.out.next f4 o4)
       go_simp
       refine hK.out _ _ S4 (fun hS1=>?_)
       clear hK K f4 o4 S4 hS0 gD gL BL HL0
       simp only[pz]
       have ha4i:(a4:Int)<4:=by omega
       refine tq 4 60 ?_
       simp only[Act.put,pz]
       refine q1o (i:=5) (v:=?_) 61 rfl rfl (by kernel_rfl) (by kernel_rfl) (by kernel_rfl) (fun _ _ _ h=>h) (by rfl) (by assumption) ?_ ?_
       rotate_left
       ·(intro W hSw;have hcl:=HSL.out W hSw;(try dsimp only at hSw);go_simp;(try with_reducible rfl))
       simp only[Act.put,pz]
       refine tq 6 62 ?_
       simp only[Act.put,pz]
       refine rd1 8 rfl fun K hK=>?_
       go_simp
       refine(HNb.out _ HL4.out.feed).mono ?_
       rintro e w5 ⟨rfl,f5,o5⟩
       have S5:=o5.row hS1 hnf
       have HL5b:=zb (HL4.out.next f5 o5)
       go_simp
       refine hK.out _ _ S5 (fun hS2=>?_)
       clear hK K f5 o5 S5 hS1 HL4
       simp only[pz]
       refine rd1 9 rfl fun K hK=>?_
       go_simp
       refine(HIB.out _).mono ?_
       rintro e w6 ⟨rfl,hw6⟩
       rw[hw6]
       clear hw6
       go_simp
       refine hK.out _ _ hS2 (fun hS3=>?_)
       clear hK K hS3
       simp only[pz]
       refine tq 10 66 ?_
       simp only[Act.put,pz]
       refine tq 11 12 ?_
       simp only[Act.put,pz]
       refine zD (by kernel_rfl) ?_ _
       clear hS2 HSL
       have hq3:¬9223372036854775807<H.length+NM.length+(q0g b4).length+1:=by omega
       have hq4:¬9223372036854775807<H.length+NM.length+(q0g b4).length+1+(q0g d4).length:=by omega
       have hq5:¬9223372036854775807<H.length+NM.length+(q0g b4).length+1+(q0g d4).length+1:=by omega
       go_wp2_with fail
       refine(HNc.out _ HL5b.out.feed).mono ?_
       rintro e w7 ⟨rfl,f7,o7⟩
       have HL7:=zb (HL5b.out.next f7 o7)
       clear f7 o7 HL5b
       have hg2:0<gk:=by have:=HG2.out;omega
       by_cases hc:c2=1
       ·subst hc
        go_wp2_with fail
        refine(HNd.out _ HL7.out.feed).mono ?_
        rintro e w8 ⟨rfl,f8,o8⟩
        have HL8:=zb (HL7.out.next f8 o8)
        clear f8 o8 HL7
        go_wp2_with fail
        refine(HID.out _).mono ?_
        rintro e w9 ⟨rfl,hw9⟩
        rw[hw9]
        clear hw9
        go_wp2_with fail
        have hz:Z=(⟨nmL a4,[b4,d4]⟩,jd):=by have:=HZ.out;simp only[if_true]at this;exact this
        have hz1:∀h∈E++[Z.1],HpL h:=fun h hh=>by
         rcases List.mem_append.1 hh with hh|hh
         ·exact HE2.out h hh
         ·rw[List.mem_singleton.1 hh];exact HZO.out
        have htx:ByteArray.mk H.toArray++ByteArray.mk NM.toArray++ByteArray.mk (q0g b4).toArray++ByteArray.mk #[44]++ByteArray.mk (q0g d4).toArray++ByteArray.mk #[41]=ByteArray.mk (q0H (E++[Z.1])).toArray:=by
         refine(mk6 H NM (q0g b4) [44] (q0g d4) [41]).trans ?_
         rw[q3G,hz,←HH.out,HNM.out]
         simp[q4l,nmS,q0g]
        go_roundg (gk-1)
        case measure=>omega
        case rel=>exact⟨m',jd,E++[Z.1],by have:=HG2.out;omega,by first|rfl|go_num,by first|rfl|(rw[htx])|(show Value.string _=Value.string _;rw[htx]),by simp;omega,hz1,by rw[HE5.out,hz];simp,by rw[HE6.out,hz],HL8.out⟩
       ·have hce:((c2:Int)==1)=false:=by simp;omega
        have hq6:¬9223372036854775807<H.length+NM.length+(q0g b4).length+1:=by omega
        go_wp2_with fail
        have hz:Z=(⟨nmL a4,[b4]⟩,jc):=by have:=HZ.out;rwa [if_neg hc]at this
        have hz1:∀h∈E++[Z.1],HpL h:=fun h hh=>by
         rcases List.mem_append.1 hh with hh|hh
         ·exact HE2.out h hh
         ·rw[List.mem_singleton.1 hh];exact HZO.out
        have htx:ByteArray.mk H.toArray++ByteArray.mk NM.toArray++ByteArray.mk (q0g b4).toArray++ByteArray.mk #[41]=ByteArray.mk (q0H (E++[Z.1])).toArray:=by
         refine(mk4 H NM (q0g b4) [41]).trans ?_
         rw[q3G,hz,←HH.out,HNM.out]
         simp[q4l,nmS,q0g]
        go_roundg (gk-1)
        case measure=>omega
        case rel=>exact⟨m',jc,E++[Z.1],by have:=HG2.out;omega,by first|rfl|go_num,by first|rfl|(rw[htx])|(show Value.string _=Value.string _;rw[htx]),by simp;omega,hz1,by rw[HE5.out,hz];simp,by rw[HE6.out,hz],HL7.out⟩
      ·have hm00:m=0:=by omega
       subst hm00
       have he3:=HE3.out
       have he4:=HE4.out
       simp only[q3p,List.append_nil]at he3 he4
       have HE5:=zb he3
       have HE6:=zb he4
       have hlH:(q0H E).length≤28:=by have:=(q2C E HE2.out).1;omega
       obtain⟨H,hH⟩:∃H,H=q0H E:=⟨_,rfl⟩
       have HH:=zb hH
       rw[←hH]at hlH ⊢
       clear he3 he4 HE3 HE4 hH
       have HIT:=zb (fun W q=>q7P st' (by omega) W q)
       have hdl:=(q7t hst').1
       obtain⟨SD,hSD⟩:∃SD,SD=Lib.decDigits st':=⟨_,rfl⟩
       have HSD:=zb hSD
       rw[←hSD]at hdl HIT
       clear hSD
       have hqa:¬9223372036854775807<1+SD.length:=by omega
       have hqb:¬9223372036854775807<1+SD.length+H.length:=by omega
       obtain⟨il,hil,hz0,hz1,hz2⟩:=info_parts j0J
       obtain⟨oa,oc,ho6⟩:=qn HLG.out.row
       subst ho6
       go_wp2_with fail
       refine(HIT.out _ (HTB.out.below HLG.out.bel (zL _))).mono ?_
       rintro e w9 ⟨rfl,b9⟩
       have HL9:=zb (HLG.out.below b9)
       have htx:ByteArray.mk #[64]++ByteArray.mk SD.toArray++ByteArray.mk H.toArray=ByteArray.mk (q1W st' E).toArray:=by
        refine(mk3 [64] SD H).trans ?_
        rw[HSD.out,HH.out]
        simp[q1W]
       clear b9 HLG HIT
       have HLA:=zb ((HL9.out).below ((zB _ w9).alloc (zL _) (.cells #[.int .u16 st',.int .i64 t',bs H,.string ⟨(q1W st' E).toArray⟩] 41)))
       have hrA:=HLA.out.row
       rw[hD]at hrA
       have HRA:=zb hrA
       clear hrA
       go_wp2_with (at_builtin;refine wpList_append_own (w9.alloc (.cells #[.int .u16 st',.int .i64 t',bs H,.string ⟨(q1W st' E).toArray⟩] 41)) rfl (.tmp 78) (.tmp 89) 31 rfl w.heap.size 41 il _ 4 48 Tryz.underlying31 hil hz0 hz1 hz2 rfl (by decide) (.slice oa k oc) k (q0O (D.map q1F)) rfl HRA.out ⟨w9.heap.size,0,none⟩ 1 1 [.int .u16 st',.int .i64 t',bs H,.string ⟨(q1W st' E).toArray⟩] (by simp[Act.eval]) rfl q7w (by intro u hu;simp only[List.mem_cons,List.not_mem_nil,or_false]at hu;rcases hu with rfl|rfl|rfl|rfl<;>rfl) (by unfold maxLen;omega) (by omega) HLA.out.bel.size ?_;intro v10 w10 own10 gr10 _)
       have hLN:LN=(⟨st',t',E⟩,i'):=by rw[HLN2.out,HE5.out,HE6.out]
       have h10:LgAt w w10 s i' v10 (D++[LN.1]):=HLA.out.app (by rw[hD];exact gr10) (by
        rw[HH.out]at own10
        rw[hLN,hD]
        exact own10)
       have HL10:=zb h10
       clear own10 gr10 h10
       go_wp2_with fail
       have hg1:0<go:=by have:=HG.out;omega
       go_roundg (go-1)
       case measure=>omega
       case rel=>exact⟨k+1,i',st',t',D++[LN.1],by omega,by have:=HG.out;omega,by go_num,rfl,rfl,hst',ht',by simp;omega,by
         have:=HXE.out
         rw[hLN]at this
         rw[this,hLN,show n-(k+1)=n-k-1 by omega]
         simp,HL10.out.feed,HL10.out.row,HL10.out.bel⟩
    ·skip
     have hst2:st'=st:=by rw[HSTE.out,if_neg hk0]
     have htt2:t'=t:=by rw[HTTE.out,if_neg hk0]
     have hk00:¬(0:Int)<(k:Int):=by omega
     subst hst2
     subst htt2
     go_wp2_with fail
     refine(HNk.out _ HLG2.out.feed).mono ?_
     rintro e w6 ⟨rfl,f6,o6⟩
     have HL5:=zb (HLG2.out.next f6 o6)
     clear f6 o6 HLG2 HNk
     go_wp2_with fail
     obtain⟨go,hgo⟩:∃go,go=gk:=⟨_,rfl⟩
     rw[←hgo]at HG
     go_loopg [12,13] kk (fun gk2 vh vk wr2=>HpRel w s kk j5 u6 D gk2 vh vk wr2)
     case atStart=>exact⟨kk,j5,[],by omega,rfl,rfl,by simp;omega,fun h hh=>by simp at hh,rfl,rfl,HL5.out⟩
     case round =>
      obtain⟨m,i',E,hmg,rfl,rfl,hE1,hE2,hE3,hE4,hLG⟩:=hrel
      have HG2:=zb hmg
      have HE3:=zb hE3
      have HE4:=zb hE4
      have HE2:=zb hE2
      have HLG:=zb hLG
      clear hmg hE2 hE3 hE4 hLG HL5
      by_cases hm0:0<m
      ·obtain⟨m',rfl⟩:∃m',m=m'+1:=⟨m-1,by omega⟩
       have hlH:(q0H E).length≤28:=by have:=(q2C E HE2.out).1;omega
       obtain⟨Z,hZ⟩:∃Z,Z=q8L s i':=⟨_,rfl⟩
       have hzo:HpL Z.1:=by rw[hZ];exact q8M s i'
       have he3:=HE3.out
       have he4:=HE4.out
       rw[q3p,←hZ]at he3 he4
       simp only[]at he3 he4
       have HE5:=zb he3
       have HE6:=zb he4
       have HZO:=zb hzo
       unfold q8L at hZ
       simp only[]at hZ
       have HZ:=zb hZ
       clear hZ he3 he4 hzo HE3 HE4
       have ha4:=ql s i' (n:=4) (by omega)
       have HNa:=zb (fun W q=>HN.out w.heap.size i' 4 (by omega) W q)
       generalize zk s i' 4=rr1 at *
       obtain⟨a4,ja⟩:=rr1
       simp only[]at ha4 HNa HZ
       have hb4:=ql s ja (n:=4) (by omega)
       have HNb:=zb (fun W q=>HN.out w.heap.size ja 4 (by omega) W q)
       generalize zk s ja 4=rr2 at *
       obtain⟨b4,jb⟩:=rr2
       simp only[]at hb4 HNb HZ
       have HNc:=zb (fun W q=>HN.out w.heap.size jb 2 (by omega) W q)
       generalize zk s jb 2=rr3 at *
       obtain⟨c2,jc⟩:=rr3
       simp only[]at HNc HZ
       have hd4:=ql s jc (n:=4) (by omega)
       have HNd:=zb (fun W q=>HN.out w.heap.size jc 4 (by omega) W q)
       generalize zk s jc 4=rr4 at *
       obtain⟨d4,jd⟩:=rr4
       simp only[]at hd4 HNd HZ
       have HIB:=zb (q3c b4 (by omega))
       have HID:=zb (q3c d4 (by omega))
       have hdb:(q0g b4).length≤1:=zL _
       have hdd:(q0g d4).length≤1:=zL _
       obtain⟨NM,hNM⟩:∃NM,NM=nmS a4:=⟨_,rfl⟩
       have hnl:NM.length≤3:=by rw[hNM,j0M];exact zL _
       have HNM:=zb hNM
       have hat:=j3U a4 ha4
       rw[←hNM]at hat
       have HAT:=zb hat
       obtain⟨H,hH⟩:∃H,H=q0H E:=⟨_,rfl⟩
       have HH:=zb hH
       rw[←hH]at hlH ⊢
       have hq1:¬9223372036854775807<H.length+NM.length:=by omega
       have hq2:¬9223372036854775807<H.length+NM.length+(q0g b4).length:=by omega
       clear hH hNM hat
       go_wp2_with fail
       have BL:Below wr.heap.size wr (wr.alloc (.cells #[.string ⟨#[32,112,40]⟩,.string ⟨#[32,113,40]⟩,.string ⟨#[32,114,40]⟩,.string ⟨#[32,120,40]⟩] 9)):=(zB _ _).alloc (zL _) _
       have gL:=zN wr (.cells #[.string ⟨#[32,112,40]⟩,.string ⟨#[32,113,40]⟩,.string ⟨#[32,114,40]⟩,.string ⟨#[32,120,40]⟩] 9)
       have hfr:w.heap.size<wr.heap.size:=HLG.out.feed.lt
       have hnf:wr.heap.size∉[w.heap.size]:=by simp;omega
       have HL0:=zb ((HLG.out.below BL).below (zB _ _).drew)
       have gD:(wr.alloc (.cells #[.string ⟨#[32,112,40]⟩,.string ⟨#[32,113,40]⟩,.string ⟨#[32,114,40]⟩,.string ⟨#[32,120,40]⟩] 9)).drew.heap[wr.heap.size]?=some (.cells #[.string ⟨#[32,112,40]⟩,.string ⟨#[32,113,40]⟩,.string ⟨#[32,114,40]⟩,.string ⟨#[32,120,40]⟩] 9 (0,0)):=gL
       have HSL:Hid (∀W:World,W.heap[wr.heap.size]?=some (.cells #[.string ⟨#[32,112,40]⟩,.string ⟨#[32,113,40]⟩,.string ⟨#[32,114,40]⟩,.string ⟨#[32,120,40]⟩] 9 (0,0))→W.cell? ⟨wr.heap.size,a4,none⟩=some (bs NM)):=zb (fun W hW=>(zC _ _ a4 _ _ _ hW).trans HAT.out)
       refine wp_region_held_drew (S:=fun w'=>w'.heap[wr.heap.size]?=some (.cells #[.string ⟨#[32,112,40]⟩,.string ⟨#[32,113,40]⟩,.string ⟨#[32,114,40]⟩,.string ⟨#[32,120,40]⟩] 9 (0,0))) (by kernel_rfl) gD (fun hS0=>?_)
       simp only[rz,Nat.zero_add,Nat.reduceAdd]
       refine tq 0 56 ?_
       simp only[Act.put,pz]
       refine tq 1 57 ?_
       simp only[Act.put,pz]
       refine tq 2 58 ?_
       simp only[Act.put,pz]
       refine tq 7 63 ?_
       simp only[Act.put,pz]
       refine rd1 3 rfl fun K hK=>?_
       go_simp
       refine(HNa.out _ HL0.out.feed).mono ?_
       rintro e w4 ⟨rfl,f4,o4⟩
       have S4:=o4.row gD hnf
       have HL4:=zb (HL0.out.next f4 o4)
       go_simp
       refine hK.out _ _ S4 (fun hS1=>?_)
       clear hK K f4 o4 S4 hS0 gD gL BL HL0
       simp only[pz]
       have ha4i:(a4:Int)<4:=by omega
       refine tq 4 60 ?_
       simp only[Act.put,pz]
       refine q1o (i:=5) (v:=?_) 61 rfl rfl (by kernel_rfl) (by kernel_rfl) (by kernel_rfl) (fun _ _ _ h=>h) (by rfl) (by assumption) ?_ ?_
       rotate_left
       ·(intro W hSw;have hcl:=HSL.out W hSw;(try dsimp only at hSw);go_simp;(try with_reducible rfl))
       simp only[Act.put,pz]
       refine tq 6 62 ?_
       simp only[Act.put,pz]
       refine rd1 8 rfl fun K hK=>?_
       go_simp
       refine(HNb.out _ HL4.out.feed).mono ?_
       rintro e w5 ⟨rfl,f5,o5⟩
       have S5:=o5.row hS1 hnf
       have HL5b:=zb (HL4.out.next f5 o5)
       go_simp
       refine hK.out _ _ S5 (fun hS2=>?_)
       clear hK K f5 o5 S5 hS1 HL4
       simp only[pz]
       refine rd1 9 rfl fun K hK=>?_
       go_simp
       refine(HIB.out _).mono ?_
       rintro e w6 ⟨rfl,hw6⟩
       rw[hw6]
       clear hw6
       go_simp
       refine hK.out _ _ hS2 (fun hS3=>?_)
       clear hK K hS3
       simp only[pz]
       refine tq 10 66 ?_
       simp only[Act.put,pz]
       refine tq 11 12 ?_
       simp only[Act.put,pz]
       refine zD (by kernel_rfl) ?_ _
       clear hS2 HSL
       have hq3:¬9223372036854775807<H.length+NM.length+(q0g b4).length+1:=by omega
       have hq4:¬9223372036854775807<H.length+NM.length+(q0g b4).length+1+(q0g d4).length:=by omega
       have hq5:¬9223372036854775807<H.length+NM.length+(q0g b4).length+1+(q0g d4).length+1:=by omega
       go_wp2_with fail
       refine(HNc.out _ HL5b.out.feed).mono ?_
       rintro e w7 ⟨rfl,f7,o7⟩
       have HL7:=zb (HL5b.out.next f7 o7)
       clear f7 o7 HL5b
       have hg2:0<gk:=by have:=HG2.out;omega
       by_cases hc:c2=1
       ·subst hc
        go_wp2_with fail
        refine(HNd.out _ HL7.out.feed).mono ?_
        rintro e w8 ⟨rfl,f8,o8⟩
        have HL8:=zb (HL7.out.next f8 o8)
        clear f8 o8 HL7
        go_wp2_with fail
        refine(HID.out _).mono ?_
        rintro e w9 ⟨rfl,hw9⟩
        rw[hw9]
        clear hw9
        go_wp2_with fail
        have hz:Z=(⟨nmL a4,[b4,d4]⟩,jd):=by have:=HZ.out;simp only[if_true]at this;exact this
        have hz1:∀h∈E++[Z.1],HpL h:=fun h hh=>by
         rcases List.mem_append.1 hh with hh|hh
         ·exact HE2.out h hh
         ·rw[List.mem_singleton.1 hh];exact HZO.out
        have htx:ByteArray.mk H.toArray++ByteArray.mk NM.toArray++ByteArray.mk (q0g b4).toArray++ByteArray.mk #[44]++ByteArray.mk (q0g d4).toArray++ByteArray.mk #[41]=ByteArray.mk (q0H (E++[Z.1])).toArray:=by
         refine(mk6 H NM (q0g b4) [44] (q0g d4) [41]).trans ?_
         rw[q3G,hz,←HH.out,HNM.out]
         simp[q4l,nmS,q0g]
        go_roundg (gk-1)
        case measure=>omega
        case rel=>exact⟨m',jd,E++[Z.1],by have:=HG2.out;omega,by first|rfl|go_num,by first|rfl|(rw[htx])|(show Value.string _=Value.string _;rw[htx]),by simp;omega,hz1,by rw[HE5.out,hz];simp,by rw[HE6.out,hz],HL8.out⟩
       ·have hce:((c2:Int)==1)=false:=by simp;omega
        have hq6:¬9223372036854775807<H.length+NM.length+(q0g b4).length+1:=by omega
        go_wp2_with fail
        have hz:Z=(⟨nmL a4,[b4]⟩,jc):=by have:=HZ.out;rwa [if_neg hc]at this
        have hz1:∀h∈E++[Z.1],HpL h:=fun h hh=>by
         rcases List.mem_append.1 hh with hh|hh
         ·exact HE2.out h hh
         ·rw[List.mem_singleton.1 hh];exact HZO.out
        have htx:ByteArray.mk H.toArray++ByteArray.mk NM.toArray++ByteArray.mk (q0g b4).toArray++ByteArray.mk #[41]=ByteArray.mk (q0H (E++[Z.1])).toArray:=by
         refine(mk4 H NM (q0g b4) [41]).trans ?_
         rw[q3G,hz,←HH.out,HNM.out]
         simp[q4l,nmS,q0g]
        go_roundg (gk-1)
        case measure=>omega
        case rel=>exact⟨m',jc,E++[Z.1],by have:=HG2.out;omega,by first|rfl|go_num,by first|rfl|(rw[htx])|(show Value.string _=Value.string _;rw[htx]),by simp;omega,hz1,by rw[HE5.out,hz];simp,by rw[HE6.out,hz],HL7.out⟩
      ·have hm00:m=0:=by omega
       subst hm00
       have he3:=HE3.out
       have he4:=HE4.out
       simp only[q3p,List.append_nil]at he3 he4
       have HE5:=zb he3
       have HE6:=zb he4
       have hlH:(q0H E).length≤28:=by have:=(q2C E HE2.out).1;omega
       obtain⟨H,hH⟩:∃H,H=q0H E:=⟨_,rfl⟩
       have HH:=zb hH
       rw[←hH]at hlH ⊢
       clear he3 he4 HE3 HE4 hH
       have HIT:=zb (fun W q=>q7P st' (by omega) W q)
       have hdl:=(q7t hst').1
       obtain⟨SD,hSD⟩:∃SD,SD=Lib.decDigits st':=⟨_,rfl⟩
       have HSD:=zb hSD
       rw[←hSD]at hdl HIT
       clear hSD
       have hqa:¬9223372036854775807<1+SD.length:=by omega
       have hqb:¬9223372036854775807<1+SD.length+H.length:=by omega
       obtain⟨il,hil,hz0,hz1,hz2⟩:=info_parts j0J
       obtain⟨oa,oc,ho6⟩:=qn HLG.out.row
       subst ho6
       go_wp2_with fail
       refine(HIT.out _ (HTB.out.below HLG.out.bel (zL _))).mono ?_
       rintro e w9 ⟨rfl,b9⟩
       have HL9:=zb (HLG.out.below b9)
       have htx:ByteArray.mk #[64]++ByteArray.mk SD.toArray++ByteArray.mk H.toArray=ByteArray.mk (q1W st' E).toArray:=by
        refine(mk3 [64] SD H).trans ?_
        rw[HSD.out,HH.out]
        simp[q1W]
       clear b9 HLG HIT
       have HLA:=zb ((HL9.out).below ((zB _ w9).alloc (zL _) (.cells #[.int .u16 st',.int .i64 t',bs H,.string ⟨(q1W st' E).toArray⟩] 41)))
       have hrA:=HLA.out.row
       rw[hD]at hrA
       have HRA:=zb hrA
       clear hrA
       go_wp2_with (at_builtin;refine wpList_append_own (w9.alloc (.cells #[.int .u16 st',.int .i64 t',bs H,.string ⟨(q1W st' E).toArray⟩] 41)) rfl (.tmp 78) (.tmp 89) 31 rfl w.heap.size 41 il _ 4 48 Tryz.underlying31 hil hz0 hz1 hz2 rfl (by decide) (.slice oa k oc) k (q0O (D.map q1F)) rfl HRA.out ⟨w9.heap.size,0,none⟩ 1 1 [.int .u16 st',.int .i64 t',bs H,.string ⟨(q1W st' E).toArray⟩] (by simp[Act.eval]) rfl q7w (by intro u hu;simp only[List.mem_cons,List.not_mem_nil,or_false]at hu;rcases hu with rfl|rfl|rfl|rfl<;>rfl) (by unfold maxLen;omega) (by omega) HLA.out.bel.size ?_;intro v10 w10 own10 gr10 _)
       have hLN:LN=(⟨st',t',E⟩,i'):=by rw[HLN2.out,HE5.out,HE6.out]
       have h10:LgAt w w10 s i' v10 (D++[LN.1]):=HLA.out.app (by rw[hD];exact gr10) (by
        rw[HH.out]at own10
        rw[hLN,hD]
        exact own10)
       have HL10:=zb h10
       clear own10 gr10 h10
       go_wp2_with fail
       have hg1:0<go:=by have:=HG.out;omega
       go_roundg (go-1)
       case measure=>omega
       case rel=>exact⟨k+1,i',st',t',D++[LN.1],by omega,by have:=HG.out;omega,by go_num,rfl,rfl,hst',ht',by simp;omega,by
         have:=HXE.out
         rw[hLN]at this
         rw[this,hLN,show n-(k+1)=n-k-1 by omega]
         simp,HL10.out.feed,HL10.out.row,HL10.out.bel⟩
   ·have hee:((e16:Int)==1)=false:=by simp;omega
    have hgp:dd=d∧jj=j2:=by have:=HGP.out;rw[if_neg he1]at this;simpa using this
    obtain⟨rfl,rfl⟩:=hgp
    by_cases hk0:0<k
    ·skip
     have hw16:IntKind.u16.wrap ((dd:Int))=(dd:Int):=by rw[IntKind.wrap_u16];omega
     have hws:IntKind.u16.wrap ((st:Int)+(dd:Int))=(st':Int):=by rw[HSTE.out,if_pos hk0,IntKind.wrap_u16];omega
     have hwt:IntKind.i64.wrap ((t:Int)+(dd:Int))=(t':Int):=by rw[HTTE.out,if_pos hk0,IntKind.wrap_i64];omega
     go_wp2_with fail
     refine(HNk.out _ HLG2.out.feed).mono ?_
     rintro e w6 ⟨rfl,f6,o6⟩
     have HL5:=zb (HLG2.out.next f6 o6)
     clear f6 o6 HLG2 HNk
     go_wp2_with fail
     obtain⟨go,hgo⟩:∃go,go=gk:=⟨_,rfl⟩
     rw[←hgo]at HG
     go_loopg [12,13] kk (fun gk2 vh vk wr2=>HpRel w s kk j5 u6 D gk2 vh vk wr2)
     case atStart=>exact⟨kk,j5,[],by omega,rfl,rfl,by simp;omega,fun h hh=>by simp at hh,rfl,rfl,HL5.out⟩
     case round =>
      obtain⟨m,i',E,hmg,rfl,rfl,hE1,hE2,hE3,hE4,hLG⟩:=hrel
      have HG2:=zb hmg
      have HE3:=zb hE3
      have HE4:=zb hE4
      have HE2:=zb hE2
      have HLG:=zb hLG
      clear hmg hE2 hE3 hE4 hLG HL5
      by_cases hm0:0<m
      ·obtain⟨m',rfl⟩:∃m',m=m'+1:=⟨m-1,by omega⟩
       have hlH:(q0H E).length≤28:=by have:=(q2C E HE2.out).1;omega
       obtain⟨Z,hZ⟩:∃Z,Z=q8L s i':=⟨_,rfl⟩
       have hzo:HpL Z.1:=by rw[hZ];exact q8M s i'
       have he3:=HE3.out
       have he4:=HE4.out
       rw[q3p,←hZ]at he3 he4
       simp only[]at he3 he4
       have HE5:=zb he3
       have HE6:=zb he4
       have HZO:=zb hzo
       unfold q8L at hZ
       simp only[]at hZ
       have HZ:=zb hZ
       clear hZ he3 he4 hzo HE3 HE4
       have ha4:=ql s i' (n:=4) (by omega)
       have HNa:=zb (fun W q=>HN.out w.heap.size i' 4 (by omega) W q)
       generalize zk s i' 4=rr1 at *
       obtain⟨a4,ja⟩:=rr1
       simp only[]at ha4 HNa HZ
       have hb4:=ql s ja (n:=4) (by omega)
       have HNb:=zb (fun W q=>HN.out w.heap.size ja 4 (by omega) W q)
       generalize zk s ja 4=rr2 at *
       obtain⟨b4,jb⟩:=rr2
       simp only[]at hb4 HNb HZ
       have HNc:=zb (fun W q=>HN.out w.heap.size jb 2 (by omega) W q)
       generalize zk s jb 2=rr3 at *
       obtain⟨c2,jc⟩:=rr3
       simp only[]at HNc HZ
       have hd4:=ql s jc (n:=4) (by omega)
       have HNd:=zb (fun W q=>HN.out w.heap.size jc 4 (by omega) W q)
       generalize zk s jc 4=rr4 at *
       obtain⟨d4,jd⟩:=rr4
       simp only[]at hd4 HNd HZ
       have HIB:=zb (q3c b4 (by omega))
       have HID:=zb (q3c d4 (by omega))
       have hdb:(q0g b4).length≤1:=zL _
       have hdd:(q0g d4).length≤1:=zL _
       obtain⟨NM,hNM⟩:∃NM,NM=nmS a4:=⟨_,rfl⟩
       have hnl:NM.length≤3:=by rw[hNM,j0M];exact zL _
       have HNM:=zb hNM
       have hat:=j3U a4 ha4
       rw[←hNM]at hat
       have HAT:=zb hat
       obtain⟨H,hH⟩:∃H,H=q0H E:=⟨_,rfl⟩
       have HH:=zb hH
       rw[←hH]at hlH ⊢
       have hq1:¬9223372036854775807<H.length+NM.length:=by omega
       have hq2:¬9223372036854775807<H.length+NM.length+(q0g b4).length:=by omega
       clear hH hNM hat
       go_wp2_with fail
       have BL:Below wr.heap.size wr (wr.alloc (.cells #[.string ⟨#[32,112,40]⟩,.string ⟨#[32,113,40]⟩,.string ⟨#[32,114,40]⟩,.string ⟨#[32,120,40]⟩] 9)):=(zB _ _).alloc (zL _) _
       have gL:=zN wr (.cells #[.string ⟨#[32,112,40]⟩,.string ⟨#[32,113,40]⟩,.string ⟨#[32,114,40]⟩,.string ⟨#[32,120,40]⟩] 9)
       have hfr:w.heap.size<wr.heap.size:=HLG.out.feed.lt
       have hnf:wr.heap.size∉[w.heap.size]:=by simp;omega
       have HL0:=zb ((HLG.out.below BL).below (zB _ _).drew)
       have gD:(wr.alloc (.cells #[.string ⟨#[32,112,40]⟩,.string ⟨#[32,113,40]⟩,.string ⟨#[32,114,40]⟩,.string ⟨#[32,120,40]⟩] 9)).drew.heap[wr.heap.size]?=some (.cells #[.string ⟨#[32,112,40]⟩,.string ⟨#[32,113,40]⟩,.string ⟨#[32,114,40]⟩,.string ⟨#[32,120,40]⟩] 9 (0,0)):=gL
       have HSL:Hid (∀W:World,W.heap[wr.heap.size]?=some (.cells #[.string ⟨#[32,112,40]⟩,.string ⟨#[32,113,40]⟩,.string ⟨#[32,114,40]⟩,.string ⟨#[32,120,40]⟩] 9 (0,0))→W.cell? ⟨wr.heap.size,a4,none⟩=some (bs NM)):=zb (fun W hW=>(zC _ _ a4 _ _ _ hW).trans HAT.out)
       refine wp_region_held_drew (S:=fun w'=>w'.heap[wr.heap.size]?=some (.cells #[.string ⟨#[32,112,40]⟩,.string ⟨#[32,113,40]⟩,.string ⟨#[32,114,40]⟩,.string ⟨#[32,120,40]⟩] 9 (0,0))) (by kernel_rfl) gD (fun hS0=>?_)
       simp only[rz,Nat.zero_add,Nat.reduceAdd]
       refine tq 0 56 ?_
       simp only[Act.put,pz]
       refine tq 1 57 ?_
       simp only[Act.put,pz]
       refine tq 2 58 ?_
       simp only[Act.put,pz]
       refine tq 7 63 ?_
       simp only[Act.put,pz]
       refine rd1 3 rfl fun K hK=>?_
       go_simp
       refine(HNa.out _ HL0.out.feed).mono ?_
       rintro e w4 ⟨rfl,f4,o4⟩
       have S4:=o4.row gD hnf
       have HL4:=zb (HL0.out.next f4 o4)
       go_simp
       refine hK.out _ _ S4 (fun hS1=>?_)
       clear hK K f4 o4 S4 hS0 gD gL BL HL0
       simp only[pz]
       have ha4i:(a4:Int)<4:=by omega
       refine tq 4 60 ?_
       simp only[Act.put,pz]
       refine q1o (i:=5) (v:=?_) 61 rfl rfl (by kernel_rfl) (by kernel_rfl) (by kernel_rfl) (fun _ _ _ h=>h) (by rfl) (by assumption) ?_ ?_
       rotate_left
       ·(intro W hSw;have hcl:=HSL.out W hSw;(try dsimp only at hSw);go_simp;(try with_reducible rfl))
       simp only[Act.put,pz]
       refine tq 6 62 ?_
       simp only[Act.put,pz]
       refine rd1 8 rfl fun K hK=>?_
       go_simp
       refine(HNb.out _ HL4.out.feed).mono ?_
       rintro e w5 ⟨rfl,f5,o5⟩
       have S5:=o5.row hS1 hnf
       have HL5b:=zb (HL4.out.next f5 o5)
       go_simp
       refine hK.out _ _ S5 (fun hS2=>?_)
       clear hK K f5 o5 S5 hS1 HL4
       simp only[pz]
       refine rd1 9 rfl fun K hK=>?_
       go_simp
       refine(HIB.out _).mono ?_
       rintro e w6 ⟨rfl,hw6⟩
       rw[hw6]
       clear hw6
       go_simp
       refine hK.out _ _ hS2 (fun hS3=>?_)
       clear hK K hS3
       simp only[pz]
       refine tq 10 66 ?_
       simp only[Act.put,pz]
       refine tq 11 12 ?_
       simp only[Act.put,pz]
       refine zD (by kernel_rfl) ?_ _
       clear hS2 HSL
       have hq3:¬9223372036854775807<H.length+NM.length+(q0g b4).length+1:=by omega
       have hq4:¬9223372036854775807<H.length+NM.length+(q0g b4).length+1+(q0g d4).length:=by omega
       have hq5:¬9223372036854775807<H.length+NM.length+(q0g b4).length+1+(q0g d4).length+1:=by omega
       go_wp2_with fail
       refine(HNc.out _ HL5b.out.feed).mono ?_
       rintro e w7 ⟨rfl,f7,o7⟩
       have HL7:=zb (HL5b.out.next f7 o7)
       clear f7 o7 HL5b
       have hg2:0<gk:=by have:=HG2.out;omega
       by_cases hc:c2=1
       ·subst hc
        go_wp2_with fail
        refine(HNd.out _ HL7.out.feed).mono ?_
        rintro e w8 ⟨rfl,f8,o8⟩
        have HL8:=zb (HL7.out.next f8 o8)
        clear f8 o8 HL7
        go_wp2_with fail
        refine(HID.out _).mono ?_
        rintro e w9 ⟨rfl,hw9⟩
        rw[hw9]
        clear hw9
        go_wp2_with fail
        have hz:Z=(⟨nmL a4,[b4,d4]⟩,jd):=by have:=HZ.out;simp only[if_true]at this;exact this
        have hz1:∀h∈E++[Z.1],HpL h:=fun h hh=>by
         rcases List.mem_append.1 hh with hh|hh
         ·exact HE2.out h hh
         ·rw[List.mem_singleton.1 hh];exact HZO.out
        have htx:ByteArray.mk H.toArray++ByteArray.mk NM.toArray++ByteArray.mk (q0g b4).toArray++ByteArray.mk #[44]++ByteArray.mk (q0g d4).toArray++ByteArray.mk #[41]=ByteArray.mk (q0H (E++[Z.1])).toArray:=by
         refine(mk6 H NM (q0g b4) [44] (q0g d4) [41]).trans ?_
         rw[q3G,hz,←HH.out,HNM.out]
         simp[q4l,nmS,q0g]
        go_roundg (gk-1)
        case measure=>omega
        case rel=>exact⟨m',jd,E++[Z.1],by have:=HG2.out;omega,by first|rfl|go_num,by first|rfl|(rw[htx])|(show Value.string _=Value.string _;rw[htx]),by simp;omega,hz1,by rw[HE5.out,hz];simp,by rw[HE6.out,hz],HL8.out⟩
       ·have hce:((c2:Int)==1)=false:=by simp;omega
        have hq6:¬9223372036854775807<H.length+NM.length+(q0g b4).length+1:=by omega
        go_wp2_with fail
        have hz:Z=(⟨nmL a4,[b4]⟩,jc):=by have:=HZ.out;rwa [if_neg hc]at this
        have hz1:∀h∈E++[Z.1],HpL h:=fun h hh=>by
         rcases List.mem_append.1 hh with hh|hh
         ·exact HE2.out h hh
         ·rw[List.mem_singleton.1 hh];exact HZO.out
        have htx:ByteArray.mk H.toArray++ByteArray.mk NM.toArray++ByteArray.mk (q0g b4).toArray++ByteArray.mk #[41]=ByteArray.mk (q0H (E++[Z.1])).toArray:=by
         refine(mk4 H NM (q0g b4) [41]).trans ?_
         rw[q3G,hz,←HH.out,HNM.out]
         simp[q4l,nmS,q0g]
        go_roundg (gk-1)
        case measure=>omega
        case rel=>exact⟨m',jc,E++[Z.1],by have:=HG2.out;omega,by first|rfl|go_num,by first|rfl|(rw[htx])|(show Value.string _=Value.string _;rw[htx]),by simp;omega,hz1,by rw[HE5.out,hz];simp,by rw[HE6.out,hz],HL7.out⟩
      ·have hm00:m=0:=by omega
       subst hm00
       have he3:=HE3.out
       have he4:=HE4.out
       simp only[q3p,List.append_nil]at he3 he4
       have HE5:=zb he3
       have HE6:=zb he4
       have hlH:(q0H E).length≤28:=by have:=(q2C E HE2.out).1;omega
       obtain⟨H,hH⟩:∃H,H=q0H E:=⟨_,rfl⟩
       have HH:=zb hH
       rw[←hH]at hlH ⊢
       clear he3 he4 HE3 HE4 hH
       have HIT:=zb (fun W q=>q7P st' (by omega) W q)
       have hdl:=(q7t hst').1
       obtain⟨SD,hSD⟩:∃SD,SD=Lib.decDigits st':=⟨_,rfl⟩
       have HSD:=zb hSD
       rw[←hSD]at hdl HIT
       clear hSD
       have hqa:¬9223372036854775807<1+SD.length:=by omega
       have hqb:¬9223372036854775807<1+SD.length+H.length:=by omega
       obtain⟨il,hil,hz0,hz1,hz2⟩:=info_parts j0J
       obtain⟨oa,oc,ho6⟩:=qn HLG.out.row
       subst ho6
       go_wp2_with fail
       refine(HIT.out _ (HTB.out.below HLG.out.bel (zL _))).mono ?_
       rintro e w9 ⟨rfl,b9⟩
       have HL9:=zb (HLG.out.below b9)
       have htx:ByteArray.mk #[64]++ByteArray.mk SD.toArray++ByteArray.mk H.toArray=ByteArray.mk (q1W st' E).toArray:=by
        refine(mk3 [64] SD H).trans ?_
        rw[HSD.out,HH.out]
        simp[q1W]
       clear b9 HLG HIT
       have HLA:=zb ((HL9.out).below ((zB _ w9).alloc (zL _) (.cells #[.int .u16 st',.int .i64 t',bs H,.string ⟨(q1W st' E).toArray⟩] 41)))
       have hrA:=HLA.out.row
       rw[hD]at hrA
       have HRA:=zb hrA
       clear hrA
       go_wp2_with (at_builtin;refine wpList_append_own (w9.alloc (.cells #[.int .u16 st',.int .i64 t',bs H,.string ⟨(q1W st' E).toArray⟩] 41)) rfl (.tmp 78) (.tmp 89) 31 rfl w.heap.size 41 il _ 4 48 Tryz.underlying31 hil hz0 hz1 hz2 rfl (by decide) (.slice oa k oc) k (q0O (D.map q1F)) rfl HRA.out ⟨w9.heap.size,0,none⟩ 1 1 [.int .u16 st',.int .i64 t',bs H,.string ⟨(q1W st' E).toArray⟩] (by simp[Act.eval]) rfl q7w (by intro u hu;simp only[List.mem_cons,List.not_mem_nil,or_false]at hu;rcases hu with rfl|rfl|rfl|rfl<;>rfl) (by unfold maxLen;omega) (by omega) HLA.out.bel.size ?_;intro v10 w10 own10 gr10 _)
       have hLN:LN=(⟨st',t',E⟩,i'):=by rw[HLN2.out,HE5.out,HE6.out]
       have h10:LgAt w w10 s i' v10 (D++[LN.1]):=HLA.out.app (by rw[hD];exact gr10) (by
        rw[HH.out]at own10
        rw[hLN,hD]
        exact own10)
       have HL10:=zb h10
       clear own10 gr10 h10
       go_wp2_with fail
       have hg1:0<go:=by have:=HG.out;omega
       go_roundg (go-1)
       case measure=>omega
       case rel=>exact⟨k+1,i',st',t',D++[LN.1],by omega,by have:=HG.out;omega,by go_num,rfl,rfl,hst',ht',by simp;omega,by
         have:=HXE.out
         rw[hLN]at this
         rw[this,hLN,show n-(k+1)=n-k-1 by omega]
         simp,HL10.out.feed,HL10.out.row,HL10.out.bel⟩
    ·skip
     have hst2:st'=st:=by rw[HSTE.out,if_neg hk0]
     have htt2:t'=t:=by rw[HTTE.out,if_neg hk0]
     have hk00:¬(0:Int)<(k:Int):=by omega
     subst hst2
     subst htt2
     go_wp2_with fail
     refine(HNk.out _ HLG2.out.feed).mono ?_
     rintro e w6 ⟨rfl,f6,o6⟩
     have HL5:=zb (HLG2.out.next f6 o6)
     clear f6 o6 HLG2 HNk
     go_wp2_with fail
     obtain⟨go,hgo⟩:∃go,go=gk:=⟨_,rfl⟩
     rw[←hgo]at HG
     go_loopg [12,13] kk (fun gk2 vh vk wr2=>HpRel w s kk j5 u6 D gk2 vh vk wr2)
     case atStart=>exact⟨kk,j5,[],by omega,rfl,rfl,by simp;omega,fun h hh=>by simp at hh,rfl,rfl,HL5.out⟩
     case round =>
      obtain⟨m,i',E,hmg,rfl,rfl,hE1,hE2,hE3,hE4,hLG⟩:=hrel
      have HG2:=zb hmg
      have HE3:=zb hE3
      have HE4:=zb hE4
      have HE2:=zb hE2
      have HLG:=zb hLG
      clear hmg hE2 hE3 hE4 hLG HL5
      by_cases hm0:0<m
      ·obtain⟨m',rfl⟩:∃m',m=m'+1:=⟨m-1,by omega⟩
       have hlH:(q0H E).length≤28:=by have:=(q2C E HE2.out).1;omega
       obtain⟨Z,hZ⟩:∃Z,Z=q8L s i':=⟨_,rfl⟩
       have hzo:HpL Z.1:=by rw[hZ];exact q8M s i'
       have he3:=HE3.out
       have he4:=HE4.out
       rw[q3p,←hZ]at he3 he4
       simp only[]at he3 he4
       have HE5:=zb he3
       have HE6:=zb he4
       have HZO:=zb hzo
       unfold q8L at hZ
       simp only[]at hZ
       have HZ:=zb hZ
       clear hZ he3 he4 hzo HE3 HE4
       have ha4:=ql s i' (n:=4) (by omega)
       have HNa:=zb (fun W q=>HN.out w.heap.size i' 4 (by omega) W q)
       generalize zk s i' 4=rr1 at *
       obtain⟨a4,ja⟩:=rr1
       simp only[]at ha4 HNa HZ
       have hb4:=ql s ja (n:=4) (by omega)
       have HNb:=zb (fun W q=>HN.out w.heap.size ja 4 (by omega) W q)
       generalize zk s ja 4=rr2 at *
       obtain⟨b4,jb⟩:=rr2
       simp only[]at hb4 HNb HZ
       have HNc:=zb (fun W q=>HN.out w.heap.size jb 2 (by omega) W q)
       generalize zk s jb 2=rr3 at *
       obtain⟨c2,jc⟩:=rr3
       simp only[]at HNc HZ
       have hd4:=ql s jc (n:=4) (by omega)
       have HNd:=zb (fun W q=>HN.out w.heap.size jc 4 (by omega) W q)
       generalize zk s jc 4=rr4 at *
       obtain⟨d4,jd⟩:=rr4
       simp only[]at hd4 HNd HZ
       have HIB:=zb (q3c b4 (by omega))
       have HID:=zb (q3c d4 (by omega))
       have hdb:(q0g b4).length≤1:=zL _
       have hdd:(q0g d4).length≤1:=zL _
       obtain⟨NM,hNM⟩:∃NM,NM=nmS a4:=⟨_,rfl⟩
       have hnl:NM.length≤3:=by rw[hNM,j0M];exact zL _
       have HNM:=zb hNM
       have hat:=j3U a4 ha4
       rw[←hNM]at hat
       have HAT:=zb hat
       obtain⟨H,hH⟩:∃H,H=q0H E:=⟨_,rfl⟩
       have HH:=zb hH
       rw[←hH]at hlH ⊢
       have hq1:¬9223372036854775807<H.length+NM.length:=by omega
       have hq2:¬9223372036854775807<H.length+NM.length+(q0g b4).length:=by omega
       clear hH hNM hat
       go_wp2_with fail
       have BL:Below wr.heap.size wr (wr.alloc (.cells #[.string ⟨#[32,112,40]⟩,.string ⟨#[32,113,40]⟩,.string ⟨#[32,114,40]⟩,.string ⟨#[32,120,40]⟩] 9)):=(zB _ _).alloc (zL _) _
       have gL:=zN wr (.cells #[.string ⟨#[32,112,40]⟩,.string ⟨#[32,113,40]⟩,.string ⟨#[32,114,40]⟩,.string ⟨#[32,120,40]⟩] 9)
       have hfr:w.heap.size<wr.heap.size:=HLG.out.feed.lt
       have hnf:wr.heap.size∉[w.heap.size]:=by simp;omega
       have HL0:=zb ((HLG.out.below BL).below (zB _ _).drew)
       have gD:(wr.alloc (.cells #[.string ⟨#[32,112,40]⟩,.string ⟨#[32,113,40]⟩,.string ⟨#[32,114,40]⟩,.string ⟨#[32,120,40]⟩] 9)).drew.heap[wr.heap.size]?=some (.cells #[.string ⟨#[32,112,40]⟩,.string ⟨#[32,113,40]⟩,.string ⟨#[32,114,40]⟩,.string ⟨#[32,120,40]⟩] 9 (0,0)):=gL
       have HSL:Hid (∀W:World,W.heap[wr.heap.size]?=some (.cells #[.string ⟨#[32,112,40]⟩,.string ⟨#[32,113,40]⟩,.string ⟨#[32,114,40]⟩,.string ⟨#[32,120,40]⟩] 9 (0,0))→W.cell? ⟨wr.heap.size,a4,none⟩=some (bs NM)):=zb (fun W hW=>(zC _ _ a4 _ _ _ hW).trans HAT.out)
       refine wp_region_held_drew (S:=fun w'=>w'.heap[wr.heap.size]?=some (.cells #[.string ⟨#[32,112,40]⟩,.string ⟨#[32,113,40]⟩,.string ⟨#[32,114,40]⟩,.string ⟨#[32,120,40]⟩] 9 (0,0))) (by kernel_rfl) gD (fun hS0=>?_)
       simp only[rz,Nat.zero_add,Nat.reduceAdd]
       refine tq 0 56 ?_
       simp only[Act.put,pz]
       refine tq 1 57 ?_
       simp only[Act.put,pz]
       refine tq 2 58 ?_
       simp only[Act.put,pz]
       refine tq 7 63 ?_
       simp only[Act.put,pz]
       refine rd1 3 rfl fun K hK=>?_
       go_simp
       refine(HNa.out _ HL0.out.feed).mono ?_
       rintro e w4 ⟨rfl,f4,o4⟩
       have S4:=o4.row gD hnf
       have HL4:=zb (HL0.out.next f4 o4)
       go_simp
       refine hK.out _ _ S4 (fun hS1=>?_)
       clear hK K f4 o4 S4 hS0 gD gL BL HL0
       simp only[pz]
       have ha4i:(a4:Int)<4:=by omega
       refine tq 4 60 ?_
       simp only[Act.put,pz]
       refine q1o (i:=5) (v:=?_) 61 rfl rfl (by kernel_rfl) (by kernel_rfl) (by kernel_rfl) (fun _ _ _ h=>h) (by rfl) (by assumption) ?_ ?_
       rotate_left
       ·(intro W hSw;have hcl:=HSL.out W hSw;(try dsimp only at hSw);go_simp;(try with_reducible rfl))
       simp only[Act.put,pz]
       refine tq 6 62 ?_
       simp only[Act.put,pz]
       refine rd1 8 rfl fun K hK=>?_
       go_simp
       refine(HNb.out _ HL4.out.feed).mono ?_
       rintro e w5 ⟨rfl,f5,o5⟩
       have S5:=o5.row hS1 hnf
       have HL5b:=zb (HL4.out.next f5 o5)
       go_simp
       refine hK.out _ _ S5 (fun hS2=>?_)
       clear hK K f5 o5 S5 hS1 HL4
       simp only[pz]
       refine rd1 9 rfl fun K hK=>?_
       go_simp
       refine(HIB.out _).mono ?_
       rintro e w6 ⟨rfl,hw6⟩
       rw[hw6]
       clear hw6
       go_simp
       refine hK.out _ _ hS2 (fun hS3=>?_)
       clear hK K hS3
       simp only[pz]
       refine tq 10 66 ?_
       simp only[Act.put,pz]
       refine tq 11 12 ?_
       simp only[Act.put,pz]
       refine zD (by kernel_rfl) ?_ _
       clear hS2 HSL
       have hq3:¬9223372036854775807<H.length+NM.length+(q0g b4).length+1:=by omega
       have hq4:¬9223372036854775807<H.length+NM.length+(q0g b4).length+1+(q0g d4).length:=by omega
       have hq5:¬9223372036854775807<H.length+NM.length+(q0g b4).length+1+(q0g d4).length+1:=by omega
       go_wp2_with fail
       refine(HNc.out _ HL5b.out.feed).mono ?_
       rintro e w7 ⟨rfl,f7,o7⟩
       have HL7:=zb (HL5b.out.next f7 o7)
       clear f7 o7 HL5b
       have hg2:0<gk:=by have:=HG2.out;omega
       by_cases hc:c2=1
       ·subst hc
        go_wp2_with fail
        refine(HNd.out _ HL7.out.feed).mono ?_
        rintro e w8 ⟨rfl,f8,o8⟩
        have HL8:=zb (HL7.out.next f8 o8)
        clear f8 o8 HL7
        go_wp2_with fail
        refine(HID.out _).mono ?_
        rintro e w9 ⟨rfl,hw9⟩
        rw[hw9]
        clear hw9
        go_wp2_with fail
        have hz:Z=(⟨nmL a4,[b4,d4]⟩,jd):=by have:=HZ.out;simp only[if_true]at this;exact this
        have hz1:∀h∈E++[Z.1],HpL h:=fun h hh=>by
         rcases List.mem_append.1 hh with hh|hh
         ·exact HE2.out h hh
         ·rw[List.mem_singleton.1 hh];exact HZO.out
        have htx:ByteArray.mk H.toArray++ByteArray.mk NM.toArray++ByteArray.mk (q0g b4).toArray++ByteArray.mk #[44]++ByteArray.mk (q0g d4).toArray++ByteArray.mk #[41]=ByteArray.mk (q0H (E++[Z.1])).toArray:=by
         refine(mk6 H NM (q0g b4) [44] (q0g d4) [41]).trans ?_
         rw[q3G,hz,←HH.out,HNM.out]
         simp[q4l,nmS,q0g]
        go_roundg (gk-1)
        case measure=>omega
        case rel=>exact⟨m',jd,E++[Z.1],by have:=HG2.out;omega,by first|rfl|go_num,by first|rfl|(rw[htx])|(show Value.string _=Value.string _;rw[htx]),by simp;omega,hz1,by rw[HE5.out,hz];simp,by rw[HE6.out,hz],HL8.out⟩
       ·have hce:((c2:Int)==1)=false:=by simp;omega
        have hq6:¬9223372036854775807<H.length+NM.length+(q0g b4).length+1:=by omega
        go_wp2_with fail
        have hz:Z=(⟨nmL a4,[b4]⟩,jc):=by have:=HZ.out;rwa [if_neg hc]at this
        have hz1:∀h∈E++[Z.1],HpL h:=fun h hh=>by
         rcases List.mem_append.1 hh with hh|hh
         ·exact HE2.out h hh
         ·rw[List.mem_singleton.1 hh];exact HZO.out
        have htx:ByteArray.mk H.toArray++ByteArray.mk NM.toArray++ByteArray.mk (q0g b4).toArray++ByteArray.mk #[41]=ByteArray.mk (q0H (E++[Z.1])).toArray:=by
         refine(mk4 H NM (q0g b4) [41]).trans ?_
         rw[q3G,hz,←HH.out,HNM.out]
         simp[q4l,nmS,q0g]
        go_roundg (gk-1)
        case measure=>omega
        case rel=>exact⟨m',jc,E++[Z.1],by have:=HG2.out;omega,by first|rfl|go_num,by first|rfl|(rw[htx])|(show Value.string _=Value.string _;rw[htx]),by simp;omega,hz1,by rw[HE5.out,hz];simp,by rw[HE6.out,hz],HL7.out⟩
      ·have hm00:m=0:=by omega
       subst hm00
       have he3:=HE3.out
       have he4:=HE4.out
       simp only[q3p,List.append_nil]at he3 he4
       have HE5:=zb he3
       have HE6:=zb he4
       have hlH:(q0H E).length≤28:=by have:=(q2C E HE2.out).1;omega
       obtain⟨H,hH⟩:∃H,H=q0H E:=⟨_,rfl⟩
       have HH:=zb hH
       rw[←hH]at hlH ⊢
       clear he3 he4 HE3 HE4 hH
       have HIT:=zb (fun W q=>q7P st' (by omega) W q)
       have hdl:=(q7t hst').1
       obtain⟨SD,hSD⟩:∃SD,SD=Lib.decDigits st':=⟨_,rfl⟩
       have HSD:=zb hSD
       rw[←hSD]at hdl HIT
       clear hSD
       have hqa:¬9223372036854775807<1+SD.length:=by omega
       have hqb:¬9223372036854775807<1+SD.length+H.length:=by omega
       obtain⟨il,hil,hz0,hz1,hz2⟩:=info_parts j0J
       obtain⟨oa,oc,ho6⟩:=qn HLG.out.row
       subst ho6
       go_wp2_with fail
       refine(HIT.out _ (HTB.out.below HLG.out.bel (zL _))).mono ?_
       rintro e w9 ⟨rfl,b9⟩
       have HL9:=zb (HLG.out.below b9)
       have htx:ByteArray.mk #[64]++ByteArray.mk SD.toArray++ByteArray.mk H.toArray=ByteArray.mk (q1W st' E).toArray:=by
        refine(mk3 [64] SD H).trans ?_
        rw[HSD.out,HH.out]
        simp[q1W]
       clear b9 HLG HIT
       have HLA:=zb ((HL9.out).below ((zB _ w9).alloc (zL _) (.cells #[.int .u16 st',.int .i64 t',bs H,.string ⟨(q1W st' E).toArray⟩] 41)))
       have hrA:=HLA.out.row
       rw[hD]at hrA
       have HRA:=zb hrA
       clear hrA
       go_wp2_with (at_builtin;refine wpList_append_own (w9.alloc (.cells #[.int .u16 st',.int .i64 t',bs H,.string ⟨(q1W st' E).toArray⟩] 41)) rfl (.tmp 78) (.tmp 89) 31 rfl w.heap.size 41 il _ 4 48 Tryz.underlying31 hil hz0 hz1 hz2 rfl (by decide) (.slice oa k oc) k (q0O (D.map q1F)) rfl HRA.out ⟨w9.heap.size,0,none⟩ 1 1 [.int .u16 st',.int .i64 t',bs H,.string ⟨(q1W st' E).toArray⟩] (by simp[Act.eval]) rfl q7w (by intro u hu;simp only[List.mem_cons,List.not_mem_nil,or_false]at hu;rcases hu with rfl|rfl|rfl|rfl<;>rfl) (by unfold maxLen;omega) (by omega) HLA.out.bel.size ?_;intro v10 w10 own10 gr10 _)
       have hLN:LN=(⟨st',t',E⟩,i'):=by rw[HLN2.out,HE5.out,HE6.out]
       have h10:LgAt w w10 s i' v10 (D++[LN.1]):=HLA.out.app (by rw[hD];exact gr10) (by
        rw[HH.out]at own10
        rw[hLN,hD]
        exact own10)
       have HL10:=zb h10
       clear own10 gr10 h10
       go_wp2_with fail
       have hg1:0<go:=by have:=HG.out;omega
       go_roundg (go-1)
       case measure=>omega
       case rel=>exact⟨k+1,i',st',t',D++[LN.1],by omega,by have:=HG.out;omega,by go_num,rfl,rfl,hst',ht',by simp;omega,by
         have:=HXE.out
         rw[hLN]at this
         rw[this,hLN,show n-(k+1)=n-k-1 by omega]
         simp,HL10.out.feed,HL10.out.row,HL10.out.bel⟩
  ·go_wp2_with fail
   go_ret
   have hke:k=n:=by omega
   have hx:=HXD.out
   rw[show n-k=0 by omega]at hx
   simp only[q8W,List.append_nil]at hx
   refine⟨_,rfl,?_,HB.out⟩
   rw[hx,List.length_map]
   exact HO.out
end Go.Proofs.YtiamjjonoeaggabGreatDoor
