import Derived.Test.YtiamjjonoeaggabGreatDoorGA
import Derived.Test.YtiamjjonoeaggabGreatDoorGB
import Derived.Test.YtiamjjonoeaggabGreatDoorG04
set_option maxRecDepth 100000
set_option maxHeartbeats 16000000
namespace Go.Proofs.YtiamjjonoeaggabGreatDoor
open Go.RowKit
theorem j4S (l:By)(h1:0<l.length)(h2:l.length≤5)(hd:q1H l=true)(w:World) :
  Calls Tryz.prog 146 #[bs l] w fun e w'=>e=.returned (.tuple #[.int .i64 (q0n l),.nilIface])∧Below w.heap.size w w':=by
 have hd0:=q6x hd 0 h1
 have e0:((ByteArray.mk l.toArray)[0]'(by exact h1))=l[0]:=rfl
 have h45:((((ByteArray.mk l.toArray)[0]'(by exact h1)).toNat:Int)==45)=false:=beq_eq_false_iff_ne.2 (by rw[e0];omega)
 have h43:((((ByteArray.mk l.toArray)[0]'(by exact h1)).toNat:Int)==43)=false:=beq_eq_false_iff_ne.2 (by rw[e0];omega)
 have hcv:=Lib.run_convert_string_bytes (P:=Tryz.prog) w 9 101 5 (ByteArray.mk l.toArray) (u:=.string) Tryz.underlying9 Tryz.underlying101 Tryz.underlying5
 have hB:=q9K w l
 have hBel:=Joins.below_bytesWorld w.heap.size w 5 (ByteArray.mk l.toArray) (zL _)
 generalize Lib.bytesWorld w 5 (ByteArray.mk l.toArray)=W1 at *
 have HB:=zb hB
 have HD:=zb hd
 clear e0 hB hd
 go_enter Tryz.func146,Tryz.ntmps146
 go_wp2
 go_loop [49,6] (fun vi vn=>∃k:Nat,k≤l.length∧vi=.int .i64 k∧vn=.int .i64 (q0n (l.take k))) (fun vi _=>l.length-(intOf vi).toNat)
 case atStart=>exact⟨0,zZ _,rfl,rfl⟩
 case round =>
  obtain⟨k,hk,rfl,rfl⟩:=hrel
  have hlt9:=q7O HD.out k hk
  have hp:10 ^ k≤100000:=zM (Nat.pow_le_pow_right (by omega) (show k≤5 by omega)) (by decide)
  have hlt:q0n (l.take k)<100000:=by omega
  clear hlt9 hp
  by_cases hkn:k<l.length
  ·have hc1:=HB.out k hkn
   have hg:=q6x HD.out k hkn
   have HN:=zb (q6B l k hkn)
   generalize q0n (l.take k)=m at *
   generalize (l[k]).toNat=c at *
   obtain⟨g1,g2⟩:=hg
   go_wp2
   go_round
   case rel=>exact⟨k+1,by omega,by go_num,by rw[HN.out];first|go_num|(congr 1;omega)⟩
   case measure=>simp[intOf];omega
  ·have hke:k=l.length:=by omega
   subst hke
   rw[List.take_length]
   go_wp2
   go_ret2
   exact⟨rfl,hBel⟩
theorem j7j (l:By)(h1:0<l.length)(h2:l.length≤5)(hd:q1H l=true)(w:World) :
  Calls Tryz.prog 111 #[bs l] w fun e w'=>e=.returned (.tuple #[.int .i64 (q0n l),.nilIface])∧Below w.heap.size w w':=by
 go_enter Tryz.func111,Tryz.ntmps111
 go_wp2_with fail
 refine(j4S l h1 h2 hd _).mono ?_
 rintro e w1 ⟨rfl,hb⟩
 go_wp2_with fail
 go_ret2
 exact⟨rfl,hb⟩
def q8g (s:By):Nat→Nat→Nat→List (By)→List (By)
 | 0,_,_,acc=>acc
 |f+1,i,a,acc=>if i=s.length∨s.getD i 0=32 then q8g s f (i+1) (i+1) (acc++[cut s a i])else q8g s f (i+1) a acc
def splR (s:By):List (By):=q8g s s.length 1 1 []
def PtRel (s:By)(w:World)(R:List (By))(g:Nat)(vl va vi:Value)(wr:World):Prop:=
 ∃(i a:Nat) (acc:List (By)),i≤s.length+1∧s.length+1-i≤g∧a≤i∧va=.int .i64 a∧vi=.int .i64 i∧acc.length≤i∧wr.ownsRow (w.heap.size+2) 9 1 vl acc.length (acc.map bs)∧q8g s (s.length+1-i) i a acc=R∧Below (w.heap.size+2) ((w.alloc (.cells #[.int .u16 0,.int .i64 0,.slice none 0 0] 181)).alloc (.cells #[.int .u16 0,.int .i64 0,.slice none 0 0] 181)) wr
theorem q1X {w:World}{g o n c:Nat}{l:List (By)}(h:q1f w (.slice (some ⟨g,o,none⟩) n c) l){b o':Nat}(hb:g≠b)(u:Value):q1f (w.setCell ⟨b,o',none⟩ u) (.slice (some ⟨g,o,none⟩) n c) l:=by
 rcases h with⟨h,_⟩|⟨g',o2,cap,h,h1,h2,h3,h4⟩
 ·simp at h
 ·simp only[Value.slice.injEq,Option.some.injEq,Addr.mk.injEq,and_true]at h
  obtain⟨⟨rfl,rfl⟩,rfl,rfl⟩:=h
  refine .inr ⟨g,o,c,rfl,h1,h2,by simpa using h3,fun i hi=>?_⟩
  rw[zX _ _ _ _ (by intro e;injection e with e1 _;exact hb e1.symm)]
  exact h4 i hi
theorem q6I (s:By)(hs:s.length≤80)(h0:0<s.length)(d:By)(hh:List (By))(hR:splR s=d::hh)(hd:q1H d=true)(hd1:0<d.length)(hd5:d.length≤5)(hd6:q0n d≤65535)(w:World) :
  Calls Tryz.prog 84 #[bs s] w fun e w'=>∃vh,e=.returned (.agg #[.int .u16 (q0n d),.int .i64 0,vh])∧q1f w' vh hh∧Below w.heap.size w w'∧∀k∈vh.ownBlock.toList,w.heap.size≤k:=by
 have HR:Hid (q8g s (s.length+1-1) 1 1 []=d::hh):=zb hR
 have HD:=zb hd
 have HA:=zb (j7j d hd1 hd5 hd)
 have hext:=j4I s
 have HEx:=zb hext
 clear hext hR hd
 obtain⟨i0,hi0,hz0,hz1,hz2⟩:=info_parts j3x
 go_enter Tryz.func84,Tryz.ntmps84
 go_wp2_with fail
 go_loopg [4,5,6] (s.length+1) (fun g vl va vi wr=>PtRel s w (d::hh) g vl va vi wr)
 case atStart=>exact⟨1,1,[],by omega,by omega,zL _,rfl,rfl,by simp,zW _ _ _ _,HR.out,zB _ _⟩
 case round =>
  obtain⟨i,a,acc,hi,hg,ha,rfl,rfl,hac,hown,hsp,hbel⟩:=hrel
  have HG:=zb hg
  have HO:=zb hown
  have HSP:=zb hsp
  have HB:=zb hbel
  clear hg hown hsp hbel HR
  by_cases hin:i≤s.length
  ·obtain⟨f,hf⟩:∃f,s.length+1-i=f+1:=⟨s.length-i,by omega⟩
   have hsp:=HSP.out
   rw[hf,q8g]at hsp
   have hf2:s.length+1-(i+1)=f:=by omega
   by_cases hc:i=s.length∨s.getD i 0=32
   ·rw[if_pos hc,←hf2]at hsp
    have HSP2:=zb hsp
    have hx:=HEx.out a i
    clear hsp HSP hf hf2
    generalize cut s a i=t at *
    have hbs:w.heap.size+2≤wr.heap.size:=by have:=HB.out.size;simp at this;omega
    by_cases hl:i=s.length
    ·subst hl
     go_wp2_with (at_builtin;refine q2c rfl (.tmp 25) (.tmp 30) 75 9 rfl Tryz.underlying75 hi0 hz0 hz1 hz2 rfl (by decide) ((w.alloc (.cells #[.int .u16 0,.int .i64 0,.slice none 0 0] 181)).alloc (.cells #[.int .u16 0,.int .i64 0,.slice none 0 0] 181)) (w.heap.size+2) _ _ _ [bs t] wr rfl HO.out (by simp[Act.eval]) rfl (by simp[Value.oneCell']) (by omega) (by decide) HB.out hbs ?_;intro v' w' hown' hbel' hne)
     have hg1:0<gk:=by have:=HG.out;omega
     go_roundg (gk-1)
     case measure=>omega
     case rel=>exact⟨s.length+1,s.length+1,acc++[t],by omega,by have:=HG.out;omega,zL _,by go_num,by go_num,by simp;omega,by simpa using hown',HSP2.out,hbel'⟩
    ·have hlt:i<s.length:=by omega
     have hat:=q5X s i hlt
     have h32:s.getD i 0=32:=by rcases hc with h|h;exact absurd h hl;exact h
     rw[h32]at hat
     have hil:((i:Int)==(s.length:Int))=false:=by simp;omega
     go_wp2_with (at_builtin;refine q2c rfl (.tmp 25) (.tmp 30) 75 9 rfl Tryz.underlying75 hi0 hz0 hz1 hz2 rfl (by decide) ((w.alloc (.cells #[.int .u16 0,.int .i64 0,.slice none 0 0] 181)).alloc (.cells #[.int .u16 0,.int .i64 0,.slice none 0 0] 181)) (w.heap.size+2) _ _ _ [bs t] wr rfl HO.out (by simp[Act.eval]) rfl (by simp[Value.oneCell']) (by omega) (by decide) HB.out hbs ?_;intro v' w' hown' hbel' hne)
     have hg1:0<gk:=by have:=HG.out;omega
     go_roundg (gk-1)
     case measure=>omega
     case rel=>exact⟨i+1,i+1,acc++[t],by omega,by have:=HG.out;omega,zL _,by go_num,by go_num,by simp;omega,by simpa using hown',HSP2.out,hbel'⟩
   ·rw[if_neg hc,←hf2]at hsp
    have HSP2:=zb hsp
    have hlt:i<s.length:=by omega
    have hat:=q5X s i hlt
    have h32:¬s.getD i 0=32:=fun h=>hc (.inr h)
    have hil:((i:Int)==(s.length:Int))=false:=by simp;omega
    clear hsp HSP hf hf2
    generalize s.getD i 0=c at *
    have h32':((c.toNat:Int)==32)=false:=by
     simp only[beq_eq_false_iff_ne]
     intro e
     apply h32
     apply UInt8.toNat_inj.1
     show c.toNat=32
     omega
    go_wp2_with fail
    have hg1:0<gk:=by have:=HG.out;omega
    go_roundg (gk-1)
    case measure=>omega
    case rel=>exact⟨i+1,a,acc,by omega,by have:=HG.out;omega,by omega,by go_num,by go_num,by omega,HO.out,HSP2.out,HB.out⟩
  ·have hie:s.length+1-i=0:=by omega
   have hsp:=HSP.out
   rw[hie,q8g]at hsp
   subst hsp
   have hown:=HO.out
   obtain⟨g,cap,rfl⟩:=zJ hown (by simp)
   simp only[List.length_cons]at *
   have hgl:=(hown.lt g rfl).2
   have hgb:=(hown.lt g rfl).1
   have c0:=hown.cellAt 0 (by omega)
   simp only[List.map_cons,List.getElem?_cons_zero]at c0
   have hcap:hh.length+1≤cap∧cap≤maxLen:=by
    rcases hown.2 with⟨h',_⟩|⟨g',cap',cur,h',_,_,p1,p2,_⟩
    ·simp at h'
    ·simp only[Value.slice.injEq,Option.some.injEq,Addr.mk.injEq,and_true,true_and]at h'
     obtain⟨rfl,rfl⟩:=h'
     exact⟨p1,p2⟩
   have hbs:w.heap.size+2≤wr.heap.size:=by have:=HB.out.size;simp at this;omega
   have HT:Hid (∀W',Below wr.heap.size wr W'→∀j,j<hh.length→W'.cell? ⟨g,1+j,none⟩=some (bs (hh.getD j []))):=zb (fun W' hb j hj=>by
    rw[zK (w:=wr) (hb.block g hgl),hown.cellAt (1+j) (by omega),Nat.add_comm 1 j]
    simp[hj])
   have HCP:=zb hcap
   clear hown HO HSP
   go_wp2_with fail
   refine(HA.out _).mono ?_
   rintro e w2 ⟨rfl,b2⟩
   have hW:∀k,k<w.heap.size+2→w2.heap[k]?=((w.alloc (.cells #[.int .u16 0,.int .i64 0,.slice none 0 0] 181)).alloc (.cells #[.int .u16 0,.int .i64 0,.slice none 0 0] 181)).heap[k]?:=fun k hk=>by rw[b2.block k (by omega),HB.out.block k hk]
   have hr0:w2.heap[w.heap.size]?=some (.cells #[.int .u16 0,.int .i64 0,.slice none 0 0] 181 (0,0)):=by rw[hW _ (by omega),zO _ _ (by simp)];exact zN _ _
   have hr1:w2.heap[w.heap.size+1]?=some (.cells #[.int .u16 0,.int .i64 0,.slice none 0 0] 181 (0,0)):=by
    rw[hW _ (by omega)]
    have:=zN (w.alloc (.cells #[.int .u16 0,.int .i64 0,.slice none 0 0] 181)) (.cells #[.int .u16 0,.int .i64 0,.slice none 0 0] 181)
    simpa using this
   have p0:=zC _ _ 0 _ _ _ hr0
   have p1:=zC _ _ 1 _ _ _ hr0
   have p2:=zC _ _ 2 _ _ _ hr0
   have q0:=zC _ _ 0 _ _ _ hr1
   have q1:=zC _ _ 1 _ _ _ hr1
   have q2:=zC _ _ 2 _ _ _ hr1
   have y0:=fun j=>zF _ _ j _ _ hr0
   have y1:=fun j=>zF _ _ j _ _ hr1
   simp only[gz]at p0 p1 p2 q0 q1 q2
   have HT2:=zb (HT.out w2 b2)
   have hB2:Below w.heap.size w w2:=(((zB _ _).alloc (zL _) _).alloc (by simp) _).trans ((HB.out.mono (by omega)).trans (b2.mono (by omega)))
   have HB2:=zb hB2
   have hl2:g<w2.heap.size:=zT hgl b2.size
   have hw0:w.heap.size<w2.heap.size:=by have:=b2.size;omega
   have hw1:w.heap.size+1<w2.heap.size:=by have:=b2.size;omega
   have hd7:(q0n d:Int)≤65535:=by omega
   clear hr0 hr1 hW HT HA b2 hB2 hd6
   obtain⟨nd,hnd⟩:∃nd,nd=q0n d:=⟨_,rfl⟩
   rw[←hnd]at hd7 ⊢
   have HND:=zb hnd
   clear hnd
   have hcap':=hcap
   have HCC:=zb hcap'
   clear hcap hcap' HCP
   by_cases hc1:cap=1
   ·subst hc1
    have hh0:hh=[]:=List.eq_nil_of_length_eq_zero (by have:=HCC.out.1;omega)
    have hhl:hh.length=0:=by rw[hh0];rfl
    have HH0:=zb hh0
    clear hh0
    go_wp2_with fail
    exact zP (v:=.agg #[.int .u16 nd,.int .i64 0,.slice (some ⟨g,0,none⟩) 0 0]) (by simp[results,Tryz.results84,go_sem,p0,p1,p2]) rfl ⟨.slice (some ⟨g,0,none⟩) 0 0,by rw[←HND.out],q1X (q1X (q1X (q1X (q1X (by rw[HH0.out];exact .inr ⟨g,0,0,rfl,zL _,zZ _,hl2,fun i hi=>absurd hi (by simp)⟩) (by omega) _) (by omega) _) (by omega) _) (by omega) _) (by omega) _,((((HB2.out.setCell (by show w.heap.size≤w.heap.size+1;omega) _).setCell (by show w.heap.size≤w.heap.size+1;omega) _).setCell (zL _) _).setCell (zL _) _).setCell (zL _) _,fun k hk=>by simp[Value.ownBlock]at hk;omega⟩
   ·have hcg:1≤cap:=by have:=HCC.out.1;omega
    have hcm:cap≤maxLen:=HCC.out.2
    unfold maxLen at hcm
    have hcl:hh.length+1≤cap:=HCC.out.1
    go_wp2_with fail
    exact zP (v:=.agg #[.int .u16 nd,.int .i64 0,.slice (some ⟨g,1,none⟩) hh.length (cap-1)]) (by simp[results,Tryz.results84,go_sem,p0,p1,p2]) rfl ⟨.slice (some ⟨g,1,none⟩) hh.length (cap-1),by rw[←HND.out],q1X (q1X (q1X (q1X (q1X (.inr ⟨g,1,cap-1,rfl,by omega,by have:=HCC.out.2;omega,hl2,HT2.out⟩) (by omega) _) (by omega) _) (by omega) _) (by omega) _) (by omega) _,((((HB2.out.setCell (by show w.heap.size≤w.heap.size+1;omega) _).setCell (by show w.heap.size≤w.heap.size+1;omega) _).setCell (zL _) _).setCell (zL _) _).setCell (zL _) _,fun k hk=>by simp[Value.ownBlock]at hk;omega⟩
end Go.Proofs.YtiamjjonoeaggabGreatDoor
