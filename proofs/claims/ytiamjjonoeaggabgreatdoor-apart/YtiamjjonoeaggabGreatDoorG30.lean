import Derived.Test.YtiamjjonoeaggabGreatDoorGA
import Derived.Test.YtiamjjonoeaggabGreatDoorG00
import Derived.Test.YtiamjjonoeaggabGreatDoorG07
import Derived.Test.YtiamjjonoeaggabGreatDoorG08
import Derived.Test.YtiamjjonoeaggabGreatDoorG13
import Derived.Test.YtiamjjonoeaggabGreatDoorG29
import Derived.Laws.OwnMore
set_option maxRecDepth 100000
set_option maxHeartbeats 16000000
namespace Go.Proofs.YtiamjjonoeaggabGreatDoor
open Go.RowKit
abbrev spanV (n:PNode):Value:=.agg #[.int .i64 n.sat,.int .i64 n.slo,.int .i64 n.shi,.bool n.sop]
theorem j1Q (nd:PNode)(w:World) :
  Calls Tryz.prog 93 #[spanV nd] w fun e w'=>e=.returned (.bool (j4C nd))∧Below w.heap.size w w':=by
 unfold j4C
 obtain⟨_,_,_,_,_,_,_,_,_,sat,slo,shi,sop,_,_⟩:=nd
 simp only[]
 cases sop with
 |true =>
  go_enter Tryz.func93,Tryz.ntmps93
  go_wp2_with fail
  go_ret
  exact⟨rfl,(zB _ _).alloc (zL _) _⟩
 |false =>
  go_enter Tryz.func93,Tryz.ntmps93
  go_wp2_with fail
  go_ret
  exact⟨by simp,(zB _ _).alloc (zL _) _⟩
theorem q3W (n:Int)(w:World) :
  Calls Tryz.prog 94 #[.int .i64 n] w fun e w'=>e=.returned (.bool (q1X n))∧w'=w:=by
 unfold q1X
 go_enter Tryz.func94,Tryz.ntmps94
 go_wp2
 all_goals
  go_ret
  exact⟨by simp_all,rfl⟩
theorem j1R (own inner:Int)(h1:0≤own∧own≤100000)(h2:-1≤inner∧inner≤1000000)(w:World) :
  Calls Tryz.prog 158 #[.int .i64 own,.int .i64 inner] w fun e w'=>e=.returned (.int .i64 (q4q own inner))∧w'=w:=by
 unfold q4q
 by_cases h:inner = -1
 ·subst h
  go_enter Tryz.func158,Tryz.ntmps158
  go_wp2
  go_ret
  exact⟨rfl,rfl⟩
 ·rw[if_neg h]
  go_enter Tryz.func158,Tryz.ntmps158
  go_wp2
  go_ret
  exact⟨q1t (by go_num),rfl⟩
abbrev q2g (i:PInfo):Value:=.agg #[.bool i.x,.bool i.y,.int .i64 i.reach]
theorem q8k (a b:PInfo)(w:World) :
  Calls Tryz.prog 126 #[q2g a,q2g b] w fun e w'=>e=.returned (.bool (j0z a b))∧Below w.heap.size w w':=by
 unfold j0z
 obtain⟨ax,ay,ar⟩:=a
 obtain⟨bx,bY,br⟩:=b
 simp only[]
 cases ax<;>cases ay<;>cases bx<;>cases bY
 all_goals
  go_enter Tryz.func126,Tryz.ntmps126
  go_wp2_with fail
  go_ret
  exact⟨rfl,((zB _ _).alloc (zL _) _).alloc (by simp) _⟩
def j1m (i:PInfo):List Value:=[.bool i.x,.bool i.y,.int .i64 i.reach]
def q0y (l:List PInfo):List Value:=l.flatMap j1m
theorem j1l (l:List PInfo):(q0y l).length=l.length*3:=by
 induction l with
 |nil=>rfl
 |cons n r ih =>
  have e:q0y (n::r)=j1m n++q0y r:=by simp[q0y]
  have e2:(j1m n).length=3:=rfl
  rw[e,List.length_append,ih,e2,List.length_cons]
  omega
theorem j1k (l:List PInfo)(i:Nat)(h:i<l.length)(j:Nat)(hj:j<3):(q0y l)[i*3+j]?=(j1m l[i])[j]?:=by
 induction l generalizing i with
 |nil=>simp at h
 |cons n r ih =>
  have e:q0y (n::r)=j1m n++q0y r:=by simp[q0y]
  have e2:(j1m n).length=3:=rfl
  rw[e]
  cases i with
  |zero=>rw[List.getElem?_append_left (by omega)];simp
  |succ i =>
   have hi:i<r.length:=by simpa using h
   rw[List.getElem?_append_right (by omega),e2,show(i+1)*3+j-3=i*3+j by omega,ih i hi]
   rfl
theorem j5c (l:List PInfo)(i:Nat)(h:i<l.length)(n:PInfo):q0y (l.set i n)=(((q0y l).set (i*3) (.bool n.x)).set (i*3+1) (.bool n.y)).set (i*3+2) (.int .i64 n.reach):=by
 induction l generalizing i with
 |nil=>simp at h
 |cons m r ih =>
  have e:∀(m:PInfo) r,q0y (m::r)=j1m m++q0y r:=by intro m r;simp[q0y]
  cases i with
  |zero=>simp[e,j1m]
  |succ i =>
   have hi:i<r.length:=by simpa using h
   have e2:(j1m m).length=3:=rfl
   rw[List.set_cons_succ,e,e,ih i hi,List.set_append_right _ _ (by omega),List.set_append_right _ _ (by omega),List.set_append_right _ _ (by omega),e2,show(i+1)*3-3=i*3 by omega,show(i+1)*3+1-3=i*3+1 by omega,show(i+1)*3+2-3=i*3+2 by omega]
theorem q2x (I:List PInfo)(n:Int)(base bi ci:Nat)(w:World)(h:w.ownsRow base 88 3 (.slice (some ⟨bi,0,none⟩) I.length ci) I.length (q0y I))(_hI:I.length≤1000)(hn:-100000≤n∧n≤100000) :
  Calls Tryz.prog 97 #[.slice (some ⟨bi,0,none⟩) I.length ci,.int .i64 n] w fun e w'=>e=.returned (q2g (q1D I n))∧Below w.heap.size w w':=by
 unfold q1D
 by_cases h0:n<0
 ·rw[if_pos (.inl h0)]
  clear h
  go_enter Tryz.func97,Tryz.ntmps97
  go_wp2_with fail
  exact zP (v:=q2g q2J) (by simp[results,Tryz.results97,go_sem,q2J]) rfl ⟨rfl,(zB _ _).alloc (zL _) _⟩
 ·by_cases h1:(I.length:Int)≤n
  ·rw[if_pos (.inr h1)]
   clear h
   go_enter Tryz.func97,Tryz.ntmps97
   go_wp2_with fail
   exact zP (v:=q2g q2J) (by simp[results,Tryz.results97,go_sem,q2J]) rfl ⟨rfl,(zB _ _).alloc (zL _) _⟩
  ·rw[if_neg (by omega)]
   obtain⟨m,rfl⟩:∃m:Nat,n=m:=⟨n.toNat,by omega⟩
   have hm:m<I.length:=by omega
   have hc:=fun j hj=>(h.cellAt (m*3+j) (by omega)).trans (j1k I m hm j hj)
   have hlt:bi<w.heap.size:=(h.lt bi rfl).2
   have c0:=hc 0 (by omega)
   have c1:=hc 1 (by omega)
   have c2:=hc 2 (by omega)
   have e:I.getD (Int.toNat (m:Int)) q2J=I[m]:=by simp[List.getD,hm]
   rw[e]
   generalize I[m]=i at *
   obtain⟨ix,iy,ir⟩:=i
   simp only[j1m,List.getElem?_cons_zero,List.getElem?_cons_succ,Nat.add_zero]at c0 c1 c2
   clear hc h e
   go_enter Tryz.func97,Tryz.ntmps97
   go_wp2_with fail
   exact zP (v:=q2g ⟨ix,iy,ir⟩) (by simp[results,Tryz.results97,go_sem]) rfl ⟨rfl,(zB _ _).alloc (zL _) _⟩
theorem NodeAt.ofB {w:World}{b:Nat}{n:PNode}{t:TypeId}(h:w.heap[b]?=some (.cells (zq n).toArray t (0,0))):NodeAt w b n:=by
 refine⟨fun j hj=>?_,fun o=>by simp[World.frozen?,h],(Array.getElem?_eq_some_iff.1 h).1⟩
 rw[zC w b j _ t _ h]
 simp
theorem j1P (nd:PNode)(V:Value)(hV:V=q1C nd)(kd:Int)(hc:0≤nd.cnt∧nd.cnt≤2)(w:World) :
  Calls Tryz.prog 159 #[V,.int .i64 kd] w fun e w'=>e=.returned (.bool (q4u nd kd))∧Below w.heap.size w w':=by
 have HP:Hid (q4u nd kd=((decide (0<nd.cnt)&&nd.k0==kd) || (decide (1<nd.cnt)&&nd.k1==kd))):=zb rfl
 generalize q4u nd kd=res at *
 have HV:Hid (V=.agg (zq nd).toArray):=zb hV
 clear hV
 obtain⟨hc1,hc2⟩:=hc
 go_enter Tryz.func159,Tryz.ntmps159
 go_wp2_with (refine qF rfl 166 (.tmp 0) rfl V _ rfl HV.out ?_;intro w1 hB hb hs)
 have N1:=NodeAt.ofB hB
 have c14:=N1.cells 14 (by omega)
 have c10:=N1.cells 10 (by omega)
 have c12:=N1.cells 12 (by omega)
 simp only[zq,List.getElem?_cons_zero,List.getElem?_cons_succ]at c14 c10 c12
 have HB:=zb hb
 have hs':=hs
 clear hB hb N1 hs
 generalize nd.cnt=cnt at *
 generalize nd.k0=k0 at *
 generalize nd.k1=k1 at *
 go_loop [5] (fun v=>∃k:Nat,k≤2∧(k:Int)≤cnt∧v=.int .i64 k∧Hid ((0<k→¬k0=kd)∧(1<k→¬k1=kd))) (fun v=>2-(intOf v).toNat)
 case atStart=>exact⟨0,by omega,by omega,rfl,by unfold Hid;omega⟩
 case round =>
  obtain⟨k,hk,hkc,rfl,HK⟩:=hrel
  by_cases hlt:(k:Int)<cnt
  ·have hk2:k<2:=by omega
   rcases(show k=0∨k=1 by omega)with rfl|rfl
   ·by_cases he:k0=kd
    ·have hr:res=true:=by rw[HP.out,he];simp;omega
     subst hr
     go_wp2_with fail
     go_ret
     exact⟨rfl,HB.out⟩
    ·go_wp2_with fail
     go_round
     case rel=>exact⟨1,by omega,by omega,by go_num,by unfold Hid;exact⟨fun _=>he,by omega⟩⟩
     case measure=>simp[intOf]
   ·by_cases he:k1=kd
    ·have hr:res=true:=by rw[HP.out,he];simp;omega
     subst hr
     go_wp2_with fail
     go_ret
     exact⟨rfl,HB.out⟩
    ·go_wp2_with fail
     go_round
     case rel=>exact⟨2,by omega,by omega,by go_num,by unfold Hid;exact⟨fun _=>HK.out.1 (by omega),fun _=>he⟩⟩
     case measure=>simp[intOf]
  ·have hr:res=false:=by
    have h:=HK.out
    rw[HP.out]
    simp only[Bool.or_eq_false_iff,Bool.and_eq_false_iff,decide_eq_false_iff_not,beq_eq_false_iff_ne]
    omega
   subst hr
   go_wp2_with fail
   go_ret
   exact⟨rfl,HB.out⟩
theorem NodeAt.loadB {w:World}{b:Nat}{n:PNode}(h:NodeAt w b n):(Instr.loadAt 166 (.pointer (some ⟨b,0,none⟩))).run Tryz.prog w=.ok (q1C n) w:=by
 have hr:w.rangeAt b 0 (zq n):=by
  intro j v hv
  have hj:j<22:=(List.getElem?_eq_some_iff.1 hv).1
  rw[Nat.zero_add,h.cells j hj]
  exact hv
 exact run_loadAt_mid w b 0 166 (zq n) _ hr Tryz.underlying166 rfl (by kernel_rfl)
theorem j6f (nd:PNode)(V:Value)(hV:V=q1C nd)(I:List PInfo)(base bi ci:Nat)(w:World)(h:w.ownsRow base 88 3 (.slice (some ⟨bi,0,none⟩) I.length ci) I.length (q0y I))(hI:I.length≤1000)
  (hf:-100000≤nd.fst∧nd.fst≤100000)(hsn:-100000≤nd.snd∧nd.snd≤100000)(hc:0≤nd.cnt∧nd.cnt≤2)(_hh:0≤nd.shi∧nd.shi≤100000)(a b:PInfo)(ha:q1D I nd.fst=a)(hb:q1D I nd.snd=b)(hra:-1≤a.reach∧a.reach≤1000000)(hrb:-1≤b.reach∧b.reach≤1000000)
  (k2:nd.kind=2)(h2:a=q2J∧b=q2J) :
  Calls Tryz.prog 125 #[V,.slice (some ⟨bi,0,none⟩) I.length ci] w fun e w'=>e=.returned (q2g (q3h nd a b))∧Below w.heap.size w w':=by
 have HK2:=zb k2
 have HH2:=zb h2
 clear k2 h2
 have HV:Hid (V=.agg (zq nd).toArray):=zb hV
 clear hV
 generalize hR:q3h nd a b=r
 have HT:=zb hR
 clear hR
 have t1:=fun w h=>q2x I nd.fst base bi ci w h hI hf
 have t2:=fun w h=>q2x I nd.snd base bi ci w h hI hsn
 rw[ha]at t1
 rw[hb]at t2
 have H:=zb h
 have HA:=zb hc
 clear h ha hb hc
 have hlt:bi<w.heap.size:=(H.out.lt bi rfl).2
 go_enter Tryz.func125,Tryz.ntmps125
 go_wp2_with (refine qF rfl 166 (.tmp 0) rfl V _ rfl HV.out ?_;intro w1 hB hb1 hs1;have HS1:=zb hs1;have l01:w.heap.size<w1.heap.size:=(by omega);clear hs1;have N1:=NodeAt.ofB hB;have c20:=N1.cells 20 (by omega);simp only[zq,List.getElem?_cons_zero,List.getElem?_cons_succ]at c20)
 have H1:=zb N1
 clear hB N1
 refine(t1 _ (zp H.out (hb1.alloc hb1.size _))).mono ?_
 rintro e w2 ⟨rfl,hb2⟩
 have hs2:=hb2.size
 simp at hs2
 have l02:w.heap.size<w2.heap.size:=by omega
 have l12:w1.heap.size<w2.heap.size:=by omega
 have HR2:Hid (w2.heap[w1.heap.size]?=some (.cells #[.bool false,.bool false,.int .i64 0] 88 (0,0))):=zb (by rw[hb2.block w1.heap.size (by simp)];exact zN _ _)
 have N2:=H1.out.only (bl:=[]) ((OnlyB.nw [] _ _).trans (.of_below hb2)) (by simp)
 have c21:=N2.cells 21 (by omega)
 simp only[zq,List.getElem?_cons_zero,List.getElem?_cons_succ]at c21
 have H2:=zb N2
 have B2:Below w.heap.size w w2:=(hb1.alloc hb1.size _).trans (hb2.mono (by have:=hb1.size;simp;omega))
 clear N2 c20 t1 hb2
 obtain⟨ax,ay,ar⟩:=a
 obtain⟨bx,bY,br⟩:=b
 simp only[]at hra hrb
 go_wp2_with fail
 refine(t2 _ (zp H.out (B2.alloc B2.size _))).mono ?_
 rintro e w3 ⟨rfl,hb3⟩
 have hs3:=hb3.size
 simp at hs3
 have HR3:Hid (w3.heap[w1.heap.size]?=some (.cells #[.bool false,.bool false,.int .i64 0] 88 (0,0))):=zb (by rw[hb3.block w1.heap.size (by simp;omega),zO _ _ (by omega)];exact HR2.out)
 have N3:=H2.out.only (bl:=[]) ((OnlyB.nw [] _ _).trans (.of_below hb3)) (by simp)
 have c0:=N3.cells 0 (by omega)
 have c15:=N3.cells 15 (by omega)
 have c18:=N3.cells 18 (by omega)
 simp only[zq,List.getElem?_cons_zero,List.getElem?_cons_succ]at c0 c15 c18
 have H3:=zb N3
 have B3:Below w.heap.size w w3:=(B2.alloc B2.size _).trans (hb3.mono (by have:=B2.size;simp;omega))
 have hg3:w3.heap[w2.heap.size]?=some (.cells #[.bool ax,.bool ay,.int .i64 ar] 88 (0,0)):=by rw[hb3.block w2.heap.size (by simp)];exact zN _ _
 have g0:=zC _ _ 0 _ _ _ hg3
 have g1:=zC _ _ 1 _ _ _ hg3
 have g2:=zC _ _ 2 _ _ _ hg3
 have r0:=zC _ _ 0 _ _ _ HR3.out
 have r1:=zC _ _ 1 _ _ _ HR3.out
 have r2:=zC _ _ 2 _ _ _ HR3.out
 have z0:∀j,w3.frozen? ⟨w1.heap.size,j,none⟩=false:=fun j=>by simp[World.frozen?,HR3.out]
 simp only[gz]at g0 g1 g2 r0 r1 r2
 have HL:Hid (w.heap.size≤w1.heap.size):=zb (by omega)
 have l1:w1.heap.size<w3.heap.size:=by omega
 have l2:w2.heap.size<w3.heap.size:=by omega
 have l3:w.heap.size<w3.heap.size:=by omega
 clear hg3 N3 c21 t2 hb3 H2 HR2 hb1 B2 H1 HS1 hs2 hs3 l01 l02 l12
 generalize hkd:nd.kind=kd at *
 have HKD:=zb hkd
 clear hkd
 have k2:=HK2.out
 have h2:=HH2.out
 clear HK2 HH2
 subst k2
 obtain⟨e1,e2⟩:=h2
 simp only[q2J,PInfo.mk.injEq]at e1 e2
 obtain⟨rfl,rfl,rfl⟩:=e1
 obtain⟨rfl,rfl,rfl⟩:=e2
 have HE:Hid (r=⟨q4u nd 3,q4u nd 4,-1⟩):=zb (by
  rw[←HT.out]
  unfold q3h
  rw[if_pos HKD.out,HKD.out]
  rfl)
 have hla:=q3W 2
 have ha3:=j1P nd V (HV.out) 3 HA.out
 have ha4:=j1P nd V (HV.out) 4 HA.out
 generalize q4u nd 3=x3 at *
 generalize q4u nd 4=x4 at *
 go_wp2_with fail
 refine(hla _).mono ?_
 rintro e w4 ⟨rfl,rfl⟩
 simp only[show q1X 2=false from rfl]
 obtain⟨W4,hW4⟩:∃W:World,W=(w3.alloc (.cells #[.bool false,.bool false,.int .i64 (-1)] 88)).alloc (.cells #[.bool false,.bool false,.int .i64 (-1)] 88):=⟨_,rfl⟩
 rw[←hW4]
 have b4:Below w3.heap.size w3 W4:=by rw[hW4];exact((zB _ _).alloc (zL _) _).alloc (by simp) _
 have s4:W4.heap.size=w3.heap.size+2:=by rw[hW4];simp
 have N4:=H3.out.only (bl:=[]) (.of_below b4) (by simp)
 have L4:=N4.loadB
 rw[show q1C nd=V from HV.out.symm]at L4
 have k4:=zK (a:=⟨w.heap.size,0,none⟩) (b4.block w.heap.size l3)
 rw[c0]at k4
 have hI4:W4.heap[w3.heap.size+1]?=some (.cells #[.bool false,.bool false,.int .i64 (-1)] 88 (0,0)):=by
  rw[hW4]
  have:=zN (w3.alloc (.cells #[.bool false,.bool false,.int .i64 (-1)] 88)) (.cells #[.bool false,.bool false,.int .i64 (-1)] 88)
  simpa using this
 have HW4:=zb hW4
 have S4:=zb s4
 have HI4:=zb hI4
 have HN4:=zb N4
 clear hW4 s4 hI4 N4 c0 c15 c18 g0 g1 g2 hla
 go_wp2_with (refine zj rfl 166 (.tmp 2) rfl ⟨w.heap.size,0,none⟩ V rfl L4 ?_)
 refine(ha3 _).mono ?_
 rintro e w5 ⟨rfl,b5⟩
 have s5:=b5.size
 have hI5:w5.heap[w3.heap.size+1]?=some (.cells #[.bool false,.bool false,.int .i64 (-1)] 88 (0,0)):=by rw[b5.block _ (by have:=S4.out;omega)];exact HI4.out
 have i0:=zC _ _ 0 _ _ _ hI5
 simp only[List.getElem?_toArray,List.getElem?_cons_zero]at i0
 have f0:w5.frozen? ⟨w3.heap.size+1,0,none⟩=false:=by simp[World.frozen?,hI5]
 have hI6:(w5.setCell ⟨w3.heap.size+1,0,none⟩ (.bool x3)).heap[w3.heap.size+1]?=some (.cells #[.bool x3,.bool false,.int .i64 (-1)] 88 (0,0)):=zH w5 _ 0 _ _ _ hI5
 obtain⟨W6,hW6⟩:∃W:World,W=w5.setCell ⟨w3.heap.size+1,0,none⟩ (.bool x3):=⟨_,rfl⟩
 rw[←hW6]at hI6
 have o6:OnlyB [w3.heap.size+1] W4 W6:=by rw[hW6];exact(OnlyB.of_below b5).setCell (by simp) _
 have s6:w3.heap.size+2≤W6.heap.size:=by have:=o6.size;have:=S4.out;omega
 have N6:=HN4.out.only o6 (by simp;omega)
 have L6:=N6.loadB
 rw[show q1C nd=V from HV.out.symm,hW6]at L6
 have HW6:=zb hW6
 have HI6:=zb hI6
 have HN6:=zb N6
 clear hI5 hI6 hW6 N6 L4 k4 b5 s5 ha3
 go_wp2_with (refine zj rfl 166 (.tmp 2) rfl ⟨w.heap.size,0,none⟩ V rfl L6 ?_)
 rw[←HW6.out]
 clear i0 f0
 refine(ha4 _).mono ?_
 rintro e w7 ⟨rfl,b7⟩
 have hI7:w7.heap[w3.heap.size+1]?=some (.cells #[.bool x3,.bool false,.int .i64 (-1)] 88 (0,0)):=by rw[b7.block _ (by omega)];exact HI6.out
 have i0:=zC _ _ 0 _ _ _ hI7
 have i1:=zC _ _ 1 _ _ _ hI7
 have i2:=zC _ _ 2 _ _ _ hI7
 simp only[gz]at i0 i1 i2
 have f1:w7.frozen? ⟨w3.heap.size+1,1,none⟩=false:=by simp[World.frozen?,hI7]
 have HR7:w7.heap[w1.heap.size]?=some (.cells #[.bool false,.bool false,.int .i64 0] 88 (0,0)):=by
  rw[b7.block _ (by omega),o6.block _ (by have:=S4.out;omega) (by simp;omega),b4.block _ l1]
  exact HR3.out
 have q0:=zC _ _ 0 _ _ _ HR7
 have q1:=zC _ _ 1 _ _ _ HR7
 have q2:=zC _ _ 2 _ _ _ HR7
 simp only[gz]at q0 q1 q2
 have y0:∀j,w7.frozen? ⟨w1.heap.size,j,none⟩=false:=fun j=>by simp[World.frozen?,HR7]
 have B7:Below w.heap.size w w7:=(B3.trans ((OnlyB.trans ((OnlyB.of_below (bl:=[w3.heap.size+1]) b4)) o6).below (B:=w.heap.size) (by omega) (by simp;omega))).trans (b7.mono (by omega))
 have hne:w3.heap.size+1≠w1.heap.size:=by omega
 have hl:w3.heap.size<w7.heap.size:=by have:=b7.size;omega
 have HB7:=zb B7
 clear HR7 hI7 L6 b7 ha4 r0 r1 r2 z0 B7
 go_wp2_with fail
 exact zP (v:=q2g r) (by rw[HE.out];simp[results,Tryz.results125,go_sem,q0,q1,q2]) rfl ⟨rfl,(((HB7.out.setCell (by show w.heap.size≤w3.heap.size+1;omega) _).setCell HL.out _).setCell HL.out _).setCell HL.out _⟩
theorem j6g (nd:PNode)(V:Value)(hV:V=q1C nd)(I:List PInfo)(base bi ci:Nat)(w:World)(h:w.ownsRow base 88 3 (.slice (some ⟨bi,0,none⟩) I.length ci) I.length (q0y I))(hI:I.length≤1000)
  (hf:-100000≤nd.fst∧nd.fst≤100000)(hsn:-100000≤nd.snd∧nd.snd≤100000)(_hc:0≤nd.cnt∧nd.cnt≤2)(_hh:0≤nd.shi∧nd.shi≤100000)(a b:PInfo)(ha:q1D I nd.fst=a)(hb:q1D I nd.snd=b)(hra:-1≤a.reach∧a.reach≤1000000)(hrb:-1≤b.reach∧b.reach≤1000000)
  (k9:nd.kind=9)(h9:b=q2J) :
  Calls Tryz.prog 125 #[V,.slice (some ⟨bi,0,none⟩) I.length ci] w fun e w'=>e=.returned (q2g (q3h nd a b))∧Below w.heap.size w w':=by
 have HK9:=zb k9
 have HH9:=zb h9
 clear k9 h9
 have HV:Hid (V=.agg (zq nd).toArray):=zb hV
 clear hV
 generalize hR:q3h nd a b=r
 have HT:=zb hR
 clear hR
 have t1:=fun w h=>q2x I nd.fst base bi ci w h hI hf
 have t2:=fun w h=>q2x I nd.snd base bi ci w h hI hsn
 rw[ha]at t1
 rw[hb]at t2
 have H:=zb h
 clear h ha hb
 have hlt:bi<w.heap.size:=(H.out.lt bi rfl).2
 go_enter Tryz.func125,Tryz.ntmps125
 go_wp2_with (refine qF rfl 166 (.tmp 0) rfl V _ rfl HV.out ?_;intro w1 hB hb1 hs1;have HS1:=zb hs1;have l01:w.heap.size<w1.heap.size:=(by omega);clear hs1;have N1:=NodeAt.ofB hB;have c20:=N1.cells 20 (by omega);simp only[zq,List.getElem?_cons_zero,List.getElem?_cons_succ]at c20)
 have H1:=zb N1
 clear hB N1
 refine(t1 _ (zp H.out (hb1.alloc hb1.size _))).mono ?_
 rintro e w2 ⟨rfl,hb2⟩
 have hs2:=hb2.size
 simp at hs2
 have l02:w.heap.size<w2.heap.size:=by omega
 have l12:w1.heap.size<w2.heap.size:=by omega
 have HR2:Hid (w2.heap[w1.heap.size]?=some (.cells #[.bool false,.bool false,.int .i64 0] 88 (0,0))):=zb (by rw[hb2.block w1.heap.size (by simp)];exact zN _ _)
 have N2:=H1.out.only (bl:=[]) ((OnlyB.nw [] _ _).trans (.of_below hb2)) (by simp)
 have c21:=N2.cells 21 (by omega)
 simp only[zq,List.getElem?_cons_zero,List.getElem?_cons_succ]at c21
 have H2:=zb N2
 have B2:Below w.heap.size w w2:=(hb1.alloc hb1.size _).trans (hb2.mono (by have:=hb1.size;simp;omega))
 clear N2 c20 t1 hb2
 obtain⟨ax,ay,ar⟩:=a
 obtain⟨bx,bY,br⟩:=b
 simp only[]at hra hrb
 go_wp2_with fail
 refine(t2 _ (zp H.out (B2.alloc B2.size _))).mono ?_
 rintro e w3 ⟨rfl,hb3⟩
 have hs3:=hb3.size
 simp at hs3
 have HR3:Hid (w3.heap[w1.heap.size]?=some (.cells #[.bool false,.bool false,.int .i64 0] 88 (0,0))):=zb (by rw[hb3.block w1.heap.size (by simp;omega),zO _ _ (by omega)];exact HR2.out)
 have N3:=H2.out.only (bl:=[]) ((OnlyB.nw [] _ _).trans (.of_below hb3)) (by simp)
 have c0:=N3.cells 0 (by omega)
 have c15:=N3.cells 15 (by omega)
 have c18:=N3.cells 18 (by omega)
 simp only[zq,List.getElem?_cons_zero,List.getElem?_cons_succ]at c0 c15 c18
 have H3:=zb N3
 have B3:Below w.heap.size w w3:=(B2.alloc B2.size _).trans (hb3.mono (by have:=B2.size;simp;omega))
 have hg3:w3.heap[w2.heap.size]?=some (.cells #[.bool ax,.bool ay,.int .i64 ar] 88 (0,0)):=by rw[hb3.block w2.heap.size (by simp)];exact zN _ _
 have g0:=zC _ _ 0 _ _ _ hg3
 have g1:=zC _ _ 1 _ _ _ hg3
 have g2:=zC _ _ 2 _ _ _ hg3
 have r0:=zC _ _ 0 _ _ _ HR3.out
 have r1:=zC _ _ 1 _ _ _ HR3.out
 have r2:=zC _ _ 2 _ _ _ HR3.out
 have z0:∀j,w3.frozen? ⟨w1.heap.size,j,none⟩=false:=fun j=>by simp[World.frozen?,HR3.out]
 simp only[gz]at g0 g1 g2 r0 r1 r2
 have HL:Hid (w.heap.size≤w1.heap.size):=zb (by omega)
 have l1:w1.heap.size<w3.heap.size:=by omega
 have l2:w2.heap.size<w3.heap.size:=by omega
 have l3:w.heap.size<w3.heap.size:=by omega
 clear hg3 N3 c21 t2 hb3 H2 HR2 hb1 B2 H1 HS1 hs2 hs3 l01 l02 l12
 generalize hkd:nd.kind=kd at *
 have HKD:=zb hkd
 clear hkd
 have k9:=HK9.out
 have h9:=HH9.out
 clear HK9 HH9
 subst k9
 simp only[q2J,PInfo.mk.injEq]at h9
 obtain⟨rfl,rfl,rfl⟩:=h9
 have HE:Hid (r=⟨ax&&(nd.var != 3),ay&&(nd.var != 4),ar⟩):=zb (by
  rw[←HT.out]
  unfold q3h
  rw[if_neg (by rw[HKD.out];decide),if_pos HKD.out,HKD.out]
  have e:mxP ⟨ax,ay,ar⟩ ⟨false,false,-1⟩=ar:=by unfold mxP;simp only[];rw[if_neg (by omega)]
  rw[e]
  simp[q1X,bne])
 have hla:=q3W 9
 have hbr:¬(-1 > ar):=by omega
 generalize nd.var=vr at *
 cases ax<;>cases ay
 all_goals
  go_wp2_with fail
  refine(hla _).mono ?_
  rintro e w4 ⟨rfl,rfl⟩
  simp only[show q1X 9=false from rfl]
  go_wp2_with fail
  exact zP (v:=q2g r) (by rw[HE.out];simp[results,Tryz.results125,go_sem,r0,r1,r2,l1]) rfl ⟨rfl,((((B3.setCell HL.out _).setCell HL.out _).setCell HL.out _).alloc (by have:=B3.size;simp;omega) _).alloc (by have:=B3.size;simp;omega) _⟩
theorem j6h (nd:PNode)(V:Value)(hV:V=q1C nd)(I:List PInfo)(base bi ci:Nat)(w:World)(h:w.ownsRow base 88 3 (.slice (some ⟨bi,0,none⟩) I.length ci) I.length (q0y I))(hI:I.length≤1000)
  (hf:-100000≤nd.fst∧nd.fst≤100000)(hsn:-100000≤nd.snd∧nd.snd≤100000)(_hc:0≤nd.cnt∧nd.cnt≤2)(hh:0≤nd.shi∧nd.shi≤100000)(a b:PInfo)(ha:q1D I nd.fst=a)(hb:q1D I nd.snd=b)(hra:-1≤a.reach∧a.reach≤1000000)(hrb:-1≤b.reach∧b.reach≤1000000)
  (k2:¬nd.kind=2)(k9:¬nd.kind=9) :
  Calls Tryz.prog 125 #[V,.slice (some ⟨bi,0,none⟩) I.length ci] w fun e w'=>e=.returned (q2g (q3h nd a b))∧Below w.heap.size w w':=by
 have HV:Hid (V=.agg (zq nd).toArray):=zb hV
 clear hV
 generalize hR:q3h nd a b=r
 have HT:=zb hR
 clear hR
 have t1:=fun w h=>q2x I nd.fst base bi ci w h hI hf
 have t2:=fun w h=>q2x I nd.snd base bi ci w h hI hsn
 rw[ha]at t1
 rw[hb]at t2
 have H:=zb h
 clear h ha hb
 have hlt:bi<w.heap.size:=(H.out.lt bi rfl).2
 go_enter Tryz.func125,Tryz.ntmps125
 go_wp2_with (refine qF rfl 166 (.tmp 0) rfl V _ rfl HV.out ?_;intro w1 hB hb1 hs1;have HS1:=zb hs1;have l01:w.heap.size<w1.heap.size:=(by omega);clear hs1;have N1:=NodeAt.ofB hB;have c20:=N1.cells 20 (by omega);simp only[zq,List.getElem?_cons_zero,List.getElem?_cons_succ]at c20)
 have H1:=zb N1
 clear hB N1
 refine(t1 _ (zp H.out (hb1.alloc hb1.size _))).mono ?_
 rintro e w2 ⟨rfl,hb2⟩
 have hs2:=hb2.size
 simp at hs2
 have l02:w.heap.size<w2.heap.size:=by omega
 have l12:w1.heap.size<w2.heap.size:=by omega
 have HR2:Hid (w2.heap[w1.heap.size]?=some (.cells #[.bool false,.bool false,.int .i64 0] 88 (0,0))):=zb (by rw[hb2.block w1.heap.size (by simp)];exact zN _ _)
 have N2:=H1.out.only (bl:=[]) ((OnlyB.nw [] _ _).trans (.of_below hb2)) (by simp)
 have c21:=N2.cells 21 (by omega)
 simp only[zq,List.getElem?_cons_zero,List.getElem?_cons_succ]at c21
 have H2:=zb N2
 have B2:Below w.heap.size w w2:=(hb1.alloc hb1.size _).trans (hb2.mono (by have:=hb1.size;simp;omega))
 clear N2 c20 t1 hb2
 obtain⟨ax,ay,ar⟩:=a
 obtain⟨bx,bY,br⟩:=b
 simp only[]at hra hrb
 go_wp2_with fail
 refine(t2 _ (zp H.out (B2.alloc B2.size _))).mono ?_
 rintro e w3 ⟨rfl,hb3⟩
 have hs3:=hb3.size
 simp at hs3
 have HR3:Hid (w3.heap[w1.heap.size]?=some (.cells #[.bool false,.bool false,.int .i64 0] 88 (0,0))):=zb (by rw[hb3.block w1.heap.size (by simp;omega),zO _ _ (by omega)];exact HR2.out)
 have N3:=H2.out.only (bl:=[]) ((OnlyB.nw [] _ _).trans (.of_below hb3)) (by simp)
 have c0:=N3.cells 0 (by omega)
 have c15:=N3.cells 15 (by omega)
 have c18:=N3.cells 18 (by omega)
 simp only[zq,List.getElem?_cons_zero,List.getElem?_cons_succ]at c0 c15 c18
 have H3:=zb N3
 have B3:Below w.heap.size w w3:=(B2.alloc B2.size _).trans (hb3.mono (by have:=B2.size;simp;omega))
 have hg3:w3.heap[w2.heap.size]?=some (.cells #[.bool ax,.bool ay,.int .i64 ar] 88 (0,0)):=by rw[hb3.block w2.heap.size (by simp)];exact zN _ _
 have g0:=zC _ _ 0 _ _ _ hg3
 have g1:=zC _ _ 1 _ _ _ hg3
 have g2:=zC _ _ 2 _ _ _ hg3
 have r0:=zC _ _ 0 _ _ _ HR3.out
 have r1:=zC _ _ 1 _ _ _ HR3.out
 have r2:=zC _ _ 2 _ _ _ HR3.out
 have z0:∀j,w3.frozen? ⟨w1.heap.size,j,none⟩=false:=fun j=>by simp[World.frozen?,HR3.out]
 simp only[gz]at g0 g1 g2 r0 r1 r2
 have HL:Hid (w.heap.size≤w1.heap.size):=zb (by omega)
 have l1:w1.heap.size<w3.heap.size:=by omega
 have l2:w2.heap.size<w3.heap.size:=by omega
 have l3:w.heap.size<w3.heap.size:=by omega
 clear hg3 N3 c21 t2 hb3 H2 HR2 hb1 B2 H1 HS1 hs2 hs3 l01 l02 l12
 generalize hkd:nd.kind=kd at *
 have HKD:=zb hkd
 clear hkd
 have HE:Hid (r=⟨ax || bx,ay || bY,if q1X kd then q4q nd.shi (if br > ar then br else ar)else if br > ar then br else ar⟩):=zb (by
  rw[←HT.out]
  unfold q3h
  rw[if_neg (by rw[HKD.out];exact k2),if_neg (by rw[HKD.out];exact k9),HKD.out]
  rfl)
 have hla:=q3W kd
 have hrr:=fun x hx=>j1R nd.shi x hh hx
 generalize nd.shi=shi at *
 cases ax<;>cases ay
 all_goals
  by_cases hbr:br > ar
  ·rw[if_pos hbr]at HE
   cases hah:q1X kd with
   |true =>
    go_wp2_with fail
    refine(hla _).mono ?_
    rintro e w4 ⟨rfl,rfl⟩
    simp only[hah]
    go_wp2_with fail
    refine(hrr _ hrb _).mono ?_
    rintro e w5 ⟨rfl,rfl⟩
    go_wp2_with fail
    exact zP (v:=q2g r) (by rw[HE.out];simp[results,Tryz.results125,go_sem,r0,r1,r2,l1,hah]) rfl ⟨rfl,((((B3.setCell HL.out _).setCell HL.out _).setCell HL.out _).alloc (by have:=B3.size;simp;omega) _).alloc (by have:=B3.size;simp;omega) _⟩
   |false =>
    go_wp2_with fail
    refine(hla _).mono ?_
    rintro e w4 ⟨rfl,rfl⟩
    simp only[hah]
    go_wp2_with fail
    exact zP (v:=q2g r) (by rw[HE.out];simp[results,Tryz.results125,go_sem,r0,r1,r2,l1,hah]) rfl ⟨rfl,((((B3.setCell HL.out _).setCell HL.out _).setCell HL.out _).alloc (by have:=B3.size;simp;omega) _).alloc (by have:=B3.size;simp;omega) _⟩
  ·rw[if_neg hbr]at HE
   cases hah:q1X kd with
   |true =>
    go_wp2_with fail
    refine(hla _).mono ?_
    rintro e w4 ⟨rfl,rfl⟩
    simp only[hah]
    go_wp2_with fail
    refine(hrr _ hra _).mono ?_
    rintro e w5 ⟨rfl,rfl⟩
    go_wp2_with fail
    exact zP (v:=q2g r) (by rw[HE.out];simp[results,Tryz.results125,go_sem,r0,r1,r2,l1,hah]) rfl ⟨rfl,((((B3.setCell HL.out _).setCell HL.out _).setCell HL.out _).alloc (by have:=B3.size;simp;omega) _).alloc (by have:=B3.size;simp;omega) _⟩
   |false =>
    go_wp2_with fail
    refine(hla _).mono ?_
    rintro e w4 ⟨rfl,rfl⟩
    simp only[hah]
    go_wp2_with fail
    exact zP (v:=q2g r) (by rw[HE.out];simp[results,Tryz.results125,go_sem,r0,r1,r2,l1,hah]) rfl ⟨rfl,((((B3.setCell HL.out _).setCell HL.out _).setCell HL.out _).alloc (by have:=B3.size;simp;omega) _).alloc (by have:=B3.size;simp;omega) _⟩
def q6m:zg→Prop
 | .nil=>True
 | .node _ _ y l r=>q0h y.hi≤999∧q0h y.lo≤999∧q6m l∧q6m r
theorem q9P {t:Tok}(h:q1A t)(hn:q4m t.text=true):q0h t.text≤999:=by
 obtain⟨hd,_,h3⟩:=q4E h hn
 have:=q9g hd t.text.length (zL _)
 rw[List.take_length]at this
 have hp:10 ^ t.text.length≤10 ^ 3:=Nat.pow_le_pow_right (by omega) h3
 omega
theorem j2C {t:Tok}(h:q1A t)(hn:q4k t.text=true):q0h t.text≤999:=by
 unfold q4k at hn
 rw[Bool.or_eq_true]at hn
 rcases hn with hn|hn
 ·have:t.text=[42]:=by simpa using hn
  rw[this]
  decide
 ·exact q9P h hn
theorem j5W:∀(F:zg) (u:List Tok),q0a F u→q5E u→q6m F:=by
 intro F
 induction F with
 |nil=>intro u h _;trivial
 |node p sp y l r ihl ihr =>
  intro u h hg
  have z:q0h []≤999:=by decide
  rcases h with⟨hn,e1,e2,rfl,rfl,_⟩|⟨hn,hw,e1,e2,rfl,v,q1,q2,q3,ul,hv,ea,hl,rfl⟩|⟨hn,hw,ea,e1,e2,q1,q2,q3,ul,ur,hl,hr,rfl⟩|⟨hn,hw,ea,rfl,hlo,hhi,q1,q2,q3,q4,q5,q6,ul,hl,rfl⟩|⟨hn,hw,ea,hlo,hhi,q1,q2,q3,q4,q5,q6,q7,ul,ur,hl,hr,rfl⟩|⟨hn,hw,ea,e1,e2,rfl,rfl,rfl⟩
  ·exact⟨by rw[e2];exact z,by rw[e1];exact z,trivial,trivial⟩
  ·exact⟨by rw[e2];exact z,by rw[e1];exact z,ihl ul hl (q1b hg (by intro t ht;simp[ht])),trivial⟩
  ·exact⟨by rw[e2];exact z,by rw[e1];exact z,ihl ul hl (q1b hg (by intro t ht;simp[ht])),ihr ur hr (q1b hg (by intro t ht;simp[ht]))⟩
  ·exact⟨j2C (hg ⟨y.hi,q3⟩ (by simp)) hhi,q9P (hg ⟨y.lo,q1⟩ (by simp)) hlo,ihl ul hl (q1b hg (by intro t ht;simp[ht])),trivial⟩
  ·exact⟨j2C (hg ⟨y.hi,q3⟩ (by simp)) hhi,q9P (hg ⟨y.lo,q1⟩ (by simp)) hlo,ihl ul hl (q1b hg (by intro t ht;simp[ht])),ihr ur hr (q1b hg (by intro t ht;simp[ht]))⟩
  ·exact⟨by rw[e2];exact z,by rw[e1];exact z,trivial,trivial⟩
theorem j5Q:∀F:zg,q6m F→zf F≤999*(zv F:Int):=by
 intro F
 induction F with
 |nil=>intro _;simp[zf,zv]
 |node p sp y l r ihl ihr =>
  intro h
  obtain⟨h1,_,h2,h3⟩:=h
  have a:=ihl h2
  have b:=ihr h3
  have c:=q5W l
  have d:=q5W r
  simp only[zf,mxI,zv]
  have h1':(q0h y.hi:Int)≤999:=by omega
  repeat' split
  all_goals omega
theorem j7O (F:zg):∀G,G∈zw F→q6m F→q6m G∧zv G≤zv F:=by
 induction F with
 |nil=>intro G h;simp[zw]at h
 |node p sp y l r ihl ihr =>
  intro G h hs
  simp only[zw,List.mem_cons,List.mem_append]at h
  rcases h with rfl|h|h
  ·exact⟨hs,zL _⟩
  ·obtain⟨a,b⟩:=ihl G h hs.2.2.1
   exact⟨a,by simp only[zv];omega⟩
  ·obtain⟨a,b⟩:=ihr G h hs.2.2.2
   exact⟨a,by simp only[zv];omega⟩
theorem j1y (F:zg)(hF:q3x F)(hS:q6m F)(hN:zv F≤255)(m:Nat)(hm:m<zv F)(k:Nat)(hk:k≤m+1) :
  ∃(nd:PNode) (G:zg) (a b:PInfo),(zw F)[m]?=some G∧(q0p F 0)[m]?=some nd∧q1D (q0X F k) nd.fst=a∧q1D (q0X F k) nd.snd=b∧q3h nd a b=qk G∧j0i nd a b=q1i G∧j4C nd=qz G∧openP nd=qK G∧nd.sat=q5m G∧nd.pos=j2X G
   ∧ (-100000≤nd.fst∧nd.fst≤100000)∧(-100000≤nd.snd∧nd.snd≤100000)∧(0≤nd.cnt∧nd.cnt≤2)∧(0≤nd.shi∧nd.shi≤100000)∧(-1≤a.reach∧a.reach≤1000000)∧(-1≤b.reach∧b.reach≤1000000)∧(nd.kind=2→a=q2J∧b=q2J)∧(nd.kind=9→b=q2J):=by
 obtain⟨p,sp,y,l,r,h1,h2,h3,h4,h5⟩:=j7u F hF m hm k hk
 have hmem:Go.Deep.BT.node p sp y l r∈zw F:=zI h1
 obtain⟨hs1,hs2⟩:=j7O F _ hmem hS
 obtain⟨i1,_,i3,i4⟩:=hs1
 have hsz:zv (.node p sp y l r)=1+zv l+zv r:=rfl
 have rl:=j5Q l i3
 have rr:=j5Q r i4
 have gl:=q5W l
 have gr:=q5W r
 refine⟨zQ m p sp y l r,.node p sp y l r,qk l,qk r,h1,h2,h4,h5,info_of m p sp h3,wrong_of m p sp h3,back_of m p sp h3,open_of m p sp h3,rfl,rfl,?_,?_,?_,?_,⟨gl,?_⟩,⟨gr,?_⟩,?_,?_⟩
 ·show -100000≤(if zv l=0 then(-1:Int)else(m:Int)+1)∧(if zv l=0 then(-1:Int)else(m:Int)+1)≤100000
  split<;>omega
 ·show -100000≤(if zv r=0 then(-1:Int)else(m:Int)+1+zv l)∧(if zv r=0 then(-1:Int)else(m:Int)+1+zv l)≤100000
  split<;>omega
 ·show 0≤(if zx y.word then(y.args.length:Int)else 0)∧(if zx y.word then(y.args.length:Int)else 0)≤2
  have hn:=h3.word.name
  rcases h3.shape with⟨k2,_,_,_,_,ha⟩|⟨_,_,_,_,_,ha⟩|⟨_,_,_,_,_,v,ha,_⟩|⟨_,_,_,_,ha⟩|⟨_,_,_,_,ha,_⟩|⟨_,_,_,_,ha⟩<;>(try rw[ha])<;>split<;>simp<;>omega
 ·show 0≤q3w y.hi∧q3w y.hi≤100000
  rw[h3.hi]
  omega
 ·show zf l≤1000000
  omega
 ·show zf r≤1000000
  omega
 ·intro hk2
  have hk2':zo y.word=2:=hk2
  rcases h3.shape with⟨_,rfl,rfl,_⟩|⟨k,_⟩|⟨k,_⟩|⟨k,_⟩|⟨k,_⟩|⟨k,_⟩
  ·exact⟨rfl,rfl⟩
  all_goals (rw[hk2']at k;exact absurd k (by decide))
 ·intro hk9
  have hk9':zo y.word=9:=hk9
  rcases h3.shape with⟨k,_⟩|⟨k,_⟩|⟨_,_,rfl,_⟩|⟨k,_⟩|⟨k,_⟩|⟨k,_⟩
  ·rw[hk9']at k;exact absurd k (by decide)
  ·rw[hk9']at k;exact absurd k (by decide)
  ·rfl
  all_goals (rw[hk9']at k;exact absurd k (by decide))
theorem j9K (N:Nat):(madeCells (Value.agg #[.bool false,.bool false,.int .i64 0]).cells (N*3)).toList=q0y (List.replicate N ⟨false,false,0⟩):=by
 apply List.ext_getElem?
 intro t
 by_cases ht:t<N*3
 ·have hi:t / 3<(List.replicate N (⟨false,false,0⟩:PInfo)).length:=by simp;omega
  have hR:=j1k (List.replicate N (⟨false,false,0⟩:PInfo)) (t / 3) hi (t % 3) (by omega)
  rw[show t / 3*3+t % 3=t by omega]at hR
  rw[hR]
  simp only[List.getElem_replicate]
  have hc:t % 3=0∨t % 3=1∨t % 3=2:=by omega
  rcases hc with hc|hc|hc<;>simp[madeCells,Value.cells,j1m,hc,ht]
 ·rw[List.getElem?_eq_none (by simp[madeCells];omega),List.getElem?_eq_none (by rw[j1l];simp;omega)]
theorem j7J (nd:PNode)(V:Value)(hV:V=q1C nd)(I:List PInfo)(base bi ci:Nat)(w:World)(h:w.ownsRow base 88 3 (.slice (some ⟨bi,0,none⟩) I.length ci) I.length (q0y I))(hI:I.length≤1000)
  (hf:-100000≤nd.fst∧nd.fst≤100000)(hsn:-100000≤nd.snd∧nd.snd≤100000)(hc:0≤nd.cnt∧nd.cnt≤2)(hh:0≤nd.shi∧nd.shi≤100000)(a b:PInfo)(ha:q1D I nd.fst=a)(hb:q1D I nd.snd=b)(hra:-1≤a.reach∧a.reach≤1000000)(hrb:-1≤b.reach∧b.reach≤1000000)
  (h2:nd.kind=2→a=q2J∧b=q2J)(h9:nd.kind=9→b=q2J) :
  Calls Tryz.prog 125 #[V,.slice (some ⟨bi,0,none⟩) I.length ci] w fun e w'=>e=.returned (q2g (q3h nd a b))∧Below w.heap.size w w':=by
 by_cases k2:nd.kind=2
 ·exact j6f nd V hV I base bi ci w h hI hf hsn hc hh a b ha hb hra hrb k2 (h2 k2)
 ·by_cases k9:nd.kind=9
  ·exact j6g nd V hV I base bi ci w h hI hf hsn hc hh a b ha hb hra hrb k9 (h9 k9)
  ·exact j6h nd V hV I base bi ci w h hI hf hsn hc hh a b ha hb hra hrb k2 k9
structure NodesAt (w:World)(gn cn:Nat)(ns:List PNode):Prop where
 cells:∀m nd,ns[m]?=some nd→w.rangeAt gn (m*22) (zq nd)
 cap:ns.length≤cn∧cn≤maxLen
 lt:gn<w.heap.size
theorem NodesAt.of_row {w:World}{base gn cn:Nat}{ns:List PNode}(h:w.ownsRow base 166 22 (.slice (some ⟨gn,0,none⟩) ns.length cn) ns.length (qw ns)):NodesAt w gn cn ns:=by
 refine⟨fun m nd hm j v hv=>?_,?_,(h.lt gn rfl).2⟩
 ·have hj:j<22:=(List.getElem?_eq_some_iff.1 hv).1
  obtain⟨hlt,he⟩:=List.getElem?_eq_some_iff.1 hm
  rw[h.cellAt _ (by omega)]
  have e:ns=ns.take m++nd::ns.drop (m+1):=by rw[←he];simp
  have hk:=j1x (ns.take m) (ns.drop (m+1)) nd j hj
  rw[←e]at hk
  have e2:(ns.take m).length=m:=by simp;omega
  rw[e2]at hk
  rw[hk]
  exact hv
 ·rcases h.2 with⟨h',_⟩|⟨g',cap',cur,h',_,_,a,b,_⟩
  ·simp at h'
  ·simp only[Value.slice.injEq,Option.some.injEq,Addr.mk.injEq,and_true,true_and]at h'
   obtain⟨rfl,rfl⟩:=h'
   exact⟨a,b⟩
theorem NodesAt.below {w w':World}{gn cn:Nat}{ns:List PNode}(h:NodesAt w gn cn ns)(hb:Below w.heap.size w w'):NodesAt w' gn cn ns:=
 ⟨fun m nd hm j v hv=>by rw[zK (w:=w) (hb.block gn h.lt)];exact h.cells m nd hm j v hv,h.cap,zT h.lt hb.size⟩
theorem NodesAt.load {w:World}{gn cn:Nat}{ns:List PNode}(h:NodesAt w gn cn ns){m:Nat}{nd:PNode}(hm:ns[m]?=some nd):(Instr.loadAt 166 (.pointer (some ⟨gn,m*22,none⟩))).run Tryz.prog w=.ok (q1C nd) w:=
 run_loadAt_mid w gn (m*22) 166 (zq nd) _ (h.cells m nd hm) Tryz.underlying166 rfl (by kernel_rfl)
theorem j9u:(Tryz.prog.info? 88).map (fun i=>(i.zero,i.size,i.bytes))=some (some (.agg #[.bool false,.bool false,.int .i64 0]),3,16):=by kernel_rfl
def IRel (F:zg)(w:World)(gi:Nat)(gk:Nat)(vi:Value)(wr:World):Prop:=
 ∃k:Nat,k≤zv F∧k≤gk∧vi=.int .i64 ((k:Int)-1)∧wr.ownsRow w.heap.size 88 3 (.slice (some ⟨gi,0,none⟩) (zv F) (zv F)) (zv F) (q0y (q0X F k))∧Below w.heap.size w wr
theorem j6i (F:zg)(hF:q3x F)(hS:q6m F)(hN:zv F≤255)(gn cn:Nat)(w:World)(h:NodesAt w gn cn (q0p F 0)) :
  Calls Tryz.prog 95 #[.slice (some ⟨gn,0,none⟩) (zv F) cn] w fun e w'=>∃gi,e=.returned (.slice (some ⟨gi,0,none⟩) (zv F) (zv F))∧w'.ownsRow w.heap.size 88 3 (.slice (some ⟨gi,0,none⟩) (zv F) (zv F)) (zv F) (q0y ((zw F).map qk))∧Below w.heap.size w w':=by
 have H:=zb h
 have hlt:=h.lt
 have HNF:=zb (fun m hm k hk=>j1y F hF hS hN m hm k hk)
 have HST:=zb (fun k G h=>j5i F k G h)
 have HZ:=zb (j0p F)
 have HAL:=zb (j7j F)
 have HLN:=zb (fun k h=>q5I F k h)
 clear h
 obtain⟨i0,hi0,hz0,hz1,hz2⟩:=info_parts j9u
 generalize hn:zv F=N at *
 have HSZ:=zb hn
 clear hn
 go_enter Tryz.func95,Tryz.ntmps95
 go_wp2_with (at_make;refine wpList_make_full _ rfl (.tmp 7) (.tmp 7) 194 rfl w.heap.size 88 i0 _ 3 Tryz.underlying194 hi0 hz0 hz1 .i64 .i64 N N N rfl rfl rfl rfl (by rw[hz2];omega) (by unfold maxLen;omega) (zL _) ?_;intro w1 hown1 hgrow1)
 rw[j9K]at hown1
 have B1:Below w.heap.size w w1:=⟨hgrow1.os,hgrow1.tape,hgrow1.output,hgrow1.size,fun k hk=>hgrow1.block k hk (by simp)⟩
 have HB1:=zb B1
 have HO1:Hid (w1.ownsRow w.heap.size 88 3 (.slice (some ⟨w.heap.size,0,none⟩) N N) N (q0y (q0X F N))):=zb (by rw[HAL.out];exact hown1)
 clear hown1 hgrow1 B1 hi0 hz0 hz1 hz2
 go_loopg [4] N (fun g vi wr=>IRel F w w.heap.size g vi wr)
 case atStart=>exact⟨N,by have:=HSZ.out;omega,zL _,rfl,by rw[HSZ.out];exact HO1.out,HB1.out⟩
 case round =>
  obtain⟨k,hk,hg,rfl,hown,hbel⟩:=hrel
  rw[HSZ.out]at hk hown
  have HG:=zb hg
  have HO:=zb hown
  have HB:=zb hbel
  clear hg hown hbel
  cases k with
  |zero =>
   have ho:=HO.out
   rw[HZ.out]at ho
   go_wp2_with fail
   go_ret
   exact⟨_,rfl,ho,HB.out⟩
  |succ m =>
   have e:(((m+1:Nat):Int)-1)=(m:Int):=by omega
   rw[e]
   clear e
   obtain⟨nd,G,a,b,g1,g2,g3,g4,g5,_,_,_,_,_,f1,f2,f3,f4,f5,f6,f7,f8⟩:=HNF.out m (by omega) (m+1) (zL _)
   have hNr:=H.out.below HB.out
   have hL:=hNr.load g2
   obtain⟨V,hV⟩:∃V,V=q1C nd:=⟨_,rfl⟩
   rw[←hV]at hL
   have hln:=HLN.out (m+1) (by omega)
   have hO:=HO.out
   have hcall:=fun w' (h':w'.ownsRow w.heap.size 88 3 (.slice (some ⟨w.heap.size,0,none⟩) (q0X F (m+1)).length N) (q0X F (m+1)).length (q0y (q0X F (m+1))))=>j7J nd V hV (q0X F (m+1)) w.heap.size w.heap.size N w' h' (by rw[hln];omega) f1 f2 f3 f4 a b g3 g4 f5 f6 f7 f8
   rw[g5,hln]at hcall
   have HST':=zb (HST.out m G g1)
   generalize hgi:qk G=gi at *
   have HCL:=zb hcall
   have hgn:=hNr.lt
   clear hcall g2 g3 g4 g5 f1 f2 f3 f4 f5 f6 f7 f8 hV hNr hln hO hgi
   obtain⟨ix,iy,ir⟩:=gi
   go_wp2_with (refine zj rfl 166 (.tmp 18) rfl ⟨gn,m*22,none⟩ V rfl hL ?_)
   refine(HCL.out wr HO.out).mono ?_
   rintro e w2 ⟨rfl,b2⟩
   have hO2:=zp HO.out b2
   have hl2:w.heap.size<w2.heap.size:=(hO2.lt w.heap.size rfl).2
   have hin:(q0y (q0X F (m+1))).length=N*3:=hO2.1
   have c0:=hO2.cellAt (m*3) (by omega)
   have c1:=hO2.cellAt (m*3+1) (by omega)
   have c2:=hO2.cellAt (m*3+2) (by omega)
   rw[zG (by omega)]at c0 c1 c2
   have z0:=hO2.frozenAt (m*3)
   have z1:=hO2.frozenAt (m*3+1)
   have z2:=hO2.frozenAt (m*3+2)
   have B2:Below w.heap.size w w2:=HB.out.trans (b2.mono HB.out.size)
   have HO2:=zb hO2
   have HB2:=zb B2
   generalize (q0y (q0X F (m+1)))[m*3]=y0 at c0
   generalize (q0y (q0X F (m+1)))[m*3+1]=y1 at c1
   generalize (q0y (q0X F (m+1)))[m*3+2]=y2 at c2
   have HIN:=zb hin
   clear hO2 B2 b2 hL HCL hin
   go_wp2_with fail
   have hg1:0<gk:=by have:=HG.out;omega
   go_roundg (gk-1)
   case measure=>omega
   case rel =>
    refine⟨m,by have:=HSZ.out;omega,by have:=HG.out;omega,by first|rfl|go_num,?_,?_⟩
    ·rw[HSZ.out,HST'.out,j5c _ _ (by have:=HLN.out (m+1) (by omega);omega)]
     exact(((HO2.out.stored _ _).1.stored _ _).1.stored _ _).1.alloc _
    ·exact(((HB2.out.setCell (zL _) _).setCell (zL _) _).setCell (zL _) _).alloc (by have:=HB2.out.size;simp;omega) _
theorem j1j (b N cap:Nat)(xs:List Value)(_hN:N≤300)(n:Int)(w:World)(h:w.ownsRow 0 137 1 (.slice (some ⟨b,0,none⟩) N cap) N xs)(v:Value)(hv:v=(if n<0∨(N:Int)≤n then .slice none 0 0 else xs.getD n.toNat (.slice none 0 0)))(hs:∀u∈xs,∃a m c,u=.slice a m c) :
  Calls Tryz.prog 72 #[.slice (some ⟨b,0,none⟩) N cap,.int .i64 n] w fun e w'=>e=.returned v∧Below w.heap.size w w':=by
 have hlen:xs.length=N*1:=h.1
 by_cases hn:n<0
 ·rw[if_pos (.inl hn)]at hv
  subst hv
  clear h hs hlen
  go_enter Tryz.func72,Tryz.ntmps72
  go_wp2_with fail
  go_ret
  exact⟨rfl,zB _ _⟩
 ·by_cases hn2:(N:Int)≤n
  ·rw[if_pos (.inr hn2)]at hv
   subst hv
   clear h hs hlen
   go_enter Tryz.func72,Tryz.ntmps72
   go_wp2_with fail
   go_ret
   exact⟨rfl,zB _ _⟩
  ·rw[if_neg (by omega)]at hv
   obtain⟨m,rfl⟩:∃m:Nat,n=m:=⟨n.toNat,by omega⟩
   have hm:m<N:=by omega
   have hmx:m<xs.length:=by omega
   have hlt:=(h.lt b rfl).2
   have hc:=h.cellAt m (by omega)
   rw[zG hmx]at hc
   have e:xs.getD (m:Int).toNat (.slice none 0 0)=xs[m]:=by simp[List.getD,hmx]
   rw[e]at hv
   obtain⟨a,q,c,eu⟩:=hs _ (List.getElem_mem hmx)
   rw[eu]at hv hc
   subst hv
   have hcap:N≤cap∧cap≤maxLen:=by
    rcases h.2 with⟨h',_⟩|⟨g',cap'',cur,h',_,_,p1,p2,_⟩
    ·simp at h'
    ·simp only[Value.slice.injEq,Option.some.injEq,Addr.mk.injEq,and_true,true_and]at h'
     obtain⟨rfl,rfl⟩:=h'
     exact⟨p1,p2⟩
   obtain⟨k1,k2⟩:=hcap
   unfold maxLen at k2
   clear h hs hlen e eu hn hn2 hmx
   go_enter Tryz.func72,Tryz.ntmps72
   go_wp2_with fail
   go_ret
   exact⟨rfl,zB _ _⟩
end Go.Proofs.YtiamjjonoeaggabGreatDoor
