import Derived.Test.YtiamjjonoeaggaaGreatDoorGA
import Derived.Test.YtiamjjonoeaggaaGreatDoorG12
import Derived.Test.YtiamjjonoeaggaaGreatDoorG19
set_option maxRecDepth 100000
set_option maxHeartbeats 16000000
namespace Go.Proofs.YtiamjjonoeaggaaGreatDoor
open Go.RowKit
def j3j (nd:PNode):Prop:=(nd.kind=5∨nd.kind=2∨nd.kind=6∨nd.kind=7∨nd.kind=8∨nd.kind=9∨nd.kind=10∨nd.kind=11∨nd.kind=12∨nd.kind=13∨nd.kind=14∨nd.kind=15∨nd.kind=16∨nd.kind=17)∧∃n:Nat,nd.cnt=(n:Int)∧n≤2
theorem hol_at (V:Value)(nd:PNode)(hnd:j3j nd)(lb lo:Nat)(ao:OA)(cap:Nat)(PL:List PPt)(vf vs:Value)(hV:V=.agg (q0W nd lb lo vf vs).toArray)(mA mB:Nat)(A B:Nat→Nat→Nat→Bool)(hmA:mA≤PL.length)(i:Nat)(hi:i<PL.length)(w:World)(h:VwAt w lb lo ao cap PL vf vs mA mB A B)(hH:q5W w PL) :
  Calls Tryz.prog 108 #[V,.int .i64 i] w fun e w'=>e=.returned (zr (zm fun x y=>qz nd (zA PL) A B i x y))∧Below w.heap.size w w':=by
 obtain⟨hk,hcn⟩:=hnd
 have hsm:=h.log.small
 by_cases k5:nd.kind=5
 ·exact j4Q V nd lb lo ao cap PL vf vs hV mA mB A B i hi w h k5
 by_cases k2:nd.kind=2
 ·exact j3w V nd lb lo ao cap PL vf vs hV mA mB A B i hi w h k2 hcn hH
 by_cases k6:nd.kind=6
 ·exact j6J V nd lb lo ao cap PL vf vs hV mA mB A B i hi w h k6
 by_cases k7:nd.kind=7
 ·exact j6K V nd lb lo ao cap PL vf vs hV mA mB A B i hi w h k7
 by_cases k8:nd.kind=8
 ·exact j8V V nd lb lo ao cap PL vf vs hV mA mB A B i hi w h k8
 by_cases k9:nd.kind=9
 ·exact j8U V nd lb lo ao cap PL vf vs hV mA mB A B i hi w h k9
 by_cases k10:nd.kind=10
 ·refine q7M V nd lb lo ao cap PL vf vs hV mA mB A B i hi w h (.inl k10) (fun W hW=>?_)
  have hbk:(if q4n nd.kind=true then(-1:Int)else 1) = -1:=by rw[k10];decide
  by_cases h0:0<i
  ·have e:(fun x y=>qz nd (zA PL) A B i x y)=fun x y=>q1H nd (q0C (zA PL) i (i-1))&&A (i-1) x y:=by
    funext x y
    unfold qz
    rw[if_neg k5,if_neg k2,if_neg k6,if_neg k7,if_neg k8,if_neg k9,if_pos k10,decide_eq_true h0,Bool.true_and]
   rw[e]
   refine q6e V nd lb lo ao cap PL vf vs hV mA mB A B i hi ((i-1:Nat):Int) (by rw[hbk];omega) (q0C (zA PL) i (i-1)) (A (i-1)) W hW (fun W' q=>q6Q lb lo ao cap PL i (i-1) hi (by omega) W' q) (fun W' q=>?_)
   obtain⟨fa,fc,rfl⟩:=q.form
   exact q0t _ mA A hW.szA (i-1) W' q
  ·have e:(fun x y=>qz nd (zA PL) A B i x y)=fun x y=>q1H nd 0&&(fun _ _=>false:Nat→Nat→Bool) x y:=by
    funext x y
    unfold qz
    rw[if_neg k5,if_neg k2,if_neg k6,if_neg k7,if_neg k8,if_neg k9,if_pos k10,decide_eq_false h0,Bool.false_and,Bool.and_false]
   rw[e]
   refine q6e V nd lb lo ao cap PL vf vs hV mA mB A B i hi (-1) (by rw[hbk];omega) 0 (fun _ _=>false) W hW (fun W' q=>q8R lb lo ao cap PL i (-1) hi (.inl (by decide)) W' q) (fun W' q=>?_)
   obtain⟨fa,fc,rfl⟩:=q.form
   rw[q5M (fun _ _=>rfl)]
   exact q7O fa mA fc hW.szA (-1) (.inl (by decide)) W'
 by_cases k11:nd.kind=11
 ·refine q7M V nd lb lo ao cap PL vf vs hV mA mB A B i hi w h (.inr k11) (fun W hW=>?_)
  have hbk:(if q4n nd.kind=true then(-1:Int)else 1)=1:=by rw[k11];decide
  have hsa:∀W',Tb W' vf mA A→Calls Tryz.prog 137 #[vf,.int .i64 ((i+1:Nat):Int)] W' fun e w'=>e=.returned (zr (zm (A (i+1))))∧Below W'.heap.size W' w':=fun W' q=>q0t _ mA A hW.szA (i+1) W' q
  by_cases h0:i+1<PL.length
  ·have e:(fun x y=>qz nd (zA PL) A B i x y)=fun x y=>q1H nd (q0C (zA PL) i (i+1))&&A (i+1) x y:=by
    funext x y
    unfold qz
    rw[if_neg k5,if_neg k2,if_neg k6,if_neg k7,if_neg k8,if_neg k9,if_neg k10,if_pos k11,decide_eq_true (by rw[List.length_map];exact h0),Bool.true_and]
   rw[e]
   exact q6e V nd lb lo ao cap PL vf vs hV mA mB A B i hi ((i+1:Nat):Int) (by rw[hbk];omega) (q0C (zA PL) i (i+1)) (A (i+1)) W hW (fun W' q=>q6Q lb lo ao cap PL i (i+1) hi h0 W' q) hsa
  ·have e:(fun x y=>qz nd (zA PL) A B i x y)=fun x y=>q1H nd 0&&A (i+1) x y:=by
    funext x y
    unfold qz
    rw[if_neg k5,if_neg k2,if_neg k6,if_neg k7,if_neg k8,if_neg k9,if_neg k10,if_pos k11,decide_eq_false (by rw[List.length_map];exact h0),Bool.false_and,hW.fst.far (i+1) (by omega) x y,Bool.and_false]
   rw[e]
   exact q6e V nd lb lo ao cap PL vf vs hV mA mB A B i hi ((i+1:Nat):Int) (by rw[hbk];omega) 0 (A (i+1)) W hW (fun W' q=>q8R lb lo ao cap PL i _ hi (.inr (by omega)) W' q) hsa
 ·refine j3x V nd lb lo ao cap PL vf vs hV mA mB A B i hi w h (by omega) (fun W hW=>?_)
  by_cases hb:q4n nd.kind=true
  ·have e:(fun x y=>qz nd (zA PL) A B i x y)=fun x y=>q4q (fun j=>q1H nd (q0C (zA PL) i j)) (q1L nd A B x y) (q0N nd A x y) (fun m=>i-m) (i+1):=by
    funext x y
    unfold qz
    rw[if_neg k5,if_neg k2,if_neg k6,if_neg k7,if_neg k8,if_neg k9,if_neg k10,if_neg k11,if_pos hb]
   rw[e]
   exact j2o V nd lb lo ao cap PL vf vs hV mA mB A B i hi (fun m=>i-m) (fun k=>(i:Int)-k) (i+1) (fun k hk=>⟨by omega,by omega⟩) (fun k=>by rw[if_pos hb];omega) (.inl (by omega)) (by simp) (fun k hk=>by omega) W hW
  ·have e:(fun x y=>qz nd (zA PL) A B i x y)=fun x y=>q4q (fun j=>q1H nd (q0C (zA PL) i j)) (q1L nd A B x y) (q0N nd A x y) (fun m=>i+m) (PL.length-i):=by
    funext x y
    unfold qz
    rw[if_neg k5,if_neg k2,if_neg k6,if_neg k7,if_neg k8,if_neg k9,if_neg k10,if_neg k11,if_neg hb,List.length_map]
   rw[e]
   exact j2o V nd lb lo ao cap PL vf vs hV mA mB A B i hi (fun m=>i+m) (fun k=>(i:Int)+k) (PL.length-i) (fun k hk=>⟨by omega,by omega⟩) (fun k=>by rw[if_neg hb];omega) (.inr (by omega)) (by simp) (fun k hk=>by omega) W hW
theorem j4W:(Tryz.prog.info? 47).map (fun i=>(i.zero,i.size,i.bytes))=some (some (.agg zCs),10,20):=by kernel_rfl
def EvRel (w:World)(nd:PNode)(lb lo:Nat)(vf vs:Value)(H:Nat→Nat→Nat→Bool)(n:Nat)(g:Nat)(vl vi:Value)(wr:World):Prop:=
 ∃k:Nat,k≤n∧n-k≤g∧vi=.int .i64 k∧wr.heap[w.heap.size]?=some (.cells (q0W nd lb lo vf vs).toArray 182 (0,0))∧wr.ownsRow (w.heap.size+1) 47 10 vl k (q1C k H)∧Below w.heap.size w wr
theorem j0T (V:Value)(nd:PNode)(hnd:j3j nd)(lb lo:Nat)(ao:OA)(cap:Nat)(PL:List PPt)(vf vs:Value)(hV:V=.agg (q0W nd lb lo vf vs).toArray)(mA mB:Nat)(A B:Nat→Nat→Nat→Bool)(hmA:mA≤PL.length)(w:World)(h:VwAt w lb lo ao cap PL vf vs mA mB A B)(hH:q5W w PL) :
  Calls Tryz.prog 84 #[V] w fun e w'=>∃v,e=.returned v∧w'.ownsRow w.heap.size 47 10 v PL.length (q1C PL.length fun i x y=>qz nd (zA PL) A B i x y)∧Below w.heap.size w w':=by
 have HV:=zb hV
 have HVW:=zb h
 have HHI:=zb hH
 have hsm:=h.log.small
 obtain⟨H,hHd⟩:∃H:Nat→Nat→Nat→Bool,H=fun i x y=>qz nd (zA PL) A B i x y:=⟨_,rfl⟩
 rw[←hHd]
 have HAT:Hid (∀i,i<PL.length→∀W,VwAt W lb lo ao cap PL vf vs mA mB A B→q5W W PL→Calls Tryz.prog 108 #[V,.int .i64 i] W fun e w'=>e=.returned (zr (zm (H i)))∧Below W.heap.size W w'):=zb (fun i hi W hW hh=>by rw[hHd];exact hol_at V nd hnd lb lo ao cap PL vf vs hV mA mB A B hmA i hi W hW hh)
 clear hV h hH hHd
 obtain⟨i0,hi0,iz0,iz1,iz2⟩:=info_parts j4W
 go_enter Tryz.func84,Tryz.ntmps84
 go_wp2_with (first|(refine qA rfl 182 (.tmp 0) rfl V _ rfl HV.out ?_;intro W0 g0 b0 z0;have HZ0:=zb z0;have HG0:=zb g0;have HB0:=zb b0;clear g0 z0 b0))
 go_loopg [3,4] PL.length (fun g vl vi wr=>EvRel w nd lb lo vf vs H PL.length g vl vi wr)
 case atStart=>exact⟨0,zZ _,by omega,rfl,HG0.out,zW _ _ _ _,HB0.out⟩
 case round =>
  obtain⟨k,hk,hg,rfl,hvw,hown,hb⟩:=hrel
  have HG:=zb hg
  have HW0:=zb hvw
  have HO:=zb hown
  have HB:=zb hb
  have c22:=(q1A hvw).1
  have hlw:=zd hvw
  have hCo:=q7r lb lo ao cap PL wr (HVW.out.log.below hb)
  have LV:=q2z hvw
  rw[←HV.out]at LV
  obtain⟨va,vc,rfl⟩:=q1i hown
  clear hg hvw hown hb
  by_cases hkn:k<PL.length
  ·have HC:=zb (HAT.out k hkn wr (HVW.out.below HB.out) (HHI.out.below HB.out))
   have HTS:=zb (q2y k H)
   generalize zm (H k)=r at *
   go_wp2_with (refine zj rfl 182 (.tmp 1) rfl ⟨w.heap.size,0,none⟩ V rfl LV ?_)
   refine hCo.mono ?_
   rintro e wr' ⟨rfl,rfl⟩
   go_wp2_with (refine zj rfl 182 (.tmp 1) rfl ⟨w.heap.size,0,none⟩ V rfl LV ?_)
   refine(HC.out).mono ?_
   rintro e w2 ⟨rfl,b2⟩
   have HO2:=zb (zo HO.out b2)
   have HV2:=zb ((b2.block _ hlw).trans HW0.out)
   have HB2:=zb (HB.out.trans (b2.mono HB.out.size))
   have hs2:w.heap.size+1≤w2.heap.size:=by have:=b2.size;omega
   clear b2 LV c22 HC hCo
   go_wp2_with (at_builtin;refine q3a rfl (.tmp 12) (.tmp 16) 138 47 rfl Tryz.underlying138 hi0 iz0 iz1 iz2 rfl (by decide) w2 (w.heap.size+1) _ _ _ (qw r) w2 rfl HO2.out (by simp[Act.eval]) rfl (by simp[Value.oneCell']) (by omega) (by decide) (zB _ _) hs2 ?_;intro v' w' hown' hbel' hne)
   have hg1:0<gk:=by have:=HG.out;omega
   go_roundg (gk-1)
   case measure=>omega
   case rel=>exact⟨k+1,by omega,by have:=HG.out;omega,by go_num,(hbel'.block _ (by omega)).trans HV2.out,by rw[HTS.out];exact hown',HB2.out.trans (hbel'.mono (by omega))⟩
  ·have hkn':k=PL.length:=by omega
   have HK:=zb hkn'
   clear hkn' LV
   go_wp2_with fail
   refine hCo.mono ?_
   rintro e wr' ⟨rfl,rfl⟩
   go_wp2_with fail
   go_ret
   exact⟨_,rfl,by rw[←HK.out];exact q4B (by omega) HO.out,HB.out⟩
end Go.Proofs.YtiamjjonoeaggaaGreatDoor
