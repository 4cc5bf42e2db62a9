import Derived.Test.YtiamjjonoeaggabGreatDoorGA
import Derived.Test.YtiamjjonoeaggabGreatDoorG27
namespace Go.Proofs.YtiamjjonoeaggabGreatDoor
open Go.RowKit
def j3v (nd:PNode):Prop:=(nd.kind=5∨nd.kind=2∨nd.kind=6∨nd.kind=7∨nd.kind=8∨nd.kind=9∨nd.kind=10∨nd.kind=11∨nd.kind=12∨nd.kind=13∨nd.kind=14∨nd.kind=15∨nd.kind=16∨nd.kind=17)∧∃n:Nat,nd.cnt=(n:Int)∧n≤2
theorem hol_at (V:Value)(nd:PNode)(hnd:j3v nd)(lb lo:Nat)(ao:OA)(cap:Nat)(PL:List PPt)(vf vs:Value)(hV:V=.agg (q1a nd lb lo vf vs).toArray)(mA mB:Nat)(A B:Nat→Nat→Nat→Bool)(hmA:mA≤PL.length)(i:Nat)(hi:i<PL.length)(w:World)(h:VwAt w lb lo ao cap PL vf vs mA mB A B)(hH:q6k w PL) :
  Calls Tryz.prog 103 #[V,.int .i64 i] w fun e w'=>e=.returned (zr (zm fun x y=>qD nd (zz PL) A B i x y))∧Below w.heap.size w w':=by
 obtain⟨hk,hcn⟩:=hnd
 have hsm:=h.log.small
 by_cases k5:nd.kind=5
 ·exact j4Y V nd lb lo ao cap PL vf vs hV mA mB A B i hi w h k5
 by_cases k2:nd.kind=2
 ·exact j3G V nd lb lo ao cap PL vf vs hV mA mB A B i hi w h k2 hcn hH
 by_cases k6:nd.kind=6
 ·exact j7a V nd lb lo ao cap PL vf vs hV mA mB A B i hi w h k6
 by_cases k7:nd.kind=7
 ·exact j7b V nd lb lo ao cap PL vf vs hV mA mB A B i hi w h k7
 by_cases k8:nd.kind=8
 ·exact j9q V nd lb lo ao cap PL vf vs hV mA mB A B i hi w h k8
 by_cases k9:nd.kind=9
 ·exact j9p V nd lb lo ao cap PL vf vs hV mA mB A B i hi w h k9
 by_cases k10:nd.kind=10
 ·refine q8c V nd lb lo ao cap PL vf vs hV mA mB A B i hi w h (.inl k10) (fun W hW=>?_)
  have hbk:(if q4z nd.kind=true then(-1:Int)else 1) = -1:=by rw[k10];decide
  by_cases h0:0<i
  ·have e:(fun x y=>qD nd (zz PL) A B i x y)=fun x y=>q1N nd (q0G (zz PL) i (i-1))&&A (i-1) x y:=by
    funext x y
    unfold qD
    rw[if_neg k5,if_neg k2,if_neg k6,if_neg k7,if_neg k8,if_neg k9,if_pos k10,decide_eq_true h0,Bool.true_and]
   rw[e]
   refine q6r V nd lb lo ao cap PL vf vs hV mA mB A B i hi ((i-1:Nat):Int) (by rw[hbk];omega) (q0G (zz PL) i (i-1)) (A (i-1)) W hW (fun W' q=>q7e lb lo ao cap PL i (i-1) hi (by omega) W' q) (fun W' q=>?_)
   obtain⟨fa,fc,rfl⟩:=q.form
   exact q0x _ mA A hW.szA (i-1) W' q
  ·have e:(fun x y=>qD nd (zz PL) A B i x y)=fun x y=>q1N nd 0&&(fun _ _=>false:Nat→Nat→Bool) x y:=by
    funext x y
    unfold qD
    rw[if_neg k5,if_neg k2,if_neg k6,if_neg k7,if_neg k8,if_neg k9,if_pos k10,decide_eq_false h0,Bool.false_and,Bool.and_false]
   rw[e]
   refine q6r V nd lb lo ao cap PL vf vs hV mA mB A B i hi (-1) (by rw[hbk];omega) 0 (fun _ _=>false) W hW (fun W' q=>q9i lb lo ao cap PL i (-1) hi (.inl (by decide)) W' q) (fun W' q=>?_)
   obtain⟨fa,fc,rfl⟩:=q.form
   rw[q5Y (fun _ _=>rfl)]
   exact q8e fa mA fc hW.szA (-1) (.inl (by decide)) W'
 by_cases k11:nd.kind=11
 ·refine q8c V nd lb lo ao cap PL vf vs hV mA mB A B i hi w h (.inr k11) (fun W hW=>?_)
  have hbk:(if q4z nd.kind=true then(-1:Int)else 1)=1:=by rw[k11];decide
  have hsa:∀W',Tb W' vf mA A→Calls Tryz.prog 132 #[vf,.int .i64 ((i+1:Nat):Int)] W' fun e w'=>e=.returned (zr (zm (A (i+1))))∧Below W'.heap.size W' w':=fun W' q=>q0x _ mA A hW.szA (i+1) W' q
  by_cases h0:i+1<PL.length
  ·have e:(fun x y=>qD nd (zz PL) A B i x y)=fun x y=>q1N nd (q0G (zz PL) i (i+1))&&A (i+1) x y:=by
    funext x y
    unfold qD
    rw[if_neg k5,if_neg k2,if_neg k6,if_neg k7,if_neg k8,if_neg k9,if_neg k10,if_pos k11,decide_eq_true (by rw[List.length_map];exact h0),Bool.true_and]
   rw[e]
   exact q6r V nd lb lo ao cap PL vf vs hV mA mB A B i hi ((i+1:Nat):Int) (by rw[hbk];omega) (q0G (zz PL) i (i+1)) (A (i+1)) W hW (fun W' q=>q7e lb lo ao cap PL i (i+1) hi h0 W' q) hsa
  ·have e:(fun x y=>qD nd (zz PL) A B i x y)=fun x y=>q1N nd 0&&A (i+1) x y:=by
    funext x y
    unfold qD
    rw[if_neg k5,if_neg k2,if_neg k6,if_neg k7,if_neg k8,if_neg k9,if_neg k10,if_pos k11,decide_eq_false (by rw[List.length_map];exact h0),Bool.false_and,hW.fst.far (i+1) (by omega) x y,Bool.and_false]
   rw[e]
   exact q6r V nd lb lo ao cap PL vf vs hV mA mB A B i hi ((i+1:Nat):Int) (by rw[hbk];omega) 0 (A (i+1)) W hW (fun W' q=>q9i lb lo ao cap PL i _ hi (.inr (by omega)) W' q) hsa
 ·refine j3H V nd lb lo ao cap PL vf vs hV mA mB A B i hi w h (by omega) (fun W hW=>?_)
  by_cases hb:q4z nd.kind=true
  ·have e:(fun x y=>qD nd (zz PL) A B i x y)=fun x y=>q4D (fun j=>q1N nd (q0G (zz PL) i j)) (q1R nd A B x y) (q0S nd A x y) (fun m=>i-m) (i+1):=by
    funext x y
    unfold qD
    rw[if_neg k5,if_neg k2,if_neg k6,if_neg k7,if_neg k8,if_neg k9,if_neg k10,if_neg k11,if_pos hb]
   rw[e]
   exact j2H V nd lb lo ao cap PL vf vs hV mA mB A B i hi (fun m=>i-m) (fun k=>(i:Int)-k) (i+1) (fun k hk=>⟨by omega,by omega⟩) (fun k=>by rw[if_pos hb];omega) (.inl (by omega)) (by simp) (fun k hk=>by omega) W hW
  ·have e:(fun x y=>qD nd (zz PL) A B i x y)=fun x y=>q4D (fun j=>q1N nd (q0G (zz PL) i j)) (q1R nd A B x y) (q0S nd A x y) (fun m=>i+m) (PL.length-i):=by
    funext x y
    unfold qD
    rw[if_neg k5,if_neg k2,if_neg k6,if_neg k7,if_neg k8,if_neg k9,if_neg k10,if_neg k11,if_neg hb,List.length_map]
   rw[e]
   exact j2H V nd lb lo ao cap PL vf vs hV mA mB A B i hi (fun m=>i+m) (fun k=>(i:Int)+k) (PL.length-i) (fun k hk=>⟨by omega,by omega⟩) (fun k=>by rw[if_neg hb];omega) (.inr (by omega)) (by simp) (fun k hk=>by omega) W hW
end Go.Proofs.YtiamjjonoeaggabGreatDoor
