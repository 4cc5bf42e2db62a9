import Derived.Test.YtiamjjonoeaggabGreatDoorGA
import Derived.Deep.RegionHeld
import Derived.Deep.RegionHeld3
import Derived.Lib.SmallJoins
namespace Go.Proofs.YtiamjjonoeaggabGreatDoor
open Go.RowKit
abbrev zR:=@AllReadyH.cons
abbrev zE:=@AllReadyH.nil
abbrev zY:=@wpAnyH_ready
abbrev zD:=@wpAnyH_done
abbrev zJ:=@Go.Joins.ownsRow_form
theorem rd1 {P:Program}{md:Region.Mode}{ops:Array Oper}{Q:Exit→Act→World→Prop}{S:World→Prop}{fuel:Nat}{listed:Array Bool}{a:Act}{w:World}(i:Nat){o:Oper}(ho:ops[i]?=some o)(h:∀K':Act→World→Prop,Shut (∀a w,S w→(S w→wpAnyH P md ops Q S fuel (listed.setIfInBounds i true) a w)→K' a w)→Oper.wp P o a w K' Q)(hr:Region.ready md ops listed=[i]:=by kernel_rfl)(hw:Region.wanted o (yielded ops a.tmps)=true:=by rfl):wpAnyH P md ops Q S (fuel+1) listed a w:=
 wpAnyH_ready hr (by simp) (AllReadyH.cons ho (fun K hK=>by rw[if_pos hw];exact h K hK) AllReadyH.nil)
end Go.Proofs.YtiamjjonoeaggabGreatDoor
