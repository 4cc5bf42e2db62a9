import Derived.Test.YtiamjjonoeaggabGreatDoorGA
import Derived.Test.YtiamjjonoeaggabGreatDoorG13
namespace Go.Proofs.YtiamjjonoeaggabGreatDoor
open Go.RowKit
def q9H (L:List LPt):Prop:=∀i j,i≤j→j<L.length→tmL L i≤tmL L j
theorem q4Z {L M:List LPt}{i:Nat}(h:i<L.length):tmL (L++M) i=tmL L i:=by
 unfold tmL
 rw[List.getElem?_append_left h]
end Go.Proofs.YtiamjjonoeaggabGreatDoor
