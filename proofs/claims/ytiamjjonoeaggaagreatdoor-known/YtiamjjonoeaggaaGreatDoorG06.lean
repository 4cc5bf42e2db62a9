import Derived.Test.YtiamjjonoeaggaaGreatDoorGA
import Derived.Test.YtiamjjonoeaggaaGreatDoorG00
import Derived.Test.YtiamjjonoeaggaaGreatDoorG02
namespace Go.Proofs.YtiamjjonoeaggaaGreatDoor
open Go.RowKit
def q6t (c:Int)(n:Nat):Nat:=(if c<0 then -(c+1)else c).toNat % n
theorem pickN_lt (c:Int){n:Nat}(h:0<n):q6t c n<n:=Nat.mod_lt _ h
theorem j2G {c:Int}(h:c<0)(n:Nat):-(c+1).tmod (n:Int)=(q6t c n:Int):=by
 unfold q6t
 rw[if_pos h,←Int.neg_tmod,Int.tmod_eq_emod_of_nonneg (by omega),Int.natCast_emod,Int.toNat_of_nonneg (by omega)]
theorem j2H {c:Int}(h:¬c<0)(n:Nat):c.tmod (n:Int)=(q6t c n:Int):=by
 unfold q6t
 rw[if_neg h,Int.tmod_eq_emod_of_nonneg (by omega),Int.natCast_emod,Int.toNat_of_nonneg (by omega)]
end Go.Proofs.YtiamjjonoeaggaaGreatDoor
