import Derived.Test.YtiamjjonoeaggaaGreatDoorGA
import Derived.Test.YtiamjjonoeaggaaGreatDoorG02
import Derived.Lib.SmallJoins
set_option maxRecDepth 100000
set_option maxHeartbeats 16000000
namespace Go.Proofs.YtiamjjonoeaggaaGreatDoor
open Go.RowKit
def q0d (x:Nat):By:=[UInt8.ofNat (48+x)]
theorem ten_nat {x:Nat}(h:x<10):x=0∨x=1∨x=2∨x=3∨x=4∨x=5∨x=6∨x=7∨x=8∨x=9:=by omega
theorem j9P (x:Nat)(hx:x<10)(w:World):Calls Tryz.prog 86 #[.int .i64 x] w fun e w'=>e=.returned (bs (q0d x))∧w'=w:=by
 rcases ten_nat hx with rfl|rfl|rfl|rfl|rfl|rfl|rfl|rfl|rfl|rfl <;>
 ·go_enter Tryz.func86,Tryz.ntmps86
  go_wp2
  go_ret
  exact⟨by rfl,rfl⟩
theorem j2d (x:Nat)(hx:x<10)(w:World):Calls Tryz.prog 61 #[.int .i64 x,.int .i64 10] w fun e w'=>e=.returned (bs (q0d x))∧w'=w:=by
 have H:=zb (j9P x hx)
 go_enter Tryz.func61,Tryz.ntmps61
 go_wp2_with fail
 refine(H.out _).mono ?_
 rintro e w1 ⟨rfl,rfl⟩
 go_wp2_with fail
 go_ret
 exact⟨rfl,rfl⟩
theorem q2R (x:Nat)(hx:x<10)(w:World):Calls Tryz.prog 23 #[.int .i64 x] w fun e w'=>e=.returned (bs (q0d x))∧w'=w:=by
 have H:=zb (j2d x hx)
 have h2:Calls Tryz.prog 45 #[.int .i64 x] w fun e w'=>e=.returned (bs (q0d x))∧w'=w:=by
  go_enter Tryz.func45,Tryz.ntmps45
  go_wp2_with fail
  refine(H.out _).mono ?_
  rintro e w1 ⟨rfl,rfl⟩
  go_wp2_with fail
  go_ret
  exact⟨rfl,rfl⟩
 have H2:=zb h2
 clear h2 H
 go_enter Tryz.func23,Tryz.ntmps23
 go_wp2_with fail
 refine H2.out.mono ?_
 rintro e w1 ⟨rfl,rfl⟩
 go_wp2_with fail
 go_ret
 exact⟨rfl,rfl⟩
theorem qD (a c:By):ByteArray.mk a.toArray++ByteArray.mk c.toArray=ByteArray.mk (a++c).toArray:=by
 apply ByteArray.ext
 rw[ByteArray.data_append]
 simp
end Go.Proofs.YtiamjjonoeaggaaGreatDoor
