import Derived.Test.YtiamjjonoeaggabGreatDoorGA
import Derived.Test.YtiamjjonoeaggabGreatDoorG00
import Derived.Test.YtiamjjonoeaggabGreatDoorG01
import Derived.Test.YtiamjjonoeaggabGreatDoorG04
import Derived.Test.YtiamjjonoeaggabGreatDoorG05
import Derived.Test.YtiamjjonoeaggabGreatDoorG06
import Derived.Test.YtiamjjonoeaggabGreatDoorG08
import Derived.Deep.LoopGhost
set_option maxRecDepth 100000
set_option maxHeartbeats 16000000
namespace Go.Proofs.YtiamjjonoeaggabGreatDoor
open Go.RowKit
abbrev zr (r:Nat→Int):Value:=.agg #[.int .u16 (r 0),.int .u16 (r 1),.int .u16 (r 2),.int .u16 (r 3),.int .u16 (r 4),.int .u16 (r 5),.int .u16 (r 6),.int .u16 (r 7),.int .u16 (r 8),.int .u16 (r 9)]
abbrev inR (x y:Int):Prop:=0≤x∧x<10∧0≤y∧y<10
def q6F (a:Int)(y:Int):Int:=bits .or .u16 a (IntKind.u16.wrap (2 ^ y.toNat))
def q1s (r:Nat→Int)(x y:Int):Nat→Int:=fun i=>if inR x y∧x=(i:Int)then q6F (r i) y else r i
theorem j1O (r:Nat→Int)(x y:Int)(h:¬inR x y):q1s r x y=r:=by
 funext i;simp only[q1s];rw[if_neg (fun h'=>h h'.1)]
theorem with_out (r:Nat→Int)(x y:Int)(h:¬inR x y)(w:World) :
  Calls Tryz.prog 149 #[zr r,.int .i64 x,.int .i64 y] w fun e w'=>e=.returned (zr (q1s r x y))∧Below w.heap.size w w':=by
 rw[j1O r x y h]
 simp only[inR]at h
 go_enter Tryz.func149,Tryz.ntmps149
 go_wp2
 all_goals exact zP (v:=zr r) (by simp[results,Tryz.results149,go_sem]) rfl ⟨rfl,((zB _ _).alloc (zL _) _).alloc (by simp) _⟩
theorem ten {x:Int}(h0:0≤x)(h:x<10):x=0∨x=1∨x=2∨x=3∨x=4∨x=5∨x=6∨x=7∨x=8∨x=9:=by omega
theorem withR_0 (r:Nat→Int)(y:Int)(hy:0≤y)(hy':y<10):zr (q1s r 0 y)=.agg #[.int .u16 (bits BinOp.or IntKind.u16 (r 0) (IntKind.u16.wrap (2 ^ y.toNat))),.int .u16 (r 1),.int .u16 (r 2),.int .u16 (r 3),.int .u16 (r 4),.int .u16 (r 5),.int .u16 (r 6),.int .u16 (r 7),.int .u16 (r 8),.int .u16 (r 9)]:=by
 simp[q1s,inR,q6F,hy,hy']
theorem with_in0 (r:Nat→Int)(y:Int)(hy:0≤y)(hy':y<10)(w:World) :
  Calls Tryz.prog 149 #[zr r,.int .i64 0,.int .i64 y] w fun e w'=>e=.returned (zr (q1s r 0 y))∧Below w.heap.size w w':=by
 rw[withR_0 r y hy hy']
 go_enter Tryz.func149,Tryz.ntmps149
 go_wp2
 go_region
 go_wp2
 exact zP (v:=.agg #[.int .u16 (bits BinOp.or IntKind.u16 (r 0) (IntKind.u16.wrap (2 ^ y.toNat))),.int .u16 (r 1),.int .u16 (r 2),.int .u16 (r 3),.int .u16 (r 4),.int .u16 (r 5),.int .u16 (r 6),.int .u16 (r 7),.int .u16 (r 8),.int .u16 (r 9)]) (by simp[results,Tryz.results149,go_sem]) rfl ⟨rfl,(((zB _ _).alloc (zL _) _).alloc (by simp) _).drew⟩
theorem withR_1 (r:Nat→Int)(y:Int)(hy:0≤y)(hy':y<10):zr (q1s r 1 y)=.agg #[.int .u16 (r 0),.int .u16 (bits BinOp.or IntKind.u16 (r 1) (IntKind.u16.wrap (2 ^ y.toNat))),.int .u16 (r 2),.int .u16 (r 3),.int .u16 (r 4),.int .u16 (r 5),.int .u16 (r 6),.int .u16 (r 7),.int .u16 (r 8),.int .u16 (r 9)]:=by
 simp[q1s,inR,q6F,hy,hy']
theorem with_in1 (r:Nat→Int)(y:Int)(hy:0≤y)(hy':y<10)(w:World) :
  Calls Tryz.prog 149 #[zr r,.int .i64 1,.int .i64 y] w fun e w'=>e=.returned (zr (q1s r 1 y))∧Below w.heap.size w w':=by
 rw[withR_1 r y hy hy']
 go_enter Tryz.func149,Tryz.ntmps149
 go_wp2
 go_region
 go_wp2
 exact zP (v:=.agg #[.int .u16 (r 0),.int .u16 (bits BinOp.or IntKind.u16 (r 1) (IntKind.u16.wrap (2 ^ y.toNat))),.int .u16 (r 2),.int .u16 (r 3),.int .u16 (r 4),.int .u16 (r 5),.int .u16 (r 6),.int .u16 (r 7),.int .u16 (r 8),.int .u16 (r 9)]) (by simp[results,Tryz.results149,go_sem]) rfl ⟨rfl,(((zB _ _).alloc (zL _) _).alloc (by simp) _).drew⟩
theorem withR_2 (r:Nat→Int)(y:Int)(hy:0≤y)(hy':y<10):zr (q1s r 2 y)=.agg #[.int .u16 (r 0),.int .u16 (r 1),.int .u16 (bits BinOp.or IntKind.u16 (r 2) (IntKind.u16.wrap (2 ^ y.toNat))),.int .u16 (r 3),.int .u16 (r 4),.int .u16 (r 5),.int .u16 (r 6),.int .u16 (r 7),.int .u16 (r 8),.int .u16 (r 9)]:=by
 simp[q1s,inR,q6F,hy,hy']
theorem with_in2 (r:Nat→Int)(y:Int)(hy:0≤y)(hy':y<10)(w:World) :
  Calls Tryz.prog 149 #[zr r,.int .i64 2,.int .i64 y] w fun e w'=>e=.returned (zr (q1s r 2 y))∧Below w.heap.size w w':=by
 rw[withR_2 r y hy hy']
 go_enter Tryz.func149,Tryz.ntmps149
 go_wp2
 go_region
 go_wp2
 exact zP (v:=.agg #[.int .u16 (r 0),.int .u16 (r 1),.int .u16 (bits BinOp.or IntKind.u16 (r 2) (IntKind.u16.wrap (2 ^ y.toNat))),.int .u16 (r 3),.int .u16 (r 4),.int .u16 (r 5),.int .u16 (r 6),.int .u16 (r 7),.int .u16 (r 8),.int .u16 (r 9)]) (by simp[results,Tryz.results149,go_sem]) rfl ⟨rfl,(((zB _ _).alloc (zL _) _).alloc (by simp) _).drew⟩
theorem withR_3 (r:Nat→Int)(y:Int)(hy:0≤y)(hy':y<10):zr (q1s r 3 y)=.agg #[.int .u16 (r 0),.int .u16 (r 1),.int .u16 (r 2),.int .u16 (bits BinOp.or IntKind.u16 (r 3) (IntKind.u16.wrap (2 ^ y.toNat))),.int .u16 (r 4),.int .u16 (r 5),.int .u16 (r 6),.int .u16 (r 7),.int .u16 (r 8),.int .u16 (r 9)]:=by
 simp[q1s,inR,q6F,hy,hy']
theorem with_in3 (r:Nat→Int)(y:Int)(hy:0≤y)(hy':y<10)(w:World) :
  Calls Tryz.prog 149 #[zr r,.int .i64 3,.int .i64 y] w fun e w'=>e=.returned (zr (q1s r 3 y))∧Below w.heap.size w w':=by
 rw[withR_3 r y hy hy']
 go_enter Tryz.func149,Tryz.ntmps149
 go_wp2
 go_region
 go_wp2
 exact zP (v:=.agg #[.int .u16 (r 0),.int .u16 (r 1),.int .u16 (r 2),.int .u16 (bits BinOp.or IntKind.u16 (r 3) (IntKind.u16.wrap (2 ^ y.toNat))),.int .u16 (r 4),.int .u16 (r 5),.int .u16 (r 6),.int .u16 (r 7),.int .u16 (r 8),.int .u16 (r 9)]) (by simp[results,Tryz.results149,go_sem]) rfl ⟨rfl,(((zB _ _).alloc (zL _) _).alloc (by simp) _).drew⟩
theorem withR_4 (r:Nat→Int)(y:Int)(hy:0≤y)(hy':y<10):zr (q1s r 4 y)=.agg #[.int .u16 (r 0),.int .u16 (r 1),.int .u16 (r 2),.int .u16 (r 3),.int .u16 (bits BinOp.or IntKind.u16 (r 4) (IntKind.u16.wrap (2 ^ y.toNat))),.int .u16 (r 5),.int .u16 (r 6),.int .u16 (r 7),.int .u16 (r 8),.int .u16 (r 9)]:=by
 simp[q1s,inR,q6F,hy,hy']
theorem with_in4 (r:Nat→Int)(y:Int)(hy:0≤y)(hy':y<10)(w:World) :
  Calls Tryz.prog 149 #[zr r,.int .i64 4,.int .i64 y] w fun e w'=>e=.returned (zr (q1s r 4 y))∧Below w.heap.size w w':=by
 rw[withR_4 r y hy hy']
 go_enter Tryz.func149,Tryz.ntmps149
 go_wp2
 go_region
 go_wp2
 exact zP (v:=.agg #[.int .u16 (r 0),.int .u16 (r 1),.int .u16 (r 2),.int .u16 (r 3),.int .u16 (bits BinOp.or IntKind.u16 (r 4) (IntKind.u16.wrap (2 ^ y.toNat))),.int .u16 (r 5),.int .u16 (r 6),.int .u16 (r 7),.int .u16 (r 8),.int .u16 (r 9)]) (by simp[results,Tryz.results149,go_sem]) rfl ⟨rfl,(((zB _ _).alloc (zL _) _).alloc (by simp) _).drew⟩
theorem withR_5 (r:Nat→Int)(y:Int)(hy:0≤y)(hy':y<10):zr (q1s r 5 y)=.agg #[.int .u16 (r 0),.int .u16 (r 1),.int .u16 (r 2),.int .u16 (r 3),.int .u16 (r 4),.int .u16 (bits BinOp.or IntKind.u16 (r 5) (IntKind.u16.wrap (2 ^ y.toNat))),.int .u16 (r 6),.int .u16 (r 7),.int .u16 (r 8),.int .u16 (r 9)]:=by
 simp[q1s,inR,q6F,hy,hy']
theorem with_in5 (r:Nat→Int)(y:Int)(hy:0≤y)(hy':y<10)(w:World) :
  Calls Tryz.prog 149 #[zr r,.int .i64 5,.int .i64 y] w fun e w'=>e=.returned (zr (q1s r 5 y))∧Below w.heap.size w w':=by
 rw[withR_5 r y hy hy']
 go_enter Tryz.func149,Tryz.ntmps149
 go_wp2
 go_region
 go_wp2
 exact zP (v:=.agg #[.int .u16 (r 0),.int .u16 (r 1),.int .u16 (r 2),.int .u16 (r 3),.int .u16 (r 4),.int .u16 (bits BinOp.or IntKind.u16 (r 5) (IntKind.u16.wrap (2 ^ y.toNat))),.int .u16 (r 6),.int .u16 (r 7),.int .u16 (r 8),.int .u16 (r 9)]) (by simp[results,Tryz.results149,go_sem]) rfl ⟨rfl,(((zB _ _).alloc (zL _) _).alloc (by simp) _).drew⟩
theorem withR_6 (r:Nat→Int)(y:Int)(hy:0≤y)(hy':y<10):zr (q1s r 6 y)=.agg #[.int .u16 (r 0),.int .u16 (r 1),.int .u16 (r 2),.int .u16 (r 3),.int .u16 (r 4),.int .u16 (r 5),.int .u16 (bits BinOp.or IntKind.u16 (r 6) (IntKind.u16.wrap (2 ^ y.toNat))),.int .u16 (r 7),.int .u16 (r 8),.int .u16 (r 9)]:=by
 simp[q1s,inR,q6F,hy,hy']
theorem with_in6 (r:Nat→Int)(y:Int)(hy:0≤y)(hy':y<10)(w:World) :
  Calls Tryz.prog 149 #[zr r,.int .i64 6,.int .i64 y] w fun e w'=>e=.returned (zr (q1s r 6 y))∧Below w.heap.size w w':=by
 rw[withR_6 r y hy hy']
 go_enter Tryz.func149,Tryz.ntmps149
 go_wp2
 go_region
 go_wp2
 exact zP (v:=.agg #[.int .u16 (r 0),.int .u16 (r 1),.int .u16 (r 2),.int .u16 (r 3),.int .u16 (r 4),.int .u16 (r 5),.int .u16 (bits BinOp.or IntKind.u16 (r 6) (IntKind.u16.wrap (2 ^ y.toNat))),.int .u16 (r 7),.int .u16 (r 8),.int .u16 (r 9)]) (by simp[results,Tryz.results149,go_sem]) rfl ⟨rfl,(((zB _ _).alloc (zL _) _).alloc (by simp) _).drew⟩
theorem withR_7 (r:Nat→Int)(y:Int)(hy:0≤y)(hy':y<10):zr (q1s r 7 y)=.agg #[.int .u16 (r 0),.int .u16 (r 1),.int .u16 (r 2),.int .u16 (r 3),.int .u16 (r 4),.int .u16 (r 5),.int .u16 (r 6),.int .u16 (bits BinOp.or IntKind.u16 (r 7) (IntKind.u16.wrap (2 ^ y.toNat))),.int .u16 (r 8),.int .u16 (r 9)]:=by
 simp[q1s,inR,q6F,hy,hy']
theorem with_in7 (r:Nat→Int)(y:Int)(hy:0≤y)(hy':y<10)(w:World) :
  Calls Tryz.prog 149 #[zr r,.int .i64 7,.int .i64 y] w fun e w'=>e=.returned (zr (q1s r 7 y))∧Below w.heap.size w w':=by
 rw[withR_7 r y hy hy']
 go_enter Tryz.func149,Tryz.ntmps149
 go_wp2
 go_region
 go_wp2
 exact zP (v:=.agg #[.int .u16 (r 0),.int .u16 (r 1),.int .u16 (r 2),.int .u16 (r 3),.int .u16 (r 4),.int .u16 (r 5),.int .u16 (r 6),.int .u16 (bits BinOp.or IntKind.u16 (r 7) (IntKind.u16.wrap (2 ^ y.toNat))),.int .u16 (r 8),.int .u16 (r 9)]) (by simp[results,Tryz.results149,go_sem]) rfl ⟨rfl,(((zB _ _).alloc (zL _) _).alloc (by simp) _).drew⟩
theorem withR_8 (r:Nat→Int)(y:Int)(hy:0≤y)(hy':y<10):zr (q1s r 8 y)=.agg #[.int .u16 (r 0),.int .u16 (r 1),.int .u16 (r 2),.int .u16 (r 3),.int .u16 (r 4),.int .u16 (r 5),.int .u16 (r 6),.int .u16 (r 7),.int .u16 (bits BinOp.or IntKind.u16 (r 8) (IntKind.u16.wrap (2 ^ y.toNat))),.int .u16 (r 9)]:=by
 simp[q1s,inR,q6F,hy,hy']
theorem with_in8 (r:Nat→Int)(y:Int)(hy:0≤y)(hy':y<10)(w:World) :
  Calls Tryz.prog 149 #[zr r,.int .i64 8,.int .i64 y] w fun e w'=>e=.returned (zr (q1s r 8 y))∧Below w.heap.size w w':=by
 rw[withR_8 r y hy hy']
 go_enter Tryz.func149,Tryz.ntmps149
 go_wp2
 go_region
 go_wp2
 exact zP (v:=.agg #[.int .u16 (r 0),.int .u16 (r 1),.int .u16 (r 2),.int .u16 (r 3),.int .u16 (r 4),.int .u16 (r 5),.int .u16 (r 6),.int .u16 (r 7),.int .u16 (bits BinOp.or IntKind.u16 (r 8) (IntKind.u16.wrap (2 ^ y.toNat))),.int .u16 (r 9)]) (by simp[results,Tryz.results149,go_sem]) rfl ⟨rfl,(((zB _ _).alloc (zL _) _).alloc (by simp) _).drew⟩
theorem withR_9 (r:Nat→Int)(y:Int)(hy:0≤y)(hy':y<10):zr (q1s r 9 y)=.agg #[.int .u16 (r 0),.int .u16 (r 1),.int .u16 (r 2),.int .u16 (r 3),.int .u16 (r 4),.int .u16 (r 5),.int .u16 (r 6),.int .u16 (r 7),.int .u16 (r 8),.int .u16 (bits BinOp.or IntKind.u16 (r 9) (IntKind.u16.wrap (2 ^ y.toNat)))]:=by
 simp[q1s,inR,q6F,hy,hy']
theorem with_in9 (r:Nat→Int)(y:Int)(hy:0≤y)(hy':y<10)(w:World) :
  Calls Tryz.prog 149 #[zr r,.int .i64 9,.int .i64 y] w fun e w'=>e=.returned (zr (q1s r 9 y))∧Below w.heap.size w w':=by
 rw[withR_9 r y hy hy']
 go_enter Tryz.func149,Tryz.ntmps149
 go_wp2
 go_region
 go_wp2
 exact zP (v:=.agg #[.int .u16 (r 0),.int .u16 (r 1),.int .u16 (r 2),.int .u16 (r 3),.int .u16 (r 4),.int .u16 (r 5),.int .u16 (r 6),.int .u16 (r 7),.int .u16 (r 8),.int .u16 (bits BinOp.or IntKind.u16 (r 9) (IntKind.u16.wrap (2 ^ y.toNat)))]) (by simp[results,Tryz.results149,go_sem]) rfl ⟨rfl,(((zB _ _).alloc (zL _) _).alloc (by simp) _).drew⟩
theorem j6J (r:Nat→Int)(x y:Int)(w:World) :
  Calls Tryz.prog 149 #[zr r,.int .i64 x,.int .i64 y] w fun e w'=>e=.returned (zr (q1s r x y))∧Below w.heap.size w w':=by
 by_cases h:inR x y
 ·obtain⟨h0,h1,h2,h3⟩:=h
  rcases ten h0 h1 with rfl|rfl|rfl|rfl|rfl|rfl|rfl|rfl|rfl|rfl
  ·exact with_in0 r y h2 h3 w
  ·exact with_in1 r y h2 h3 w
  ·exact with_in2 r y h2 h3 w
  ·exact with_in3 r y h2 h3 w
  ·exact with_in4 r y h2 h3 w
  ·exact with_in5 r y h2 h3 w
  ·exact with_in6 r y h2 h3 w
  ·exact with_in7 r y h2 h3 w
  ·exact with_in8 r y h2 h3 w
  ·exact with_in9 r y h2 h3 w
 ·exact with_out r x y h w
def q0T (f:Nat→Bool):Nat:=(List.range 10).foldl (fun a y=>a ||| (if f y then 2 ^ y else 0)) 0
theorem q3a (f:Nat→Bool)(y:Nat):(q0T f).testBit y=(decide (y<10)&&f y):=by
 have h:∀(k:Nat),((List.range k).foldl (fun a y=>a ||| (if f y then 2 ^ y else 0)) 0).testBit y=(decide (y<k)&&f y):=by
  intro k
  induction k with
  |zero=>simp
  |succ k ih =>
   rw[List.range_succ,List.foldl_append,List.foldl_cons,List.foldl_nil,Nat.testBit_or,ih]
   by_cases hk:y=k
   ·subst hk
    cases f y<;>simp
   ·have e:(if f k then 2 ^ k else 0).testBit y=false:=by
     split
     ·rw[Nat.testBit_two_pow];simpa using fun e=>hk e.symm
     ·simp
    rw[e,Bool.or_false]
    have e2:decide (y<k+1)=decide (y<k):=by
     by_cases h:y<k
     ·rw[decide_eq_true h,decide_eq_true (by omega)]
     ·rw[decide_eq_false h,decide_eq_false (by omega)]
    rw[e2]
 exact h 10
theorem q3V (f:Nat→Bool):q0T f<1024:=by
 apply Nat.lt_pow_two_of_testBit (n:=10)
 intro i hi
 rw[q3a,decide_eq_false (by omega),Bool.false_and]
theorem q9j {f:Nat→Bool}{n:Nat}(h:∀y,n.testBit y=(decide (y<10)&&f y)):n=q0T f:=by
 apply Nat.eq_of_testBit_eq
 intro i
 rw[q3a,h]
theorem q3b {f g:Nat→Bool}(h:∀y,y<10→f y=g y):q0T f=q0T g:=by
 apply q9j
 intro y
 rw[q3a]
 by_cases hy:y<10
 ·rw[h y hy]
 ·rw[decide_eq_false hy,Bool.false_and,Bool.false_and]
theorem j6d:q0T (fun _=>true)=1023:=by decide
theorem q9X:q0T (fun _=>false)=0:=by decide
theorem q4r {f:Nat→Bool}:q0T f=0↔∀y,y<10→f y=false:=by
 constructor
 ·intro h y hy
  have:=q3a f y
  rw[h,Nat.zero_testBit,decide_eq_true hy,Bool.true_and]at this
  exact this.symm
 ·intro h
  rw[q3b h]
  exact q9X
theorem j2o {n:Nat}(h:n<65536):IntKind.u16.wrap (n:Int)=(n:Int):=by
 simp[IntKind.wrap,IntKind.bits,IntKind.signed]
 omega
theorem j0t {n:Nat}(h:n<65536):(BitVec.ofInt IntKind.u16.bits (n:Int)).toNat=n:=by
 show(BitVec.ofInt 16 (n:Int)).toNat=n
 rw[BitVec.toNat_ofInt]
 omega
theorem j4F (f g:Nat→Bool):bits .and .u16 (q0T f:Int) (q0T g:Int)=(q0T (fun y=>f y&&g y):Int):=by
 have hf:=q3V f
 have hg:=q3V g
 show IntKind.u16.wrap ((BitVec.ofInt IntKind.u16.bits (q0T f:Int) &&& BitVec.ofInt IntKind.u16.bits (q0T g:Int)).toNat:Int)=_
 rw[BitVec.toNat_and,j0t (by omega),j0t (by omega)]
 have e:q0T f &&& q0T g=q0T (fun y=>f y&&g y):=by
  apply q9j
  intro y
  rw[Nat.testBit_and,q3a,q3a]
  cases decide (y<10)<;>simp
 rw[e]
 exact j2o (by have:=q3V (fun y=>f y&&g y);omega)
theorem j3A (f g:Nat→Bool):bits .or .u16 (q0T f:Int) (q0T g:Int)=(q0T (fun y=>f y || g y):Int):=by
 have hf:=q3V f
 have hg:=q3V g
 show IntKind.u16.wrap ((BitVec.ofInt IntKind.u16.bits (q0T f:Int) ||| BitVec.ofInt IntKind.u16.bits (q0T g:Int)).toNat:Int)=_
 rw[BitVec.toNat_or,j0t (by omega),j0t (by omega)]
 have e:q0T f ||| q0T g=q0T (fun y=>f y || g y):=by
  apply q9j
  intro y
  rw[Nat.testBit_or,q3a,q3a]
  cases decide (y<10)<;>simp
 rw[e]
 exact j2o (by have:=q3V (fun y=>f y || g y);omega)
theorem bits_not (f g:Nat→Bool):bits .andNot .u16 (q0T f:Int) (q0T g:Int)=(q0T (fun y=>f y&&!g y):Int):=by
 have hf:=q3V f
 have hg:=q3V g
 show IntKind.u16.wrap ((BitVec.ofInt IntKind.u16.bits (q0T f:Int) &&& ~~~BitVec.ofInt IntKind.u16.bits (q0T g:Int)).toNat:Int)=_
 have e:(BitVec.ofInt IntKind.u16.bits (q0T f:Int) &&& ~~~BitVec.ofInt IntKind.u16.bits (q0T g:Int)).toNat=q0T (fun y=>f y&&!g y):=by
  apply q9j
  intro y
  rw[←BitVec.getLsbD,BitVec.getLsbD_and,BitVec.getLsbD_not,BitVec.getLsbD,BitVec.getLsbD,j0t (by omega),j0t (by omega),q3a,q3a]
  show(decide (y<10)&&f y&&(decide (y<16)&&!(decide (y<10)&&g y)))=_
  by_cases hy:y<10
  ·rw[decide_eq_true hy,decide_eq_true (show y<16 by omega)];simp
  ·rw[decide_eq_false hy];simp
 rw[e]
 exact j2o (by have:=q3V (fun y=>f y&&!g y);omega)
theorem j6e (b:Nat)(hb:b<10):q0T (fun y=>y==b)=2 ^ b:=by
 symm
 apply q9j
 intro y
 rw[Nat.testBit_two_pow]
 by_cases h:b=y
 ·subst h;simp[hb]
 ·rw[decide_eq_false h]
  have:(y==b)=false:=by simpa using fun e=>h e.symm
  rw[this,Bool.and_false]
def zm (s:Nat→Nat→Bool):Nat→Int:=fun x=>(q0T (s x):Int)
theorem j3c (s:Nat→Nat→Bool)(x y:Nat)(hx:x<10)(hy:y<10):q1s (zm s) x y=zm (fun a b=>s a b || (a==x&&b==y)):=by
 funext i
 unfold q1s zm
 by_cases h:x=i
 ·subst h
  rw[if_pos ⟨by unfold inR;omega,rfl⟩]
  unfold q6F
  have e:IntKind.u16.wrap (2 ^ (y:Int).toNat)=(q0T (fun b=>b==y):Int):=by
   rw[j6e y hy]
   have hp:2 ^ y<65536:=zT (Nat.pow_lt_pow_right (by omega) hy) (by decide)
   have:=j2o hp
   rw[Int.toNat_natCast]
   simpa using this
  rw[e,j3A]
  congr 1
  apply q3b
  intro b _
  simp
 ·rw[if_neg (by intro h';exact h (by have:=h'.2;omega))]
  congr 1
  apply q3b
  intro b _
  have:(i==x)=false:=by simpa using fun e=>h e.symm
  show s i b=(s i b || (i==x&&b==y))
  rw[this,Bool.false_and,Bool.or_false]
theorem j7I {s t:Nat→Nat→Bool}(h:∀x y,x<10→y<10→s x y=t x y)(x:Nat)(hx:x<10):zm s x=zm t x:=by
 unfold zm
 congr 1
 exact q3b fun y hy=>h x y hx hy
abbrev qA (r:Nat→Int):List Value:=[.int .u16 (r 0),.int .u16 (r 1),.int .u16 (r 2),.int .u16 (r 3),.int .u16 (r 4),.int .u16 (r 5),.int .u16 (r 6),.int .u16 (r 7),.int .u16 (r 8),.int .u16 (r 9)]
theorem j6a (r:Nat→Int)(j:Nat)(h:j<10):(qA r)[j]?=some (.int .u16 (r j)):=by
 rcases(by omega:j=0∨j=1∨j=2∨j=3∨j=4∨j=5∨j=6∨j=7∨j=8∨j=9)with rfl|rfl|rfl|rfl|rfl|rfl|rfl|rfl|rfl|rfl<;>rfl
structure Arr (w:World)(b:Nat)(f:Nat→Int):Prop where
 cells:∀j,j<10→w.cell? ⟨b,j,none⟩=some (.int .u16 (f j))
 free:∀j,w.frozen? ⟨b,j,none⟩=false
 lt:b<w.heap.size
theorem Arr.of_row {w:World}{b:Nat}{f:Nat→Int}{t:TypeId}(h:w.heap[b]?=some (.cells #[.int .u16 (f 0),.int .u16 (f 1),.int .u16 (f 2),.int .u16 (f 3),.int .u16 (f 4),.int .u16 (f 5),.int .u16 (f 6),.int .u16 (f 7),.int .u16 (f 8),.int .u16 (f 9)] t (0,0))):Arr w b f:=by
 refine⟨fun j hj=>?_,fun j=>zF _ _ j _ _ h,?_⟩
 ·rw[zC _ _ j _ _ _ h]
  show(qA f).toArray[j]?=_
  rw[List.getElem?_toArray]
  exact j6a f j hj
 ·rcases Nat.lt_or_ge b w.heap.size with g|g
  ·exact g
  ·rw[Array.getElem?_eq_none g]at h;simp at h
theorem Arr.set {w:World}{b:Nat}{f:Nat→Int}(h:Arr w b f)(j:Nat)(hj:j<10)(v:Int):Arr (w.setCell ⟨b,j,none⟩ (.int .u16 v)) b (fun i=>if i=j then v else f i):=by
 refine⟨fun i hi=>?_,fun i=>by rw[World.frozen?_setCell];exact h.free i,by simpa using h.lt⟩
 by_cases e:i=j
 ·subst e
  rw[if_pos rfl]
  exact zS w _ _ (h.cells i hi)
 ·rw[if_neg e,zX w _ _ _ (by intro q;injection q with q1 q2;exact e q2.symm)]
  exact h.cells i hi
theorem Arr.other {w:World}{b b' o:Nat}{f:Nat→Int}(h:Arr w b f)(hb:b≠b')(v:Value):Arr (w.setCell ⟨b',o,none⟩ v) b f:=by
 refine⟨fun i hi=>?_,fun i=>by rw[World.frozen?_setCell];exact h.free i,by simpa using h.lt⟩
 rw[zX w _ _ _ (by intro q;injection q with q1 _;exact hb q1.symm)]
 exact h.cells i hi
theorem Arr.drew {w:World}{b:Nat}{f:Nat→Int}(h:Arr w b f):Arr w.drew b f:=⟨h.cells,h.free,h.lt⟩
theorem Arr.congr {w:World}{b:Nat}{f g:Nat→Int}(h:Arr w b f)(e:∀j,j<10→f j=g j):Arr w b g:=⟨fun j hj=>by rw[←e j hj];exact h.cells j hj,h.free,h.lt⟩
theorem Arr.range {w:World}{b:Nat}{f:Nat→Int}(h:Arr w b f):w.rangeAt b 0 (qA f):=fun j v hv=>by
 have hj:j<10:=(List.getElem?_eq_some_iff.1 hv).1
 rw[j6a f j hj]at hv
 rw[Nat.zero_add,h.cells j hj,hv]
theorem Arr.load {w:World}{b:Nat}{f:Nat→Int}(h:Arr w b f):(Instr.loadAt 43 (.pointer (some ⟨b,0,none⟩))).run Tryz.prog w=.ok (zr f) w:=
 run_loadAt_mid w b 0 43 (qA f) _ h.range Tryz.underlying43 rfl (by kernel_rfl)
theorem Arr.loadV {w:World}{b:Nat}{f:Nat→Int}(h:Arr w b f):(loadVar 43 ⟨b,0,none⟩).run Tryz.prog w=.ok (zr f) w:=
 run_loadVar_mid w b 0 43 (qA f) _ h.range Tryz.underlying43 rfl (by kernel_rfl)
theorem zl {P:Program}{fn:Func}{p:Tmp}{ty:TypeId}(h:fn.results=#[.cell p ty])(tmps:Array Value)(w:World)(g:Nat)(v:Value)(hp:tmps.getD p undef=.pointer (some ⟨g,0,none⟩))
  (hl:(loadVar ty ⟨g,0,none⟩).run P w=.ok v w):(results fn tmps).run P w=.ok v w:=by
 have hp':tmps[p]?.getD undef=.pointer (some ⟨g,0,none⟩):=by simpa using hp
 simp[results,h,hp',asAddr,hl]
def j4z (w:World)(r h q:Nat→Int)(g:Nat)(vi:Value)(wr:World):Prop:=
 ∃k:Nat,k≤10∧10-k≤g∧vi=.int .i64 k∧Arr wr w.heap.size (fun j=>if j<k then h j else r j)∧Arr wr (w.heap.size+1) q∧wr.heap[w.heap.size+2]?=some (.cells #[.int .u16 0,.int .u16 0,.int .u16 0,.int .u16 0,.int .u16 0,.int .u16 0,.int .u16 0,.int .u16 0,.int .u16 0,.int .u16 0] 43 (0,0))∧Below w.heap.size w wr
theorem j1C (w:World)(r h q:Nat→Int):j4z w r h q 10 (.int .i64 0) (((w.alloc (.cells #[.int .u16 (r 0),.int .u16 (r 1),.int .u16 (r 2),.int .u16 (r 3),.int .u16 (r 4),.int .u16 (r 5),.int .u16 (r 6),.int .u16 (r 7),.int .u16 (r 8),.int .u16 (r 9)] 43)).alloc (.cells #[.int .u16 (q 0),.int .u16 (q 1),.int .u16 (q 2),.int .u16 (q 3),.int .u16 (q 4),.int .u16 (q 5),.int .u16 (q 6),.int .u16 (q 7),.int .u16 (q 8),.int .u16 (q 9)] 43)).alloc (.cells #[.int .u16 0,.int .u16 0,.int .u16 0,.int .u16 0,.int .u16 0,.int .u16 0,.int .u16 0,.int .u16 0,.int .u16 0,.int .u16 0] 43)):=by
 refine⟨0,by omega,by omega,rfl,(Arr.of_row (f:=r) (t:=43) ?_).congr (fun j _=>by simp),Arr.of_row (f:=q) (t:=43) ?_,?_,(((zB _ _).alloc (zL _) _).alloc (by simp) _).alloc (by simp;omega) _⟩
 ·rw[zO _ _ (by simp;omega),zO _ _ (by simp)]
  exact zN _ _
 ·rw[zO _ _ (by simp)]
  have:=zN (w.alloc (.cells #[.int .u16 (r 0),.int .u16 (r 1),.int .u16 (r 2),.int .u16 (r 3),.int .u16 (r 4),.int .u16 (r 5),.int .u16 (r 6),.int .u16 (r 7),.int .u16 (r 8),.int .u16 (r 9)] 43)) (.cells #[.int .u16 (q 0),.int .u16 (q 1),.int .u16 (q 2),.int .u16 (q 3),.int .u16 (q 4),.int .u16 (q 5),.int .u16 (q 6),.int .u16 (q 7),.int .u16 (q 8),.int .u16 (q 9)] 43)
  simpa using this
 ·have:=zN ((w.alloc (.cells #[.int .u16 (r 0),.int .u16 (r 1),.int .u16 (r 2),.int .u16 (r 3),.int .u16 (r 4),.int .u16 (r 5),.int .u16 (r 6),.int .u16 (r 7),.int .u16 (r 8),.int .u16 (r 9)] 43)).alloc (.cells #[.int .u16 (q 0),.int .u16 (q 1),.int .u16 (q 2),.int .u16 (q 3),.int .u16 (q 4),.int .u16 (q 5),.int .u16 (q 6),.int .u16 (q 7),.int .u16 (q 8),.int .u16 (q 9)] 43)) (.cells #[.int .u16 0,.int .u16 0,.int .u16 0,.int .u16 0,.int .u16 0,.int .u16 0,.int .u16 0,.int .u16 0,.int .u16 0,.int .u16 0] 43)
  simpa using this
theorem j1B {w wr:World}{r h q:Nat→Int}{k gk:Nat}(hk:k<10)(hg:10-k≤gk)(h0:Arr wr w.heap.size (fun j=>if j<k then h j else r j))(h1:Arr wr (w.heap.size+1) q)(h2:wr.heap[w.heap.size+2]?=some (.cells #[.int .u16 0,.int .u16 0,.int .u16 0,.int .u16 0,.int .u16 0,.int .u16 0,.int .u16 0,.int .u16 0,.int .u16 0,.int .u16 0] 43 (0,0)))(hb:Below w.heap.size w wr)(v:Int)(hv:v=h k) :
  j4z w r h q (gk-1) (.int .i64 ((k:Int)+1)) (wr.setCell ⟨w.heap.size,k,none⟩ (.int .u16 v)).drew:=by
 refine⟨k+1,by omega,by omega,by simp,((h0.set k hk v).congr (fun j hj=>?_)).drew,(h1.other (by omega) _).drew,?_,(hb.setCell (zL _) _).drew⟩
 ·by_cases e:j=k
  ·subst e;rw[if_pos rfl,if_pos (by omega),hv]
  ·rw[if_neg e]
   by_cases e2:j<k
   ·rw[if_pos e2,if_pos (by omega)]
   ·rw[if_neg e2,if_neg (by omega)]
 ·show(wr.setCell ⟨w.heap.size,k,none⟩ (.int .u16 v)).heap[w.heap.size+2]?=_
  rw[Below.heap_setCell wr _ _ _ (by simp)]
  exact h2
theorem j7w {w wr:World}{r h:Nat→Int}(h0:Arr wr w.heap.size (fun j=>if j<10 then h j else r j))(h2:wr.heap[w.heap.size+2]?=some (.cells #[.int .u16 0,.int .u16 0,.int .u16 0,.int .u16 0,.int .u16 0,.int .u16 0,.int .u16 0,.int .u16 0,.int .u16 0,.int .u16 0] 43 (0,0)))(hb:Below w.heap.size w wr) :
  (Instr.loadAt 43 (.pointer (some ⟨w.heap.size,0,none⟩))).run Tryz.prog wr=.ok (zr h) wr∧∃W,(Instr.storeAt 43 (.pointer (some ⟨w.heap.size+2,0,none⟩)) (zr h)).run Tryz.prog wr=.ok () W∧(loadVar 43 ⟨w.heap.size+2,0,none⟩).run Tryz.prog W=.ok (zr h) W∧Below w.heap.size w W:=by
 have e:Arr wr w.heap.size h:=h0.congr (fun j hj=>by rw[if_pos hj])
 refine⟨e.load,?_⟩
 obtain⟨W,s1,s2,s3,s4,s5,s6,s7⟩:=q0n (P:=Tryz.prog) 43 43 wr (w.heap.size+2) _ #[.int .u16 (h 0),.int .u16 (h 1),.int .u16 (h 2),.int .u16 (h 3),.int .u16 (h 4),.int .u16 (h 5),.int .u16 (h 6),.int .u16 (h 7),.int .u16 (h 8),.int .u16 (h 9)] h2 (by kernel_rfl) rfl (by simp[Value.oneCell'])
 refine⟨W,s1,(Arr.of_row s2).loadV,⟨s5.trans hb.os,s6.trans hb.tape,s7.trans hb.output,by rw[s4];exact hb.size,fun k hk=>?_⟩⟩
 rw[s3 k (by omega)]
 exact hb.block k hk
theorem q6Y (s t:Nat→Nat→Bool)(w:World) :
  Calls Tryz.prog 135 #[zr (zm s),zr (zm t)] w fun e w'=>e=.returned (zr (zm fun x y=>s x y&&t x y))∧Below w.heap.size w w':=by
 have HH:Hid (∀k,bits .and .u16 (zm s k) (zm t k)=zm (fun x y=>s x y&&t x y) k):=zb (fun k=>j4F (s k) (t k))
 generalize zm (fun x y=>s x y&&t x y)=h at *
 generalize zm s=r at *
 generalize zm t=q at *
 obtain⟨V,hV⟩:∃V,V=zr h:=⟨_,rfl⟩
 rw[←hV]
 have HV:=zb hV
 clear hV
 go_enter Tryz.func135,Tryz.ntmps135
 go_wp2_with fail
 go_loopg [5] 10 (fun g vi wr=>j4z w r h q g vi wr)
 case atStart=>exact j1C w r h q
 case round =>
  obtain⟨k,hk,hg,rfl,a0,a1,a2,hb⟩:=hrel
  have HA0:=zb a0
  have HA1:=zb a1
  have HA2:=zb a2
  have HB:=zb hb
  have HG:=zb hg
  by_cases hlt:k<10
  ·have c0:=a0.cells k hlt
   simp only[Nat.lt_irrefl,if_false]at c0
   have c1:=a1.cells k hlt
   have f0:=a0.free k
   have hl0:=a0.lt
   have hl1:=a1.lt
   clear a0 a1 a2 hb hg
   go_wp2_with fail
   go_region
   go_wp2_with fail
   have hg1:0<gk:=by have:=HG.out;omega
   go_roundg (gk-1)
   case measure=>omega
   case rel=>exact j1B hlt HG.out HA0.out HA1.out HA2.out HB.out _ (HH.out k)
  ·obtain rfl:k=10:=by omega
   obtain⟨L1,W,S1,S2,S3⟩:=j7w HA0.out HA2.out HB.out
   clear a0 a1 a2 hb hg HH
   rw[←HV.out]at L1 S1 S2
   go_wp2_with (first|(refine ze rfl 43 (.tmp 4) (.tmp 19) rfl ⟨w.heap.size+1+1,0,none⟩ V rfl rfl W S1 ?_)|(refine zj rfl 43 (.tmp 2) rfl ⟨w.heap.size,0,none⟩ V rfl L1 ?_))
   exact zP (v:=V) (zl rfl _ _ _ _ rfl S2) rfl ⟨rfl,S3⟩
theorem q8r (s t:Nat→Nat→Bool)(w:World) :
  Calls Tryz.prog 137 #[zr (zm s),zr (zm t)] w fun e w'=>e=.returned (zr (zm fun x y=>s x y || t x y))∧Below w.heap.size w w':=by
 have HH:Hid (∀k,bits .or .u16 (zm s k) (zm t k)=zm (fun x y=>s x y || t x y) k):=zb (fun k=>j3A (s k) (t k))
 generalize zm (fun x y=>s x y || t x y)=h at *
 generalize zm s=r at *
 generalize zm t=q at *
 obtain⟨V,hV⟩:∃V,V=zr h:=⟨_,rfl⟩
 rw[←hV]
 have HV:=zb hV
 clear hV
 go_enter Tryz.func137,Tryz.ntmps137
 go_wp2_with fail
 go_loopg [5] 10 (fun g vi wr=>j4z w r h q g vi wr)
 case atStart=>exact j1C w r h q
 case round =>
  obtain⟨k,hk,hg,rfl,a0,a1,a2,hb⟩:=hrel
  have HA0:=zb a0
  have HA1:=zb a1
  have HA2:=zb a2
  have HB:=zb hb
  have HG:=zb hg
  by_cases hlt:k<10
  ·have c0:=a0.cells k hlt
   simp only[Nat.lt_irrefl,if_false]at c0
   have c1:=a1.cells k hlt
   have f0:=a0.free k
   have hl0:=a0.lt
   have hl1:=a1.lt
   clear a0 a1 a2 hb hg
   go_wp2_with fail
   go_region
   go_wp2_with fail
   have hg1:0<gk:=by have:=HG.out;omega
   go_roundg (gk-1)
   case measure=>omega
   case rel=>exact j1B hlt HG.out HA0.out HA1.out HA2.out HB.out _ (HH.out k)
  ·obtain rfl:k=10:=by omega
   obtain⟨L1,W,S1,S2,S3⟩:=j7w HA0.out HA2.out HB.out
   clear a0 a1 a2 hb hg HH
   rw[←HV.out]at L1 S1 S2
   go_wp2_with (first|(refine ze rfl 43 (.tmp 4) (.tmp 19) rfl ⟨w.heap.size+1+1,0,none⟩ V rfl rfl W S1 ?_)|(refine zj rfl 43 (.tmp 2) rfl ⟨w.heap.size,0,none⟩ V rfl L1 ?_))
   exact zP (v:=V) (zl rfl _ _ _ _ rfl S2) rfl ⟨rfl,S3⟩
theorem j0o (s t:Nat→Nat→Bool)(w:World) :
  Calls Tryz.prog 136 #[zr (zm s),zr (zm t)] w fun e w'=>e=.returned (zr (zm fun x y=>s x y&&!t x y))∧Below w.heap.size w w':=by
 have HH:Hid (∀k,bits .andNot .u16 (zm s k) (zm t k)=zm (fun x y=>s x y&&!t x y) k):=zb (fun k=>bits_not (s k) (t k))
 generalize zm (fun x y=>s x y&&!t x y)=h at *
 generalize zm s=r at *
 generalize zm t=q at *
 obtain⟨V,hV⟩:∃V,V=zr h:=⟨_,rfl⟩
 rw[←hV]
 have HV:=zb hV
 clear hV
 go_enter Tryz.func136,Tryz.ntmps136
 go_wp2_with fail
 go_loopg [5] 10 (fun g vi wr=>j4z w r h q g vi wr)
 case atStart=>exact j1C w r h q
 case round =>
  obtain⟨k,hk,hg,rfl,a0,a1,a2,hb⟩:=hrel
  have HA0:=zb a0
  have HA1:=zb a1
  have HA2:=zb a2
  have HB:=zb hb
  have HG:=zb hg
  by_cases hlt:k<10
  ·have c0:=a0.cells k hlt
   simp only[Nat.lt_irrefl,if_false]at c0
   have c1:=a1.cells k hlt
   have f0:=a0.free k
   have hl0:=a0.lt
   have hl1:=a1.lt
   clear a0 a1 a2 hb hg
   go_wp2_with fail
   go_region
   go_wp2_with fail
   have hg1:0<gk:=by have:=HG.out;omega
   go_roundg (gk-1)
   case measure=>omega
   case rel=>exact j1B hlt HG.out HA0.out HA1.out HA2.out HB.out _ (HH.out k)
  ·obtain rfl:k=10:=by omega
   obtain⟨L1,W,S1,S2,S3⟩:=j7w HA0.out HA2.out HB.out
   clear a0 a1 a2 hb hg HH
   rw[←HV.out]at L1 S1 S2
   go_wp2_with (first|(refine ze rfl 43 (.tmp 4) (.tmp 19) rfl ⟨w.heap.size+1+1,0,none⟩ V rfl rfl W S1 ?_)|(refine zj rfl 43 (.tmp 2) rfl ⟨w.heap.size,0,none⟩ V rfl L1 ?_))
   exact zP (v:=V) (zl rfl _ _ _ _ rfl S2) rfl ⟨rfl,S3⟩
abbrev qx (t o:By)(x y:Bool)(rc:Int):Value:=.agg #[bs t,bs o,.bool x,.bool y,.int .i64 rc]
theorem q5P (rc b:Int)(h1:-1≤rc∧rc≤1000000)(h2:0≤b∧b≤1000000)(w:World):Calls Tryz.prog 27 #[.int .i64 rc,.int .i64 b] w fun e w'=>e=.returned (.int .i64 (if rc = -1 then b else rc+b))∧w'=w:=by
 obtain⟨h1,h3⟩:=h1
 obtain⟨h2,h4⟩:=h2
 by_cases h:rc = -1
 ·subst h
  rw[if_pos rfl]
  go_enter Tryz.func27,Tryz.ntmps27
  go_wp2_with fail
  go_ret
  exact⟨rfl,rfl⟩
 ·rw[if_neg h]
  have hw:IntKind.i64.wrap (rc+b)=rc+b:=by rw[IntKind.wrap_i64];omega
  have hb:(rc==-1)=false:=by simpa using h
  go_enter Tryz.func27,Tryz.ntmps27
  go_wp2_with fail
  go_ret
  exact⟨rfl,rfl⟩
theorem j5u (op t o:By)(x y:Bool)(r rc:Int)(h1:op.length≤300)(h2:t.length≤300)(h3:o.length≤300)(w:World):Calls Tryz.prog 28 #[bs op,qx t o x y r,.int .i64 rc] w fun e w'=>e=.returned (qx (op++[40]++t++[41]) (op++[40]++o++[41]) x y rc)∧Below w.heap.size w w':=by
 go_enter Tryz.func28,Tryz.ntmps28
 go_wp2_with fail
 have e1:∀q:By,ByteArray.mk op.toArray++ByteArray.mk #[40]++ByteArray.mk q.toArray++ByteArray.mk #[41]=ByteArray.mk (op++[40]++q++[41]).toArray:=fun q=>by rw[←qE,←qE,←qE]
 rw[e1,e1]
 exact zP (v:=qx (op++[40]++t++[41]) (op++[40]++o++[41]) x y rc) (by simp[results,Tryz.results28,go_sem]) rfl ⟨rfl,Joins.below_alloc2 _ _ _⟩
theorem q2u (op t o t2 o2:By)(x y x2 y2:Bool)(r r2:Int)(h1:op.length≤300)(h2:t.length≤300)(h3:o.length≤300)(h4:t2.length≤300)(h5:o2.length≤300)(w:World):Calls Tryz.prog 45 #[bs op,qx t o x y r,qx t2 o2 x2 y2 r2] w fun e w'=>e=.returned (qx (op++[40]++t++[44]++t2++[41]) (op++[40]++o++[44]++o2++[41]) (x || x2) (y || y2) (if r<r2 then r2 else r))∧Below w.heap.size w w':=by
 have e1:∀q p:By,ByteArray.mk op.toArray++ByteArray.mk #[40]++ByteArray.mk q.toArray++ByteArray.mk #[44]++ByteArray.mk p.toArray++ByteArray.mk #[41]=ByteArray.mk (op++[40]++q++[44]++p++[41]).toArray:=fun q p=>by rw[←qE,←qE,←qE,←qE,←qE]
 have HE:=zb e1
 clear e1
 by_cases hr:r<r2
 ·rw[if_pos hr]
  cases x<;>cases y <;>
  ·go_enter Tryz.func45,Tryz.ntmps45
   go_wp2_with fail
   rw[HE.out,HE.out]
   exact zP (v:=qx _ _ _ _ _) (by simp[results,Tryz.results45,go_sem];(first|done|exact⟨rfl,rfl⟩)) rfl ⟨rfl,(((zB _ _).alloc (zL _) _).alloc (by simp) _).alloc (by simp<;>omega) _ |>.alloc (by simp<;>omega) _⟩
 ·rw[if_neg hr]
  cases x<;>cases y <;>
  ·go_enter Tryz.func45,Tryz.ntmps45
   go_wp2_with fail
   rw[HE.out,HE.out]
   exact zP (v:=qx _ _ _ _ _) (by simp[results,Tryz.results45,go_sem];(first|done|exact⟨rfl,rfl⟩)) rfl ⟨rfl,(((zB _ _).alloc (zL _) _).alloc (by simp) _).alloc (by simp<;>omega) _ |>.alloc (by simp<;>omega) _⟩
abbrev q2O (x:By × By × Nat):By:=[91]++x.1++[44]++x.2.1++[93]
theorem q6Z (fb:Nat)(s:By)(i:Nat)(ahead:Bool)(w:World)(h:FeedAt w fb s i) :
  Calls Tryz.prog 26 #[.pointer (some ⟨fb,0,none⟩),.bool ahead] w fun e w'=>e=.returned (.tuple #[bs (q2O (q1h s i ahead).1),.int .i64 (q1h s i ahead).1.2.2])∧FeedAt w' fb s (q1h s i ahead).2∧OnlyB [fb] w w':=by
 have HN:=zb (fun j n hn W q=>q1B fb s j n hn W q)
 have ha:=ql s i (n:=4) (by omega)
 have hb:=ql s (zk s i 4).2 (n:=5) (by omega)
 have HF:=zb h
 have hI:=zb (fun x hx=>q3c x hx)
 clear h
 obtain⟨R,hR⟩:∃R,R=q1h s i ahead:=⟨_,rfl⟩
 rw[←hR]
 unfold q1h at hR
 simp only[]at hR
 have HRE:=zb hR
 clear hR
 have e1:∀q p:By,ByteArray.mk #[91]++ByteArray.mk q.toArray++ByteArray.mk #[44]++ByteArray.mk p.toArray++ByteArray.mk #[93]=ByteArray.mk ([91]++q++[44]++p++[93]).toArray:=fun q p=>by rw[←qE,←qE,←qE,←qE]
 have e2:∀q:By,ByteArray.mk #[91]++ByteArray.mk q.toArray++ByteArray.mk #[44,42,93]=ByteArray.mk ([91]++q++[44]++[42]++[93]).toArray:=fun q=>by rw[List.append_assoc,List.append_assoc,←qE,←qE];rfl
 have HE1:=zb e1
 have HE2:=zb e2
 clear e1 e2
 cases ahead with
 |true =>
  go_enter Tryz.func26,Tryz.ntmps26
  go_wp2_with fail
  refine(HN.out i 4 (by omega) _ HF.out).mono ?_
  rintro e w1 ⟨rfl,f1,o1⟩
  have HF1:=zb f1
  have HO1:=zb o1
  clear f1 o1
  generalize zk s i 4=ra at *
  obtain⟨a,ia⟩:=ra
  simp only[]at *
  go_wp2_with fail
  refine(HN.out ia 5 (by omega) _ HF1.out).mono ?_
  rintro e w2 ⟨rfl,f2,o2⟩
  have HF2:=zb f2
  have HO2:=zb (HO1.out.trans o2)
  clear f2 o2
  generalize zk s ia 5=rb at *
  obtain⟨b,ib⟩:=rb
  simp only[]at *
  have hw:IntKind.i64.wrap ((a:Int)+(b:Int))=((a+b:Nat):Int):=by rw[IntKind.wrap_i64];omega
  have hda:(q0g a).length≤1:=zL _
  have hdb:(q0g (a+b)).length≤1:=zL _
  have HIB:=zb (hI.out (a+b) (by omega))
  rw[Int.natCast_add]at HIB
  go_wp2_with fail
  refine(hI.out a (by omega) _).mono ?_
  rintro e w3 ⟨rfl,rfl⟩
  go_wp2_with fail
  refine(HIB.out _).mono ?_
  rintro e w4 ⟨rfl,rfl⟩
  go_wp2_with fail
  go_ret2
  have hr:=HRE.out
  rw[if_neg (by decide)]at hr
  subst hr
  refine⟨?_,HF2.out,HO2.out⟩
  show Ending.returned (.tuple #[.string _,.int .i64 ((a:Int)+(b:Int))])=_
  rw[HE1.out,←Int.natCast_add]
  rfl
 |false =>
  go_enter Tryz.func26,Tryz.ntmps26
  go_wp2_with fail
  refine(HN.out i 4 (by omega) _ HF.out).mono ?_
  rintro e w1 ⟨rfl,f1,o1⟩
  have HF1:=zb f1
  have HO1:=zb o1
  clear f1 o1
  generalize zk s i 4=ra at *
  obtain⟨a,ia⟩:=ra
  simp only[]at *
  go_wp2_with fail
  refine(HN.out ia 5 (by omega) _ HF1.out).mono ?_
  rintro e w2 ⟨rfl,f2,o2⟩
  have HF2:=zb f2
  have HO2:=zb (HO1.out.trans o2)
  clear f2 o2
  generalize zk s ia 5=rb at *
  obtain⟨b,ib⟩:=rb
  simp only[]at *
  have hw:IntKind.i64.wrap ((a:Int)+(b:Int))=((a+b:Nat):Int):=by rw[IntKind.wrap_i64];omega
  have hda:(q0g a).length≤1:=zL _
  have hdb:(q0g (a+b)).length≤1:=zL _
  have HIB:=zb (hI.out (a+b) (by omega))
  rw[Int.natCast_add]at HIB
  go_wp2_with fail
  refine(HN.out ib 3 (by omega) _ HF2.out).mono ?_
  rintro e w5 ⟨rfl,f3,o3⟩
  have HF3:=zb f3
  have HO3:=zb (HO2.out.trans o3)
  clear f3 o3
  generalize zk s ib 3=rd at *
  obtain⟨c,ic⟩:=rd
  simp only[]at *
  by_cases hc:c=1
  ·subst hc
   go_wp2_with fail
   refine(hI.out a (by omega) _).mono ?_
   rintro e w3 ⟨rfl,rfl⟩
   go_wp2_with fail
   go_ret2
   have hr:=HRE.out
   simp only[if_true]at hr
   subst hr
   refine⟨?_,HF3.out,HO3.out⟩
   show Ending.returned (.tuple #[.string _,.int .i64 0])=_
   rw[HE2.out]
   rfl
  ·have hc':((c:Int)==1)=false:=by simp;omega
   go_wp2_with fail
   refine(hI.out a (by omega) _).mono ?_
   rintro e w3 ⟨rfl,rfl⟩
   go_wp2_with fail
   refine(HIB.out _).mono ?_
   rintro e w4 ⟨rfl,rfl⟩
   go_wp2_with fail
   go_ret2
   have hr:=HRE.out
   simp only[if_true]at hr
   rw[if_neg hc]at hr
   subst hr
   refine⟨?_,HF3.out,HO3.out⟩
   show Ending.returned (.tuple #[.string _,.int .i64 ((a:Int)+(b:Int))])=_
   rw[HE1.out,←Int.natCast_add]
   rfl
structure LPt where
 stamp:Nat
 time:Nat
 haps:List Hp
def tmL (L:List LPt)(i:Nat):Nat:=match L[i]? with
 |some p=>p.time
 |none=>0
def q5y (L:List LPt)(i:Nat):List Hp:=match L[i]? with
 |some p=>p.haps
 |none=>[]
def q0G (L:List LPt)(i j:Nat):Nat:=(tmL L j-tmL L i)+(tmL L i-tmL L j)
def q1N (nd:PNode)(t:Nat):Bool:=decide (nd.slo≤(t:Int))&&(nd.sop || decide ((t:Int)≤nd.shi))
def q4z (k:Int):Bool:=k==10 || k==12 || k==14 || k==15
def q4y (k v:Int)(d x y:Nat):Bool:=if k=3 then x==d else if k=4 then y==d else decide (v=(d:Int))
def j2P (a c:By):Bool:=(List.range 8).all fun j=>zn a j==zn c j
def evP (nd:PNode)(x y:Nat)(h:Hp):Bool:=
 j2P h.nm nd.name&&decide ((h.ds.length:Int)=nd.cnt)&&(!decide (0<nd.cnt) || q4y nd.k0 nd.v0 (h.ds.getD 0 0) x y)&&(!decide (1<nd.cnt) || q4y nd.k1 nd.v1 (h.ds.getD 1 0) x y)
def q8f (W:Nat→Bool)(pos:Nat→Nat)(k:Nat):Bool:=(List.range k).all fun q=>W (pos q)
def q4D (S G W:Nat→Bool)(pos:Nat→Nat)(k:Nat):Bool:=(List.range k).any fun m=>S (pos m)&&(q8f W pos m&&G (pos m))
def q1R (nd:PNode)(A B:Nat→Nat→Nat→Bool)(x y j:Nat):Bool:=if nd.kind=12∨nd.kind=13 then A j x y else B j x y
def q0S (nd:PNode)(A:Nat→Nat→Nat→Bool)(x y j:Nat):Bool:=if nd.kind=14∨nd.kind=16 then A j x y else if nd.kind=15∨nd.kind=17 then !A j x y else true
def qD (nd:PNode)(L:List LPt)(A B:Nat→Nat→Nat→Bool)(i x y:Nat):Bool:=
 if nd.kind=5 then true
 else if nd.kind=2 then(q5y L i).any (evP nd x y)
 else if nd.kind=6 then A i x y&&B i x y
 else if nd.kind=7 then A i x y&&!B i x y
 else if nd.kind=8 then A i x y || B i x y
 else if nd.kind=9 then(List.range 10).any (fun v=>if nd.var=3 then A i v y else A i x v)
 else if nd.kind=10 then decide (0<i)&&(q1N nd (q0G L i (i-1))&&A (i-1) x y)
 else if nd.kind=11 then decide (i+1<L.length)&&(q1N nd (q0G L i (i+1))&&A (i+1) x y)
 else if q4z nd.kind=true then q4D (fun j=>q1N nd (q0G L i j)) (q1R nd A B x y) (q0S nd A x y) (fun m=>i-m) (i+1)
 else q4D (fun j=>q1N nd (q0G L i j)) (q1R nd A B x y) (q0S nd A x y) (fun m=>i+m) (L.length-i)
def zu (L:List LPt):zg→Nat→Nat→Nat→Bool
 | .nil,_,_,_=>false
 | .node p sp y l r,i,x,z=>decide (i<L.length)&&qD (zQ 0 p sp y l r) L (zu L l) (zu L r) i x z
theorem j7t (m p sp:Nat)(y:Pay)(l r:zg)(L:List LPt)(A B:Nat→Nat→Nat→Bool)(i x z:Nat):qD (zQ m p sp y l r) L A B i x z=qD (zQ 0 p sp y l r) L A B i x z:=rfl
theorem j7l (W:Nat→Bool)(pos:Nat→Nat)(k:Nat):q8f W pos (k+1)=(q8f W pos k&&W (pos k)):=by
 unfold q8f
 rw[List.range_succ,List.all_append]
 simp
theorem q7v (S G W:Nat→Bool)(pos:Nat→Nat)(k:Nat):q4D S G W pos (k+1)=(q4D S G W pos k || (S (pos k)&&(q8f W pos k&&G (pos k)))):=by
 unfold q4D
 rw[List.range_succ,List.any_append]
 simp
def q4e (L:List LPt)(reach:Int):Nat→Nat→Nat
 | 0,c=>c
 |f+1,c=>if c+1≤L.length∧reach<(q0G L c (L.length-1):Int)then q4e L reach f (c+1)else c
def qp (L:List LPt)(reach:Int):Nat:=q4e L reach L.length 0
end Go.Proofs.YtiamjjonoeaggabGreatDoor
