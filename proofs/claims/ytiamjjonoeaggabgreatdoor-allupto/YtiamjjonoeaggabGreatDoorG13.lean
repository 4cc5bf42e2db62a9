import Derived.Test.YtiamjjonoeaggabGreatDoorGA
import Derived.Test.YtiamjjonoeaggabGreatDoorGB
import Derived.Test.YtiamjjonoeaggabGreatDoorG00
import Derived.Test.YtiamjjonoeaggabGreatDoorG02
import Derived.Test.YtiamjjonoeaggabGreatDoorG04
import Derived.Test.YtiamjjonoeaggabGreatDoorG08
import Derived.Test.YtiamjjonoeaggabGreatDoorG10
import Derived.Test.YtiamjjonoeaggabGreatDoorG12
import Derived.Deep.LoopGhost
set_option maxRecDepth 100000
set_option maxHeartbeats 16000000
namespace Go.Proofs.YtiamjjonoeaggabGreatDoor
open Go.RowKit
abbrev zn (r:Nat→Int):Value:=.agg #[.int .u16 (r 0),.int .u16 (r 1),.int .u16 (r 2),.int .u16 (r 3),.int .u16 (r 4),.int .u16 (r 5),.int .u16 (r 6),.int .u16 (r 7),.int .u16 (r 8),.int .u16 (r 9)]
abbrev inR (x y:Int):Prop:=0≤x∧x<10∧0≤y∧y<10
def q5R (a:Int)(y:Int):Int:=bits .or .u16 a (IntKind.u16.wrap (2 ^ y.toNat))
def q0O (r:Nat→Int)(x y:Int):Nat→Int:=fun i=>if inR x y∧x=(i:Int)then q5R (r i) y else r i
def q8w (r:Nat→Int)(x y:Int):Bool:=decide (inR x y)&&(bits .and .u16 (r x.toNat / 2 ^ y.toNat) 1==1)
theorem j0F (r:Nat→Int)(x y:Int)(h:¬inR x y):q0O r x y=r:=by
 funext i;simp only[q0O];rw[if_neg (fun h'=>h h'.1)]
theorem with_out (r:Nat→Int)(x y:Int)(h:¬inR x y)(w:World) :
  Calls Tryz.prog 149 #[zn r,.int .i64 x,.int .i64 y] w fun e w'=>e=.returned (zn (q0O r x y))∧Below w.heap.size w w':=by
 rw[j0F r x y h]
 simp only[inR]at h
 go_enter Tryz.func149,Tryz.ntmps149
 go_wp2
 all_goals exact zP (v:=zn r) (by simp[results,Tryz.results149,go_sem]) rfl ⟨rfl,((zB _ _).alloc (zL _) _).alloc (by simp) _⟩
theorem ten {x:Int}(h0:0≤x)(h:x<10):x=0∨x=1∨x=2∨x=3∨x=4∨x=5∨x=6∨x=7∨x=8∨x=9:=by omega
theorem withR_0 (r:Nat→Int)(y:Int)(hy:0≤y)(hy':y<10):zn (q0O r 0 y)=.agg #[.int .u16 (bits BinOp.or IntKind.u16 (r 0) (IntKind.u16.wrap (2 ^ y.toNat))),.int .u16 (r 1),.int .u16 (r 2),.int .u16 (r 3),.int .u16 (r 4),.int .u16 (r 5),.int .u16 (r 6),.int .u16 (r 7),.int .u16 (r 8),.int .u16 (r 9)]:=by
 simp[q0O,inR,q5R,hy,hy']
theorem with_in0 (r:Nat→Int)(y:Int)(hy:0≤y)(hy':y<10)(w:World) :
  Calls Tryz.prog 149 #[zn r,.int .i64 0,.int .i64 y] w fun e w'=>e=.returned (zn (q0O r 0 y))∧Below w.heap.size w w':=by
 rw[withR_0 r y hy hy']
 go_enter Tryz.func149,Tryz.ntmps149
 go_wp2
 go_region
 go_wp2
 exact zP (v:=.agg #[.int .u16 (bits BinOp.or IntKind.u16 (r 0) (IntKind.u16.wrap (2 ^ y.toNat))),.int .u16 (r 1),.int .u16 (r 2),.int .u16 (r 3),.int .u16 (r 4),.int .u16 (r 5),.int .u16 (r 6),.int .u16 (r 7),.int .u16 (r 8),.int .u16 (r 9)]) (by simp[results,Tryz.results149,go_sem]) rfl ⟨rfl,(((zB _ _).alloc (zL _) _).alloc (by simp) _).drew⟩
theorem has_in0 (r:Nat→Int)(y:Int)(hy:0≤y)(hy':y<10)(w:World) :
  Calls Tryz.prog 150 #[zn r,.int .i64 0,.int .i64 y] w fun e w'=>e=.returned (.bool (bits .and .u16 (r 0 / 2 ^ y.toNat) 1==1))∧Below w.heap.size w w':=by
 go_enter Tryz.func150,Tryz.ntmps150
 go_wp2
 go_ret
 exact⟨rfl,(zB _ _).alloc (zL _) _⟩
theorem withR_1 (r:Nat→Int)(y:Int)(hy:0≤y)(hy':y<10):zn (q0O r 1 y)=.agg #[.int .u16 (r 0),.int .u16 (bits BinOp.or IntKind.u16 (r 1) (IntKind.u16.wrap (2 ^ y.toNat))),.int .u16 (r 2),.int .u16 (r 3),.int .u16 (r 4),.int .u16 (r 5),.int .u16 (r 6),.int .u16 (r 7),.int .u16 (r 8),.int .u16 (r 9)]:=by
 simp[q0O,inR,q5R,hy,hy']
theorem with_in1 (r:Nat→Int)(y:Int)(hy:0≤y)(hy':y<10)(w:World) :
  Calls Tryz.prog 149 #[zn r,.int .i64 1,.int .i64 y] w fun e w'=>e=.returned (zn (q0O r 1 y))∧Below w.heap.size w w':=by
 rw[withR_1 r y hy hy']
 go_enter Tryz.func149,Tryz.ntmps149
 go_wp2
 go_region
 go_wp2
 exact zP (v:=.agg #[.int .u16 (r 0),.int .u16 (bits BinOp.or IntKind.u16 (r 1) (IntKind.u16.wrap (2 ^ y.toNat))),.int .u16 (r 2),.int .u16 (r 3),.int .u16 (r 4),.int .u16 (r 5),.int .u16 (r 6),.int .u16 (r 7),.int .u16 (r 8),.int .u16 (r 9)]) (by simp[results,Tryz.results149,go_sem]) rfl ⟨rfl,(((zB _ _).alloc (zL _) _).alloc (by simp) _).drew⟩
theorem has_in1 (r:Nat→Int)(y:Int)(hy:0≤y)(hy':y<10)(w:World) :
  Calls Tryz.prog 150 #[zn r,.int .i64 1,.int .i64 y] w fun e w'=>e=.returned (.bool (bits .and .u16 (r 1 / 2 ^ y.toNat) 1==1))∧Below w.heap.size w w':=by
 go_enter Tryz.func150,Tryz.ntmps150
 go_wp2
 go_ret
 exact⟨rfl,(zB _ _).alloc (zL _) _⟩
theorem withR_2 (r:Nat→Int)(y:Int)(hy:0≤y)(hy':y<10):zn (q0O r 2 y)=.agg #[.int .u16 (r 0),.int .u16 (r 1),.int .u16 (bits BinOp.or IntKind.u16 (r 2) (IntKind.u16.wrap (2 ^ y.toNat))),.int .u16 (r 3),.int .u16 (r 4),.int .u16 (r 5),.int .u16 (r 6),.int .u16 (r 7),.int .u16 (r 8),.int .u16 (r 9)]:=by
 simp[q0O,inR,q5R,hy,hy']
theorem with_in2 (r:Nat→Int)(y:Int)(hy:0≤y)(hy':y<10)(w:World) :
  Calls Tryz.prog 149 #[zn r,.int .i64 2,.int .i64 y] w fun e w'=>e=.returned (zn (q0O r 2 y))∧Below w.heap.size w w':=by
 rw[withR_2 r y hy hy']
 go_enter Tryz.func149,Tryz.ntmps149
 go_wp2
 go_region
 go_wp2
 exact zP (v:=.agg #[.int .u16 (r 0),.int .u16 (r 1),.int .u16 (bits BinOp.or IntKind.u16 (r 2) (IntKind.u16.wrap (2 ^ y.toNat))),.int .u16 (r 3),.int .u16 (r 4),.int .u16 (r 5),.int .u16 (r 6),.int .u16 (r 7),.int .u16 (r 8),.int .u16 (r 9)]) (by simp[results,Tryz.results149,go_sem]) rfl ⟨rfl,(((zB _ _).alloc (zL _) _).alloc (by simp) _).drew⟩
theorem has_in2 (r:Nat→Int)(y:Int)(hy:0≤y)(hy':y<10)(w:World) :
  Calls Tryz.prog 150 #[zn r,.int .i64 2,.int .i64 y] w fun e w'=>e=.returned (.bool (bits .and .u16 (r 2 / 2 ^ y.toNat) 1==1))∧Below w.heap.size w w':=by
 go_enter Tryz.func150,Tryz.ntmps150
 go_wp2
 go_ret
 exact⟨rfl,(zB _ _).alloc (zL _) _⟩
theorem withR_3 (r:Nat→Int)(y:Int)(hy:0≤y)(hy':y<10):zn (q0O r 3 y)=.agg #[.int .u16 (r 0),.int .u16 (r 1),.int .u16 (r 2),.int .u16 (bits BinOp.or IntKind.u16 (r 3) (IntKind.u16.wrap (2 ^ y.toNat))),.int .u16 (r 4),.int .u16 (r 5),.int .u16 (r 6),.int .u16 (r 7),.int .u16 (r 8),.int .u16 (r 9)]:=by
 simp[q0O,inR,q5R,hy,hy']
theorem with_in3 (r:Nat→Int)(y:Int)(hy:0≤y)(hy':y<10)(w:World) :
  Calls Tryz.prog 149 #[zn r,.int .i64 3,.int .i64 y] w fun e w'=>e=.returned (zn (q0O r 3 y))∧Below w.heap.size w w':=by
 rw[withR_3 r y hy hy']
 go_enter Tryz.func149,Tryz.ntmps149
 go_wp2
 go_region
 go_wp2
 exact zP (v:=.agg #[.int .u16 (r 0),.int .u16 (r 1),.int .u16 (r 2),.int .u16 (bits BinOp.or IntKind.u16 (r 3) (IntKind.u16.wrap (2 ^ y.toNat))),.int .u16 (r 4),.int .u16 (r 5),.int .u16 (r 6),.int .u16 (r 7),.int .u16 (r 8),.int .u16 (r 9)]) (by simp[results,Tryz.results149,go_sem]) rfl ⟨rfl,(((zB _ _).alloc (zL _) _).alloc (by simp) _).drew⟩
theorem has_in3 (r:Nat→Int)(y:Int)(hy:0≤y)(hy':y<10)(w:World) :
  Calls Tryz.prog 150 #[zn r,.int .i64 3,.int .i64 y] w fun e w'=>e=.returned (.bool (bits .and .u16 (r 3 / 2 ^ y.toNat) 1==1))∧Below w.heap.size w w':=by
 go_enter Tryz.func150,Tryz.ntmps150
 go_wp2
 go_ret
 exact⟨rfl,(zB _ _).alloc (zL _) _⟩
theorem withR_4 (r:Nat→Int)(y:Int)(hy:0≤y)(hy':y<10):zn (q0O r 4 y)=.agg #[.int .u16 (r 0),.int .u16 (r 1),.int .u16 (r 2),.int .u16 (r 3),.int .u16 (bits BinOp.or IntKind.u16 (r 4) (IntKind.u16.wrap (2 ^ y.toNat))),.int .u16 (r 5),.int .u16 (r 6),.int .u16 (r 7),.int .u16 (r 8),.int .u16 (r 9)]:=by
 simp[q0O,inR,q5R,hy,hy']
theorem with_in4 (r:Nat→Int)(y:Int)(hy:0≤y)(hy':y<10)(w:World) :
  Calls Tryz.prog 149 #[zn r,.int .i64 4,.int .i64 y] w fun e w'=>e=.returned (zn (q0O r 4 y))∧Below w.heap.size w w':=by
 rw[withR_4 r y hy hy']
 go_enter Tryz.func149,Tryz.ntmps149
 go_wp2
 go_region
 go_wp2
 exact zP (v:=.agg #[.int .u16 (r 0),.int .u16 (r 1),.int .u16 (r 2),.int .u16 (r 3),.int .u16 (bits BinOp.or IntKind.u16 (r 4) (IntKind.u16.wrap (2 ^ y.toNat))),.int .u16 (r 5),.int .u16 (r 6),.int .u16 (r 7),.int .u16 (r 8),.int .u16 (r 9)]) (by simp[results,Tryz.results149,go_sem]) rfl ⟨rfl,(((zB _ _).alloc (zL _) _).alloc (by simp) _).drew⟩
theorem has_in4 (r:Nat→Int)(y:Int)(hy:0≤y)(hy':y<10)(w:World) :
  Calls Tryz.prog 150 #[zn r,.int .i64 4,.int .i64 y] w fun e w'=>e=.returned (.bool (bits .and .u16 (r 4 / 2 ^ y.toNat) 1==1))∧Below w.heap.size w w':=by
 go_enter Tryz.func150,Tryz.ntmps150
 go_wp2
 go_ret
 exact⟨rfl,(zB _ _).alloc (zL _) _⟩
theorem withR_5 (r:Nat→Int)(y:Int)(hy:0≤y)(hy':y<10):zn (q0O r 5 y)=.agg #[.int .u16 (r 0),.int .u16 (r 1),.int .u16 (r 2),.int .u16 (r 3),.int .u16 (r 4),.int .u16 (bits BinOp.or IntKind.u16 (r 5) (IntKind.u16.wrap (2 ^ y.toNat))),.int .u16 (r 6),.int .u16 (r 7),.int .u16 (r 8),.int .u16 (r 9)]:=by
 simp[q0O,inR,q5R,hy,hy']
theorem with_in5 (r:Nat→Int)(y:Int)(hy:0≤y)(hy':y<10)(w:World) :
  Calls Tryz.prog 149 #[zn r,.int .i64 5,.int .i64 y] w fun e w'=>e=.returned (zn (q0O r 5 y))∧Below w.heap.size w w':=by
 rw[withR_5 r y hy hy']
 go_enter Tryz.func149,Tryz.ntmps149
 go_wp2
 go_region
 go_wp2
 exact zP (v:=.agg #[.int .u16 (r 0),.int .u16 (r 1),.int .u16 (r 2),.int .u16 (r 3),.int .u16 (r 4),.int .u16 (bits BinOp.or IntKind.u16 (r 5) (IntKind.u16.wrap (2 ^ y.toNat))),.int .u16 (r 6),.int .u16 (r 7),.int .u16 (r 8),.int .u16 (r 9)]) (by simp[results,Tryz.results149,go_sem]) rfl ⟨rfl,(((zB _ _).alloc (zL _) _).alloc (by simp) _).drew⟩
theorem has_in5 (r:Nat→Int)(y:Int)(hy:0≤y)(hy':y<10)(w:World) :
  Calls Tryz.prog 150 #[zn r,.int .i64 5,.int .i64 y] w fun e w'=>e=.returned (.bool (bits .and .u16 (r 5 / 2 ^ y.toNat) 1==1))∧Below w.heap.size w w':=by
 go_enter Tryz.func150,Tryz.ntmps150
 go_wp2
 go_ret
 exact⟨rfl,(zB _ _).alloc (zL _) _⟩
theorem withR_6 (r:Nat→Int)(y:Int)(hy:0≤y)(hy':y<10):zn (q0O r 6 y)=.agg #[.int .u16 (r 0),.int .u16 (r 1),.int .u16 (r 2),.int .u16 (r 3),.int .u16 (r 4),.int .u16 (r 5),.int .u16 (bits BinOp.or IntKind.u16 (r 6) (IntKind.u16.wrap (2 ^ y.toNat))),.int .u16 (r 7),.int .u16 (r 8),.int .u16 (r 9)]:=by
 simp[q0O,inR,q5R,hy,hy']
theorem with_in6 (r:Nat→Int)(y:Int)(hy:0≤y)(hy':y<10)(w:World) :
  Calls Tryz.prog 149 #[zn r,.int .i64 6,.int .i64 y] w fun e w'=>e=.returned (zn (q0O r 6 y))∧Below w.heap.size w w':=by
 rw[withR_6 r y hy hy']
 go_enter Tryz.func149,Tryz.ntmps149
 go_wp2
 go_region
 go_wp2
 exact zP (v:=.agg #[.int .u16 (r 0),.int .u16 (r 1),.int .u16 (r 2),.int .u16 (r 3),.int .u16 (r 4),.int .u16 (r 5),.int .u16 (bits BinOp.or IntKind.u16 (r 6) (IntKind.u16.wrap (2 ^ y.toNat))),.int .u16 (r 7),.int .u16 (r 8),.int .u16 (r 9)]) (by simp[results,Tryz.results149,go_sem]) rfl ⟨rfl,(((zB _ _).alloc (zL _) _).alloc (by simp) _).drew⟩
theorem has_in6 (r:Nat→Int)(y:Int)(hy:0≤y)(hy':y<10)(w:World) :
  Calls Tryz.prog 150 #[zn r,.int .i64 6,.int .i64 y] w fun e w'=>e=.returned (.bool (bits .and .u16 (r 6 / 2 ^ y.toNat) 1==1))∧Below w.heap.size w w':=by
 go_enter Tryz.func150,Tryz.ntmps150
 go_wp2
 go_ret
 exact⟨rfl,(zB _ _).alloc (zL _) _⟩
theorem withR_7 (r:Nat→Int)(y:Int)(hy:0≤y)(hy':y<10):zn (q0O r 7 y)=.agg #[.int .u16 (r 0),.int .u16 (r 1),.int .u16 (r 2),.int .u16 (r 3),.int .u16 (r 4),.int .u16 (r 5),.int .u16 (r 6),.int .u16 (bits BinOp.or IntKind.u16 (r 7) (IntKind.u16.wrap (2 ^ y.toNat))),.int .u16 (r 8),.int .u16 (r 9)]:=by
 simp[q0O,inR,q5R,hy,hy']
theorem with_in7 (r:Nat→Int)(y:Int)(hy:0≤y)(hy':y<10)(w:World) :
  Calls Tryz.prog 149 #[zn r,.int .i64 7,.int .i64 y] w fun e w'=>e=.returned (zn (q0O r 7 y))∧Below w.heap.size w w':=by
 rw[withR_7 r y hy hy']
 go_enter Tryz.func149,Tryz.ntmps149
 go_wp2
 go_region
 go_wp2
 exact zP (v:=.agg #[.int .u16 (r 0),.int .u16 (r 1),.int .u16 (r 2),.int .u16 (r 3),.int .u16 (r 4),.int .u16 (r 5),.int .u16 (r 6),.int .u16 (bits BinOp.or IntKind.u16 (r 7) (IntKind.u16.wrap (2 ^ y.toNat))),.int .u16 (r 8),.int .u16 (r 9)]) (by simp[results,Tryz.results149,go_sem]) rfl ⟨rfl,(((zB _ _).alloc (zL _) _).alloc (by simp) _).drew⟩
theorem has_in7 (r:Nat→Int)(y:Int)(hy:0≤y)(hy':y<10)(w:World) :
  Calls Tryz.prog 150 #[zn r,.int .i64 7,.int .i64 y] w fun e w'=>e=.returned (.bool (bits .and .u16 (r 7 / 2 ^ y.toNat) 1==1))∧Below w.heap.size w w':=by
 go_enter Tryz.func150,Tryz.ntmps150
 go_wp2
 go_ret
 exact⟨rfl,(zB _ _).alloc (zL _) _⟩
theorem withR_8 (r:Nat→Int)(y:Int)(hy:0≤y)(hy':y<10):zn (q0O r 8 y)=.agg #[.int .u16 (r 0),.int .u16 (r 1),.int .u16 (r 2),.int .u16 (r 3),.int .u16 (r 4),.int .u16 (r 5),.int .u16 (r 6),.int .u16 (r 7),.int .u16 (bits BinOp.or IntKind.u16 (r 8) (IntKind.u16.wrap (2 ^ y.toNat))),.int .u16 (r 9)]:=by
 simp[q0O,inR,q5R,hy,hy']
theorem with_in8 (r:Nat→Int)(y:Int)(hy:0≤y)(hy':y<10)(w:World) :
  Calls Tryz.prog 149 #[zn r,.int .i64 8,.int .i64 y] w fun e w'=>e=.returned (zn (q0O r 8 y))∧Below w.heap.size w w':=by
 rw[withR_8 r y hy hy']
 go_enter Tryz.func149,Tryz.ntmps149
 go_wp2
 go_region
 go_wp2
 exact zP (v:=.agg #[.int .u16 (r 0),.int .u16 (r 1),.int .u16 (r 2),.int .u16 (r 3),.int .u16 (r 4),.int .u16 (r 5),.int .u16 (r 6),.int .u16 (r 7),.int .u16 (bits BinOp.or IntKind.u16 (r 8) (IntKind.u16.wrap (2 ^ y.toNat))),.int .u16 (r 9)]) (by simp[results,Tryz.results149,go_sem]) rfl ⟨rfl,(((zB _ _).alloc (zL _) _).alloc (by simp) _).drew⟩
theorem has_in8 (r:Nat→Int)(y:Int)(hy:0≤y)(hy':y<10)(w:World) :
  Calls Tryz.prog 150 #[zn r,.int .i64 8,.int .i64 y] w fun e w'=>e=.returned (.bool (bits .and .u16 (r 8 / 2 ^ y.toNat) 1==1))∧Below w.heap.size w w':=by
 go_enter Tryz.func150,Tryz.ntmps150
 go_wp2
 go_ret
 exact⟨rfl,(zB _ _).alloc (zL _) _⟩
theorem withR_9 (r:Nat→Int)(y:Int)(hy:0≤y)(hy':y<10):zn (q0O r 9 y)=.agg #[.int .u16 (r 0),.int .u16 (r 1),.int .u16 (r 2),.int .u16 (r 3),.int .u16 (r 4),.int .u16 (r 5),.int .u16 (r 6),.int .u16 (r 7),.int .u16 (r 8),.int .u16 (bits BinOp.or IntKind.u16 (r 9) (IntKind.u16.wrap (2 ^ y.toNat)))]:=by
 simp[q0O,inR,q5R,hy,hy']
theorem with_in9 (r:Nat→Int)(y:Int)(hy:0≤y)(hy':y<10)(w:World) :
  Calls Tryz.prog 149 #[zn r,.int .i64 9,.int .i64 y] w fun e w'=>e=.returned (zn (q0O r 9 y))∧Below w.heap.size w w':=by
 rw[withR_9 r y hy hy']
 go_enter Tryz.func149,Tryz.ntmps149
 go_wp2
 go_region
 go_wp2
 exact zP (v:=.agg #[.int .u16 (r 0),.int .u16 (r 1),.int .u16 (r 2),.int .u16 (r 3),.int .u16 (r 4),.int .u16 (r 5),.int .u16 (r 6),.int .u16 (r 7),.int .u16 (r 8),.int .u16 (bits BinOp.or IntKind.u16 (r 9) (IntKind.u16.wrap (2 ^ y.toNat)))]) (by simp[results,Tryz.results149,go_sem]) rfl ⟨rfl,(((zB _ _).alloc (zL _) _).alloc (by simp) _).drew⟩
theorem has_in9 (r:Nat→Int)(y:Int)(hy:0≤y)(hy':y<10)(w:World) :
  Calls Tryz.prog 150 #[zn r,.int .i64 9,.int .i64 y] w fun e w'=>e=.returned (.bool (bits .and .u16 (r 9 / 2 ^ y.toNat) 1==1))∧Below w.heap.size w w':=by
 go_enter Tryz.func150,Tryz.ntmps150
 go_wp2
 go_ret
 exact⟨rfl,(zB _ _).alloc (zL _) _⟩
theorem has_out (r:Nat→Int)(x y:Int)(h:¬inR x y)(w:World) :
  Calls Tryz.prog 150 #[zn r,.int .i64 x,.int .i64 y] w fun e w'=>e=.returned (.bool false)∧Below w.heap.size w w':=by
 simp only[inR]at h
 go_enter Tryz.func150,Tryz.ntmps150
 go_wp2
 all_goals
  go_ret
  exact⟨rfl,(zB _ _).alloc (zL _) _⟩
theorem q8l (r:Nat→Int)(x y:Int)(w:World) :
  Calls Tryz.prog 149 #[zn r,.int .i64 x,.int .i64 y] w fun e w'=>e=.returned (zn (q0O r x y))∧Below w.heap.size w w':=by
 by_cases h:inR x y
 ·obtain⟨h0,h1,h2,h3⟩:=h
  rcases ten h0 h1 with rfl|rfl|rfl|rfl|rfl|rfl|rfl|rfl|rfl|rfl
  ·exact with_in0 r y h2 h3 w
  ·exact with_in1 r y h2 h3 w
  ·exact with_in2 r y h2 h3 w
  ·exact with_in3 r y h2 h3 w
  ·exact with_in4 r y h2 h3 w
  ·exact with_in5 r y h2 h3 w
  ·exact with_in6 r y h2 h3 w
  ·exact with_in7 r y h2 h3 w
  ·exact with_in8 r y h2 h3 w
  ·exact with_in9 r y h2 h3 w
 ·exact with_out r x y h w
theorem hasR_in (r:Nat→Int)(x y:Int)(h:inR x y):q8w r x y=(bits .and .u16 (r x.toNat / 2 ^ y.toNat) 1==1):=by
 unfold q8w;rw[decide_eq_true h,Bool.true_and]
theorem hasR_out (r:Nat→Int)(x y:Int)(h:¬inR x y):q8w r x y=false:=by
 unfold q8w;rw[decide_eq_false h,Bool.false_and]
theorem j2j (r:Nat→Int)(x y:Int)(w:World) :
  Calls Tryz.prog 150 #[zn r,.int .i64 x,.int .i64 y] w fun e w'=>e=.returned (.bool (q8w r x y))∧Below w.heap.size w w':=by
 by_cases h:inR x y
 ·rw[hasR_in r x y h]
  obtain⟨h0,h1,h2,h3⟩:=h
  rcases ten h0 h1 with rfl|rfl|rfl|rfl|rfl|rfl|rfl|rfl|rfl|rfl
  ·exact has_in0 r y h2 h3 w
  ·exact has_in1 r y h2 h3 w
  ·exact has_in2 r y h2 h3 w
  ·exact has_in3 r y h2 h3 w
  ·exact has_in4 r y h2 h3 w
  ·exact has_in5 r y h2 h3 w
  ·exact has_in6 r y h2 h3 w
  ·exact has_in7 r y h2 h3 w
  ·exact has_in8 r y h2 h3 w
  ·exact has_in9 r y h2 h3 w
 ·rw[hasR_out r x y h]
  exact has_out r x y h w
def q8e (r:Nat→Int)(x y:Int)(nm:By)(n:Nat):Bool:=if nm==[121]then q8w r x n else q8w r n y
def q9j (r:Nat→Int)(x y:Int)(nm:By):Bool:=(List.range 10).any (q8e r x y nm)
def SmRel (P:Nat→Bool)(W0:World)(g:Nat)(vi:Value)(wr:World):Prop:=∃k:Nat,k≤10∧10-k≤g∧vi=.int .i64 k∧(∀j,j<k→P j=false)∧Below W0.heap.size W0 wr
theorem ref_some (r:Nat→Int)(x y:Int)(nm:By)(w:World) :
  Calls Tryz.prog 174 #[zn r,.agg #[.int .i64 x,.int .i64 y],bs nm] w fun e w'=>e=.returned (.bool (q9j r x y nm))∧Below w.heap.size w w':=by
 have hS:Hid (q9j r x y nm=(List.range 10).any (q8e r x y nm)):=zb rfl
 generalize q9j r x y nm=R at *
 obtain⟨V,hV⟩:∃V,V=zn r:=⟨_,rfl⟩
 rw[←hV]
 have HV:=zb hV
 clear hV
 go_enter Tryz.func174,Tryz.ntmps174
 go_wp2_with (refine qo rfl 43 (.tmp 0) rfl V _ rfl HV.out ?_;intro w1 hB hb1 hs1)
 obtain⟨W0,hW0⟩:∃W:World,W=w1.alloc (.cells #[.int .i64 x,.int .i64 y] 245):=⟨_,rfl⟩
 rw[←hW0]
 have hB0:=(show W0.heap[w.heap.size]?=w1.heap[w.heap.size]? by rw[hW0,zO _ _ (by omega)]).trans hB
 have hP0:W0.heap[w1.heap.size]?=some (.cells #[.int .i64 x,.int .i64 y] 245 (0,0)):=by rw[hW0];exact zN _ _
 have hz0:W0.heap.size=w1.heap.size+1:=by rw[hW0];simp
 have B0:Below w.heap.size w W0:=by rw[hW0];exact hb1.alloc hb1.size _
 rw[hs1]at hP0
 have HK:Hid (∀wr,Below W0.heap.size W0 wr→(Instr.loadAt 43 (.pointer (some ⟨w.heap.size,0,none⟩))).run Tryz.prog wr=.ok V wr∧wr.cell? ⟨w.heap.size+1,0,none⟩=some (.int .i64 x)∧wr.cell? ⟨w.heap.size+1,1,none⟩=some (.int .i64 y)):=zb (fun wr hb=>by
  have e0:=(hb.block w.heap.size (by omega)).trans hB0
  have e1:=(hb.block (w.heap.size+1) (by omega)).trans hP0
  refine⟨?_,?_,?_⟩
  ·rw[HV.out]
   exact q1s 43 _ wr w.heap.size _ _ _ e0 Tryz.underlying43 rfl (by kernel_rfl)
  ·rw[zC _ _ 0 _ _ _ e1];rfl
  ·rw[zC _ _ 1 _ _ _ e1];rfl)
 have HB0:=zb B0
 clear hB hb1 hW0 hB0 hP0 hz0 B0
 go_loopg [7] 10 (fun g vi wr=>SmRel (q8e r x y nm) W0 g vi wr)
 case atStart=>exact⟨0,by omega,by omega,rfl,fun j hj=>absurd hj (by omega),zB _ _⟩
 case round =>
  obtain⟨k,hk,hg,rfl,hf,hbel⟩:=hrel
  have HG:=zb hg
  have HF:=zb hf
  have HB:=zb hbel
  obtain⟨L0,c0,c1⟩:=HK.out wr hbel
  clear hg hf hbel
  by_cases hkn:k<10
  ·have h1:=j2j r (k:Int) y
   have h2:=j2j r x (k:Int)
   rw[show zn r=V from HV.out.symm]at h1 h2
   have HPD:Hid (q8e r x y nm k=if nm==[121]then q8w r x k else q8w r k y):=zb rfl
   have HAN:Hid (q8e r x y nm k=true→R=true):=zb (fun h=>by rw[hS.out,List.any_eq_true];exact⟨k,by simpa using hkn,h⟩)
   generalize q8w r (k:Int) y=q1 at *
   generalize q8w r x (k:Int)=q2 at *
   cases hnm:(nm==[121])with
   |true =>
    go_wp2_with (refine zg rfl 43 (.tmp 3) rfl ⟨w.heap.size,0,none⟩ V rfl L0 ?_)
    refine(h1 _).mono ?_
    rintro e w2 ⟨rfl,b2⟩
    obtain⟨L2,d0,d1⟩:=HK.out w2 (HB.out.trans (b2.mono HB.out.size))
    clear L0 c0 c1
    go_wp2_with (refine zg rfl 43 (.tmp 3) rfl ⟨w.heap.size,0,none⟩ V rfl L2 ?_)
    refine(h2 _).mono ?_
    rintro e w3 ⟨rfl,b3⟩
    have b23:Below wr.heap.size wr w3:=b2.trans (b3.mono b2.size)
    cases q2 with
    |true =>
     have hR:=HAN.out (by rw[HPD.out,hnm];rfl)
     subst hR
     go_wp2_with fail
     go_ret
     exact⟨rfl,HB0.out.trans ((HB.out.trans (b23.mono HB.out.size)).mono HB0.out.size)⟩
    |false =>
     have HPK:=zb (show q8e r x y nm k=false by rw[HPD.out,hnm];rfl)
     go_wp2_with fail
     have hg1:0<gk:=by have:=HG.out;omega
     go_roundg (gk-1)
     case measure=>omega
     case rel=>exact⟨k+1,by omega,by have:=HG.out;omega,by go_num,fun j hj=>by by_cases e:j=k;(rw[e];exact HPK.out);exact HF.out j (by omega),HB.out.trans (b23.mono HB.out.size)⟩
   |false =>
    go_wp2_with (refine zg rfl 43 (.tmp 3) rfl ⟨w.heap.size,0,none⟩ V rfl L0 ?_)
    refine(h1 _).mono ?_
    rintro e w2 ⟨rfl,b2⟩
    cases q1 with
    |true =>
     have hR:=HAN.out (by rw[HPD.out,hnm];rfl)
     subst hR
     go_wp2_with fail
     go_ret
     exact⟨rfl,HB0.out.trans ((HB.out.trans (b2.mono HB.out.size)).mono HB0.out.size)⟩
    |false =>
     have HPK:=zb (show q8e r x y nm k=false by rw[HPD.out,hnm];rfl)
     go_wp2_with fail
     have hg1:0<gk:=by have:=HG.out;omega
     go_roundg (gk-1)
     case measure=>omega
     case rel=>exact⟨k+1,by omega,by have:=HG.out;omega,by go_num,fun j hj=>by by_cases e:j=k;(rw[e];exact HPK.out);exact HF.out j (by omega),HB.out.trans (b2.mono HB.out.size)⟩
  ·have hR:R=false:=by
    rw[hS.out,List.any_eq_false]
    intro j hj
    rw[HF.out j (by have:=List.mem_range.1 hj;omega)]
    decide
   subst hR
   go_wp2_with fail
   go_ret
   exact⟨rfl,HB0.out.trans (HB.out.mono HB0.out.size)⟩
def q0S (f:Nat→Bool):Nat:=(List.range 10).foldl (fun a y=>a ||| (if f y then 2 ^ y else 0)) 0
theorem q2r (f:Nat→Bool)(y:Nat):(q0S f).testBit y=(decide (y<10)&&f y):=by
 have h:∀(k:Nat),((List.range k).foldl (fun a y=>a ||| (if f y then 2 ^ y else 0)) 0).testBit y=(decide (y<k)&&f y):=by
  intro k
  induction k with
  |zero=>simp
  |succ k ih =>
   rw[List.range_succ,List.foldl_append,List.foldl_cons,List.foldl_nil,Nat.testBit_or,ih]
   by_cases hk:y=k
   ·subst hk
    cases f y<;>simp
   ·have e:(if f k then 2 ^ k else 0).testBit y=false:=by
     split
     ·rw[Nat.testBit_two_pow];simpa using fun e=>hk e.symm
     ·simp
    rw[e,Bool.or_false]
    have e2:decide (y<k+1)=decide (y<k):=by
     by_cases h:y<k
     ·rw[decide_eq_true h,decide_eq_true (by omega)]
     ·rw[decide_eq_false h,decide_eq_false (by omega)]
    rw[e2]
 exact h 10
theorem q3F (f:Nat→Bool):q0S f<1024:=by
 apply Nat.lt_pow_two_of_testBit (n:=10)
 intro i hi
 rw[q2r,decide_eq_false (by omega),Bool.false_and]
theorem q7Z {f:Nat→Bool}{n:Nat}(h:∀y,n.testBit y=(decide (y<10)&&f y)):n=q0S f:=by
 apply Nat.eq_of_testBit_eq
 intro i
 rw[q2r,h]
theorem q2s {f g:Nat→Bool}(h:∀y,y<10→f y=g y):q0S f=q0S g:=by
 apply q7Z
 intro y
 rw[q2r]
 by_cases hy:y<10
 ·rw[h y hy]
 ·rw[decide_eq_false hy,Bool.false_and,Bool.false_and]
theorem j4g:q0S (fun _=>true)=1023:=by decide
theorem q8L:q0S (fun _=>false)=0:=by decide
theorem q4e {f:Nat→Bool}:q0S f=0↔∀y,y<10→f y=false:=by
 constructor
 ·intro h y hy
  have:=q2r f y
  rw[h,Nat.zero_testBit,decide_eq_true hy,Bool.true_and]at this
  exact this.symm
 ·intro h
  rw[q2s h]
  exact q8L
theorem j1a {n:Nat}(h:n<65536):IntKind.u16.wrap (n:Int)=(n:Int):=by
 simp[IntKind.wrap,IntKind.bits,IntKind.signed]
 omega
theorem q9f {n:Nat}(h:n<65536):(BitVec.ofInt IntKind.u16.bits (n:Int)).toNat=n:=by
 show(BitVec.ofInt 16 (n:Int)).toNat=n
 rw[BitVec.toNat_ofInt]
 omega
theorem j2X (f g:Nat→Bool):bits .and .u16 (q0S f:Int) (q0S g:Int)=(q0S (fun y=>f y&&g y):Int):=by
 have hf:=q3F f
 have hg:=q3F g
 show IntKind.u16.wrap ((BitVec.ofInt IntKind.u16.bits (q0S f:Int) &&& BitVec.ofInt IntKind.u16.bits (q0S g:Int)).toNat:Int)=_
 rw[BitVec.toNat_and,q9f (by omega),q9f (by omega)]
 have e:q0S f &&& q0S g=q0S (fun y=>f y&&g y):=by
  apply q7Z
  intro y
  rw[Nat.testBit_and,q2r,q2r]
  cases decide (y<10)<;>simp
 rw[e]
 exact j1a (by have:=q3F (fun y=>f y&&g y);omega)
theorem j2d (f g:Nat→Bool):bits .or .u16 (q0S f:Int) (q0S g:Int)=(q0S (fun y=>f y || g y):Int):=by
 have hf:=q3F f
 have hg:=q3F g
 show IntKind.u16.wrap ((BitVec.ofInt IntKind.u16.bits (q0S f:Int) ||| BitVec.ofInt IntKind.u16.bits (q0S g:Int)).toNat:Int)=_
 rw[BitVec.toNat_or,q9f (by omega),q9f (by omega)]
 have e:q0S f ||| q0S g=q0S (fun y=>f y || g y):=by
  apply q7Z
  intro y
  rw[Nat.testBit_or,q2r,q2r]
  cases decide (y<10)<;>simp
 rw[e]
 exact j1a (by have:=q3F (fun y=>f y || g y);omega)
theorem bits_not (f g:Nat→Bool):bits .andNot .u16 (q0S f:Int) (q0S g:Int)=(q0S (fun y=>f y&&!g y):Int):=by
 have hf:=q3F f
 have hg:=q3F g
 show IntKind.u16.wrap ((BitVec.ofInt IntKind.u16.bits (q0S f:Int) &&& ~~~BitVec.ofInt IntKind.u16.bits (q0S g:Int)).toNat:Int)=_
 have e:(BitVec.ofInt IntKind.u16.bits (q0S f:Int) &&& ~~~BitVec.ofInt IntKind.u16.bits (q0S g:Int)).toNat=q0S (fun y=>f y&&!g y):=by
  apply q7Z
  intro y
  rw[←BitVec.getLsbD,BitVec.getLsbD_and,BitVec.getLsbD_not,BitVec.getLsbD,BitVec.getLsbD,q9f (by omega),q9f (by omega),q2r,q2r]
  show(decide (y<10)&&f y&&(decide (y<16)&&!(decide (y<10)&&g y)))=_
  by_cases hy:y<10
  ·rw[decide_eq_true hy,decide_eq_true (show y<16 by omega)];simp
  ·rw[decide_eq_false hy];simp
 rw[e]
 exact j1a (by have:=q3F (fun y=>f y&&!g y);omega)
theorem j4h (b:Nat)(hb:b<10):q0S (fun y=>y==b)=2 ^ b:=by
 symm
 apply q7Z
 intro y
 rw[Nat.testBit_two_pow]
 by_cases h:b=y
 ·subst h;simp[hb]
 ·rw[decide_eq_false h]
  have:(y==b)=false:=by simpa using fun e=>h e.symm
  rw[this,Bool.and_false]
def zf (s:Nat→Nat→Bool):Nat→Int:=fun x=>(q0S (s x):Int)
theorem q8K (s:Nat→Nat→Bool)(x y:Nat)(hx:x<10)(hy:y<10):q0O (zf s) x y=zf (fun a b=>s a b || (a==x&&b==y)):=by
 funext i
 unfold q0O zf
 by_cases h:x=i
 ·subst h
  rw[if_pos ⟨by unfold inR;omega,rfl⟩]
  unfold q5R
  have e:IntKind.u16.wrap (2 ^ (y:Int).toNat)=(q0S (fun b=>b==y):Int):=by
   rw[j4h y hy]
   have hp:2 ^ y<65536:=zT (Nat.pow_lt_pow_right (by omega) hy) (by decide)
   have:=j1a hp
   rw[Int.toNat_natCast]
   simpa using this
  rw[e,j2d]
  congr 1
  apply q2s
  intro b _
  simp
 ·rw[if_neg (by intro h';exact h (by have:=h'.2;omega))]
  congr 1
  apply q2s
  intro b _
  have:(i==x)=false:=by simpa using fun e=>h e.symm
  show s i b=(s i b || (i==x&&b==y))
  rw[this,Bool.false_and,Bool.or_false]
theorem j0D (s:Nat→Nat→Bool)(x y:Nat)(hx:x<10)(hy:y<10):q8w (zf s) x y=s x y:=by
 unfold q8w zf
 rw[decide_eq_true (by unfold inR;omega),Bool.true_and,Int.toNat_natCast,Int.toNat_natCast]
 have h1:=q3F (s x)
 have e0:((q0S (s x):Int) / 2 ^ y)=((q0S (s x) / 2 ^ y:Nat):Int):=by simp
 rw[e0]
 show(IntKind.u16.wrap ((BitVec.ofInt IntKind.u16.bits ((q0S (s x) / 2 ^ y:Nat):Int) &&& BitVec.ofInt IntKind.u16.bits ((1:Nat):Int)).toNat:Int)==1)=_
 have h2:q0S (s x) / 2 ^ y<65536:=Nat.lt_of_le_of_lt (Nat.div_le_self _ _) (by omega)
 rw[BitVec.toNat_and,q9f h2,q9f (by omega),Nat.and_one_is_mod,j1a (by omega)]
 have:=q2r (s x) y
 rw[decide_eq_true hy,Bool.true_and,Nat.testBit_eq_decide_div_mod_eq]at this
 rw[←this]
 by_cases h:q0S (s x) / 2 ^ y % 2=1
 ·rw[h];rfl
 ·have:q0S (s x) / 2 ^ y % 2=0:=by omega
  rw[this];rfl
theorem j0C {s t:Nat→Nat→Bool}(h:∀x y,x<10→y<10→s x y=t x y)(x:Nat)(hx:x<10):zf s x=zf t x:=by
 unfold zf
 congr 1
 exact q2s fun y hy=>h x y hx hy
structure LPt where
 stamp:Nat
 time:Nat
 haps:List Hp
def tmL (L:List LPt)(i:Nat):Nat:=match L[i]? with
 |some p=>p.time
 |none=>0
def q8Z (L:List LPt)(i:Nat):List Hp:=match L[i]? with
 |some p=>p.haps
 |none=>[]
def q0l (L:List LPt)(i j:Nat):Nat:=(tmL L j-tmL L i)+(tmL L i-tmL L j)
def q0L (nd:PNode)(t:Nat):Bool:=decide (nd.slo≤(t:Int))&&(nd.sop || decide ((t:Int)≤nd.shi))
def q4F (k:Int):Bool:=k==10 || k==12 || k==14 || k==15
def q4T (k v:Int)(d x y:Nat):Bool:=if k=3 then x==d else if k=4 then y==d else decide (v=(d:Int))
def q7L (a c:By):Bool:=(List.range 8).all fun j=>zj a j==zj c j
def evP (nd:PNode)(x y:Nat)(h:Hp):Bool:=
 q7L h.nm nd.name&&decide ((h.ds.length:Int)=nd.cnt)&&(!decide (0<nd.cnt) || q4T nd.k0 nd.v0 (h.ds.getD 0 0) x y)&&(!decide (1<nd.cnt) || q4T nd.k1 nd.v1 (h.ds.getD 1 0) x y)
def q4J (W:Nat→Bool)(pos:Nat→Nat)(k:Nat):Bool:=(List.range k).all fun q=>W (pos q)
def q5b (S G W:Nat→Bool)(pos:Nat→Nat)(k:Nat):Bool:=(List.range k).any fun m=>S (pos m)&&(q4J W pos m&&G (pos m))
def q1q (nd:PNode)(A B:Nat→Nat→Nat→Bool)(x y j:Nat):Bool:=if nd.kind=12∨nd.kind=13 then A j x y else B j x y
def q0y (nd:PNode)(A:Nat→Nat→Nat→Bool)(x y j:Nat):Bool:=if nd.kind=14∨nd.kind=16 then A j x y else if nd.kind=15∨nd.kind=17 then !A j x y else true
def qu (nd:PNode)(L:List LPt)(A B:Nat→Nat→Nat→Bool)(i x y:Nat):Bool:=
 if nd.kind=5 then true
 else if nd.kind=2 then(q8Z L i).any (evP nd x y)
 else if nd.kind=6 then A i x y&&B i x y
 else if nd.kind=7 then A i x y&&!B i x y
 else if nd.kind=8 then A i x y || B i x y
 else if nd.kind=9 then(List.range 10).any (fun v=>if nd.var=3 then A i v y else A i x v)
 else if nd.kind=10 then decide (0<i)&&(q0L nd (q0l L i (i-1))&&A (i-1) x y)
 else if nd.kind=11 then decide (i+1<L.length)&&(q0L nd (q0l L i (i+1))&&A (i+1) x y)
 else if q4F nd.kind=true then q5b (fun j=>q0L nd (q0l L i j)) (q1q nd A B x y) (q0y nd A x y) (fun m=>i-m) (i+1)
 else q5b (fun j=>q0L nd (q0l L i j)) (q1q nd A B x y) (q0y nd A x y) (fun m=>i+m) (L.length-i)
def qH (L:List LPt):zl→Nat→Nat→Nat→Bool
 | .nil,_,_,_=>false
 | .node p sp y l r,i,x,z=>decide (i<L.length)&&qu (zz 0 p sp y l r) L (qH L l) (qH L r) i x z
theorem j5e (m p sp:Nat)(y:Pay)(l r:zl)(L:List LPt)(A B:Nat→Nat→Nat→Bool)(i x z:Nat):qu (zz m p sp y l r) L A B i x z=qu (zz 0 p sp y l r) L A B i x z:=rfl
theorem j4Y (W:Nat→Bool)(pos:Nat→Nat)(k:Nat):q4J W pos (k+1)=(q4J W pos k&&W (pos k)):=by
 unfold q4J
 rw[List.range_succ,List.all_append]
 simp
theorem j1s (S G W:Nat→Bool)(pos:Nat→Nat)(k:Nat):q5b S G W pos (k+1)=(q5b S G W pos k || (S (pos k)&&(q4J W pos k&&G (pos k)))):=by
 unfold q5b
 rw[List.range_succ,List.any_append]
 simp
def q3q (L:List LPt)(reach:Int):Nat→Nat→Nat
 | 0,c=>c
 |f+1,c=>if c+1≤L.length∧reach<(q0l L c (L.length-1):Int)then q3q L reach f (c+1)else c
def q2H (L:List LPt)(reach:Int):Nat:=q3q L reach L.length 0
abbrev zx (r:Nat→Int):List Value:=[.int .u16 (r 0),.int .u16 (r 1),.int .u16 (r 2),.int .u16 (r 3),.int .u16 (r 4),.int .u16 (r 5),.int .u16 (r 6),.int .u16 (r 7),.int .u16 (r 8),.int .u16 (r 9)]
theorem j4d (r:Nat→Int)(j:Nat)(h:j<10):(zx r)[j]?=some (.int .u16 (r j)):=by
 rcases(by omega:j=0∨j=1∨j=2∨j=3∨j=4∨j=5∨j=6∨j=7∨j=8∨j=9)with rfl|rfl|rfl|rfl|rfl|rfl|rfl|rfl|rfl|rfl<;>rfl
structure Arr (w:World)(b:Nat)(f:Nat→Int):Prop where
 cells:∀j,j<10→w.cell? ⟨b,j,none⟩=some (.int .u16 (f j))
 free:∀j,w.frozen? ⟨b,j,none⟩=false
 lt:b<w.heap.size
theorem Arr.of_row {w:World}{b:Nat}{f:Nat→Int}{t:TypeId}(h:w.heap[b]?=some (.cells #[.int .u16 (f 0),.int .u16 (f 1),.int .u16 (f 2),.int .u16 (f 3),.int .u16 (f 4),.int .u16 (f 5),.int .u16 (f 6),.int .u16 (f 7),.int .u16 (f 8),.int .u16 (f 9)] t (0,0))):Arr w b f:=by
 refine⟨fun j hj=>?_,fun j=>zF _ _ j _ _ h,?_⟩
 ·rw[zC _ _ j _ _ _ h]
  show(zx f).toArray[j]?=_
  rw[List.getElem?_toArray]
  exact j4d f j hj
 ·rcases Nat.lt_or_ge b w.heap.size with g|g
  ·exact g
  ·rw[Array.getElem?_eq_none g]at h;simp at h
theorem Arr.set {w:World}{b:Nat}{f:Nat→Int}(h:Arr w b f)(j:Nat)(hj:j<10)(v:Int):Arr (w.setCell ⟨b,j,none⟩ (.int .u16 v)) b (fun i=>if i=j then v else f i):=by
 refine⟨fun i hi=>?_,fun i=>by rw[World.frozen?_setCell];exact h.free i,by simpa using h.lt⟩
 by_cases e:i=j
 ·subst e
  rw[if_pos rfl]
  exact zS w _ _ (h.cells i hi)
 ·rw[if_neg e,zX w _ _ _ (by intro q;injection q with q1 q2;exact e q2.symm)]
  exact h.cells i hi
theorem Arr.other {w:World}{b b' o:Nat}{f:Nat→Int}(h:Arr w b f)(hb:b≠b')(v:Value):Arr (w.setCell ⟨b',o,none⟩ v) b f:=by
 refine⟨fun i hi=>?_,fun i=>by rw[World.frozen?_setCell];exact h.free i,by simpa using h.lt⟩
 rw[zX w _ _ _ (by intro q;injection q with q1 _;exact hb q1.symm)]
 exact h.cells i hi
theorem Arr.drew {w:World}{b:Nat}{f:Nat→Int}(h:Arr w b f):Arr w.drew b f:=⟨h.cells,h.free,h.lt⟩
theorem Arr.congr {w:World}{b:Nat}{f g:Nat→Int}(h:Arr w b f)(e:∀j,j<10→f j=g j):Arr w b g:=⟨fun j hj=>by rw[←e j hj];exact h.cells j hj,h.free,h.lt⟩
theorem Arr.range {w:World}{b:Nat}{f:Nat→Int}(h:Arr w b f):w.rangeAt b 0 (zx f):=fun j v hv=>by
 have hj:j<10:=(List.getElem?_eq_some_iff.1 hv).1
 rw[j4d f j hj]at hv
 rw[Nat.zero_add,h.cells j hj,hv]
theorem Arr.load {w:World}{b:Nat}{f:Nat→Int}(h:Arr w b f):(Instr.loadAt 43 (.pointer (some ⟨b,0,none⟩))).run Tryz.prog w=.ok (zn f) w:=
 run_loadAt_mid w b 0 43 (zx f) _ h.range Tryz.underlying43 rfl (by kernel_rfl)
theorem Arr.loadV {w:World}{b:Nat}{f:Nat→Int}(h:Arr w b f):(loadVar 43 ⟨b,0,none⟩).run Tryz.prog w=.ok (zn f) w:=
 run_loadVar_mid w b 0 43 (zx f) _ h.range Tryz.underlying43 rfl (by kernel_rfl)
theorem zr {P:Program}{fn:Func}{p:Tmp}{ty:TypeId}(h:fn.results=#[.cell p ty])(tmps:Array Value)(w:World)(g:Nat)(v:Value)(hp:tmps.getD p undef=.pointer (some ⟨g,0,none⟩))
  (hl:(loadVar ty ⟨g,0,none⟩).run P w=.ok v w):(results fn tmps).run P w=.ok v w:=by
 have hp':tmps[p]?.getD undef=.pointer (some ⟨g,0,none⟩):=by simpa using hp
 simp[results,h,hp',asAddr,hl]
def j2P (w:World)(r h q:Nat→Int)(g:Nat)(vi:Value)(wr:World):Prop:=
 ∃k:Nat,k≤10∧10-k≤g∧vi=.int .i64 k∧Arr wr w.heap.size (fun j=>if j<k then h j else r j)∧Arr wr (w.heap.size+1) q∧wr.heap[w.heap.size+2]?=some (.cells #[.int .u16 0,.int .u16 0,.int .u16 0,.int .u16 0,.int .u16 0,.int .u16 0,.int .u16 0,.int .u16 0,.int .u16 0,.int .u16 0] 43 (0,0))∧Below w.heap.size w wr
theorem j0i (w:World)(r h q:Nat→Int):j2P w r h q 10 (.int .i64 0) (((w.alloc (.cells #[.int .u16 (r 0),.int .u16 (r 1),.int .u16 (r 2),.int .u16 (r 3),.int .u16 (r 4),.int .u16 (r 5),.int .u16 (r 6),.int .u16 (r 7),.int .u16 (r 8),.int .u16 (r 9)] 43)).alloc (.cells #[.int .u16 (q 0),.int .u16 (q 1),.int .u16 (q 2),.int .u16 (q 3),.int .u16 (q 4),.int .u16 (q 5),.int .u16 (q 6),.int .u16 (q 7),.int .u16 (q 8),.int .u16 (q 9)] 43)).alloc (.cells #[.int .u16 0,.int .u16 0,.int .u16 0,.int .u16 0,.int .u16 0,.int .u16 0,.int .u16 0,.int .u16 0,.int .u16 0,.int .u16 0] 43)):=by
 refine⟨0,by omega,by omega,rfl,(Arr.of_row (f:=r) (t:=43) ?_).congr (fun j _=>by simp),Arr.of_row (f:=q) (t:=43) ?_,?_,(((zB _ _).alloc (zL _) _).alloc (by simp) _).alloc (by simp;omega) _⟩
 ·rw[zO _ _ (by simp;omega),zO _ _ (by simp)]
  exact zN _ _
 ·rw[zO _ _ (by simp)]
  have:=zN (w.alloc (.cells #[.int .u16 (r 0),.int .u16 (r 1),.int .u16 (r 2),.int .u16 (r 3),.int .u16 (r 4),.int .u16 (r 5),.int .u16 (r 6),.int .u16 (r 7),.int .u16 (r 8),.int .u16 (r 9)] 43)) (.cells #[.int .u16 (q 0),.int .u16 (q 1),.int .u16 (q 2),.int .u16 (q 3),.int .u16 (q 4),.int .u16 (q 5),.int .u16 (q 6),.int .u16 (q 7),.int .u16 (q 8),.int .u16 (q 9)] 43)
  simpa using this
 ·have:=zN ((w.alloc (.cells #[.int .u16 (r 0),.int .u16 (r 1),.int .u16 (r 2),.int .u16 (r 3),.int .u16 (r 4),.int .u16 (r 5),.int .u16 (r 6),.int .u16 (r 7),.int .u16 (r 8),.int .u16 (r 9)] 43)).alloc (.cells #[.int .u16 (q 0),.int .u16 (q 1),.int .u16 (q 2),.int .u16 (q 3),.int .u16 (q 4),.int .u16 (q 5),.int .u16 (q 6),.int .u16 (q 7),.int .u16 (q 8),.int .u16 (q 9)] 43)) (.cells #[.int .u16 0,.int .u16 0,.int .u16 0,.int .u16 0,.int .u16 0,.int .u16 0,.int .u16 0,.int .u16 0,.int .u16 0,.int .u16 0] 43)
  simpa using this
theorem j0h {w wr:World}{r h q:Nat→Int}{k gk:Nat}(hk:k<10)(hg:10-k≤gk)(h0:Arr wr w.heap.size (fun j=>if j<k then h j else r j))(h1:Arr wr (w.heap.size+1) q)(h2:wr.heap[w.heap.size+2]?=some (.cells #[.int .u16 0,.int .u16 0,.int .u16 0,.int .u16 0,.int .u16 0,.int .u16 0,.int .u16 0,.int .u16 0,.int .u16 0,.int .u16 0] 43 (0,0)))(hb:Below w.heap.size w wr)(v:Int)(hv:v=h k) :
  j2P w r h q (gk-1) (.int .i64 ((k:Int)+1)) (wr.setCell ⟨w.heap.size,k,none⟩ (.int .u16 v)).drew:=by
 refine⟨k+1,by omega,by omega,by simp,((h0.set k hk v).congr (fun j hj=>?_)).drew,(h1.other (by omega) _).drew,?_,(hb.setCell (zL _) _).drew⟩
 ·by_cases e:j=k
  ·subst e;rw[if_pos rfl,if_pos (by omega),hv]
  ·rw[if_neg e]
   by_cases e2:j<k
   ·rw[if_pos e2,if_pos (by omega)]
   ·rw[if_neg e2,if_neg (by omega)]
 ·show(wr.setCell ⟨w.heap.size,k,none⟩ (.int .u16 v)).heap[w.heap.size+2]?=_
  rw[Below.heap_setCell wr _ _ _ (by simp)]
  exact h2
theorem j5g {w wr:World}{r h:Nat→Int}(h0:Arr wr w.heap.size (fun j=>if j<10 then h j else r j))(h2:wr.heap[w.heap.size+2]?=some (.cells #[.int .u16 0,.int .u16 0,.int .u16 0,.int .u16 0,.int .u16 0,.int .u16 0,.int .u16 0,.int .u16 0,.int .u16 0,.int .u16 0] 43 (0,0)))(hb:Below w.heap.size w wr) :
  (Instr.loadAt 43 (.pointer (some ⟨w.heap.size,0,none⟩))).run Tryz.prog wr=.ok (zn h) wr∧∃W,(Instr.storeAt 43 (.pointer (some ⟨w.heap.size+2,0,none⟩)) (zn h)).run Tryz.prog wr=.ok () W∧(loadVar 43 ⟨w.heap.size+2,0,none⟩).run Tryz.prog W=.ok (zn h) W∧Below w.heap.size w W:=by
 have e:Arr wr w.heap.size h:=h0.congr (fun j hj=>by rw[if_pos hj])
 refine⟨e.load,?_⟩
 obtain⟨W,s1,s2,s3,s4,s5,s6,s7⟩:=q3b (P:=Tryz.prog) 43 43 wr (w.heap.size+2) _ #[.int .u16 (h 0),.int .u16 (h 1),.int .u16 (h 2),.int .u16 (h 3),.int .u16 (h 4),.int .u16 (h 5),.int .u16 (h 6),.int .u16 (h 7),.int .u16 (h 8),.int .u16 (h 9)] h2 (by kernel_rfl) rfl (by simp[Value.oneCell'])
 refine⟨W,s1,(Arr.of_row s2).loadV,⟨s5.trans hb.os,s6.trans hb.tape,s7.trans hb.output,by rw[s4];exact hb.size,fun k hk=>?_⟩⟩
 rw[s3 k (by omega)]
 exact hb.block k hk
theorem q6e (s t:Nat→Nat→Bool)(w:World) :
  Calls Tryz.prog 135 #[zn (zf s),zn (zf t)] w fun e w'=>e=.returned (zn (zf fun x y=>s x y&&t x y))∧Below w.heap.size w w':=by
 have HH:Hid (∀k,bits .and .u16 (zf s k) (zf t k)=zf (fun x y=>s x y&&t x y) k):=zb (fun k=>j2X (s k) (t k))
 generalize zf (fun x y=>s x y&&t x y)=h at *
 generalize zf s=r at *
 generalize zf t=q at *
 obtain⟨V,hV⟩:∃V,V=zn h:=⟨_,rfl⟩
 rw[←hV]
 have HV:=zb hV
 clear hV
 go_enter Tryz.func135,Tryz.ntmps135
 go_wp2_with fail
 go_loopg [5] 10 (fun g vi wr=>j2P w r h q g vi wr)
 case atStart=>exact j0i w r h q
 case round =>
  obtain⟨k,hk,hg,rfl,a0,a1,a2,hb⟩:=hrel
  have HA0:=zb a0
  have HA1:=zb a1
  have HA2:=zb a2
  have HB:=zb hb
  have HG:=zb hg
  by_cases hlt:k<10
  ·have c0:=a0.cells k hlt
   simp only[Nat.lt_irrefl,if_false]at c0
   have c1:=a1.cells k hlt
   have f0:=a0.free k
   have hl0:=a0.lt
   have hl1:=a1.lt
   clear a0 a1 a2 hb hg
   go_wp2_with fail
   go_region
   go_wp2_with fail
   have hg1:0<gk:=by have:=HG.out;omega
   go_roundg (gk-1)
   case measure=>omega
   case rel=>exact j0h hlt HG.out HA0.out HA1.out HA2.out HB.out _ (HH.out k)
  ·obtain rfl:k=10:=by omega
   obtain⟨L1,W,S1,S2,S3⟩:=j5g HA0.out HA2.out HB.out
   clear a0 a1 a2 hb hg HH
   rw[←HV.out]at L1 S1 S2
   go_wp2_with (first|(refine ze rfl 43 (.tmp 4) (.tmp 19) rfl ⟨w.heap.size+1+1,0,none⟩ V rfl rfl W S1 ?_)|(refine zg rfl 43 (.tmp 2) rfl ⟨w.heap.size,0,none⟩ V rfl L1 ?_))
   exact zP (v:=V) (zr rfl _ _ _ _ rfl S2) rfl ⟨rfl,S3⟩
theorem q7h (s t:Nat→Nat→Bool)(w:World) :
  Calls Tryz.prog 137 #[zn (zf s),zn (zf t)] w fun e w'=>e=.returned (zn (zf fun x y=>s x y || t x y))∧Below w.heap.size w w':=by
 have HH:Hid (∀k,bits .or .u16 (zf s k) (zf t k)=zf (fun x y=>s x y || t x y) k):=zb (fun k=>j2d (s k) (t k))
 generalize zf (fun x y=>s x y || t x y)=h at *
 generalize zf s=r at *
 generalize zf t=q at *
 obtain⟨V,hV⟩:∃V,V=zn h:=⟨_,rfl⟩
 rw[←hV]
 have HV:=zb hV
 clear hV
 go_enter Tryz.func137,Tryz.ntmps137
 go_wp2_with fail
 go_loopg [5] 10 (fun g vi wr=>j2P w r h q g vi wr)
 case atStart=>exact j0i w r h q
 case round =>
  obtain⟨k,hk,hg,rfl,a0,a1,a2,hb⟩:=hrel
  have HA0:=zb a0
  have HA1:=zb a1
  have HA2:=zb a2
  have HB:=zb hb
  have HG:=zb hg
  by_cases hlt:k<10
  ·have c0:=a0.cells k hlt
   simp only[Nat.lt_irrefl,if_false]at c0
   have c1:=a1.cells k hlt
   have f0:=a0.free k
   have hl0:=a0.lt
   have hl1:=a1.lt
   clear a0 a1 a2 hb hg
   go_wp2_with fail
   go_region
   go_wp2_with fail
   have hg1:0<gk:=by have:=HG.out;omega
   go_roundg (gk-1)
   case measure=>omega
   case rel=>exact j0h hlt HG.out HA0.out HA1.out HA2.out HB.out _ (HH.out k)
  ·obtain rfl:k=10:=by omega
   obtain⟨L1,W,S1,S2,S3⟩:=j5g HA0.out HA2.out HB.out
   clear a0 a1 a2 hb hg HH
   rw[←HV.out]at L1 S1 S2
   go_wp2_with (first|(refine ze rfl 43 (.tmp 4) (.tmp 19) rfl ⟨w.heap.size+1+1,0,none⟩ V rfl rfl W S1 ?_)|(refine zg rfl 43 (.tmp 2) rfl ⟨w.heap.size,0,none⟩ V rfl L1 ?_))
   exact zP (v:=V) (zr rfl _ _ _ _ rfl S2) rfl ⟨rfl,S3⟩
theorem q9a (s t:Nat→Nat→Bool)(w:World) :
  Calls Tryz.prog 136 #[zn (zf s),zn (zf t)] w fun e w'=>e=.returned (zn (zf fun x y=>s x y&&!t x y))∧Below w.heap.size w w':=by
 have HH:Hid (∀k,bits .andNot .u16 (zf s k) (zf t k)=zf (fun x y=>s x y&&!t x y) k):=zb (fun k=>bits_not (s k) (t k))
 generalize zf (fun x y=>s x y&&!t x y)=h at *
 generalize zf s=r at *
 generalize zf t=q at *
 obtain⟨V,hV⟩:∃V,V=zn h:=⟨_,rfl⟩
 rw[←hV]
 have HV:=zb hV
 clear hV
 go_enter Tryz.func136,Tryz.ntmps136
 go_wp2_with fail
 go_loopg [5] 10 (fun g vi wr=>j2P w r h q g vi wr)
 case atStart=>exact j0i w r h q
 case round =>
  obtain⟨k,hk,hg,rfl,a0,a1,a2,hb⟩:=hrel
  have HA0:=zb a0
  have HA1:=zb a1
  have HA2:=zb a2
  have HB:=zb hb
  have HG:=zb hg
  by_cases hlt:k<10
  ·have c0:=a0.cells k hlt
   simp only[Nat.lt_irrefl,if_false]at c0
   have c1:=a1.cells k hlt
   have f0:=a0.free k
   have hl0:=a0.lt
   have hl1:=a1.lt
   clear a0 a1 a2 hb hg
   go_wp2_with fail
   go_region
   go_wp2_with fail
   have hg1:0<gk:=by have:=HG.out;omega
   go_roundg (gk-1)
   case measure=>omega
   case rel=>exact j0h hlt HG.out HA0.out HA1.out HA2.out HB.out _ (HH.out k)
  ·obtain rfl:k=10:=by omega
   obtain⟨L1,W,S1,S2,S3⟩:=j5g HA0.out HA2.out HB.out
   clear a0 a1 a2 hb hg HH
   rw[←HV.out]at L1 S1 S2
   go_wp2_with (first|(refine ze rfl 43 (.tmp 4) (.tmp 19) rfl ⟨w.heap.size+1+1,0,none⟩ V rfl rfl W S1 ?_)|(refine zg rfl 43 (.tmp 2) rfl ⟨w.heap.size,0,none⟩ V rfl L1 ?_))
   exact zP (v:=V) (zr rfl _ _ _ _ rfl S2) rfl ⟨rfl,S3⟩
abbrev PPt:=LPt × Value
abbrev ptCs (p:PPt):List Value:=[.int .u16 p.1.stamp,p.2,.int .i64 p.1.time]
def q1S (l:List PPt):List Value:=l.flatMap ptCs
theorem q6i (l:List PPt):∀(i:Nat) (h:i<l.length) (j:Nat),j<3→(q1S l)[i*3+j]?=(ptCs l[i])[j]?:=by
 induction l with
 |nil=>intro i h;simp at h
 |cons n r ih =>
  intro i h j hj
  have e:q1S (n::r)=ptCs n++q1S r:=rfl
  have e2:(ptCs n).length=3:=rfl
  rw[e]
  cases i with
  |zero=>rw[List.getElem?_append_left (by omega)];simp
  |succ i =>
   have hi:i<r.length:=by simpa using h
   rw[List.getElem?_append_right (by omega),e2,show(i+1)*3+j-3=i*3+j by omega,ih i hi j hj]
   rfl
structure LogAt (w:World)(b o:Nat)(ao:OA)(cap:Nat)(PL:List PPt):Prop where
 cell:w.cell? ⟨b,o,none⟩=some (.slice ao PL.length cap)
 lt:b<w.heap.size
 row:w.ownsRow 0 136 3 (.slice ao PL.length cap) PL.length (q1S PL)
 small:PL.length≤40
 times:∀(i:Nat) (hi:i<PL.length),(PL[i]).1.time≤32768*i∧(PL[i]).1.stamp≤65535
theorem LogAt.below {w w':World}{b o:Nat}{ao:OA}{cap:Nat}{PL:List PPt}(h:LogAt w b o ao cap PL)(hb:Below w.heap.size w w'):LogAt w' b o ao cap PL:=
 ⟨by rw[zK (w:=w) (hb.block b h.lt)];exact h.cell,zT h.lt hb.size,zh h.row hb,h.small,h.times⟩
theorem LogAt.bnd {w:World}{b o:Nat}{ao:OA}{cap:Nat}{PL:List PPt}(h:LogAt w b o ao cap PL){i:Nat}(hi:i<PL.length):(PL[i]).1.time≤2000000∧(PL[i]).1.stamp≤65535:=by
 have h1:=h.times i hi
 have h2:=h.small
 exact⟨by omega,h1.2⟩
theorem LogAt.at' {w:World}{b o:Nat}{ao:OA}{cap:Nat}{PL:List PPt}(h:LogAt w b o ao cap PL){i:Nat}(hi:i<PL.length) :
  ∃g,ao=some ⟨g,0,none⟩∧g<w.heap.size∧PL.length≤cap∧cap≤maxLen∧w.cell? ⟨g,i*3,none⟩=some (.int .u16 (PL[i]).1.stamp)∧w.cell? ⟨g,i*3+1,none⟩=some (PL[i]).2∧w.cell? ⟨g,i*3+2,none⟩=some (.int .i64 (PL[i]).1.time):=by
 have hr:=h.row
 obtain⟨g,cap',e⟩:=zJ hr (by omega)
 injection e with e1 e2 e3
 subst e1 e3
 have hlt:=(hr.lt g rfl).2
 refine⟨g,rfl,hlt,?_⟩
 have hc:PL.length≤cap∧cap≤maxLen:=by
  rcases hr.2 with⟨h',_⟩|⟨g',cap',cur,h',_,_,p1,p2,_⟩
  ·simp at h'
  ·simp only[Value.slice.injEq,Option.some.injEq,Addr.mk.injEq,and_true,true_and]at h'
   obtain⟨rfl,rfl⟩:=h'
   exact⟨p1,p2⟩
 have hl:(q1S PL).length=PL.length*3:=hr.1
 refine⟨hc.1,hc.2,?_,?_,?_⟩
 ·have:=hr.cellAt (i*3) (by omega)
  rw[this,show i*3=i*3+0 from rfl,q6i PL i hi 0 (by omega)]
  rfl
 ·have:=hr.cellAt (i*3+1) (by omega)
  rw[this,q6i PL i hi 1 (by omega)]
  rfl
 ·have:=hr.cellAt (i*3+2) (by omega)
  rw[this,q6i PL i hi 2 (by omega)]
  rfl
def hasB (n:Nat)(i:Int):Bool:=decide (0≤i)&&decide (i<n)
theorem q6F (b o:Nat)(ao:OA)(cap:Nat)(PL:List PPt)(i:Int)(w:World)(h:LogAt w b o ao cap PL) :
  Calls Tryz.prog 71 #[.pointer (some ⟨b,o,none⟩),.int .i64 i] w fun e w'=>e=.returned (.bool (hasB PL.length i))∧Below w.heap.size w w':=by
 have c0:=h.cell
 have hlt:=h.lt
 have hsm:=h.small
 clear h
 generalize PL.length=n at *
 unfold hasB
 go_enter Tryz.func71,Tryz.ntmps71
 go_wp2_with fail
 ·go_ret
  exact⟨qm (by have h0:0≤i:=(by omega);simp[h0]),zB _ _⟩
 ·go_ret
  exact⟨qm (by have h0:¬0≤i:=(by omega);simp[h0]),zB _ _⟩
theorem q6E (b o:Nat)(ao:OA)(cap:Nat)(PL:List PPt)(w:World)(h:LogAt w b o ao cap PL) :
  Calls Tryz.prog 36 #[.pointer (some ⟨b,o,none⟩)] w fun e w'=>e=.returned (.int .i64 PL.length)∧w'=w:=by
 have c0:=h.cell
 have hlt:=h.lt
 clear h
 generalize PL.length=n at *
 go_enter Tryz.func36,Tryz.ntmps36
 go_wp2_with fail
 go_ret
 exact⟨rfl,rfl⟩
theorem q7A {n:Nat}{i:Nat}(h:i<n):hasB n (i:Int)=true:=by unfold hasB;simp[h]
theorem j5R {n:Nat}{i:Int}(h:i<0∨(n:Int)≤i):hasB n i=false:=by
 unfold hasB
 rcases h with h|h
 ·rw[decide_eq_false (by omega),Bool.false_and]
 ·rw[decide_eq_false (show ¬i<(n:Int)by omega),Bool.and_false]
abbrev zA (PL:List PPt):List LPt:=PL.map Prod.fst
theorem j2E {PL:List PPt}{i:Nat}(h:i<PL.length):tmL (zA PL) i=(PL[i]).1.time:=by
 unfold tmL
 rw[List.getElem?_map,zG h]
 rfl
theorem q6j (b o:Nat)(ao:OA)(cap:Nat)(PL:List PPt)(i j:Nat)(hi:i<PL.length)(hj:j<PL.length)(w:World)(h:LogAt w b o ao cap PL) :
  Calls Tryz.prog 52 #[.pointer (some ⟨b,o,none⟩),.int .i64 i,.int .i64 j] w fun e w'=>e=.returned (.int .i64 (q0l (zA PL) i j))∧Below w.heap.size w w':=by
 have HI:=zb (fun W (h:LogAt W b o ao cap PL)=>q6F b o ao cap PL i W h)
 have HJ:=zb (fun W (h:LogAt W b o ao cap PL)=>q6F b o ao cap PL j W h)
 rw[q7A hi]at HI
 rw[q7A hj]at HJ
 have H:=zb h
 have hsm:=h.small
 have ti:=h.bnd hi
 have tj:=h.bnd hj
 have HD:Hid ((q0l (zA PL) i j:Int)=if (PL[j]).1.time<(PL[i]).1.time then -(((PL[j]).1.time:Int)-(PL[i]).1.time)else((PL[j]).1.time:Int)-(PL[i]).1.time):=zb (by
  unfold q0l
  rw[j2E hi,j2E hj]
  split<;>omega)
 generalize q0l (zA PL) i j=d at *
 clear h
 go_enter Tryz.func52,Tryz.ntmps52
 go_wp2_with fail
 refine(HI.out _ H.out).mono ?_
 rintro e w1 ⟨rfl,b1⟩
 have HB1:=zb b1
 have H1:=zb (H.out.below b1)
 clear b1
 go_wp2_with fail
 refine(HJ.out _ H1.out).mono ?_
 rintro e w2 ⟨rfl,b2⟩
 have HB2:Hid (Below w.heap.size w w2):=zb (HB1.out.trans (b2.mono HB1.out.size))
 have h2:=H1.out.below b2
 have c0:=h2.cell
 have hlt:=h2.lt
 obtain⟨g,rfl,hg,k1,k2,_,_,ci⟩:=h2.at' hi
 obtain⟨g',eg,_,_,_,_,_,cj⟩:=h2.at' hj
 injection eg with eg
 injection eg with eg
 subst eg
 unfold maxLen at k2
 generalize (PL[i]).1.time=x at *
 generalize (PL[j]).1.time=y at *
 obtain⟨tx,_⟩:=ti
 obtain⟨ty,_⟩:=tj
 clear b2 h2 H1 HB1 H HI HJ
 by_cases hxy:y<x
 ·have hd:=HD.out
  rw[if_pos hxy]at hd
  have HD2:=zb hd
  clear HD hd
  go_wp2_with fail
  go_region
  go_wp2_with fail
  go_ret
  exact⟨q1l (by rw[HD2.out]),HB2.out.drew⟩
 ·have hd:=HD.out
  rw[if_neg hxy]at hd
  have HD2:=zb hd
  clear HD hd
  go_wp2_with fail
  go_region
  go_wp2_with fail
  go_ret
  exact⟨q1l (by rw[HD2.out]),HB2.out.drew⟩
end Go.Proofs.YtiamjjonoeaggabGreatDoor
