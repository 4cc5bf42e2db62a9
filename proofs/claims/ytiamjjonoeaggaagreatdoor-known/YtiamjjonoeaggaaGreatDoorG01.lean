import Derived.Test.YtiamjjonoeaggaaGreatDoorGA
import Derived.Test.YtiamjjonoeaggaaGreatDoorG00
import Derived.Test.YtiamjjonoeaggaaGreatDoorProg
import Derived.WalkKit
import Derived.WalkSpells
import Derived.WalkLawsBesides
import Derived.Below
import Derived.Deep.LoopGhost
import Derived.Lib.ConvBytes
import Derived.Lib.SmallJoins
import Derived.Test.YtiamjjonoeaggaaGreatDoorRows
import Derived.Test.YtiamjjonoeaggaaGreatDoorCards
import Derived.Test.YtiamjjonoeaggaaGreatDoorTie
import Derived.SevenTiedAt
import Derived.SizedLaws
import Derived.ProofKit
import Derived.LaidMore
import Derived.OpenShut
import Derived.Stop.Joined
import Derived.Stop.LaidErr
import Derived.Lib.LaidTab
set_option maxRecDepth 100000
set_option maxHeartbeats 16000000
namespace Go.Proofs.YtiamjjonoeaggaaGreatDoor
open Go.RowKit
theorem zb {p:Prop}(h:p):Hid p:=h
theorem zw {W w1:World}{n:Nat}(hb:Below n W w1):(∀b o,b<n→w1.cell? ⟨b,o,none⟩=W.cell? ⟨b,o,none⟩):=
 fun b o h=>hb.cell (p:=⟨b,o,none⟩) h
theorem q0r {a b:Bool}(h:a=b):Ending.returned (.bool a)=.returned (.bool b):=by rw[h]
theorem q1m {k:IntKind}{a b:Int}(h:a=b):Ending.returned (.int k a)=.returned (.int k b):=by rw[h]
abbrev bs (l:By):Value:=.string (ByteArray.mk l.toArray)
def zQ (n:Int):Bool:=decide (48≤n)&&decide (n≤57)
def q0n (n:Int):Bool:=decide (97≤n)&&decide (n≤122)
def q2q (w:World)(v:Value)(l:List (By)):Prop:=
 (v=.slice none 0 0∧l=[])∨∃b o cap,v=.slice (some ⟨b,o,none⟩) l.length cap∧l.length≤cap∧cap≤maxLen∧b<w.heap.size∧∀i,i<l.length→w.cell? ⟨b,o+i,none⟩=some (bs (l.getD i []))
def inB (t:By)(l:List (By)):Bool:=l.any fun x=>x==t
theorem q2q.below {w w':World}{v:Value}{l:List (By)}(h:q2q w v l)(hb:Below w.heap.size w w'):q2q w' v l:=by
 rcases h with h|⟨b,o,cap,rfl,hlc,hcap,hlt,hc⟩
 ·exact .inl h
 ·exact .inr ⟨b,o,cap,rfl,hlc,hcap,zT hlt hb.size,fun i hi=>by rw[zw hb b (o+i) hlt];exact hc i hi⟩
def w15:List (By):=[[120],[121],[116,114,117,101],[97,110,100],[98,117,116],[111,114],[101,120,105,115,116,115],[112,114,101,118],[110,101,120,116],[111,110,99,101],[115,111,111,110],[115,105,110,99,101],[117,110,115,105,110,99,101],[117,110,116,105,108],[117,110,117,110,116,105,108]]
def q9e:List (By):=[[112,114,101,118],[110,101,120,116],[111,110,99,101],[115,111,111,110]]
def q7X:List (By):=[[115,105,110,99,101],[117,110,115,105,110,99,101],[117,110,116,105,108],[117,110,117,110,116,105,108]]
def q3O:List (By):=[[97,110,100],[98,117,116],[111,114]]
def q9d:List (By):=[[110,101,120,116],[115,111,111,110],[117,110,116,105,108],[117,110,117,110,116,105,108]]
def q1j:List (By):=[[40],[41],[44],[91],[93],[42]]
def zx (t:By):Bool:=match t with
 | []=>false
 |c::_=>q0n (c.toNat:Int)&&!inB t w15
def qE (t:By):Bool:=inB t q9e
def qB (t:By):Bool:=inB t q7X
def qh (t:By):Bool:=inB t q3O
end Go.Proofs.YtiamjjonoeaggaaGreatDoor
namespace Go.Proofs.YtiamjjonoeaggaaGreatDoor
open Go.RowKit
abbrev zr (r:Nat→Int):Value:=.agg #[.int .u16 (r 0),.int .u16 (r 1),.int .u16 (r 2),.int .u16 (r 3),.int .u16 (r 4),.int .u16 (r 5),.int .u16 (r 6),.int .u16 (r 7),.int .u16 (r 8),.int .u16 (r 9)]
abbrev inR (x y:Int):Prop:=0≤x∧x<10∧0≤y∧y<10
def q6q (a:Int)(y:Int):Int:=bits .or .u16 a (IntKind.u16.wrap (2 ^ y.toNat))
def q1l (r:Nat→Int)(x y:Int):Nat→Int:=fun i=>if inR x y∧x=(i:Int)then q6q (r i) y else r i
def q9r (r:Nat→Int)(x y:Int):Bool:=decide (inR x y)&&(bits .and .u16 (r x.toNat / 2 ^ y.toNat) 1==1)
theorem j1w (r:Nat→Int)(x y:Int)(h:¬inR x y):q1l r x y=r:=by
 funext i;simp only[q1l];rw[if_neg (fun h'=>h h'.1)]
theorem with_out (r:Nat→Int)(x y:Int)(h:¬inR x y)(w:World) :
  Calls Tryz.prog 178 #[zr r,.int .i64 x,.int .i64 y] w fun e w'=>e=.returned (zr (q1l r x y))∧Below w.heap.size w w':=by
 rw[j1w r x y h]
 simp only[inR]at h
 go_enter Tryz.func178,Tryz.ntmps178
 go_wp2
 all_goals exact zP (v:=zr r) (by simp[results,Tryz.results178,go_sem]) rfl ⟨rfl,((zB _ _).alloc (zL _) _).alloc (by simp) _⟩
theorem ten {x:Int}(h0:0≤x)(h:x<10):x=0∨x=1∨x=2∨x=3∨x=4∨x=5∨x=6∨x=7∨x=8∨x=9:=by omega
theorem withR_0 (r:Nat→Int)(y:Int)(hy:0≤y)(hy':y<10):zr (q1l r 0 y)=.agg #[.int .u16 (bits BinOp.or IntKind.u16 (r 0) (IntKind.u16.wrap (2 ^ y.toNat))),.int .u16 (r 1),.int .u16 (r 2),.int .u16 (r 3),.int .u16 (r 4),.int .u16 (r 5),.int .u16 (r 6),.int .u16 (r 7),.int .u16 (r 8),.int .u16 (r 9)]:=by
 simp[q1l,inR,q6q,hy,hy']
theorem with_in0 (r:Nat→Int)(y:Int)(hy:0≤y)(hy':y<10)(w:World) :
  Calls Tryz.prog 178 #[zr r,.int .i64 0,.int .i64 y] w fun e w'=>e=.returned (zr (q1l r 0 y))∧Below w.heap.size w w':=by
 rw[withR_0 r y hy hy']
 go_enter Tryz.func178,Tryz.ntmps178
 go_wp2
 go_region
 go_wp2
 exact zP (v:=.agg #[.int .u16 (bits BinOp.or IntKind.u16 (r 0) (IntKind.u16.wrap (2 ^ y.toNat))),.int .u16 (r 1),.int .u16 (r 2),.int .u16 (r 3),.int .u16 (r 4),.int .u16 (r 5),.int .u16 (r 6),.int .u16 (r 7),.int .u16 (r 8),.int .u16 (r 9)]) (by simp[results,Tryz.results178,go_sem]) rfl ⟨rfl,(((zB _ _).alloc (zL _) _).alloc (by simp) _).drew⟩
theorem has_in0 (r:Nat→Int)(y:Int)(hy:0≤y)(hy':y<10)(w:World) :
  Calls Tryz.prog 26 #[zr r,.int .i64 0,.int .i64 y] w fun e w'=>e=.returned (.bool (bits .and .u16 (r 0 / 2 ^ y.toNat) 1==1))∧Below w.heap.size w w':=by
 go_enter Tryz.func26,Tryz.ntmps26
 go_wp2
 go_ret
 exact⟨rfl,(zB _ _).alloc (zL _) _⟩
theorem withR_1 (r:Nat→Int)(y:Int)(hy:0≤y)(hy':y<10):zr (q1l r 1 y)=.agg #[.int .u16 (r 0),.int .u16 (bits BinOp.or IntKind.u16 (r 1) (IntKind.u16.wrap (2 ^ y.toNat))),.int .u16 (r 2),.int .u16 (r 3),.int .u16 (r 4),.int .u16 (r 5),.int .u16 (r 6),.int .u16 (r 7),.int .u16 (r 8),.int .u16 (r 9)]:=by
 simp[q1l,inR,q6q,hy,hy']
theorem with_in1 (r:Nat→Int)(y:Int)(hy:0≤y)(hy':y<10)(w:World) :
  Calls Tryz.prog 178 #[zr r,.int .i64 1,.int .i64 y] w fun e w'=>e=.returned (zr (q1l r 1 y))∧Below w.heap.size w w':=by
 rw[withR_1 r y hy hy']
 go_enter Tryz.func178,Tryz.ntmps178
 go_wp2
 go_region
 go_wp2
 exact zP (v:=.agg #[.int .u16 (r 0),.int .u16 (bits BinOp.or IntKind.u16 (r 1) (IntKind.u16.wrap (2 ^ y.toNat))),.int .u16 (r 2),.int .u16 (r 3),.int .u16 (r 4),.int .u16 (r 5),.int .u16 (r 6),.int .u16 (r 7),.int .u16 (r 8),.int .u16 (r 9)]) (by simp[results,Tryz.results178,go_sem]) rfl ⟨rfl,(((zB _ _).alloc (zL _) _).alloc (by simp) _).drew⟩
theorem has_in1 (r:Nat→Int)(y:Int)(hy:0≤y)(hy':y<10)(w:World) :
  Calls Tryz.prog 26 #[zr r,.int .i64 1,.int .i64 y] w fun e w'=>e=.returned (.bool (bits .and .u16 (r 1 / 2 ^ y.toNat) 1==1))∧Below w.heap.size w w':=by
 go_enter Tryz.func26,Tryz.ntmps26
 go_wp2
 go_ret
 exact⟨rfl,(zB _ _).alloc (zL _) _⟩
theorem withR_2 (r:Nat→Int)(y:Int)(hy:0≤y)(hy':y<10):zr (q1l r 2 y)=.agg #[.int .u16 (r 0),.int .u16 (r 1),.int .u16 (bits BinOp.or IntKind.u16 (r 2) (IntKind.u16.wrap (2 ^ y.toNat))),.int .u16 (r 3),.int .u16 (r 4),.int .u16 (r 5),.int .u16 (r 6),.int .u16 (r 7),.int .u16 (r 8),.int .u16 (r 9)]:=by
 simp[q1l,inR,q6q,hy,hy']
theorem with_in2 (r:Nat→Int)(y:Int)(hy:0≤y)(hy':y<10)(w:World) :
  Calls Tryz.prog 178 #[zr r,.int .i64 2,.int .i64 y] w fun e w'=>e=.returned (zr (q1l r 2 y))∧Below w.heap.size w w':=by
 rw[withR_2 r y hy hy']
 go_enter Tryz.func178,Tryz.ntmps178
 go_wp2
 go_region
 go_wp2
 exact zP (v:=.agg #[.int .u16 (r 0),.int .u16 (r 1),.int .u16 (bits BinOp.or IntKind.u16 (r 2) (IntKind.u16.wrap (2 ^ y.toNat))),.int .u16 (r 3),.int .u16 (r 4),.int .u16 (r 5),.int .u16 (r 6),.int .u16 (r 7),.int .u16 (r 8),.int .u16 (r 9)]) (by simp[results,Tryz.results178,go_sem]) rfl ⟨rfl,(((zB _ _).alloc (zL _) _).alloc (by simp) _).drew⟩
theorem has_in2 (r:Nat→Int)(y:Int)(hy:0≤y)(hy':y<10)(w:World) :
  Calls Tryz.prog 26 #[zr r,.int .i64 2,.int .i64 y] w fun e w'=>e=.returned (.bool (bits .and .u16 (r 2 / 2 ^ y.toNat) 1==1))∧Below w.heap.size w w':=by
 go_enter Tryz.func26,Tryz.ntmps26
 go_wp2
 go_ret
 exact⟨rfl,(zB _ _).alloc (zL _) _⟩
theorem withR_3 (r:Nat→Int)(y:Int)(hy:0≤y)(hy':y<10):zr (q1l r 3 y)=.agg #[.int .u16 (r 0),.int .u16 (r 1),.int .u16 (r 2),.int .u16 (bits BinOp.or IntKind.u16 (r 3) (IntKind.u16.wrap (2 ^ y.toNat))),.int .u16 (r 4),.int .u16 (r 5),.int .u16 (r 6),.int .u16 (r 7),.int .u16 (r 8),.int .u16 (r 9)]:=by
 simp[q1l,inR,q6q,hy,hy']
theorem with_in3 (r:Nat→Int)(y:Int)(hy:0≤y)(hy':y<10)(w:World) :
  Calls Tryz.prog 178 #[zr r,.int .i64 3,.int .i64 y] w fun e w'=>e=.returned (zr (q1l r 3 y))∧Below w.heap.size w w':=by
 rw[withR_3 r y hy hy']
 go_enter Tryz.func178,Tryz.ntmps178
 go_wp2
 go_region
 go_wp2
 exact zP (v:=.agg #[.int .u16 (r 0),.int .u16 (r 1),.int .u16 (r 2),.int .u16 (bits BinOp.or IntKind.u16 (r 3) (IntKind.u16.wrap (2 ^ y.toNat))),.int .u16 (r 4),.int .u16 (r 5),.int .u16 (r 6),.int .u16 (r 7),.int .u16 (r 8),.int .u16 (r 9)]) (by simp[results,Tryz.results178,go_sem]) rfl ⟨rfl,(((zB _ _).alloc (zL _) _).alloc (by simp) _).drew⟩
theorem has_in3 (r:Nat→Int)(y:Int)(hy:0≤y)(hy':y<10)(w:World) :
  Calls Tryz.prog 26 #[zr r,.int .i64 3,.int .i64 y] w fun e w'=>e=.returned (.bool (bits .and .u16 (r 3 / 2 ^ y.toNat) 1==1))∧Below w.heap.size w w':=by
 go_enter Tryz.func26,Tryz.ntmps26
 go_wp2
 go_ret
 exact⟨rfl,(zB _ _).alloc (zL _) _⟩
theorem withR_4 (r:Nat→Int)(y:Int)(hy:0≤y)(hy':y<10):zr (q1l r 4 y)=.agg #[.int .u16 (r 0),.int .u16 (r 1),.int .u16 (r 2),.int .u16 (r 3),.int .u16 (bits BinOp.or IntKind.u16 (r 4) (IntKind.u16.wrap (2 ^ y.toNat))),.int .u16 (r 5),.int .u16 (r 6),.int .u16 (r 7),.int .u16 (r 8),.int .u16 (r 9)]:=by
 simp[q1l,inR,q6q,hy,hy']
theorem with_in4 (r:Nat→Int)(y:Int)(hy:0≤y)(hy':y<10)(w:World) :
  Calls Tryz.prog 178 #[zr r,.int .i64 4,.int .i64 y] w fun e w'=>e=.returned (zr (q1l r 4 y))∧Below w.heap.size w w':=by
 rw[withR_4 r y hy hy']
 go_enter Tryz.func178,Tryz.ntmps178
 go_wp2
 go_region
 go_wp2
 exact zP (v:=.agg #[.int .u16 (r 0),.int .u16 (r 1),.int .u16 (r 2),.int .u16 (r 3),.int .u16 (bits BinOp.or IntKind.u16 (r 4) (IntKind.u16.wrap (2 ^ y.toNat))),.int .u16 (r 5),.int .u16 (r 6),.int .u16 (r 7),.int .u16 (r 8),.int .u16 (r 9)]) (by simp[results,Tryz.results178,go_sem]) rfl ⟨rfl,(((zB _ _).alloc (zL _) _).alloc (by simp) _).drew⟩
theorem has_in4 (r:Nat→Int)(y:Int)(hy:0≤y)(hy':y<10)(w:World) :
  Calls Tryz.prog 26 #[zr r,.int .i64 4,.int .i64 y] w fun e w'=>e=.returned (.bool (bits .and .u16 (r 4 / 2 ^ y.toNat) 1==1))∧Below w.heap.size w w':=by
 go_enter Tryz.func26,Tryz.ntmps26
 go_wp2
 go_ret
 exact⟨rfl,(zB _ _).alloc (zL _) _⟩
theorem withR_5 (r:Nat→Int)(y:Int)(hy:0≤y)(hy':y<10):zr (q1l r 5 y)=.agg #[.int .u16 (r 0),.int .u16 (r 1),.int .u16 (r 2),.int .u16 (r 3),.int .u16 (r 4),.int .u16 (bits BinOp.or IntKind.u16 (r 5) (IntKind.u16.wrap (2 ^ y.toNat))),.int .u16 (r 6),.int .u16 (r 7),.int .u16 (r 8),.int .u16 (r 9)]:=by
 simp[q1l,inR,q6q,hy,hy']
theorem with_in5 (r:Nat→Int)(y:Int)(hy:0≤y)(hy':y<10)(w:World) :
  Calls Tryz.prog 178 #[zr r,.int .i64 5,.int .i64 y] w fun e w'=>e=.returned (zr (q1l r 5 y))∧Below w.heap.size w w':=by
 rw[withR_5 r y hy hy']
 go_enter Tryz.func178,Tryz.ntmps178
 go_wp2
 go_region
 go_wp2
 exact zP (v:=.agg #[.int .u16 (r 0),.int .u16 (r 1),.int .u16 (r 2),.int .u16 (r 3),.int .u16 (r 4),.int .u16 (bits BinOp.or IntKind.u16 (r 5) (IntKind.u16.wrap (2 ^ y.toNat))),.int .u16 (r 6),.int .u16 (r 7),.int .u16 (r 8),.int .u16 (r 9)]) (by simp[results,Tryz.results178,go_sem]) rfl ⟨rfl,(((zB _ _).alloc (zL _) _).alloc (by simp) _).drew⟩
theorem has_in5 (r:Nat→Int)(y:Int)(hy:0≤y)(hy':y<10)(w:World) :
  Calls Tryz.prog 26 #[zr r,.int .i64 5,.int .i64 y] w fun e w'=>e=.returned (.bool (bits .and .u16 (r 5 / 2 ^ y.toNat) 1==1))∧Below w.heap.size w w':=by
 go_enter Tryz.func26,Tryz.ntmps26
 go_wp2
 go_ret
 exact⟨rfl,(zB _ _).alloc (zL _) _⟩
theorem withR_6 (r:Nat→Int)(y:Int)(hy:0≤y)(hy':y<10):zr (q1l r 6 y)=.agg #[.int .u16 (r 0),.int .u16 (r 1),.int .u16 (r 2),.int .u16 (r 3),.int .u16 (r 4),.int .u16 (r 5),.int .u16 (bits BinOp.or IntKind.u16 (r 6) (IntKind.u16.wrap (2 ^ y.toNat))),.int .u16 (r 7),.int .u16 (r 8),.int .u16 (r 9)]:=by
 simp[q1l,inR,q6q,hy,hy']
theorem with_in6 (r:Nat→Int)(y:Int)(hy:0≤y)(hy':y<10)(w:World) :
  Calls Tryz.prog 178 #[zr r,.int .i64 6,.int .i64 y] w fun e w'=>e=.returned (zr (q1l r 6 y))∧Below w.heap.size w w':=by
 rw[withR_6 r y hy hy']
 go_enter Tryz.func178,Tryz.ntmps178
 go_wp2
 go_region
 go_wp2
 exact zP (v:=.agg #[.int .u16 (r 0),.int .u16 (r 1),.int .u16 (r 2),.int .u16 (r 3),.int .u16 (r 4),.int .u16 (r 5),.int .u16 (bits BinOp.or IntKind.u16 (r 6) (IntKind.u16.wrap (2 ^ y.toNat))),.int .u16 (r 7),.int .u16 (r 8),.int .u16 (r 9)]) (by simp[results,Tryz.results178,go_sem]) rfl ⟨rfl,(((zB _ _).alloc (zL _) _).alloc (by simp) _).drew⟩
theorem has_in6 (r:Nat→Int)(y:Int)(hy:0≤y)(hy':y<10)(w:World) :
  Calls Tryz.prog 26 #[zr r,.int .i64 6,.int .i64 y] w fun e w'=>e=.returned (.bool (bits .and .u16 (r 6 / 2 ^ y.toNat) 1==1))∧Below w.heap.size w w':=by
 go_enter Tryz.func26,Tryz.ntmps26
 go_wp2
 go_ret
 exact⟨rfl,(zB _ _).alloc (zL _) _⟩
theorem withR_7 (r:Nat→Int)(y:Int)(hy:0≤y)(hy':y<10):zr (q1l r 7 y)=.agg #[.int .u16 (r 0),.int .u16 (r 1),.int .u16 (r 2),.int .u16 (r 3),.int .u16 (r 4),.int .u16 (r 5),.int .u16 (r 6),.int .u16 (bits BinOp.or IntKind.u16 (r 7) (IntKind.u16.wrap (2 ^ y.toNat))),.int .u16 (r 8),.int .u16 (r 9)]:=by
 simp[q1l,inR,q6q,hy,hy']
theorem with_in7 (r:Nat→Int)(y:Int)(hy:0≤y)(hy':y<10)(w:World) :
  Calls Tryz.prog 178 #[zr r,.int .i64 7,.int .i64 y] w fun e w'=>e=.returned (zr (q1l r 7 y))∧Below w.heap.size w w':=by
 rw[withR_7 r y hy hy']
 go_enter Tryz.func178,Tryz.ntmps178
 go_wp2
 go_region
 go_wp2
 exact zP (v:=.agg #[.int .u16 (r 0),.int .u16 (r 1),.int .u16 (r 2),.int .u16 (r 3),.int .u16 (r 4),.int .u16 (r 5),.int .u16 (r 6),.int .u16 (bits BinOp.or IntKind.u16 (r 7) (IntKind.u16.wrap (2 ^ y.toNat))),.int .u16 (r 8),.int .u16 (r 9)]) (by simp[results,Tryz.results178,go_sem]) rfl ⟨rfl,(((zB _ _).alloc (zL _) _).alloc (by simp) _).drew⟩
theorem has_in7 (r:Nat→Int)(y:Int)(hy:0≤y)(hy':y<10)(w:World) :
  Calls Tryz.prog 26 #[zr r,.int .i64 7,.int .i64 y] w fun e w'=>e=.returned (.bool (bits .and .u16 (r 7 / 2 ^ y.toNat) 1==1))∧Below w.heap.size w w':=by
 go_enter Tryz.func26,Tryz.ntmps26
 go_wp2
 go_ret
 exact⟨rfl,(zB _ _).alloc (zL _) _⟩
theorem withR_8 (r:Nat→Int)(y:Int)(hy:0≤y)(hy':y<10):zr (q1l r 8 y)=.agg #[.int .u16 (r 0),.int .u16 (r 1),.int .u16 (r 2),.int .u16 (r 3),.int .u16 (r 4),.int .u16 (r 5),.int .u16 (r 6),.int .u16 (r 7),.int .u16 (bits BinOp.or IntKind.u16 (r 8) (IntKind.u16.wrap (2 ^ y.toNat))),.int .u16 (r 9)]:=by
 simp[q1l,inR,q6q,hy,hy']
theorem with_in8 (r:Nat→Int)(y:Int)(hy:0≤y)(hy':y<10)(w:World) :
  Calls Tryz.prog 178 #[zr r,.int .i64 8,.int .i64 y] w fun e w'=>e=.returned (zr (q1l r 8 y))∧Below w.heap.size w w':=by
 rw[withR_8 r y hy hy']
 go_enter Tryz.func178,Tryz.ntmps178
 go_wp2
 go_region
 go_wp2
 exact zP (v:=.agg #[.int .u16 (r 0),.int .u16 (r 1),.int .u16 (r 2),.int .u16 (r 3),.int .u16 (r 4),.int .u16 (r 5),.int .u16 (r 6),.int .u16 (r 7),.int .u16 (bits BinOp.or IntKind.u16 (r 8) (IntKind.u16.wrap (2 ^ y.toNat))),.int .u16 (r 9)]) (by simp[results,Tryz.results178,go_sem]) rfl ⟨rfl,(((zB _ _).alloc (zL _) _).alloc (by simp) _).drew⟩
theorem has_in8 (r:Nat→Int)(y:Int)(hy:0≤y)(hy':y<10)(w:World) :
  Calls Tryz.prog 26 #[zr r,.int .i64 8,.int .i64 y] w fun e w'=>e=.returned (.bool (bits .and .u16 (r 8 / 2 ^ y.toNat) 1==1))∧Below w.heap.size w w':=by
 go_enter Tryz.func26,Tryz.ntmps26
 go_wp2
 go_ret
 exact⟨rfl,(zB _ _).alloc (zL _) _⟩
theorem withR_9 (r:Nat→Int)(y:Int)(hy:0≤y)(hy':y<10):zr (q1l r 9 y)=.agg #[.int .u16 (r 0),.int .u16 (r 1),.int .u16 (r 2),.int .u16 (r 3),.int .u16 (r 4),.int .u16 (r 5),.int .u16 (r 6),.int .u16 (r 7),.int .u16 (r 8),.int .u16 (bits BinOp.or IntKind.u16 (r 9) (IntKind.u16.wrap (2 ^ y.toNat)))]:=by
 simp[q1l,inR,q6q,hy,hy']
theorem with_in9 (r:Nat→Int)(y:Int)(hy:0≤y)(hy':y<10)(w:World) :
  Calls Tryz.prog 178 #[zr r,.int .i64 9,.int .i64 y] w fun e w'=>e=.returned (zr (q1l r 9 y))∧Below w.heap.size w w':=by
 rw[withR_9 r y hy hy']
 go_enter Tryz.func178,Tryz.ntmps178
 go_wp2
 go_region
 go_wp2
 exact zP (v:=.agg #[.int .u16 (r 0),.int .u16 (r 1),.int .u16 (r 2),.int .u16 (r 3),.int .u16 (r 4),.int .u16 (r 5),.int .u16 (r 6),.int .u16 (r 7),.int .u16 (r 8),.int .u16 (bits BinOp.or IntKind.u16 (r 9) (IntKind.u16.wrap (2 ^ y.toNat)))]) (by simp[results,Tryz.results178,go_sem]) rfl ⟨rfl,(((zB _ _).alloc (zL _) _).alloc (by simp) _).drew⟩
theorem has_in9 (r:Nat→Int)(y:Int)(hy:0≤y)(hy':y<10)(w:World) :
  Calls Tryz.prog 26 #[zr r,.int .i64 9,.int .i64 y] w fun e w'=>e=.returned (.bool (bits .and .u16 (r 9 / 2 ^ y.toNat) 1==1))∧Below w.heap.size w w':=by
 go_enter Tryz.func26,Tryz.ntmps26
 go_wp2
 go_ret
 exact⟨rfl,(zB _ _).alloc (zL _) _⟩
theorem has_out (r:Nat→Int)(x y:Int)(h:¬inR x y)(w:World) :
  Calls Tryz.prog 26 #[zr r,.int .i64 x,.int .i64 y] w fun e w'=>e=.returned (.bool false)∧Below w.heap.size w w':=by
 simp only[inR]at h
 go_enter Tryz.func26,Tryz.ntmps26
 go_wp2
 all_goals
  go_ret
  exact⟨rfl,(zB _ _).alloc (zL _) _⟩
theorem j6v (r:Nat→Int)(x y:Int)(w:World) :
  Calls Tryz.prog 178 #[zr r,.int .i64 x,.int .i64 y] w fun e w'=>e=.returned (zr (q1l r x y))∧Below w.heap.size w w':=by
 by_cases h:inR x y
 ·obtain⟨h0,h1,h2,h3⟩:=h
  rcases ten h0 h1 with rfl|rfl|rfl|rfl|rfl|rfl|rfl|rfl|rfl|rfl
  ·exact with_in0 r y h2 h3 w
  ·exact with_in1 r y h2 h3 w
  ·exact with_in2 r y h2 h3 w
  ·exact with_in3 r y h2 h3 w
  ·exact with_in4 r y h2 h3 w
  ·exact with_in5 r y h2 h3 w
  ·exact with_in6 r y h2 h3 w
  ·exact with_in7 r y h2 h3 w
  ·exact with_in8 r y h2 h3 w
  ·exact with_in9 r y h2 h3 w
 ·exact with_out r x y h w
theorem hasR_in (r:Nat→Int)(x y:Int)(h:inR x y):q9r r x y=(bits .and .u16 (r x.toNat / 2 ^ y.toNat) 1==1):=by
 unfold q9r;rw[decide_eq_true h,Bool.true_and]
theorem hasR_out (r:Nat→Int)(x y:Int)(h:¬inR x y):q9r r x y=false:=by
 unfold q9r;rw[decide_eq_false h,Bool.false_and]
theorem j3v (r:Nat→Int)(x y:Int)(w:World) :
  Calls Tryz.prog 26 #[zr r,.int .i64 x,.int .i64 y] w fun e w'=>e=.returned (.bool (q9r r x y))∧Below w.heap.size w w':=by
 by_cases h:inR x y
 ·rw[hasR_in r x y h]
  obtain⟨h0,h1,h2,h3⟩:=h
  rcases ten h0 h1 with rfl|rfl|rfl|rfl|rfl|rfl|rfl|rfl|rfl|rfl
  ·exact has_in0 r y h2 h3 w
  ·exact has_in1 r y h2 h3 w
  ·exact has_in2 r y h2 h3 w
  ·exact has_in3 r y h2 h3 w
  ·exact has_in4 r y h2 h3 w
  ·exact has_in5 r y h2 h3 w
  ·exact has_in6 r y h2 h3 w
  ·exact has_in7 r y h2 h3 w
  ·exact has_in8 r y h2 h3 w
  ·exact has_in9 r y h2 h3 w
 ·rw[hasR_out r x y h]
  exact has_out r x y h w
end Go.Proofs.YtiamjjonoeaggaaGreatDoor
namespace Go.Proofs.YtiamjjonoeaggaaGreatDoor
open Go.RowKit
def q1s (f:Nat→Bool):Nat:=(List.range 10).foldl (fun a y=>a ||| (if f y then 2 ^ y else 0)) 0
theorem q2Q (f:Nat→Bool)(y:Nat):(q1s f).testBit y=(decide (y<10)&&f y):=by
 have h:∀(k:Nat),((List.range k).foldl (fun a y=>a ||| (if f y then 2 ^ y else 0)) 0).testBit y=(decide (y<k)&&f y):=by
  intro k
  induction k with
  |zero=>simp
  |succ k ih =>
   rw[List.range_succ,List.foldl_append,List.foldl_cons,List.foldl_nil,Nat.testBit_or,ih]
   by_cases hk:y=k
   ·subst hk
    cases f y<;>simp
   ·have e:(if f k then 2 ^ k else 0).testBit y=false:=by
     split
     ·rw[Nat.testBit_two_pow];simpa using fun e=>hk e.symm
     ·simp
    rw[e,Bool.or_false]
    have e2:decide (y<k+1)=decide (y<k):=by
     by_cases h:y<k
     ·rw[decide_eq_true h,decide_eq_true (by omega)]
     ·rw[decide_eq_false h,decide_eq_false (by omega)]
    rw[e2]
 exact h 10
theorem q4j (f:Nat→Bool):q1s f<1024:=by
 apply Nat.lt_pow_two_of_testBit (n:=10)
 intro i hi
 rw[q2Q,decide_eq_false (by omega),Bool.false_and]
theorem q8S {f:Nat→Bool}{n:Nat}(h:∀y,n.testBit y=(decide (y<10)&&f y)):n=q1s f:=by
 apply Nat.eq_of_testBit_eq
 intro i
 rw[q2Q,h]
theorem q3r {f g:Nat→Bool}(h:∀y,y<10→f y=g y):q1s f=q1s g:=by
 apply q8S
 intro y
 rw[q2Q]
 by_cases hy:y<10
 ·rw[h y hy]
 ·rw[decide_eq_false hy,Bool.false_and,Bool.false_and]
theorem j5S:q1s (fun _=>true)=1023:=by decide
theorem q9J:q1s (fun _=>false)=0:=by decide
theorem q4M {f:Nat→Bool}:q1s f=0↔∀y,y<10→f y=false:=by
 constructor
 ·intro h y hy
  have:=q2Q f y
  rw[h,Nat.zero_testBit,decide_eq_true hy,Bool.true_and]at this
  exact this.symm
 ·intro h
  rw[q3r h]
  exact q9J
theorem j1U {n:Nat}(h:n<65536):IntKind.u16.wrap (n:Int)=(n:Int):=by
 simp[IntKind.wrap,IntKind.bits,IntKind.signed]
 omega
theorem j0b {n:Nat}(h:n<65536):(BitVec.ofInt IntKind.u16.bits (n:Int)).toNat=n:=by
 show(BitVec.ofInt 16 (n:Int)).toNat=n
 rw[BitVec.toNat_ofInt]
 omega
theorem j4y (f g:Nat→Bool):bits .and .u16 (q1s f:Int) (q1s g:Int)=(q1s (fun y=>f y&&g y):Int):=by
 have hf:=q4j f
 have hg:=q4j g
 show IntKind.u16.wrap ((BitVec.ofInt IntKind.u16.bits (q1s f:Int) &&& BitVec.ofInt IntKind.u16.bits (q1s g:Int)).toNat:Int)=_
 rw[BitVec.toNat_and,j0b (by omega),j0b (by omega)]
 have e:q1s f &&& q1s g=q1s (fun y=>f y&&g y):=by
  apply q8S
  intro y
  rw[Nat.testBit_and,q2Q,q2Q]
  cases decide (y<10)<;>simp
 rw[e]
 exact j1U (by have:=q4j (fun y=>f y&&g y);omega)
theorem j3n (f g:Nat→Bool):bits .or .u16 (q1s f:Int) (q1s g:Int)=(q1s (fun y=>f y || g y):Int):=by
 have hf:=q4j f
 have hg:=q4j g
 show IntKind.u16.wrap ((BitVec.ofInt IntKind.u16.bits (q1s f:Int) ||| BitVec.ofInt IntKind.u16.bits (q1s g:Int)).toNat:Int)=_
 rw[BitVec.toNat_or,j0b (by omega),j0b (by omega)]
 have e:q1s f ||| q1s g=q1s (fun y=>f y || g y):=by
  apply q8S
  intro y
  rw[Nat.testBit_or,q2Q,q2Q]
  cases decide (y<10)<;>simp
 rw[e]
 exact j1U (by have:=q4j (fun y=>f y || g y);omega)
theorem bits_not (f g:Nat→Bool):bits .andNot .u16 (q1s f:Int) (q1s g:Int)=(q1s (fun y=>f y&&!g y):Int):=by
 have hf:=q4j f
 have hg:=q4j g
 show IntKind.u16.wrap ((BitVec.ofInt IntKind.u16.bits (q1s f:Int) &&& ~~~BitVec.ofInt IntKind.u16.bits (q1s g:Int)).toNat:Int)=_
 have e:(BitVec.ofInt IntKind.u16.bits (q1s f:Int) &&& ~~~BitVec.ofInt IntKind.u16.bits (q1s g:Int)).toNat=q1s (fun y=>f y&&!g y):=by
  apply q8S
  intro y
  rw[←BitVec.getLsbD,BitVec.getLsbD_and,BitVec.getLsbD_not,BitVec.getLsbD,BitVec.getLsbD,j0b (by omega),j0b (by omega),q2Q,q2Q]
  show(decide (y<10)&&f y&&(decide (y<16)&&!(decide (y<10)&&g y)))=_
  by_cases hy:y<10
  ·rw[decide_eq_true hy,decide_eq_true (show y<16 by omega)];simp
  ·rw[decide_eq_false hy];simp
 rw[e]
 exact j1U (by have:=q4j (fun y=>f y&&!g y);omega)
theorem j5T (b:Nat)(hb:b<10):q1s (fun y=>y==b)=2 ^ b:=by
 symm
 apply q8S
 intro y
 rw[Nat.testBit_two_pow]
 by_cases h:b=y
 ·subst h;simp[hb]
 ·rw[decide_eq_false h]
  have:(y==b)=false:=by simpa using fun e=>h e.symm
  rw[this,Bool.and_false]
def zm (s:Nat→Nat→Bool):Nat→Int:=fun x=>(q1s (s x):Int)
theorem j2O (s:Nat→Nat→Bool)(x y:Nat)(hx:x<10)(hy:y<10):q1l (zm s) x y=zm (fun a b=>s a b || (a==x&&b==y)):=by
 funext i
 unfold q1l zm
 by_cases h:x=i
 ·subst h
  rw[if_pos ⟨by unfold inR;omega,rfl⟩]
  unfold q6q
  have e:IntKind.u16.wrap (2 ^ (y:Int).toNat)=(q1s (fun b=>b==y):Int):=by
   rw[j5T y hy]
   have hp:2 ^ y<65536:=zT (Nat.pow_lt_pow_right (by omega) hy) (by decide)
   have:=j1U hp
   rw[Int.toNat_natCast]
   simpa using this
  rw[e,j3n]
  congr 1
  apply q3r
  intro b _
  simp
 ·rw[if_neg (by intro h';exact h (by have:=h'.2;omega))]
  congr 1
  apply q3r
  intro b _
  have:(i==x)=false:=by simpa using fun e=>h e.symm
  show s i b=(s i b || (i==x&&b==y))
  rw[this,Bool.false_and,Bool.or_false]
theorem relN_has (s:Nat→Nat→Bool)(x y:Nat)(hx:x<10)(hy:y<10):q9r (zm s) x y=s x y:=by
 unfold q9r zm
 rw[decide_eq_true (by unfold inR;omega),Bool.true_and,Int.toNat_natCast,Int.toNat_natCast]
 have h1:=q4j (s x)
 have e0:((q1s (s x):Int) / 2 ^ y)=((q1s (s x) / 2 ^ y:Nat):Int):=by simp
 rw[e0]
 show(IntKind.u16.wrap ((BitVec.ofInt IntKind.u16.bits ((q1s (s x) / 2 ^ y:Nat):Int) &&& BitVec.ofInt IntKind.u16.bits ((1:Nat):Int)).toNat:Int)==1)=_
 have h2:q1s (s x) / 2 ^ y<65536:=Nat.lt_of_le_of_lt (Nat.div_le_self _ _) (by omega)
 rw[BitVec.toNat_and,j0b h2,j0b (by omega),Nat.and_one_is_mod,j1U (by omega)]
 have:=q2Q (s x) y
 rw[decide_eq_true hy,Bool.true_and,Nat.testBit_eq_decide_div_mod_eq]at this
 rw[←this]
 by_cases h:q1s (s x) / 2 ^ y % 2=1
 ·rw[h];rfl
 ·have:q1s (s x) / 2 ^ y % 2=0:=by omega
  rw[this];rfl
theorem j7s {s t:Nat→Nat→Bool}(h:∀x y,x<10→y<10→s x y=t x y)(x:Nat)(hx:x<10):zm s x=zm t x:=by
 unfold zm
 congr 1
 exact q3r fun y hy=>h x y hx hy
end Go.Proofs.YtiamjjonoeaggaaGreatDoor
namespace Go.Proofs.YtiamjjonoeaggaaGreatDoor
open Go.RowKit
abbrev qw (r:Nat→Int):List Value:=[.int .u16 (r 0),.int .u16 (r 1),.int .u16 (r 2),.int .u16 (r 3),.int .u16 (r 4),.int .u16 (r 5),.int .u16 (r 6),.int .u16 (r 7),.int .u16 (r 8),.int .u16 (r 9)]
theorem j5P (r:Nat→Int)(j:Nat)(h:j<10):(qw r)[j]?=some (.int .u16 (r j)):=by
 rcases(by omega:j=0∨j=1∨j=2∨j=3∨j=4∨j=5∨j=6∨j=7∨j=8∨j=9)with rfl|rfl|rfl|rfl|rfl|rfl|rfl|rfl|rfl|rfl<;>rfl
structure Arr (w:World)(b:Nat)(f:Nat→Int):Prop where
 cells:∀j,j<10→w.cell? ⟨b,j,none⟩=some (.int .u16 (f j))
 free:∀j,w.frozen? ⟨b,j,none⟩=false
 lt:b<w.heap.size
theorem Arr.of_row {w:World}{b:Nat}{f:Nat→Int}{t:TypeId}(h:w.heap[b]?=some (.cells #[.int .u16 (f 0),.int .u16 (f 1),.int .u16 (f 2),.int .u16 (f 3),.int .u16 (f 4),.int .u16 (f 5),.int .u16 (f 6),.int .u16 (f 7),.int .u16 (f 8),.int .u16 (f 9)] t (0,0))):Arr w b f:=by
 refine⟨fun j hj=>?_,fun j=>zF _ _ j _ _ h,?_⟩
 ·rw[zC _ _ j _ _ _ h]
  show(qw f).toArray[j]?=_
  rw[List.getElem?_toArray]
  exact j5P f j hj
 ·rcases Nat.lt_or_ge b w.heap.size with g|g
  ·exact g
  ·rw[Array.getElem?_eq_none g]at h;simp at h
theorem Arr.set {w:World}{b:Nat}{f:Nat→Int}(h:Arr w b f)(j:Nat)(hj:j<10)(v:Int):Arr (w.setCell ⟨b,j,none⟩ (.int .u16 v)) b (fun i=>if i=j then v else f i):=by
 refine⟨fun i hi=>?_,fun i=>by rw[World.frozen?_setCell];exact h.free i,by simpa using h.lt⟩
 by_cases e:i=j
 ·subst e
  rw[if_pos rfl]
  exact zS w _ _ (h.cells i hi)
 ·rw[if_neg e,zX w _ _ _ (by intro q;injection q with q1 q2;exact e q2.symm)]
  exact h.cells i hi
theorem Arr.other {w:World}{b b' o:Nat}{f:Nat→Int}(h:Arr w b f)(hb:b≠b')(v:Value):Arr (w.setCell ⟨b',o,none⟩ v) b f:=by
 refine⟨fun i hi=>?_,fun i=>by rw[World.frozen?_setCell];exact h.free i,by simpa using h.lt⟩
 rw[zX w _ _ _ (by intro q;injection q with q1 _;exact hb q1.symm)]
 exact h.cells i hi
theorem Arr.drew {w:World}{b:Nat}{f:Nat→Int}(h:Arr w b f):Arr w.drew b f:=⟨h.cells,h.free,h.lt⟩
theorem Arr.congr {w:World}{b:Nat}{f g:Nat→Int}(h:Arr w b f)(e:∀j,j<10→f j=g j):Arr w b g:=⟨fun j hj=>by rw[←e j hj];exact h.cells j hj,h.free,h.lt⟩
theorem Arr.range {w:World}{b:Nat}{f:Nat→Int}(h:Arr w b f):w.rangeAt b 0 (qw f):=fun j v hv=>by
 have hj:j<10:=(List.getElem?_eq_some_iff.1 hv).1
 rw[j5P f j hj]at hv
 rw[Nat.zero_add,h.cells j hj,hv]
theorem Arr.load {w:World}{b:Nat}{f:Nat→Int}(h:Arr w b f):(Instr.loadAt 47 (.pointer (some ⟨b,0,none⟩))).run Tryz.prog w=.ok (zr f) w:=
 run_loadAt_mid w b 0 47 (qw f) _ h.range Tryz.underlying47 rfl (by kernel_rfl)
theorem Arr.loadV {w:World}{b:Nat}{f:Nat→Int}(h:Arr w b f):(loadVar 47 ⟨b,0,none⟩).run Tryz.prog w=.ok (zr f) w:=
 run_loadVar_mid w b 0 47 (qw f) _ h.range Tryz.underlying47 rfl (by kernel_rfl)
theorem zl {P:Program}{fn:Func}{p:Tmp}{ty:TypeId}(h:fn.results=#[.cell p ty])(tmps:Array Value)(w:World)(g:Nat)(v:Value)(hp:tmps.getD p undef=.pointer (some ⟨g,0,none⟩))
  (hl:(loadVar ty ⟨g,0,none⟩).run P w=.ok v w):(results fn tmps).run P w=.ok v w:=by
 have hp':tmps[p]?.getD undef=.pointer (some ⟨g,0,none⟩):=by simpa using hp
 simp[results,h,hp',asAddr,hl]
def j4r (w:World)(r h q:Nat→Int)(g:Nat)(vi:Value)(wr:World):Prop:=
 ∃k:Nat,k≤10∧10-k≤g∧vi=.int .i64 k∧Arr wr w.heap.size (fun j=>if j<k then h j else r j)∧Arr wr (w.heap.size+1) q∧wr.heap[w.heap.size+2]?=some (.cells #[.int .u16 0,.int .u16 0,.int .u16 0,.int .u16 0,.int .u16 0,.int .u16 0,.int .u16 0,.int .u16 0,.int .u16 0,.int .u16 0] 47 (0,0))∧Below w.heap.size w wr
theorem j1l (w:World)(r h q:Nat→Int):j4r w r h q 10 (.int .i64 0) (((w.alloc (.cells #[.int .u16 (r 0),.int .u16 (r 1),.int .u16 (r 2),.int .u16 (r 3),.int .u16 (r 4),.int .u16 (r 5),.int .u16 (r 6),.int .u16 (r 7),.int .u16 (r 8),.int .u16 (r 9)] 47)).alloc (.cells #[.int .u16 (q 0),.int .u16 (q 1),.int .u16 (q 2),.int .u16 (q 3),.int .u16 (q 4),.int .u16 (q 5),.int .u16 (q 6),.int .u16 (q 7),.int .u16 (q 8),.int .u16 (q 9)] 47)).alloc (.cells #[.int .u16 0,.int .u16 0,.int .u16 0,.int .u16 0,.int .u16 0,.int .u16 0,.int .u16 0,.int .u16 0,.int .u16 0,.int .u16 0] 47)):=by
 refine⟨0,by omega,by omega,rfl,(Arr.of_row (f:=r) (t:=47) ?_).congr (fun j _=>by simp),Arr.of_row (f:=q) (t:=47) ?_,?_,(((zB _ _).alloc (zL _) _).alloc (by simp) _).alloc (by simp;omega) _⟩
 ·rw[zO _ _ (by simp;omega),zO _ _ (by simp)]
  exact zN _ _
 ·rw[zO _ _ (by simp)]
  have:=zN (w.alloc (.cells #[.int .u16 (r 0),.int .u16 (r 1),.int .u16 (r 2),.int .u16 (r 3),.int .u16 (r 4),.int .u16 (r 5),.int .u16 (r 6),.int .u16 (r 7),.int .u16 (r 8),.int .u16 (r 9)] 47)) (.cells #[.int .u16 (q 0),.int .u16 (q 1),.int .u16 (q 2),.int .u16 (q 3),.int .u16 (q 4),.int .u16 (q 5),.int .u16 (q 6),.int .u16 (q 7),.int .u16 (q 8),.int .u16 (q 9)] 47)
  simpa using this
 ·have:=zN ((w.alloc (.cells #[.int .u16 (r 0),.int .u16 (r 1),.int .u16 (r 2),.int .u16 (r 3),.int .u16 (r 4),.int .u16 (r 5),.int .u16 (r 6),.int .u16 (r 7),.int .u16 (r 8),.int .u16 (r 9)] 47)).alloc (.cells #[.int .u16 (q 0),.int .u16 (q 1),.int .u16 (q 2),.int .u16 (q 3),.int .u16 (q 4),.int .u16 (q 5),.int .u16 (q 6),.int .u16 (q 7),.int .u16 (q 8),.int .u16 (q 9)] 47)) (.cells #[.int .u16 0,.int .u16 0,.int .u16 0,.int .u16 0,.int .u16 0,.int .u16 0,.int .u16 0,.int .u16 0,.int .u16 0,.int .u16 0] 47)
  simpa using this
theorem j1k {w wr:World}{r h q:Nat→Int}{k gk:Nat}(hk:k<10)(hg:10-k≤gk)(h0:Arr wr w.heap.size (fun j=>if j<k then h j else r j))(h1:Arr wr (w.heap.size+1) q)(h2:wr.heap[w.heap.size+2]?=some (.cells #[.int .u16 0,.int .u16 0,.int .u16 0,.int .u16 0,.int .u16 0,.int .u16 0,.int .u16 0,.int .u16 0,.int .u16 0,.int .u16 0] 47 (0,0)))(hb:Below w.heap.size w wr)(v:Int)(hv:v=h k) :
  j4r w r h q (gk-1) (.int .i64 ((k:Int)+1)) (wr.setCell ⟨w.heap.size,k,none⟩ (.int .u16 v)).drew:=by
 refine⟨k+1,by omega,by omega,by simp,((h0.set k hk v).congr (fun j hj=>?_)).drew,(h1.other (by omega) _).drew,?_,(hb.setCell (zL _) _).drew⟩
 ·by_cases e:j=k
  ·subst e;rw[if_pos rfl,if_pos (by omega),hv]
  ·rw[if_neg e]
   by_cases e2:j<k
   ·rw[if_pos e2,if_pos (by omega)]
   ·rw[if_neg e2,if_neg (by omega)]
 ·show(wr.setCell ⟨w.heap.size,k,none⟩ (.int .u16 v)).heap[w.heap.size+2]?=_
  rw[Below.heap_setCell wr _ _ _ (by simp)]
  exact h2
theorem j7g {w wr:World}{r h:Nat→Int}(h0:Arr wr w.heap.size (fun j=>if j<10 then h j else r j))(h2:wr.heap[w.heap.size+2]?=some (.cells #[.int .u16 0,.int .u16 0,.int .u16 0,.int .u16 0,.int .u16 0,.int .u16 0,.int .u16 0,.int .u16 0,.int .u16 0,.int .u16 0] 47 (0,0)))(hb:Below w.heap.size w wr) :
  (Instr.loadAt 47 (.pointer (some ⟨w.heap.size,0,none⟩))).run Tryz.prog wr=.ok (zr h) wr∧∃W,(Instr.storeAt 47 (.pointer (some ⟨w.heap.size+2,0,none⟩)) (zr h)).run Tryz.prog wr=.ok () W∧(loadVar 47 ⟨w.heap.size+2,0,none⟩).run Tryz.prog W=.ok (zr h) W∧Below w.heap.size w W:=by
 have e:Arr wr w.heap.size h:=h0.congr (fun j hj=>by rw[if_pos hj])
 refine⟨e.load,?_⟩
 obtain⟨W,s1,s2,s3,s4,s5,s6,s7⟩:=q0j (P:=Tryz.prog) 47 47 wr (w.heap.size+2) _ #[.int .u16 (h 0),.int .u16 (h 1),.int .u16 (h 2),.int .u16 (h 3),.int .u16 (h 4),.int .u16 (h 5),.int .u16 (h 6),.int .u16 (h 7),.int .u16 (h 8),.int .u16 (h 9)] h2 (by kernel_rfl) rfl (by simp[Value.oneCell'])
 refine⟨W,s1,(Arr.of_row s2).loadV,⟨s5.trans hb.os,s6.trans hb.tape,s7.trans hb.output,by rw[s4];exact hb.size,fun k hk=>?_⟩⟩
 rw[s3 k (by omega)]
 exact hb.block k hk
theorem q6I (s t:Nat→Nat→Bool)(w:World) :
  Calls Tryz.prog 140 #[zr (zm s),zr (zm t)] w fun e w'=>e=.returned (zr (zm fun x y=>s x y&&t x y))∧Below w.heap.size w w':=by
 have HH:Hid (∀k,bits .and .u16 (zm s k) (zm t k)=zm (fun x y=>s x y&&t x y) k):=zb (fun k=>j4y (s k) (t k))
 generalize zm (fun x y=>s x y&&t x y)=h at *
 generalize zm s=r at *
 generalize zm t=q at *
 obtain⟨V,hV⟩:∃V,V=zr h:=⟨_,rfl⟩
 rw[←hV]
 have HV:=zb hV
 clear hV
 go_enter Tryz.func140,Tryz.ntmps140
 go_wp2_with fail
 go_loopg [5] 10 (fun g vi wr=>j4r w r h q g vi wr)
 case atStart=>exact j1l w r h q
 case round =>
  obtain⟨k,hk,hg,rfl,a0,a1,a2,hb⟩:=hrel
  have HA0:=zb a0
  have HA1:=zb a1
  have HA2:=zb a2
  have HB:=zb hb
  have HG:=zb hg
  by_cases hlt:k<10
  ·have c0:=a0.cells k hlt
   simp only[Nat.lt_irrefl,if_false]at c0
   have c1:=a1.cells k hlt
   have f0:=a0.free k
   have hl0:=a0.lt
   have hl1:=a1.lt
   clear a0 a1 a2 hb hg
   go_wp2_with fail
   go_region
   go_wp2_with fail
   have hg1:0<gk:=by have:=HG.out;omega
   go_roundg (gk-1)
   case measure=>omega
   case rel=>exact j1k hlt HG.out HA0.out HA1.out HA2.out HB.out _ (HH.out k)
  ·obtain rfl:k=10:=by omega
   obtain⟨L1,W,S1,S2,S3⟩:=j7g HA0.out HA2.out HB.out
   clear a0 a1 a2 hb hg HH
   rw[←HV.out]at L1 S1 S2
   go_wp2_with (first|(refine ze rfl 47 (.tmp 4) (.tmp 19) rfl ⟨w.heap.size+1+1,0,none⟩ V rfl rfl W S1 ?_)|(refine zj rfl 47 (.tmp 2) rfl ⟨w.heap.size,0,none⟩ V rfl L1 ?_))
   exact zP (v:=V) (zl rfl _ _ _ _ rfl S2) rfl ⟨rfl,S3⟩
theorem q8c (s t:Nat→Nat→Bool)(w:World) :
  Calls Tryz.prog 142 #[zr (zm s),zr (zm t)] w fun e w'=>e=.returned (zr (zm fun x y=>s x y || t x y))∧Below w.heap.size w w':=by
 have HH:Hid (∀k,bits .or .u16 (zm s k) (zm t k)=zm (fun x y=>s x y || t x y) k):=zb (fun k=>j3n (s k) (t k))
 generalize zm (fun x y=>s x y || t x y)=h at *
 generalize zm s=r at *
 generalize zm t=q at *
 obtain⟨V,hV⟩:∃V,V=zr h:=⟨_,rfl⟩
 rw[←hV]
 have HV:=zb hV
 clear hV
 go_enter Tryz.func142,Tryz.ntmps142
 go_wp2_with fail
 go_loopg [5] 10 (fun g vi wr=>j4r w r h q g vi wr)
 case atStart=>exact j1l w r h q
 case round =>
  obtain⟨k,hk,hg,rfl,a0,a1,a2,hb⟩:=hrel
  have HA0:=zb a0
  have HA1:=zb a1
  have HA2:=zb a2
  have HB:=zb hb
  have HG:=zb hg
  by_cases hlt:k<10
  ·have c0:=a0.cells k hlt
   simp only[Nat.lt_irrefl,if_false]at c0
   have c1:=a1.cells k hlt
   have f0:=a0.free k
   have hl0:=a0.lt
   have hl1:=a1.lt
   clear a0 a1 a2 hb hg
   go_wp2_with fail
   go_region
   go_wp2_with fail
   have hg1:0<gk:=by have:=HG.out;omega
   go_roundg (gk-1)
   case measure=>omega
   case rel=>exact j1k hlt HG.out HA0.out HA1.out HA2.out HB.out _ (HH.out k)
  ·obtain rfl:k=10:=by omega
   obtain⟨L1,W,S1,S2,S3⟩:=j7g HA0.out HA2.out HB.out
   clear a0 a1 a2 hb hg HH
   rw[←HV.out]at L1 S1 S2
   go_wp2_with (first|(refine ze rfl 47 (.tmp 4) (.tmp 19) rfl ⟨w.heap.size+1+1,0,none⟩ V rfl rfl W S1 ?_)|(refine zj rfl 47 (.tmp 2) rfl ⟨w.heap.size,0,none⟩ V rfl L1 ?_))
   exact zP (v:=V) (zl rfl _ _ _ _ rfl S2) rfl ⟨rfl,S3⟩
theorem q9X (s t:Nat→Nat→Bool)(w:World) :
  Calls Tryz.prog 141 #[zr (zm s),zr (zm t)] w fun e w'=>e=.returned (zr (zm fun x y=>s x y&&!t x y))∧Below w.heap.size w w':=by
 have HH:Hid (∀k,bits .andNot .u16 (zm s k) (zm t k)=zm (fun x y=>s x y&&!t x y) k):=zb (fun k=>bits_not (s k) (t k))
 generalize zm (fun x y=>s x y&&!t x y)=h at *
 generalize zm s=r at *
 generalize zm t=q at *
 obtain⟨V,hV⟩:∃V,V=zr h:=⟨_,rfl⟩
 rw[←hV]
 have HV:=zb hV
 clear hV
 go_enter Tryz.func141,Tryz.ntmps141
 go_wp2_with fail
 go_loopg [5] 10 (fun g vi wr=>j4r w r h q g vi wr)
 case atStart=>exact j1l w r h q
 case round =>
  obtain⟨k,hk,hg,rfl,a0,a1,a2,hb⟩:=hrel
  have HA0:=zb a0
  have HA1:=zb a1
  have HA2:=zb a2
  have HB:=zb hb
  have HG:=zb hg
  by_cases hlt:k<10
  ·have c0:=a0.cells k hlt
   simp only[Nat.lt_irrefl,if_false]at c0
   have c1:=a1.cells k hlt
   have f0:=a0.free k
   have hl0:=a0.lt
   have hl1:=a1.lt
   clear a0 a1 a2 hb hg
   go_wp2_with fail
   go_region
   go_wp2_with fail
   have hg1:0<gk:=by have:=HG.out;omega
   go_roundg (gk-1)
   case measure=>omega
   case rel=>exact j1k hlt HG.out HA0.out HA1.out HA2.out HB.out _ (HH.out k)
  ·obtain rfl:k=10:=by omega
   obtain⟨L1,W,S1,S2,S3⟩:=j7g HA0.out HA2.out HB.out
   clear a0 a1 a2 hb hg HH
   rw[←HV.out]at L1 S1 S2
   go_wp2_with (first|(refine ze rfl 47 (.tmp 4) (.tmp 19) rfl ⟨w.heap.size+1+1,0,none⟩ V rfl rfl W S1 ?_)|(refine zj rfl 47 (.tmp 2) rfl ⟨w.heap.size,0,none⟩ V rfl L1 ?_))
   exact zP (v:=V) (zl rfl _ _ _ _ rfl S2) rfl ⟨rfl,S3⟩
end Go.Proofs.YtiamjjonoeaggaaGreatDoor
namespace Go.Proofs.YtiamjjonoeaggaaGreatDoor
open Go.RowKit
def q5f (a b:Int):Bool:=(zQ a&&zQ b) || (q0n a&&q0n b)
def q0e (l:By):Nat:=l.foldl (fun n c=>10*n+(c.toNat-48)) 0
theorem q7o (l:By)(k:Nat)(h:k<l.length):q0e (l.take (k+1))=10*q0e (l.take k)+((l[k]).toNat-48):=by
 unfold q0e
 rw[List.take_succ_eq_append_getElem h,List.foldl_append]
 rfl
def q2d (l:By):Bool:=l.all fun c=>zQ (c.toNat:Int)
theorem q7g {l:By}(h:q2d l=true)(i:Nat)(hi:i<l.length):48≤(l[i]).toNat∧(l[i]).toNat≤57:=by
 unfold q2d at h
 rw[List.all_eq_true]at h
 have:=h _ (List.getElem_mem hi)
 simp[zQ]at this
 omega
theorem q8P {l:By}(h:q2d l=true):∀k,k≤l.length→q0e (l.take k)<10 ^ k:=by
 intro k
 induction k with
 |zero=>intro _;simp[q0e]
 |succ k ih =>
  intro hk
  have h1:=ih (by omega)
  have h2:=q7g h k (by omega)
  rw[q7o l k (by omega),Nat.pow_succ]
  omega
end Go.Proofs.YtiamjjonoeaggaaGreatDoor
namespace Go.Proofs.YtiamjjonoeaggaaGreatDoor
open Go.ChangeShapes Go.WideShapes Go.ChangeAt Go.WideElems Go.RowKit
theorem ownK:ownKnob Tryz.prog.godebug=none:=by kernel_rfl
theorem q6L:laidOutB Tryz.prog=true:=by kernel_rfl
theorem bs_dataK (s:ByteArray):bs s.data.toList=.string s:=by
 cases s
 simp[bs]
theorem wfK {n:Int}(h:(Lit.int .i64 n).wf=true):-9223372036854775808≤n∧n≤9223372036854775807:=by
 simp only[Lit.wf,Bool.and_eq_true,decide_eq_true_eq]at h
 exact⟨h.1,h.2⟩
theorem j6j {W:World}{l:List (String × DataW Unit)}{nm:String}{a b:String × DataW Unit}(hl:laidMet Tryz.prog (a::b::(nm,Lib.tabData .u64 Lib.pow10Tab)::l) W)(hn:Tryz.prog.globalNamed nm=some (q8D.g 17)):q8i W:=by
 have h:=Lib.tabIs_of_head (t:=208) (e:=187) (n:=20) hn (by kernel_rfl) Tryz.underlying208 Tryz.underlying187 (by kernel_rfl) (by kernel_rfl) hl.tail.tail
 unfold Lib.TabIs World.var? at h
 rw[hn]at h
 simp only[Option.bind_some]at h
 split at h
 ·rename_i cs t fr hc
  simp only[Option.some.injEq]at h
  subst h
  exact⟨_,_,hc⟩
 ·exact absurd h (by simp)
theorem j3Y {H:Type}{enc:TypeId × Value→H}{W:World}{base b0:Nat}{spare:Nat→Bool}{held:Bool}{v:Value}{d:DataW H}{p:List MemPlace}(hv:Value.okWide Tryz.prog W .any b0 9 v)(h:DataW.Trod enc Tryz.prog W base spare held 9 v d p):∃s:By,v=bs s∧s.length≤maxLen:=by
 obtain⟨s,rfl⟩:=okWide_string Tryz.underlying9 hv
 obtain⟨fuel,hf⟩:=h
 obtain⟨s',e1,_,e3⟩:=DataW.trod_string Tryz.underlying9 hf
 simp[Value.cells]at e1
 subst e1
 exact⟨s.data.toList,(bs_dataK s).symm,by rw[Array.length_toList];exact e3⟩
theorem int_in {H:Type}{enc:TypeId × Value→H}{W:World}{base b0:Nat}{spare:Nat→Bool}{held:Bool}{v:Value}{d:DataW H}{p:List MemPlace}(hv:Value.okWide Tryz.prog W .any b0 3 v)(h:DataW.Trod enc Tryz.prog W base spare held 3 v d p):∃n:Int,v=.int .i64 n∧(-9223372036854775808≤n∧n≤9223372036854775807):=by
 obtain⟨n,e1,_,_,e4⟩:=open_int Tryz.underlying3 hv h
 exact⟨n,e1,wfK e4⟩
end Go.Proofs.YtiamjjonoeaggaaGreatDoor
