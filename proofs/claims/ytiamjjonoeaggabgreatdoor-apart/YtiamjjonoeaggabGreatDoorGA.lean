import Derived.Test.YtiamjjonoeaggabGreatDoorProg
import Derived.WalkKit
import Derived.WalkSpells
import Derived.WalkLawsBesides
import Derived.Below
namespace Go.Proofs.YtiamjjonoeaggabGreatDoor
open Go.RowKit
abbrev By:=List UInt8
abbrev OA:=Option Addr
theorem gz {α:Type}:(∀(l:List α) (i:Nat),l.toArray[i]?=l[i]?)∧(∀(a:α) (l:List α),(a::l)[0]?=some a)∧(∀(a:α) (l:List α) (i:Nat),(a::l)[i+1]?=l[i]?):=⟨by simp,by simp,by simp⟩
theorem rz {α:Type}:(∀l:List α,l.toArray.size=l.length)∧(∀(a:α) (l:List α),(a::l).length=l.length+1)∧(([]:List α).length=0)∧(∀(n:Nat) (v:α),Array.replicate n v=(List.replicate n v).toArray):=⟨by simp,by simp,by simp,by simp⟩
abbrev zC:=@cell_of_row
abbrev zN:=@heap_alloc_new
abbrev zO:=@heap_alloc_old
abbrev zL:=@Nat.le_refl
abbrev zT:=@Nat.lt_of_lt_of_le
abbrev zB:=@Below.refl
abbrev zW:=@World.ownsRow_nil
abbrev zK:=@World.cell?_of_block
abbrev zP:=@bodyPost_ret
abbrev zS:=@World.cell?_setCell_same
abbrev zX:=@World.cell?_setCell_other
abbrev zH:=@heap_setCell_same
abbrev zF:=@frozen_of_row
abbrev zZ:=@Nat.zero_le
abbrev zM:=@Nat.le_trans
abbrev zG:=@List.getElem?_eq_getElem
abbrev zI:=@List.mem_of_getElem?
abbrev zU:=@Nat.mul_le_mul_right
end Go.Proofs.YtiamjjonoeaggabGreatDoor
