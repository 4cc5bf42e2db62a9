import Derived.Test.YtiamjjonoeaggaaDoorRefB
namespace Go.Proofs.YtiamjjonoeaggaaDoor
open Go.RowKit

def fSym (d : Nat) : List UInt8 := [70, UInt8.ofNat (48 + d)]
def wExists : List UInt8 := [101, 120, 105, 115, 116, 115]
def bodyF (t f : List UInt8) : List (List UInt8) :=
  if t == [101, 120, 105, 115, 116, 115] then [t, [86, 65, 82], [40], f, [41]]
  else if isPlainB t then [t, [40], f, [44], f, [41]]
  else if isOneB t then [t, [91], [78, 85, 77], [44], [69, 78, 68], [93], [40], f, [41]]
  else [t, [91], [78, 85, 77], [44], [69, 78, 68], [93], [40], f, [44], f, [41]]
def bodyS (t : List UInt8) (deep : Nat) : List (List UInt8) := bodyF t (fSym (deep + 1))
theorem cat_mk (a b : Array UInt8) : ByteArray.mk a ++ ByteArray.mk b = ByteArray.mk (a ++ b) := by
  apply ByteArray.ext
  simp

set_option maxHeartbeats 400000 in
theorem ref_body (t : List UInt8) (d : Nat) (hd : d < 9) (w : World) :
    Calls Tryd.prog 61 #[bs t, .int .i64 d] w fun e w' => ∃ v, e = .returned v ∧ StrSl w' v (bodyS t d) ∧ Below w.heap.size w w' := by
  have hI := itoa_any (d + 1) (by omega)
  have e1 : (((d + 1 : Nat) : Int)) = (d : Int) + 1 := by omega
  rw [e1] at hI
  unfold bodyS fSym
  generalize UInt8.ofNat (48 + (d + 1)) = c at *
  clear e1
  have hcat : ByteArray.mk #[70] ++ ByteArray.mk #[c] = ByteArray.mk #[70, c] := cat_mk _ _
  have P1 := ref_isPlain t
  have P2 := ref_isOne t
  unfold bodyF
  generalize isPlainB t = p1 at *
  generalize isOneB t = p2 at *
  generalize hx : (t == [101, 120, 105, 115, 116, 115]) = ex at *
  cases ex with
  | true =>
    go_enter Tryd.func61, Tryd.ntmps61
    go_wp2_with fail
    refine (hI _).mono ?_
    rintro e w1 ⟨rfl, rfl⟩
    go_wp2_with fail
    go_ret
    exact ⟨_, rfl, StrSl_lit w1 [t, [86, 65, 82], [40], [70, c], [41]] 9 (by simp), (Below.refl _ _).alloc (Nat.le_refl _) _⟩
  | false =>
    cases p1 with
    | true =>
      go_enter Tryd.func61, Tryd.ntmps61
      go_wp2_with fail
      refine (hI _).mono ?_
      rintro e w1 ⟨rfl, rfl⟩
      go_wp2_with fail
      refine (P1 _).mono ?_
      rintro e w2 ⟨rfl, hb⟩
      go_wp2_with fail
      go_ret
      exact ⟨_, rfl, StrSl_lit w2 [t, [40], [70, c], [44], [70, c], [41]] 9 (by simp), hb.alloc hb.size _⟩
    | false =>
      cases p2 with
      | true =>
        go_enter Tryd.func61, Tryd.ntmps61
        go_wp2_with fail
        refine (hI _).mono ?_
        rintro e w1 ⟨rfl, rfl⟩
        go_wp2_with fail
        refine (P1 _).mono ?_
        rintro e w2 ⟨rfl, hb⟩
        go_wp2_with fail
        refine (P2 _).mono ?_
        rintro e w3 ⟨rfl, hb3⟩
        have hb := hb.trans (hb3.mono hb.size)
        go_wp2_with fail
        go_ret
        exact ⟨_, rfl, StrSl_lit w3 [t, [91], [78, 85, 77], [44], [69, 78, 68], [93], [40], [70, c], [41]] 9 (by simp), hb.alloc hb.size _⟩
      | false =>
        go_enter Tryd.func61, Tryd.ntmps61
        go_wp2_with fail
        refine (hI _).mono ?_
        rintro e w1 ⟨rfl, rfl⟩
        go_wp2_with fail
        refine (P1 _).mono ?_
        rintro e w2 ⟨rfl, hb⟩
        go_wp2_with fail
        refine (P2 _).mono ?_
        rintro e w3 ⟨rfl, hb3⟩
        have hb := hb.trans (hb3.mono hb.size)
        go_wp2_with fail
        go_ret
        exact ⟨_, rfl, StrSl_lit w3 [t, [91], [78, 85, 77], [44], [69, 78, 68], [93], [40], [70, c], [44], [70, c], [41]] 9 (by simp), hb.alloc hb.size _⟩

/-- What a symbol becomes: none, if it is a token, NUM, VAR or NAME. -/
def becomesS (sym t : List UInt8) : Option (List (List UInt8)) :=
  if sym == [69, 78, 68] then some (if t == [42] then [[42]] else [[78, 85, 77]])
  else if sym == [65, 82, 71] then some (if t.length == 1 && digs t then [t] else [[86, 65, 82]])
  else if sym == [77, 79, 82, 69] then some (if t == [44] then [[44], [65, 82, 71]] else [])
  else match sym with
    | [] => none
    | c :: r => if c == 70 then some (if 8 < numV r then [[78, 79, 78, 69]] else if isNameB t then [[78, 65, 77, 69], [40], [65, 82, 71], [77, 79, 82, 69], [41]] else if t == [101, 120, 105, 115, 116, 115] || isPlainB t || isOneB t || isTwoB t then bodyS t (numV r) else [[116, 114, 117, 101]]) else none

set_option maxHeartbeats 400000 in
theorem becomes_end (t : List UInt8) (w : World) :
    Calls Tryd.prog 37 #[bs [69, 78, 68], bs t] w fun e w' => ∃ v, e = .returned (.tuple #[v, .bool true]) ∧ StrSl w' v (if t == [42] then [[42]] else [[78, 85, 77]]) ∧ Below w.heap.size w w' := by
  generalize hx : (t == [42]) = ex at *
  cases ex
  all_goals
    go_enter Tryd.func37, Tryd.ntmps37
    go_wp2_with fail
    go_ret2
  · exact ⟨_, rfl, StrSl_lit w [[78, 85, 77]] 9 (by simp), (Below.refl _ _).alloc (Nat.le_refl _) _⟩
  · exact ⟨_, rfl, StrSl_lit w [[42]] 9 (by simp), (Below.refl _ _).alloc (Nat.le_refl _) _⟩
set_option maxHeartbeats 400000 in
theorem becomes_more (t : List UInt8) (w : World) :
    Calls Tryd.prog 37 #[bs [77, 79, 82, 69], bs t] w fun e w' => ∃ v, e = .returned (.tuple #[v, .bool true]) ∧ StrSl w' v (if t == [44] then [[44], [65, 82, 71]] else []) ∧ Below w.heap.size w w' := by
  generalize hx : (t == [44]) = ex at *
  cases ex
  all_goals
    go_enter Tryd.func37, Tryd.ntmps37
    go_wp2_with fail
    go_ret2
  · exact ⟨_, rfl, .inl ⟨rfl, rfl⟩, Below.refl _ _⟩
  · exact ⟨_, rfl, StrSl_lit w [[44], [65, 82, 71]] 9 (by simp), (Below.refl _ _).alloc (Nat.le_refl _) _⟩
set_option maxHeartbeats 400000 in
theorem becomes_arg (t : List UInt8) (ht : t.length ≤ 1000) (w : World) :
    Calls Tryd.prog 37 #[bs [65, 82, 71], bs t] w fun e w' => ∃ v, e = .returned (.tuple #[v, .bool true]) ∧ StrSl w' v (if t.length == 1 && digs t then [t] else [[86, 65, 82]]) ∧ Below w.heap.size w w' := by
  match t, ht with
  | [], _ =>
    go_enter Tryd.func37, Tryd.ntmps37
    go_wp2_with fail
    go_ret2
    exact ⟨_, rfl, StrSl_lit w [[86, 65, 82]] 9 (by simp), (Below.refl _ _).alloc (Nat.le_refl _) _⟩
  | [c], _ =>
    have hD := ref_isDigit (c.toNat : Int)
    have e : (([c] : List UInt8).length == 1 && digs [c]) = digB (c.toNat : Int) := by simp [digs]
    rw [e]
    clear e
    generalize hb : digB (c.toNat : Int) = b at *
    have Hb := hide hb
    clear hb
    cases b
    all_goals
      go_enter Tryd.func37, Tryd.ntmps37
      go_wp2_with fail
      refine (hD _).mono ?_
      rintro e w1 ⟨rfl, rfl⟩
      go_wp2_with fail
      go_ret2
    · exact ⟨_, rfl, StrSl_lit w1 [[86, 65, 82]] 9 (by simp), (Below.refl _ _).alloc (Nat.le_refl _) _⟩
    · exact ⟨_, rfl, StrSl_lit w1 [[c]] 9 (by simp), (Below.refl _ _).alloc (Nat.le_refl _) _⟩
  | c :: c' :: r, ht =>
    have hD := ref_isDigit (c.toNat : Int)
    have e : ((c :: c' :: r : List UInt8).length == 1 && digs (c :: c' :: r)) = false := by simp
    rw [e]
    clear e
    generalize hb : digB (c.toNat : Int) = b at *
    have Hb := hide hb
    clear hb
    simp only [List.length_cons] at ht
    cases b
    all_goals
      go_enter Tryd.func37, Tryd.ntmps37
      go_wp2_with fail
      refine (hD _).mono ?_
      rintro e w1 ⟨rfl, rfl⟩
      go_wp2_with fail
      go_ret2
      exact ⟨_, rfl, StrSl_lit w1 [[86, 65, 82]] 9 (by simp), (Below.refl _ _).alloc (Nat.le_refl _) _⟩
end Go.Proofs.YtiamjjonoeaggaaDoor
