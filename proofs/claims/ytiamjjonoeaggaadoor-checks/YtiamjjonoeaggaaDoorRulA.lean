import Derived.Test.YtiamjjonoeaggaaDoorSynF
import Derived.Test.YtiamjjonoeaggaaDoorStru
import Derived.Test.YtiamjjonoeaggaaDoorBrid
import Derived.Laws.OwnMore
namespace Go.Proofs.YtiamjjonoeaggaaDoor
open Go.RowKit

abbrev spanV (n : PNode) : Value := .agg #[.int .i64 n.sat, .int .i64 n.slo, .int .i64 n.shi, .bool n.sop]
theorem rul_isBackward (nd : PNode) (w : World) :
    Calls Tryd.prog 31 #[spanV nd] w fun e w' => e = .returned (.bool (backP nd)) ∧ Below w.heap.size w w' := by
  unfold backP
  obtain ⟨_, _, _, _, _, _, _, _, _, sat, slo, shi, sop, _, _⟩ := nd
  simp only []
  cases sop with
  | true =>
    go_enter Tryd.func31, Tryd.ntmps31
    go_wp2_with fail
    go_ret
    exact ⟨rfl, (Below.refl _ _).alloc (Nat.le_refl _) _⟩
  | false =>
    go_enter Tryd.func31, Tryd.ntmps31
    go_wp2_with fail
    go_ret
    exact ⟨by simp, (Below.refl _ _).alloc (Nat.le_refl _) _⟩
theorem rul_looksAhead (n : Int) (w : World) :
    Calls Tryd.prog 32 #[.int .i64 n] w fun e w' => e = .returned (.bool (aheadK n)) ∧ w' = w := by
  unfold aheadK
  go_enter Tryd.func32, Tryd.ntmps32
  go_wp2
  all_goals
    go_ret
    exact ⟨by simp_all, rfl⟩
theorem rul_reachAhead (own inner : Int) (h1 : 0 ≤ own ∧ own ≤ 100000) (h2 : -1 ≤ inner ∧ inner ≤ 1000000) (w : World) :
    Calls Tryd.prog 71 #[.int .i64 own, .int .i64 inner] w fun e w' => e = .returned (.int .i64 (reachP own inner)) ∧ w' = w := by
  unfold reachP
  by_cases h : inner = -1
  · subst h
    go_enter Tryd.func71, Tryd.ntmps71
    go_wp2
    go_ret
    exact ⟨rfl, rfl⟩
  · rw [if_neg h]
    go_enter Tryd.func71, Tryd.ntmps71
    go_wp2
    go_ret
    exact ⟨ret_int (by go_num), rfl⟩
abbrev infoV (i : PInfo) : Value := .agg #[.bool i.x, .bool i.y, .int .i64 i.reach]
theorem rul_isCovered (a b : PInfo) (w : World) :
    Calls Tryd.prog 56 #[infoV a, infoV b] w fun e w' => e = .returned (.bool (covP a b)) ∧ Below w.heap.size w w' := by
  unfold covP
  obtain ⟨ax, ay, ar⟩ := a
  obtain ⟨bx, bY, br⟩ := b
  simp only []
  cases ax <;> cases ay <;> cases bx <;> cases bY
  all_goals
    go_enter Tryd.func56, Tryd.ntmps56
    go_wp2_with fail
    go_ret
    exact ⟨rfl, ((Below.refl _ _).alloc (Nat.le_refl _) _).alloc (by simp) _⟩
def inCs (i : PInfo) : List Value := [.bool i.x, .bool i.y, .int .i64 i.reach]
def inCells (l : List PInfo) : List Value := l.flatMap inCs
theorem inCells_length (l : List PInfo) : (inCells l).length = l.length * 3 := by
  induction l with
  | nil => rfl
  | cons n r ih =>
    have e : inCells (n :: r) = inCs n ++ inCells r := by simp [inCells]
    have e2 : (inCs n).length = 3 := rfl
    rw [e, List.length_append, ih, e2, List.length_cons]
    omega
theorem inCells_at (l : List PInfo) (i : Nat) (h : i < l.length) (j : Nat) (hj : j < 3) : (inCells l)[i * 3 + j]? = (inCs l[i])[j]? := by
  induction l generalizing i with
  | nil => simp at h
  | cons n r ih =>
    have e : inCells (n :: r) = inCs n ++ inCells r := by simp [inCells]
    have e2 : (inCs n).length = 3 := rfl
    rw [e]
    cases i with
    | zero => rw [List.getElem?_append_left (by omega)]; simp
    | succ i =>
      have hi : i < r.length := by simpa using h
      rw [List.getElem?_append_right (by omega), e2, show (i + 1) * 3 + j - 3 = i * 3 + j by omega, ih i hi]
      rfl
theorem inCells_set (l : List PInfo) (i : Nat) (h : i < l.length) (n : PInfo) : inCells (l.set i n) = (((inCells l).set (i * 3) (.bool n.x)).set (i * 3 + 1) (.bool n.y)).set (i * 3 + 2) (.int .i64 n.reach) := by
  induction l generalizing i with
  | nil => simp at h
  | cons m r ih =>
    have e : ∀ (m : PInfo) r, inCells (m :: r) = inCs m ++ inCells r := by intro m r; simp [inCells]
    cases i with
    | zero => simp [e, inCs]
    | succ i =>
      have hi : i < r.length := by simpa using h
      have e2 : (inCs m).length = 3 := rfl
      rw [List.set_cons_succ, e, e, ih i hi, List.set_append_right _ _ (by omega), List.set_append_right _ _ (by omega), List.set_append_right _ _ (by omega), e2, show (i + 1) * 3 - 3 = i * 3 by omega, show (i + 1) * 3 + 1 - 3 = i * 3 + 1 by omega, show (i + 1) * 3 + 2 - 3 = i * 3 + 2 by omega]
theorem rul_infoAt (I : List PInfo) (n : Int) (base bi ci : Nat) (w : World) (h : w.ownsRow base 34 3 (.slice (some ⟨bi, 0, none⟩) I.length ci) I.length (inCells I)) (_hI : I.length ≤ 1000) (hn : -100000 ≤ n ∧ n ≤ 100000) :
    Calls Tryd.prog 35 #[.slice (some ⟨bi, 0, none⟩) I.length ci, .int .i64 n] w fun e w' => e = .returned (infoV (infoAtP I n)) ∧ Below w.heap.size w w' := by
  unfold infoAtP
  by_cases h0 : n < 0
  · rw [if_pos (.inl h0)]
    clear h
    go_enter Tryd.func35, Tryd.ntmps35
    go_wp2_with fail
    exact bodyPost_ret (v := infoV noInfo) (by simp [results, Tryd.results35, go_sem, noInfo]) rfl ⟨rfl, (Below.refl _ _).alloc (Nat.le_refl _) _⟩
  · by_cases h1 : (I.length : Int) ≤ n
    · rw [if_pos (.inr h1)]
      clear h
      go_enter Tryd.func35, Tryd.ntmps35
      go_wp2_with fail
      exact bodyPost_ret (v := infoV noInfo) (by simp [results, Tryd.results35, go_sem, noInfo]) rfl ⟨rfl, (Below.refl _ _).alloc (Nat.le_refl _) _⟩
    · rw [if_neg (by omega)]
      obtain ⟨m, rfl⟩ : ∃ m : Nat, n = m := ⟨n.toNat, by omega⟩
      have hm : m < I.length := by omega
      have hc := fun j hj => (h.cellAt (m * 3 + j) (by omega)).trans (inCells_at I m hm j hj)
      have hlt : bi < w.heap.size := (h.lt bi rfl).2
      have c0 := hc 0 (by omega)
      have c1 := hc 1 (by omega)
      have c2 := hc 2 (by omega)
      have e : I.getD (Int.toNat (m : Int)) noInfo = I[m] := by simp [List.getD, hm]
      rw [e]
      generalize I[m] = i at *
      obtain ⟨ix, iy, ir⟩ := i
      simp only [inCs, List.getElem?_cons_zero, List.getElem?_cons_succ, Nat.add_zero] at c0 c1 c2
      clear hc h e
      go_enter Tryd.func35, Tryd.ntmps35
      go_wp2_with fail
      exact bodyPost_ret (v := infoV ⟨ix, iy, ir⟩) (by simp [results, Tryd.results35, go_sem]) rfl ⟨rfl, (Below.refl _ _).alloc (Nat.le_refl _) _⟩
end Go.Proofs.YtiamjjonoeaggaaDoor
