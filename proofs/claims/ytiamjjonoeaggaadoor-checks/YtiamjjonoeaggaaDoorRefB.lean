import Derived.Test.YtiamjjonoeaggaaDoorRefA
import Derived.Lib.ConvBytes
import Derived.Lib.SmallJoins
namespace Go.Proofs.YtiamjjonoeaggaaDoor
open Go.RowKit

def rowB (a b : Int) : Bool := (digB a && digB b) || (letB a && letB b)
theorem ref_row (a b : Int) (w : World) :
    Calls Tryd.prog 57 #[.int .u8 a, .int .u8 b] w fun e w' => e = .returned (.bool (rowB a b)) ∧ w' = w := by
  unfold rowB
  have D1 := ref_isDigit a
  have D2 := ref_isDigit b
  have L1 := ref_isLetter a
  have L2 := ref_isLetter b
  generalize digB a = d1 at *
  generalize digB b = d2 at *
  generalize letB a = l1 at *
  generalize letB b = l2 at *
  cases d1 <;> cases l1
  · go_enter Tryd.func57, Tryd.ntmps57
    go_wp2_with fail
    refine (D1 _).mono ?_
    rintro e w1 ⟨rfl, rfl⟩
    go_wp2_with fail
    refine (L1 _).mono ?_
    rintro e w1 ⟨rfl, rfl⟩
    go_wp2_with fail
    go_ret
    exact ⟨rfl, rfl⟩
  · go_enter Tryd.func57, Tryd.ntmps57
    go_wp2_with fail
    refine (D1 _).mono ?_
    rintro e w1 ⟨rfl, rfl⟩
    go_wp2_with fail
    refine (L1 _).mono ?_
    rintro e w1 ⟨rfl, rfl⟩
    go_wp2_with fail
    refine (L2 _).mono ?_
    rintro e w1 ⟨rfl, rfl⟩
    go_wp2_with fail
    go_ret
    exact ⟨rfl, rfl⟩
  · go_enter Tryd.func57, Tryd.ntmps57
    go_wp2_with fail
    refine (D1 _).mono ?_
    rintro e w1 ⟨rfl, rfl⟩
    go_wp2_with fail
    refine (D2 _).mono ?_
    rintro e w1 ⟨rfl, rfl⟩
    go_wp2_with fail
    refine (L1 _).mono ?_
    rintro e w1 ⟨rfl, rfl⟩
    cases d2
    all_goals
      go_wp2_with fail
      go_ret
      exact ⟨rfl, rfl⟩
  · go_enter Tryd.func57, Tryd.ntmps57
    go_wp2_with fail
    refine (D1 _).mono ?_
    rintro e w1 ⟨rfl, rfl⟩
    go_wp2_with fail
    refine (D2 _).mono ?_
    rintro e w1 ⟨rfl, rfl⟩
    go_wp2_with fail
    refine (L1 _).mono ?_
    rintro e w1 ⟨rfl, rfl⟩
    go_wp2_with fail
    refine (L2 _).mono ?_
    rintro e w1 ⟨rfl, rfl⟩
    cases d2
    all_goals
      go_wp2_with fail
      go_ret
      exact ⟨rfl, rfl⟩

theorem itoa_0 (w : World) :
    Calls Tryd.prog 73 #[.int .i64 0] w fun e w' => e = .returned (bs [48]) ∧ w' = w := by
  go_enter Tryd.func73, Tryd.ntmps73
  go_wp2
  go_ret
  exact ⟨by kernel_rfl, rfl⟩
theorem itoa_1 (w : World) :
    Calls Tryd.prog 73 #[.int .i64 1] w fun e w' => e = .returned (bs [49]) ∧ w' = w := by
  go_enter Tryd.func73, Tryd.ntmps73
  go_wp2
  go_ret
  exact ⟨by kernel_rfl, rfl⟩
theorem itoa_2 (w : World) :
    Calls Tryd.prog 73 #[.int .i64 2] w fun e w' => e = .returned (bs [50]) ∧ w' = w := by
  go_enter Tryd.func73, Tryd.ntmps73
  go_wp2
  go_ret
  exact ⟨by kernel_rfl, rfl⟩
theorem itoa_3 (w : World) :
    Calls Tryd.prog 73 #[.int .i64 3] w fun e w' => e = .returned (bs [51]) ∧ w' = w := by
  go_enter Tryd.func73, Tryd.ntmps73
  go_wp2
  go_ret
  exact ⟨by kernel_rfl, rfl⟩
theorem itoa_4 (w : World) :
    Calls Tryd.prog 73 #[.int .i64 4] w fun e w' => e = .returned (bs [52]) ∧ w' = w := by
  go_enter Tryd.func73, Tryd.ntmps73
  go_wp2
  go_ret
  exact ⟨by kernel_rfl, rfl⟩
theorem itoa_5 (w : World) :
    Calls Tryd.prog 73 #[.int .i64 5] w fun e w' => e = .returned (bs [53]) ∧ w' = w := by
  go_enter Tryd.func73, Tryd.ntmps73
  go_wp2
  go_ret
  exact ⟨by kernel_rfl, rfl⟩
theorem itoa_6 (w : World) :
    Calls Tryd.prog 73 #[.int .i64 6] w fun e w' => e = .returned (bs [54]) ∧ w' = w := by
  go_enter Tryd.func73, Tryd.ntmps73
  go_wp2
  go_ret
  exact ⟨by kernel_rfl, rfl⟩
theorem itoa_7 (w : World) :
    Calls Tryd.prog 73 #[.int .i64 7] w fun e w' => e = .returned (bs [55]) ∧ w' = w := by
  go_enter Tryd.func73, Tryd.ntmps73
  go_wp2
  go_ret
  exact ⟨by kernel_rfl, rfl⟩
theorem itoa_8 (w : World) :
    Calls Tryd.prog 73 #[.int .i64 8] w fun e w' => e = .returned (bs [56]) ∧ w' = w := by
  go_enter Tryd.func73, Tryd.ntmps73
  go_wp2
  go_ret
  exact ⟨by kernel_rfl, rfl⟩
theorem itoa_9 (w : World) :
    Calls Tryd.prog 73 #[.int .i64 9] w fun e w' => e = .returned (bs [57]) ∧ w' = w := by
  go_enter Tryd.func73, Tryd.ntmps73
  go_wp2
  go_ret
  exact ⟨by kernel_rfl, rfl⟩
theorem itoa_any (n : Nat) (h : n < 10) (w : World) :
    Calls Tryd.prog 73 #[.int .i64 n] w fun e w' => e = .returned (bs [UInt8.ofNat (48 + n)]) ∧ w' = w := by
  rcases (by omega : n = 0 ∨ n = 1 ∨ n = 2 ∨ n = 3 ∨ n = 4 ∨ n = 5 ∨ n = 6 ∨ n = 7 ∨ n = 8 ∨ n = 9) with rfl | rfl | rfl | rfl | rfl | rfl | rfl | rfl | rfl | rfl
  · exact itoa_0 w
  · exact itoa_1 w
  · exact itoa_2 w
  · exact itoa_3 w
  · exact itoa_4 w
  · exact itoa_5 w
  · exact itoa_6 w
  · exact itoa_7 w
  · exact itoa_8 w
  · exact itoa_9 w
/-- The value of a row of digits. -/
def numV (l : List UInt8) : Nat := l.foldl (fun n c => 10 * n + (c.toNat - 48)) 0
theorem numV_take (l : List UInt8) (k : Nat) (h : k < l.length) : numV (l.take (k + 1)) = 10 * numV (l.take k) + ((l[k]).toNat - 48) := by
  unfold numV
  rw [List.take_succ_eq_append_getElem h, List.foldl_append]
  rfl
def digs (l : List UInt8) : Bool := l.all fun c => digB (c.toNat : Int)
theorem digs_at {l : List UInt8} (h : digs l = true) (i : Nat) (hi : i < l.length) : 48 ≤ (l[i]).toNat ∧ (l[i]).toNat ≤ 57 := by
  unfold digs at h
  rw [List.all_eq_true] at h
  have := h _ (List.getElem_mem hi)
  simp [digB] at this
  omega
theorem numV_lt {l : List UInt8} (h : digs l = true) : ∀ k, k ≤ l.length → numV (l.take k) < 10 ^ k := by
  intro k
  induction k with
  | zero => intro _; simp [numV]
  | succ k ih =>
    intro hk
    have h1 := ih (by omega)
    have h2 := digs_at h k (by omega)
    rw [numV_take l k (by omega), Nat.pow_succ]
    omega

theorem bytes_cell (w : World) (l : List UInt8) (j : Nat) (hj : j < l.length) :
    (Lib.bytesWorld w 5 (ByteArray.mk l.toArray)).cell? ⟨w.heap.size, j, none⟩ = some (.int .u8 (l[j]).toNat) := by
  rw [Lib.bytesWorld_cell _ _ _ _ (by exact hj)]
  simp [List.getD, hj]

set_option maxRecDepth 100000 in
set_option maxHeartbeats 400000 in
theorem iatoi_any (l : List UInt8) (h1 : 0 < l.length) (h2 : l.length ≤ 3) (hd : digs l = true) (w : World) :
    Calls Tryd.prog 62 #[bs l] w fun e w' => e = .returned (.tuple #[.int .i64 (numV l), .nilIface]) ∧ Below w.heap.size w w' := by
  have hd0 := digs_at hd 0 h1
  have e0 : ((ByteArray.mk l.toArray)[0]'(by exact h1)) = l[0] := rfl
  have h45 : ((((ByteArray.mk l.toArray)[0]'(by exact h1)).toNat : Int) == 45) = false := beq_eq_false_iff_ne.2 (by rw [e0]; omega)
  have h43 : ((((ByteArray.mk l.toArray)[0]'(by exact h1)).toNat : Int) == 43) = false := beq_eq_false_iff_ne.2 (by rw [e0]; omega)
  have hcv := Lib.run_convert_string_bytes (P := Tryd.prog) w 9 131 5 (ByteArray.mk l.toArray) (u := .string) Tryd.underlying9 Tryd.underlying131 Tryd.underlying5
  have hB := bytes_cell w l
  have hBel := Joins.below_bytesWorld w.heap.size w 5 (ByteArray.mk l.toArray) (Nat.le_refl _)
  generalize Lib.bytesWorld w 5 (ByteArray.mk l.toArray) = W1 at *
  have HB := hide hB
  have HD := hide hd
  clear e0 hB hd
  go_enter Tryd.func62, Tryd.ntmps62
  go_wp2
  go_loop [49, 6] (fun vi vn => ∃ k : Nat, k ≤ l.length ∧ vi = .int .i64 k ∧ vn = .int .i64 (numV (l.take k))) (fun vi _ => l.length - (intOf vi).toNat)
  case atStart => exact ⟨0, Nat.zero_le _, rfl, rfl⟩
  case round =>
    obtain ⟨k, hk, rfl, rfl⟩ := hrel
    have hlt9 := numV_lt HD.out k hk
    have hp : 10 ^ k ≤ 1000 := Nat.le_trans (Nat.pow_le_pow_right (by omega) (show k ≤ 3 by omega)) (by decide)
    have hlt : numV (l.take k) < 1000 := by omega
    clear hlt9 hp
    by_cases hkn : k < l.length
    · have hc1 := HB.out k hkn
      have hg := digs_at HD.out k hkn
      have HN := hide (numV_take l k hkn)
      generalize numV (l.take k) = m at *
      generalize (l[k]).toNat = c at *
      obtain ⟨g1, g2⟩ := hg
      go_wp2
      go_round
      case rel => exact ⟨k + 1, by omega, by go_num, by rw [HN.out]; first | go_num | (congr 1; omega)⟩
      case measure => simp [intOf]; omega
    · have hke : k = l.length := by omega
      subst hke
      rw [List.take_length]
      go_wp2
      go_ret2
      exact ⟨rfl, hBel⟩

theorem ref_atoi (l : List UInt8) (h1 : 0 < l.length) (h2 : l.length ≤ 3) (hd : digs l = true) (w : World) :
    Calls Tryd.prog 41 #[bs l] w fun e w' => e = .returned (.tuple #[.int .i64 (numV l), .nilIface]) ∧ Below w.heap.size w w' := by
  go_enter Tryd.func41, Tryd.ntmps41
  go_wp2_with fail
  refine (iatoi_any l h1 h2 hd _).mono ?_
  rintro e w1 ⟨rfl, hb⟩
  go_wp2_with fail
  go_ret2
  exact ⟨rfl, hb⟩
theorem ref_number (l : List UInt8) (n : Int) (h1 : 0 < l.length) (h2 : l.length ≤ 3) (hd : digs l = true) (w : World) :
    Calls Tryd.prog 21 #[.agg #[bs l, .int .i64 n]] w fun e w' => e = .returned (.int .i64 (numV l)) ∧ Below w.heap.size w w' := by
  go_enter Tryd.func21, Tryd.ntmps21
  go_wp2_with fail
  refine (ref_atoi l h1 h2 hd _).mono ?_
  rintro e w1 ⟨rfl, hb⟩
  go_wp2_with fail
  go_ret
  exact ⟨rfl, ((Below.refl _ _).alloc (Nat.le_refl _) _).trans (hb.mono (by simp))⟩
end Go.Proofs.YtiamjjonoeaggaaDoor
