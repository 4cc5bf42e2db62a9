import Derived.Test.YtiamjjonoeaggaaRows
import Derived.WalkKit
import Derived.ProofKit
import Derived.OpenShut
namespace Go.Proofs.Ytiamjjonoeaggaa.names
open Go.ChangeShapes Go.WideShapes Go.ChangeAt Go.RowKit
abbrev relV (r : Nat → Int) : Value := .agg #[.int .u16 (r 0), .int .u16 (r 1), .int .u16 (r 2), .int .u16 (r 3), .int .u16 (r 4), .int .u16 (r 5), .int .u16 (r 6), .int .u16 (r 7), .int .u16 (r 8), .int .u16 (r 9)]
abbrev inR (x y : Int) : Prop := 0 ≤ x ∧ x < 10 ∧ 0 ≤ y ∧ y < 10
def bitOr (a : Int) (y : Int) : Int := bits .or .u16 a (IntKind.u16.wrap (2 ^ y.toNat))
def withR (r : Nat → Int) (x y : Int) : Nat → Int := fun i => if inR x y ∧ x = (i : Int) then bitOr (r i) y else r i
def hasR (r : Nat → Int) (x y : Int) : Bool := decide (inR x y) && (bits .and .u16 (r x.toNat / 2 ^ y.toNat) 1 == 1)
theorem relV_withR_out (r : Nat → Int) (x y : Int) (h : ¬ inR x y) : withR r x y = r := by
  funext i; simp only [withR]; rw [if_neg (fun h' => h h'.1)]
set_option maxHeartbeats 400000 in
theorem with_out (r : Nat → Int) (x y : Int) (h : ¬ inR x y) (w : World) :
    Calls Try.prog 5 #[relV r, .int .i64 x, .int .i64 y] w fun e w' => e = .returned (relV (withR r x y)) ∧ Below w.heap.size w w' := by
  rw [relV_withR_out r x y h]
  simp only [inR] at h
  go_enter Try.func5, Try.ntmps5
  go_wp2
  all_goals exact bodyPost_ret (v := relV r) (by simp [results, Try.results5, go_sem]) rfl ⟨rfl, ((Below.refl _ _).alloc (Nat.le_refl _) _).alloc (by simp) _⟩
theorem ten {x : Int} (h0 : 0 ≤ x) (h : x < 10) : x = 0 ∨ x = 1 ∨ x = 2 ∨ x = 3 ∨ x = 4 ∨ x = 5 ∨ x = 6 ∨ x = 7 ∨ x = 8 ∨ x = 9 := by omega

theorem withR_0 (r : Nat → Int) (y : Int) (hy : 0 ≤ y) (hy' : y < 10) : relV (withR r 0 y) = .agg #[.int .u16 (bits BinOp.or IntKind.u16 (r 0) (IntKind.u16.wrap (2 ^ y.toNat))), .int .u16 (r 1), .int .u16 (r 2), .int .u16 (r 3), .int .u16 (r 4), .int .u16 (r 5), .int .u16 (r 6), .int .u16 (r 7), .int .u16 (r 8), .int .u16 (r 9)] := by
  simp [withR, inR, bitOr, hy, hy']
set_option maxHeartbeats 400000 in
theorem with_in0 (r : Nat → Int) (y : Int) (hy : 0 ≤ y) (hy' : y < 10) (w : World) :
    Calls Try.prog 5 #[relV r, .int .i64 0, .int .i64 y] w fun e w' => e = .returned (relV (withR r 0 y)) ∧ Below w.heap.size w w' := by
  rw [withR_0 r y hy hy']
  go_enter Try.func5, Try.ntmps5
  go_wp2
  go_region
  go_wp2
  exact bodyPost_ret (v := .agg #[.int .u16 (bits BinOp.or IntKind.u16 (r 0) (IntKind.u16.wrap (2 ^ y.toNat))), .int .u16 (r 1), .int .u16 (r 2), .int .u16 (r 3), .int .u16 (r 4), .int .u16 (r 5), .int .u16 (r 6), .int .u16 (r 7), .int .u16 (r 8), .int .u16 (r 9)]) (by simp [results, Try.results5, go_sem]) rfl ⟨rfl, (((Below.refl _ _).alloc (Nat.le_refl _) _).alloc (by simp) _).drew⟩
set_option maxHeartbeats 400000 in
theorem has_in0 (r : Nat → Int) (y : Int) (hy : 0 ≤ y) (hy' : y < 10) (w : World) :
    Calls Try.prog 6 #[relV r, .int .i64 0, .int .i64 y] w fun e w' => e = .returned (.bool (bits .and .u16 (r 0 / 2 ^ y.toNat) 1 == 1)) ∧ Below w.heap.size w w' := by
  go_enter Try.func6, Try.ntmps6
  go_wp2
  go_ret
  exact ⟨rfl, (Below.refl _ _).alloc (Nat.le_refl _) _⟩

theorem withR_1 (r : Nat → Int) (y : Int) (hy : 0 ≤ y) (hy' : y < 10) : relV (withR r 1 y) = .agg #[.int .u16 (r 0), .int .u16 (bits BinOp.or IntKind.u16 (r 1) (IntKind.u16.wrap (2 ^ y.toNat))), .int .u16 (r 2), .int .u16 (r 3), .int .u16 (r 4), .int .u16 (r 5), .int .u16 (r 6), .int .u16 (r 7), .int .u16 (r 8), .int .u16 (r 9)] := by
  simp [withR, inR, bitOr, hy, hy']
set_option maxHeartbeats 400000 in
theorem with_in1 (r : Nat → Int) (y : Int) (hy : 0 ≤ y) (hy' : y < 10) (w : World) :
    Calls Try.prog 5 #[relV r, .int .i64 1, .int .i64 y] w fun e w' => e = .returned (relV (withR r 1 y)) ∧ Below w.heap.size w w' := by
  rw [withR_1 r y hy hy']
  go_enter Try.func5, Try.ntmps5
  go_wp2
  go_region
  go_wp2
  exact bodyPost_ret (v := .agg #[.int .u16 (r 0), .int .u16 (bits BinOp.or IntKind.u16 (r 1) (IntKind.u16.wrap (2 ^ y.toNat))), .int .u16 (r 2), .int .u16 (r 3), .int .u16 (r 4), .int .u16 (r 5), .int .u16 (r 6), .int .u16 (r 7), .int .u16 (r 8), .int .u16 (r 9)]) (by simp [results, Try.results5, go_sem]) rfl ⟨rfl, (((Below.refl _ _).alloc (Nat.le_refl _) _).alloc (by simp) _).drew⟩
set_option maxHeartbeats 400000 in
theorem has_in1 (r : Nat → Int) (y : Int) (hy : 0 ≤ y) (hy' : y < 10) (w : World) :
    Calls Try.prog 6 #[relV r, .int .i64 1, .int .i64 y] w fun e w' => e = .returned (.bool (bits .and .u16 (r 1 / 2 ^ y.toNat) 1 == 1)) ∧ Below w.heap.size w w' := by
  go_enter Try.func6, Try.ntmps6
  go_wp2
  go_ret
  exact ⟨rfl, (Below.refl _ _).alloc (Nat.le_refl _) _⟩

theorem withR_2 (r : Nat → Int) (y : Int) (hy : 0 ≤ y) (hy' : y < 10) : relV (withR r 2 y) = .agg #[.int .u16 (r 0), .int .u16 (r 1), .int .u16 (bits BinOp.or IntKind.u16 (r 2) (IntKind.u16.wrap (2 ^ y.toNat))), .int .u16 (r 3), .int .u16 (r 4), .int .u16 (r 5), .int .u16 (r 6), .int .u16 (r 7), .int .u16 (r 8), .int .u16 (r 9)] := by
  simp [withR, inR, bitOr, hy, hy']
set_option maxHeartbeats 400000 in
theorem with_in2 (r : Nat → Int) (y : Int) (hy : 0 ≤ y) (hy' : y < 10) (w : World) :
    Calls Try.prog 5 #[relV r, .int .i64 2, .int .i64 y] w fun e w' => e = .returned (relV (withR r 2 y)) ∧ Below w.heap.size w w' := by
  rw [withR_2 r y hy hy']
  go_enter Try.func5, Try.ntmps5
  go_wp2
  go_region
  go_wp2
  exact bodyPost_ret (v := .agg #[.int .u16 (r 0), .int .u16 (r 1), .int .u16 (bits BinOp.or IntKind.u16 (r 2) (IntKind.u16.wrap (2 ^ y.toNat))), .int .u16 (r 3), .int .u16 (r 4), .int .u16 (r 5), .int .u16 (r 6), .int .u16 (r 7), .int .u16 (r 8), .int .u16 (r 9)]) (by simp [results, Try.results5, go_sem]) rfl ⟨rfl, (((Below.refl _ _).alloc (Nat.le_refl _) _).alloc (by simp) _).drew⟩
set_option maxHeartbeats 400000 in
theorem has_in2 (r : Nat → Int) (y : Int) (hy : 0 ≤ y) (hy' : y < 10) (w : World) :
    Calls Try.prog 6 #[relV r, .int .i64 2, .int .i64 y] w fun e w' => e = .returned (.bool (bits .and .u16 (r 2 / 2 ^ y.toNat) 1 == 1)) ∧ Below w.heap.size w w' := by
  go_enter Try.func6, Try.ntmps6
  go_wp2
  go_ret
  exact ⟨rfl, (Below.refl _ _).alloc (Nat.le_refl _) _⟩

theorem withR_3 (r : Nat → Int) (y : Int) (hy : 0 ≤ y) (hy' : y < 10) : relV (withR r 3 y) = .agg #[.int .u16 (r 0), .int .u16 (r 1), .int .u16 (r 2), .int .u16 (bits BinOp.or IntKind.u16 (r 3) (IntKind.u16.wrap (2 ^ y.toNat))), .int .u16 (r 4), .int .u16 (r 5), .int .u16 (r 6), .int .u16 (r 7), .int .u16 (r 8), .int .u16 (r 9)] := by
  simp [withR, inR, bitOr, hy, hy']
set_option maxHeartbeats 400000 in
theorem with_in3 (r : Nat → Int) (y : Int) (hy : 0 ≤ y) (hy' : y < 10) (w : World) :
    Calls Try.prog 5 #[relV r, .int .i64 3, .int .i64 y] w fun e w' => e = .returned (relV (withR r 3 y)) ∧ Below w.heap.size w w' := by
  rw [withR_3 r y hy hy']
  go_enter Try.func5, Try.ntmps5
  go_wp2
  go_region
  go_wp2
  exact bodyPost_ret (v := .agg #[.int .u16 (r 0), .int .u16 (r 1), .int .u16 (r 2), .int .u16 (bits BinOp.or IntKind.u16 (r 3) (IntKind.u16.wrap (2 ^ y.toNat))), .int .u16 (r 4), .int .u16 (r 5), .int .u16 (r 6), .int .u16 (r 7), .int .u16 (r 8), .int .u16 (r 9)]) (by simp [results, Try.results5, go_sem]) rfl ⟨rfl, (((Below.refl _ _).alloc (Nat.le_refl _) _).alloc (by simp) _).drew⟩
set_option maxHeartbeats 400000 in
theorem has_in3 (r : Nat → Int) (y : Int) (hy : 0 ≤ y) (hy' : y < 10) (w : World) :
    Calls Try.prog 6 #[relV r, .int .i64 3, .int .i64 y] w fun e w' => e = .returned (.bool (bits .and .u16 (r 3 / 2 ^ y.toNat) 1 == 1)) ∧ Below w.heap.size w w' := by
  go_enter Try.func6, Try.ntmps6
  go_wp2
  go_ret
  exact ⟨rfl, (Below.refl _ _).alloc (Nat.le_refl _) _⟩

theorem withR_4 (r : Nat → Int) (y : Int) (hy : 0 ≤ y) (hy' : y < 10) : relV (withR r 4 y) = .agg #[.int .u16 (r 0), .int .u16 (r 1), .int .u16 (r 2), .int .u16 (r 3), .int .u16 (bits BinOp.or IntKind.u16 (r 4) (IntKind.u16.wrap (2 ^ y.toNat))), .int .u16 (r 5), .int .u16 (r 6), .int .u16 (r 7), .int .u16 (r 8), .int .u16 (r 9)] := by
  simp [withR, inR, bitOr, hy, hy']
set_option maxHeartbeats 400000 in
theorem with_in4 (r : Nat → Int) (y : Int) (hy : 0 ≤ y) (hy' : y < 10) (w : World) :
    Calls Try.prog 5 #[relV r, .int .i64 4, .int .i64 y] w fun e w' => e = .returned (relV (withR r 4 y)) ∧ Below w.heap.size w w' := by
  rw [withR_4 r y hy hy']
  go_enter Try.func5, Try.ntmps5
  go_wp2
  go_region
  go_wp2
  exact bodyPost_ret (v := .agg #[.int .u16 (r 0), .int .u16 (r 1), .int .u16 (r 2), .int .u16 (r 3), .int .u16 (bits BinOp.or IntKind.u16 (r 4) (IntKind.u16.wrap (2 ^ y.toNat))), .int .u16 (r 5), .int .u16 (r 6), .int .u16 (r 7), .int .u16 (r 8), .int .u16 (r 9)]) (by simp [results, Try.results5, go_sem]) rfl ⟨rfl, (((Below.refl _ _).alloc (Nat.le_refl _) _).alloc (by simp) _).drew⟩
set_option maxHeartbeats 400000 in
theorem has_in4 (r : Nat → Int) (y : Int) (hy : 0 ≤ y) (hy' : y < 10) (w : World) :
    Calls Try.prog 6 #[relV r, .int .i64 4, .int .i64 y] w fun e w' => e = .returned (.bool (bits .and .u16 (r 4 / 2 ^ y.toNat) 1 == 1)) ∧ Below w.heap.size w w' := by
  go_enter Try.func6, Try.ntmps6
  go_wp2
  go_ret
  exact ⟨rfl, (Below.refl _ _).alloc (Nat.le_refl _) _⟩

theorem withR_5 (r : Nat → Int) (y : Int) (hy : 0 ≤ y) (hy' : y < 10) : relV (withR r 5 y) = .agg #[.int .u16 (r 0), .int .u16 (r 1), .int .u16 (r 2), .int .u16 (r 3), .int .u16 (r 4), .int .u16 (bits BinOp.or IntKind.u16 (r 5) (IntKind.u16.wrap (2 ^ y.toNat))), .int .u16 (r 6), .int .u16 (r 7), .int .u16 (r 8), .int .u16 (r 9)] := by
  simp [withR, inR, bitOr, hy, hy']
set_option maxHeartbeats 400000 in
theorem with_in5 (r : Nat → Int) (y : Int) (hy : 0 ≤ y) (hy' : y < 10) (w : World) :
    Calls Try.prog 5 #[relV r, .int .i64 5, .int .i64 y] w fun e w' => e = .returned (relV (withR r 5 y)) ∧ Below w.heap.size w w' := by
  rw [withR_5 r y hy hy']
  go_enter Try.func5, Try.ntmps5
  go_wp2
  go_region
  go_wp2
  exact bodyPost_ret (v := .agg #[.int .u16 (r 0), .int .u16 (r 1), .int .u16 (r 2), .int .u16 (r 3), .int .u16 (r 4), .int .u16 (bits BinOp.or IntKind.u16 (r 5) (IntKind.u16.wrap (2 ^ y.toNat))), .int .u16 (r 6), .int .u16 (r 7), .int .u16 (r 8), .int .u16 (r 9)]) (by simp [results, Try.results5, go_sem]) rfl ⟨rfl, (((Below.refl _ _).alloc (Nat.le_refl _) _).alloc (by simp) _).drew⟩
set_option maxHeartbeats 400000 in
theorem has_in5 (r : Nat → Int) (y : Int) (hy : 0 ≤ y) (hy' : y < 10) (w : World) :
    Calls Try.prog 6 #[relV r, .int .i64 5, .int .i64 y] w fun e w' => e = .returned (.bool (bits .and .u16 (r 5 / 2 ^ y.toNat) 1 == 1)) ∧ Below w.heap.size w w' := by
  go_enter Try.func6, Try.ntmps6
  go_wp2
  go_ret
  exact ⟨rfl, (Below.refl _ _).alloc (Nat.le_refl _) _⟩

theorem withR_6 (r : Nat → Int) (y : Int) (hy : 0 ≤ y) (hy' : y < 10) : relV (withR r 6 y) = .agg #[.int .u16 (r 0), .int .u16 (r 1), .int .u16 (r 2), .int .u16 (r 3), .int .u16 (r 4), .int .u16 (r 5), .int .u16 (bits BinOp.or IntKind.u16 (r 6) (IntKind.u16.wrap (2 ^ y.toNat))), .int .u16 (r 7), .int .u16 (r 8), .int .u16 (r 9)] := by
  simp [withR, inR, bitOr, hy, hy']
set_option maxHeartbeats 400000 in
theorem with_in6 (r : Nat → Int) (y : Int) (hy : 0 ≤ y) (hy' : y < 10) (w : World) :
    Calls Try.prog 5 #[relV r, .int .i64 6, .int .i64 y] w fun e w' => e = .returned (relV (withR r 6 y)) ∧ Below w.heap.size w w' := by
  rw [withR_6 r y hy hy']
  go_enter Try.func5, Try.ntmps5
  go_wp2
  go_region
  go_wp2
  exact bodyPost_ret (v := .agg #[.int .u16 (r 0), .int .u16 (r 1), .int .u16 (r 2), .int .u16 (r 3), .int .u16 (r 4), .int .u16 (r 5), .int .u16 (bits BinOp.or IntKind.u16 (r 6) (IntKind.u16.wrap (2 ^ y.toNat))), .int .u16 (r 7), .int .u16 (r 8), .int .u16 (r 9)]) (by simp [results, Try.results5, go_sem]) rfl ⟨rfl, (((Below.refl _ _).alloc (Nat.le_refl _) _).alloc (by simp) _).drew⟩
set_option maxHeartbeats 400000 in
theorem has_in6 (r : Nat → Int) (y : Int) (hy : 0 ≤ y) (hy' : y < 10) (w : World) :
    Calls Try.prog 6 #[relV r, .int .i64 6, .int .i64 y] w fun e w' => e = .returned (.bool (bits .and .u16 (r 6 / 2 ^ y.toNat) 1 == 1)) ∧ Below w.heap.size w w' := by
  go_enter Try.func6, Try.ntmps6
  go_wp2
  go_ret
  exact ⟨rfl, (Below.refl _ _).alloc (Nat.le_refl _) _⟩

theorem withR_7 (r : Nat → Int) (y : Int) (hy : 0 ≤ y) (hy' : y < 10) : relV (withR r 7 y) = .agg #[.int .u16 (r 0), .int .u16 (r 1), .int .u16 (r 2), .int .u16 (r 3), .int .u16 (r 4), .int .u16 (r 5), .int .u16 (r 6), .int .u16 (bits BinOp.or IntKind.u16 (r 7) (IntKind.u16.wrap (2 ^ y.toNat))), .int .u16 (r 8), .int .u16 (r 9)] := by
  simp [withR, inR, bitOr, hy, hy']
set_option maxHeartbeats 400000 in
theorem with_in7 (r : Nat → Int) (y : Int) (hy : 0 ≤ y) (hy' : y < 10) (w : World) :
    Calls Try.prog 5 #[relV r, .int .i64 7, .int .i64 y] w fun e w' => e = .returned (relV (withR r 7 y)) ∧ Below w.heap.size w w' := by
  rw [withR_7 r y hy hy']
  go_enter Try.func5, Try.ntmps5
  go_wp2
  go_region
  go_wp2
  exact bodyPost_ret (v := .agg #[.int .u16 (r 0), .int .u16 (r 1), .int .u16 (r 2), .int .u16 (r 3), .int .u16 (r 4), .int .u16 (r 5), .int .u16 (r 6), .int .u16 (bits BinOp.or IntKind.u16 (r 7) (IntKind.u16.wrap (2 ^ y.toNat))), .int .u16 (r 8), .int .u16 (r 9)]) (by simp [results, Try.results5, go_sem]) rfl ⟨rfl, (((Below.refl _ _).alloc (Nat.le_refl _) _).alloc (by simp) _).drew⟩
set_option maxHeartbeats 400000 in
theorem has_in7 (r : Nat → Int) (y : Int) (hy : 0 ≤ y) (hy' : y < 10) (w : World) :
    Calls Try.prog 6 #[relV r, .int .i64 7, .int .i64 y] w fun e w' => e = .returned (.bool (bits .and .u16 (r 7 / 2 ^ y.toNat) 1 == 1)) ∧ Below w.heap.size w w' := by
  go_enter Try.func6, Try.ntmps6
  go_wp2
  go_ret
  exact ⟨rfl, (Below.refl _ _).alloc (Nat.le_refl _) _⟩

theorem withR_8 (r : Nat → Int) (y : Int) (hy : 0 ≤ y) (hy' : y < 10) : relV (withR r 8 y) = .agg #[.int .u16 (r 0), .int .u16 (r 1), .int .u16 (r 2), .int .u16 (r 3), .int .u16 (r 4), .int .u16 (r 5), .int .u16 (r 6), .int .u16 (r 7), .int .u16 (bits BinOp.or IntKind.u16 (r 8) (IntKind.u16.wrap (2 ^ y.toNat))), .int .u16 (r 9)] := by
  simp [withR, inR, bitOr, hy, hy']
set_option maxHeartbeats 400000 in
theorem with_in8 (r : Nat → Int) (y : Int) (hy : 0 ≤ y) (hy' : y < 10) (w : World) :
    Calls Try.prog 5 #[relV r, .int .i64 8, .int .i64 y] w fun e w' => e = .returned (relV (withR r 8 y)) ∧ Below w.heap.size w w' := by
  rw [withR_8 r y hy hy']
  go_enter Try.func5, Try.ntmps5
  go_wp2
  go_region
  go_wp2
  exact bodyPost_ret (v := .agg #[.int .u16 (r 0), .int .u16 (r 1), .int .u16 (r 2), .int .u16 (r 3), .int .u16 (r 4), .int .u16 (r 5), .int .u16 (r 6), .int .u16 (r 7), .int .u16 (bits BinOp.or IntKind.u16 (r 8) (IntKind.u16.wrap (2 ^ y.toNat))), .int .u16 (r 9)]) (by simp [results, Try.results5, go_sem]) rfl ⟨rfl, (((Below.refl _ _).alloc (Nat.le_refl _) _).alloc (by simp) _).drew⟩
set_option maxHeartbeats 400000 in
theorem has_in8 (r : Nat → Int) (y : Int) (hy : 0 ≤ y) (hy' : y < 10) (w : World) :
    Calls Try.prog 6 #[relV r, .int .i64 8, .int .i64 y] w fun e w' => e = .returned (.bool (bits .and .u16 (r 8 / 2 ^ y.toNat) 1 == 1)) ∧ Below w.heap.size w w' := by
  go_enter Try.func6, Try.ntmps6
  go_wp2
  go_ret
  exact ⟨rfl, (Below.refl _ _).alloc (Nat.le_refl _) _⟩

theorem withR_9 (r : Nat → Int) (y : Int) (hy : 0 ≤ y) (hy' : y < 10) : relV (withR r 9 y) = .agg #[.int .u16 (r 0), .int .u16 (r 1), .int .u16 (r 2), .int .u16 (r 3), .int .u16 (r 4), .int .u16 (r 5), .int .u16 (r 6), .int .u16 (r 7), .int .u16 (r 8), .int .u16 (bits BinOp.or IntKind.u16 (r 9) (IntKind.u16.wrap (2 ^ y.toNat)))] := by
  simp [withR, inR, bitOr, hy, hy']
set_option maxHeartbeats 400000 in
theorem with_in9 (r : Nat → Int) (y : Int) (hy : 0 ≤ y) (hy' : y < 10) (w : World) :
    Calls Try.prog 5 #[relV r, .int .i64 9, .int .i64 y] w fun e w' => e = .returned (relV (withR r 9 y)) ∧ Below w.heap.size w w' := by
  rw [withR_9 r y hy hy']
  go_enter Try.func5, Try.ntmps5
  go_wp2
  go_region
  go_wp2
  exact bodyPost_ret (v := .agg #[.int .u16 (r 0), .int .u16 (r 1), .int .u16 (r 2), .int .u16 (r 3), .int .u16 (r 4), .int .u16 (r 5), .int .u16 (r 6), .int .u16 (r 7), .int .u16 (r 8), .int .u16 (bits BinOp.or IntKind.u16 (r 9) (IntKind.u16.wrap (2 ^ y.toNat)))]) (by simp [results, Try.results5, go_sem]) rfl ⟨rfl, (((Below.refl _ _).alloc (Nat.le_refl _) _).alloc (by simp) _).drew⟩
set_option maxHeartbeats 400000 in
theorem has_in9 (r : Nat → Int) (y : Int) (hy : 0 ≤ y) (hy' : y < 10) (w : World) :
    Calls Try.prog 6 #[relV r, .int .i64 9, .int .i64 y] w fun e w' => e = .returned (.bool (bits .and .u16 (r 9 / 2 ^ y.toNat) 1 == 1)) ∧ Below w.heap.size w w' := by
  go_enter Try.func6, Try.ntmps6
  go_wp2
  go_ret
  exact ⟨rfl, (Below.refl _ _).alloc (Nat.le_refl _) _⟩

set_option maxHeartbeats 400000 in
theorem has_out (r : Nat → Int) (x y : Int) (h : ¬ inR x y) (w : World) :
    Calls Try.prog 6 #[relV r, .int .i64 x, .int .i64 y] w fun e w' => e = .returned (.bool false) ∧ Below w.heap.size w w' := by
  simp only [inR] at h
  go_enter Try.func6, Try.ntmps6
  go_wp2
  all_goals
    go_ret
    exact ⟨rfl, (Below.refl _ _).alloc (Nat.le_refl _) _⟩
theorem with_any (r : Nat → Int) (x y : Int) (w : World) :
    Calls Try.prog 5 #[relV r, .int .i64 x, .int .i64 y] w fun e w' => e = .returned (relV (withR r x y)) ∧ Below w.heap.size w w' := by
  by_cases h : inR x y
  · obtain ⟨h0, h1, h2, h3⟩ := h
    rcases ten h0 h1 with rfl | rfl | rfl | rfl | rfl | rfl | rfl | rfl | rfl | rfl
    · exact with_in0 r y h2 h3 w
    · exact with_in1 r y h2 h3 w
    · exact with_in2 r y h2 h3 w
    · exact with_in3 r y h2 h3 w
    · exact with_in4 r y h2 h3 w
    · exact with_in5 r y h2 h3 w
    · exact with_in6 r y h2 h3 w
    · exact with_in7 r y h2 h3 w
    · exact with_in8 r y h2 h3 w
    · exact with_in9 r y h2 h3 w
  · exact with_out r x y h w
theorem hasR_in (r : Nat → Int) (x y : Int) (h : inR x y) : hasR r x y = (bits .and .u16 (r x.toNat / 2 ^ y.toNat) 1 == 1) := by
  unfold hasR; rw [decide_eq_true h, Bool.true_and]
theorem hasR_out (r : Nat → Int) (x y : Int) (h : ¬ inR x y) : hasR r x y = false := by
  unfold hasR; rw [decide_eq_false h, Bool.false_and]
theorem has_any (r : Nat → Int) (x y : Int) (w : World) :
    Calls Try.prog 6 #[relV r, .int .i64 x, .int .i64 y] w fun e w' => e = .returned (.bool (hasR r x y)) ∧ Below w.heap.size w w' := by
  by_cases h : inR x y
  · rw [hasR_in r x y h]
    obtain ⟨h0, h1, h2, h3⟩ := h
    rcases ten h0 h1 with rfl | rfl | rfl | rfl | rfl | rfl | rfl | rfl | rfl | rfl
    · exact has_in0 r y h2 h3 w
    · exact has_in1 r y h2 h3 w
    · exact has_in2 r y h2 h3 w
    · exact has_in3 r y h2 h3 w
    · exact has_in4 r y h2 h3 w
    · exact has_in5 r y h2 h3 w
    · exact has_in6 r y h2 h3 w
    · exact has_in7 r y h2 h3 w
    · exact has_in8 r y h2 h3 w
    · exact has_in9 r y h2 h3 w
  · rw [hasR_out r x y h]
    exact has_out r x y h w
end Go.Proofs.Ytiamjjonoeaggaa.names
