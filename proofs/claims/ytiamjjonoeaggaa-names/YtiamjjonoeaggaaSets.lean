import Derived.Test.YtiamjjonoeaggaaRel
namespace Go.Proofs.Ytiamjjonoeaggaa.names
open Go.ChangeShapes Go.WideShapes Go.ChangeAt Go.RowKit
theorem hide {p : Prop} (h : p) : Hid p := h
def z : Nat → Int := fun _ => 0
theorem bcell {W w1 : World} {n : Nat} (hb : Below n W w1) : (∀ b o, b < n → w1.cell? ⟨b, o, none⟩ = W.cell? ⟨b, o, none⟩) :=
  fun b o h => hb.cell (p := ⟨b, o, none⟩) h
theorem with_z (x y : Int) (w : World) :
    Calls Try.prog 5 #[.agg #[.int .u16 0, .int .u16 0, .int .u16 0, .int .u16 0, .int .u16 0, .int .u16 0, .int .u16 0, .int .u16 0, .int .u16 0, .int .u16 0], .int .i64 x, .int .i64 y] w fun e w' => e = .returned (relV (withR z x y)) ∧ Below w.heap.size w w' := with_any z x y w
theorem has_z (x y : Int) (w : World) :
    Calls Try.prog 6 #[.agg #[.int .u16 0, .int .u16 0, .int .u16 0, .int .u16 0, .int .u16 0, .int .u16 0, .int .u16 0, .int .u16 0, .int .u16 0, .int .u16 0], .int .i64 x, .int .i64 y] w fun e w' => e = .returned (.bool (hasR z x y)) ∧ Below w.heap.size w w' := has_any z x y w
theorem has_b (r : Nat → Int) (x y : Int) (b : Bool) (h : hasR r x y = b) (w : World) : Calls Try.prog 6 #[relV r, .int .i64 x, .int .i64 y] w fun e w' => e = .returned (.bool b) ∧ Below w.heap.size w w' := h ▸ has_any r x y w
theorem has_zb (x y : Int) (b : Bool) (h : hasR z x y = b) (w : World) : Calls Try.prog 6 #[.agg #[.int .u16 0, .int .u16 0, .int .u16 0, .int .u16 0, .int .u16 0, .int .u16 0, .int .u16 0, .int .u16 0, .int .u16 0, .int .u16 0], .int .i64 x, .int .i64 y] w fun e w' => e = .returned (.bool b) ∧ Below w.heap.size w w' := h ▸ has_z x y w
def eqR (a b : Nat → Int) : Bool := (List.range 10).all fun i => a i == b i
theorem eqItems_int (d : Nat) (e : TypeId) (k : IntKind) (xs ys : Array Value) (a b : Nat → Int) (he : Try.prog.underlying e = some (.int k)) (hc : Try.prog.cellsOf e = 1) (is : List Nat) (w : World)
   (hx : ∀ i ∈ is, (part e xs (i * 1)).run Try.prog w = .ok (.int k (a i)) w) (hy : ∀ i ∈ is, (part e ys (i * 1)).run Try.prog w = .ok (.int k (b i)) w) :
   (Op.eqItems (d + 1) e (Try.prog.cellsOf e) xs ys is).run Try.prog w = .ok (is.all fun i => a i == b i) w := by
  rw [hc]
  induction is with
  | nil => simp [Op.eqItems]
  | cons j is ih =>
    have h1 := hx j (by simp)
    have h2 := hy j (by simp)
    simp only [Op.eqItems, Sem.run_bind, h1, h2, Result.andThen_ok, run_equalIn_int w d e k k (a j) (b j) he]
    have ih' := ih (fun i hi => hx i (by simp [hi])) (fun i hi => hy i (by simp [hi]))
    cases hab : (a j == b j)
    · simp [hab]
    · simp [hab, ih']
theorem eq26 (a b : Nat → Int) (w : World) : (Op.equalIn 10000 26 (relV a) (relV b)).run Try.prog w = .ok (eqR a b) w := by
  have h22 := Try.underlying22
  have hI : (Try.prog.info? 22).isSome = true := by kernel_rfl
  obtain ⟨i, hi⟩ := Option.isSome_iff_exists.1 hI
  rw [show (10000 : Nat) = 9999 + 1 from rfl, run_equalIn_array w 9999 _ _ Try.underlying26 hi]
  refine eqItems_int 9998 22 .u16 _ _ a b h22 (by kernel_rfl) _ w ?_ ?_
  · intro j hj
    simp at hj
    have a3 := Try.isAgg22
    have z3 := Try.sizeOf22
    rcases (by omega : j = 0 ∨ j = 1 ∨ j = 2 ∨ j = 3 ∨ j = 4 ∨ j = 5 ∨ j = 6 ∨ j = 7 ∨ j = 8 ∨ j = 9) with rfl | rfl | rfl | rfl | rfl | rfl | rfl | rfl | rfl | rfl <;> go_simp
  · intro j hj
    simp at hj
    have a3 := Try.isAgg22
    have z3 := Try.sizeOf22
    rcases (by omega : j = 0 ∨ j = 1 ∨ j = 2 ∨ j = 3 ∨ j = 4 ∨ j = 5 ∨ j = 6 ∨ j = 7 ∨ j = 8 ∨ j = 9) with rfl | rfl | rfl | rfl | rfl | rfl | rfl | rfl | rfl | rfl <;> go_simp

theorem eq26z (k l : Int) (b : Bool) (h : eqR (withR z k l) z = b) (w : World) : (Op.equalIn 10000 26 (.agg #[.int .u16 (withR z k l 0), .int .u16 (withR z k l 1), .int .u16 (withR z k l 2), .int .u16 (withR z k l 3), .int .u16 (withR z k l 4), .int .u16 (withR z k l 5), .int .u16 (withR z k l 6), .int .u16 (withR z k l 7), .int .u16 (withR z k l 8), .int .u16 (withR z k l 9)]) (.agg #[.int .u16 0, .int .u16 0, .int .u16 0, .int .u16 0, .int .u16 0, .int .u16 0, .int .u16 0, .int .u16 0, .int .u16 0, .int .u16 0])).run Try.prog w = .ok b w := h ▸ eq26 (withR z k l) z w
def fine (k l : Int) : Bool := (hasR (withR z k l) k l == decide (inR k l)) && (hasR z k l == false) && (hasR (withR z k l) l k == (decide (inR k l) && decide (k = l))) && (eqR (withR z k l) z == !decide (inR k l))
theorem fine_all : ∀ i : Fin 12, ∀ j : Fin 12, fine ((i.val : Int) - 1) ((j.val : Int) - 1) = true := by decide +kernel
theorem fine_at (k l : Int) (hk : -1 ≤ k) (hk' : k ≤ 10) (hl : -1 ≤ l) (hl' : l ≤ 10) : fine k l = true := by
  have := fine_all ⟨(k + 1).toNat, by omega⟩ ⟨(l + 1).toNat, by omega⟩
  have e1 : (((k + 1).toNat : Nat) : Int) - 1 = k := by omega
  have e2 : (((l + 1).toNat : Nat) : Int) - 1 = l := by omega
  simp only [e1, e2] at this
  exact this
set_option maxHeartbeats 400000 in
theorem sets_any (w : World) :
    Calls Try.prog 4 #[] w fun e w' => e = .returned (.bool true) ∧ Below w.heap.size w w' := by
  go_enter Try.func4, Try.ntmps4
  go_wp2_with fail
  go_loopw [2] (fun x w' => ∃ k : Int, -1 ≤ k ∧ k ≤ 11 ∧ x = .int .i64 k ∧ Below (w.heap.size+1) (w.alloc (.cells #[.int .u16 0, .int .u16 0, .int .u16 0, .int .u16 0, .int .u16 0, .int .u16 0, .int .u16 0, .int .u16 0, .int .u16 0, .int .u16 0] 26)) w') (fun x _ => (11 - intOf x).toNat)
  case atStart => exact ⟨-1, by omega, by omega, rfl, Below.refl _ _⟩
  case round =>
    obtain ⟨k, hk, hk', rfl, hb⟩ := hrel
    by_cases hlt : k ≤ 10
    · go_wp2_with fail
      go_loopw [3] (fun y w' => ∃ l : Int, -1 ≤ l ∧ l ≤ 11 ∧ y = .int .i64 l ∧ Below (w.heap.size+1) (w.alloc (.cells #[.int .u16 0, .int .u16 0, .int .u16 0, .int .u16 0, .int .u16 0, .int .u16 0, .int .u16 0, .int .u16 0, .int .u16 0, .int .u16 0] 26)) w') (fun y _ => (11 - intOf y).toNat)
      case atStart => exact ⟨-1, by omega, by omega, rfl, hb⟩
      case round =>
        clear hb
        obtain ⟨l, hl, hl', rfl, hb⟩ := hrel
        by_cases hlt2 : l ≤ 10
        · have hc := bcell hb
          have hz : w.heap.size < wr.heap.size := by have := hb.size; simp at this; omega
          have hf := fine_at k l hk hlt hl hlt2
          simp only [fine, Bool.and_eq_true, beq_iff_eq] at hf
          obtain ⟨⟨⟨h1, h2⟩, h3⟩, h4⟩ := hf
          have H1 := hide h1
          have H2 := hide h2
          have H3 := hide h3
          have H4 := hide h4
          clear h1 h2 h3 h4
          go_wp2_with fail
          refine (with_z k l _).mono ?_
          rintro e w1 ⟨rfl, hb1⟩
          have hc1 := bcell hb1
          have hB1 := hb.trans (hb1.mono (by omega))
          have hz1 : w.heap.size < w1.heap.size := by have := hb1.size; omega
          clear hb1
          by_cases hin : 0 ≤ k ∧ k < 10 ∧ 0 ≤ l ∧ l < 10
          · have hd : decide (inR k l) = true := decide_eq_true hin
            have F1 := has_b (withR z k l) k l true (H1.out.trans hd)
            have F2 := has_zb k l false H2.out
            have F3 := has_b (withR z k l) l k (decide (k = l)) (H3.out.trans (by rw [hd, Bool.true_and]))
            have F4 := eq26z k l false (H4.out.trans (by rw [hd]; rfl))
            have F5 : (decide (k = l)) = (k == l) := by by_cases h : k = l <;> simp [h]
            rw [F5] at F3
            clear H1 H2 H3 H4 hd F5
            obtain ⟨g1, g2, g3, g4⟩ := hin
            go_wp2_with fail
            all_goals
              refine (F1 _).mono ?_
              rintro e w2 ⟨rfl, hw2⟩
              have Cw2 := hw2.mono (B' := w1.heap.size + 1) (by simp)
              have Bw2 := (hB1.alloc (by have := hB1.size; simp at this; omega) _).trans (Cw2.mono (by omega))
              clear hw2
              have cw2 := fun o => bcell Cw2 w1.heap.size o (Nat.lt_succ_self _)
              have bw2 := fun o => bcell Bw2 w.heap.size o (Nat.lt_succ_self _)
              go_wp2_with fail
              refine (F2 _).mono ?_
              rintro e w3 ⟨rfl, hw3⟩
              have Cw3 := Cw2.trans (hw3.mono (by have := Cw2.size; simp at this; omega))
              have Bw3 := Bw2.trans (hw3.mono (by have := Bw2.size; simp at this; omega))
              clear hw3
              have cw3 := fun o => bcell Cw3 w1.heap.size o (Nat.lt_succ_self _)
              have bw3 := fun o => bcell Bw3 w.heap.size o (Nat.lt_succ_self _)
              go_wp2_with fail
              refine (F3 _).mono ?_
              rintro e w4 ⟨rfl, hw4⟩
              have Cw4 := Cw3.trans (hw4.mono (by have := Cw3.size; simp at this; omega))
              have Bw4 := Bw3.trans (hw4.mono (by have := Bw3.size; simp at this; omega))
              clear hw4
              have cw4 := fun o => bcell Cw4 w1.heap.size o (Nat.lt_succ_self _)
              have bw4 := fun o => bcell Bw4 w.heap.size o (Nat.lt_succ_self _)
              go_wp2_with fail
              go_roundw
              case rel => exact ⟨l + 1, by omega, by omega, rfl, Bw4⟩
              case measure => simp [intOf]; omega
          · have hd : decide (inR k l) = false := decide_eq_false hin
            have F1 := has_b (withR z k l) k l false (H1.out.trans hd)
            have F2 := has_zb k l false H2.out
            have F3 := has_b (withR z k l) l k false (H3.out.trans (by rw [hd, Bool.false_and]))
            have F4 := eq26z k l true (H4.out.trans (by rw [hd]; rfl))
            clear H1 H2 H3 H4 hd
            go_wp2_with fail
            all_goals
              refine (F1 _).mono ?_
              rintro e w2 ⟨rfl, hw2⟩
              have Cw2 := hw2.mono (B' := w1.heap.size + 1) (by simp)
              have Bw2 := (hB1.alloc (by have := hB1.size; simp at this; omega) _).trans (Cw2.mono (by omega))
              clear hw2
              have cw2 := fun o => bcell Cw2 w1.heap.size o (Nat.lt_succ_self _)
              have bw2 := fun o => bcell Bw2 w.heap.size o (Nat.lt_succ_self _)
              go_wp2_with fail
              refine (F2 _).mono ?_
              rintro e w3 ⟨rfl, hw3⟩
              have Cw3 := Cw2.trans (hw3.mono (by have := Cw2.size; simp at this; omega))
              have Bw3 := Bw2.trans (hw3.mono (by have := Bw2.size; simp at this; omega))
              clear hw3
              have cw3 := fun o => bcell Cw3 w1.heap.size o (Nat.lt_succ_self _)
              have bw3 := fun o => bcell Bw3 w.heap.size o (Nat.lt_succ_self _)
              go_wp2_with fail
              refine (F3 _).mono ?_
              rintro e w4 ⟨rfl, hw4⟩
              have Cw4 := Cw3.trans (hw4.mono (by have := Cw3.size; simp at this; omega))
              have Bw4 := Bw3.trans (hw4.mono (by have := Bw3.size; simp at this; omega))
              clear hw4
              have cw4 := fun o => bcell Cw4 w1.heap.size o (Nat.lt_succ_self _)
              have bw4 := fun o => bcell Bw4 w.heap.size o (Nat.lt_succ_self _)
              go_wp2_with fail
              go_roundw
              case rel => exact ⟨l + 1, by omega, by omega, rfl, Bw4⟩
              case measure => simp [intOf]; omega
        · go_wp2_with fail
          go_roundw
          case rel => exact ⟨k + 1, by omega, by omega, rfl, hb⟩
          case measure => simp [intOf]; omega
    · go_wp2_with fail
      go_ret
      exact ⟨rfl, ((Below.refl _ _).alloc (Nat.le_refl _) _).trans (hb.mono (by simp))⟩
end Go.Proofs.Ytiamjjonoeaggaa.names
