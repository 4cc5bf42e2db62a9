import Derived.Test.YtiamjjonoeaggaaDoorRefG
namespace Go.Proofs.YtiamjjonoeaggaaDoor
open Go.RowKit

/-- A slice of formulas that lies in memory. -/
def KidSl (w : World) (v : Value) (us : List (List Tok)) : Prop :=
  (v = .slice none 0 0 ∧ us = []) ∨ ∃ g o cap, v = .slice (some ⟨g, o, none⟩) us.length cap ∧ us.length ≤ cap ∧ cap ≤ maxLen ∧ g < w.heap.size ∧ ∀ j (h : j < us.length), ∃ x, w.cell? ⟨g, o + j, none⟩ = some x ∧ FrmV w (.agg #[x]) us[j]
theorem KidSl.below {w w' : World} {v : Value} {us : List (List Tok)} (h : KidSl w v us) (hb : Below w.heap.size w w') : KidSl w' v us := by
  rcases h with h | ⟨g, o, cap, e, h1, h2, h3, h4⟩
  · exact .inl h
  · refine .inr ⟨g, o, cap, e, h1, h2, Nat.lt_of_lt_of_le h3 hb.size, fun j hj => ?_⟩
    obtain ⟨x, hx, hf⟩ := h4 j hj
    exact ⟨x, by rw [bcell hb g _ h3]; exact hx, hf.below hb⟩
theorem info_frm : (Tryd.prog.info? 49).map (fun i => (i.zero, i.size, i.bytes)) = some (some (.agg #[.slice none 0 0]), 1, 24) := by kernel_rfl
def cutV (b o cap : Nat) (c : Nat × Nat) : Value := .slice (some ⟨b, o + c.1 * 2, none⟩) (c.2 - c.1) (cap - c.1)

theorem ref_parts_leaf (v : Value) (u : List Tok) (w : World) (h : FrmV w v u) (hl : leafW (hd u) = true) :
    Calls Tryd.prog 24 #[v] w fun e w' => e = .returned (.slice none 0 0) ∧ Below w.heap.size w w' := by
  have HF := hide h
  obtain ⟨b, o, cap, rfl, _⟩ := frm_open h
  unfold leafW at hl
  have hN := ref_isName (hd u)
  generalize isNameB (hd u) = nm at *
  have hW : ∀ w1, Below w.heap.size w w1 → Calls Tryd.prog 25 #[.agg #[.slice (some ⟨b, o, none⟩) u.length cap]] w1 fun e w' => e = .returned (bs (hd u)) ∧ Below w1.heap.size w1 w' := fun w1 hb => ref_word _ u w1 (HF.out.below hb)
  clear h
  generalize hd u = t at *
  cases hx : (t == [116, 114, 117, 101]) with
  | true =>
    clear hl
    go_enter Tryd.func24, Tryd.ntmps24
    go_wp2_with fail
    refine (hW _ ((Below.refl _ _).alloc (Nat.le_refl _) _)).mono ?_
    rintro e w1 ⟨rfl, hb1⟩
    go_wp2_with fail
    go_ret
    exact ⟨rfl, ((Below.refl _ _).alloc (Nat.le_refl _) _).trans (hb1.mono (by simp))⟩
  | false =>
    rw [hx, Bool.false_or] at hl
    subst hl
    go_enter Tryd.func24, Tryd.ntmps24
    go_wp2_with fail
    refine (hW _ ((Below.refl _ _).alloc (Nat.le_refl _) _)).mono ?_
    rintro e w1 ⟨rfl, hb1⟩
    have q1 := ((Below.refl w.heap.size w).alloc (Nat.le_refl _) _).trans (hb1.mono (by simp))
    have hc1 := bcell hb1 w.heap.size 0 (by simp)
    go_wp2_with fail
    refine (hW _ q1).mono ?_
    rintro e w2 ⟨rfl, hb2⟩
    go_wp2_with fail
    refine (hN _).mono ?_
    rintro e w3 ⟨rfl, hb3⟩
    go_wp2_with fail
    go_ret
    exact ⟨rfl, (q1.trans (hb2.mono q1.size)).trans (hb3.mono (Nat.le_trans q1.size hb2.size))⟩

theorem tok_cases (t : List UInt8) : t = [40] ∨ t = [91] ∨ t = [41] ∨ t = [93] ∨ t = [44] ∨ ((t == [40]) = false ∧ (t == [91]) = false ∧ (t == [41]) = false ∧ (t == [93]) = false ∧ (t == [44]) = false) := by
  by_cases h1 : t = [40]
  · exact .inl h1
  by_cases h2 : t = [91]
  · exact .inr (.inl h2)
  by_cases h3 : t = [41]
  · exact .inr (.inr (.inl h3))
  by_cases h4 : t = [93]
  · exact .inr (.inr (.inr (.inl h4)))
  by_cases h5 : t = [44]
  · exact .inr (.inr (.inr (.inr (.inl h5))))
  exact .inr (.inr (.inr (.inr (.inr ⟨by simp [h1], by simp [h2], by simp [h3], by simp [h4], by simp [h5]⟩))))

def PRel (u : List Tok) (C : List (Nat × Nat)) (b o cap : Nat) (B : Nat) (W0 : World) (vo va vd vi : Value) (wr : World) : Prop :=
  ∃ (i a : Nat) (d : Int) (acc : List (Nat × Nat)), i ≤ u.length ∧ a ≤ i ∧ -(i : Int) ≤ d ∧ d ≤ i ∧ acc.length ≤ i ∧ va = .int .i64 a ∧ vd = .int .i64 d ∧ vi = .int .i64 i ∧ acc ++ cuts (u.drop i) i a d = C ∧ wr.ownsRow B 49 1 vo acc.length (acc.map (cutV b o cap)) ∧ Below B W0 wr
theorem prel_step {u : List Tok} {C : List (Nat × Nat)} {b o cap B : Nat} {W0 wr : World} {vo : Value} {i a : Nat} {d : Int} {acc : List (Nat × Nat)} {t : List UInt8} (hlt : i < u.length) (ha : a ≤ i) (h1 : -(i : Int) ≤ d) (h2 : d ≤ i) (hacc : acc.length ≤ i) (hC : acc ++ cuts (u.drop i) i a d = C)
    (ht : (u[i]).text = t) (hs : (d == 0 && isSep t) = false) (hown : wr.ownsRow B 49 1 vo acc.length (acc.map (cutV b o cap))) (hb : Below B W0 wr) {d' : Int} (hd : depth t d = d') {i' : Int} (hi' : i' = (i : Int) + 1) : PRel u C b o cap B W0 vo (.int .i64 a) (.int .i64 d') (.int .i64 i') wr := by
  refine ⟨i + 1, a, d', acc, hlt, by omega, ?_, ?_, by omega, rfl, rfl, by rw [hi']; simp, ?_, hown, hb⟩
  · rw [← hd]; unfold depth; split <;> split <;> simp <;> omega
  · rw [← hd]; unfold depth; split <;> split <;> simp <;> omega
  · rw [← hC, List.drop_eq_getElem_cons hlt, cuts, ht, hs, if_neg (by simp), hd]
theorem prel_cut {u : List Tok} {C : List (Nat × Nat)} {b o cap B : Nat} {W0 wr : World} {vo : Value} {i a : Nat} {acc : List (Nat × Nat)} {t : List UInt8} (hlt : i < u.length) (hacc : acc.length ≤ i) (hC : acc ++ cuts (u.drop i) i a 0 = C)
    (ht : (u[i]).text = t) (hs : isSep t = true) (hown : wr.ownsRow B 49 1 vo (acc.length + 1) (acc.map (cutV b o cap) ++ [cutV b o cap (a, i)])) (hb : Below B W0 wr) {d' : Int} (hd : depth t 0 = d') {i' a' : Int} (hi' : i' = (i : Int) + 1) (ha' : a' = (i : Int) + 1) : PRel u C b o cap B W0 vo (.int .i64 a') (.int .i64 d') (.int .i64 i') wr := by
  refine ⟨i + 1, i + 1, d', acc ++ [(a, i)], hlt, by omega, ?_, ?_, by simp; omega, by rw [ha']; simp, rfl, by rw [hi']; simp, ?_, ?_, hb⟩
  · rw [← hd]; unfold depth; split <;> split <;> simp <;> omega
  · rw [← hd]; unfold depth; split <;> split <;> simp <;> omega
  · rw [← hC, List.drop_eq_getElem_cons hlt, cuts, ht, hs]
    simp [hd]
  · simpa using hown

theorem parts_end {C acc : List (Nat × Nat)} {w w' : World} {b o cap : Nat} {v : Value} {X : Obj} (h : Hid (acc = C)) (hown : w'.ownsRow (w.heap.size + 1) 49 1 v acc.length (acc.map (cutV b o cap))) (hb : Below (w.heap.size + 1) (w.alloc X) w') :
    ∃ v', Ending.returned v = .returned v' ∧ w'.ownsRow w.heap.size 49 1 v' C.length (C.map (cutV b o cap)) ∧ Below w.heap.size w w' := by
  have := h.out
  subst this
  refine ⟨v, rfl, ?_, ((Below.refl _ _).alloc (Nat.le_refl _) _).trans (hb.mono (by omega))⟩
  obtain ⟨h1, h2⟩ := hown
  refine ⟨h1, ?_⟩
  rcases h2 with h2 | ⟨g, cp, cur, e1, e2, e3⟩
  · exact .inl h2
  · exact .inr ⟨g, cp, cur, e1, by omega, e3⟩

set_option maxRecDepth 100000 in
set_option maxHeartbeats 4000000 in
theorem ref_parts_cuts (b o cap : Nat) (u : List Tok) (w : World) (h : FrmV w (.agg #[.slice (some ⟨b, o, none⟩) u.length cap]) u) (hl : leafW (hd u) = false) (hop : openI u < u.length) :
    Calls Tryd.prog 24 #[.agg #[.slice (some ⟨b, o, none⟩) u.length cap]] w fun e w' => ∃ v, e = .returned v ∧ w'.ownsRow w.heap.size 49 1 v (cuts (u.drop (openI u + 1)) (openI u + 1) (openI u + 1) 0).length ((cuts (u.drop (openI u + 1)) (openI u + 1) (openI u + 1) 0).map (cutV b o cap)) ∧ Below w.heap.size w w' := by
  have HF := hide h
  obtain ⟨b', o', cap', e, h1, h2, h3, h4, h5, h6⟩ := frm_open h
  simp at e
  obtain ⟨⟨rfl, rfl⟩, rfl⟩ := e
  have H6 := hide h6
  clear h6 h
  unfold maxLen at h2
  obtain ⟨i0, hi0, hz0, hz1, hz2⟩ := info_parts info_frm
  unfold leafW at hl
  rw [Bool.or_eq_false_iff] at hl
  obtain ⟨hl1, hl2⟩ := hl
  have hN := calls_to_bool (ref_isName (hd u)) hl2
  have hO : ∀ w1, Below w.heap.size w w1 → Calls Tryd.prog 44 #[.agg #[.slice (some ⟨b, o, none⟩) u.length cap]] w1 fun e w' => e = .returned (.int .i64 (openI u)) ∧ Below w1.heap.size w1 w' := fun w1 hb => ref_open _ u w1 (HF.out.below hb)
  have hW : ∀ w1, Below w.heap.size w w1 → Calls Tryd.prog 25 #[.agg #[.slice (some ⟨b, o, none⟩) u.length cap]] w1 fun e w' => e = .returned (bs (hd u)) ∧ Below w1.heap.size w1 w' := fun w1 hb => ref_word _ u w1 (HF.out.below hb)
  clear hl2
  generalize hCC : cuts (u.drop (openI u + 1)) (openI u + 1) (openI u + 1) 0 = C at *
  have HC := hide hCC
  clear hCC
  generalize openI u = op at *
  generalize hd u = t0 at *
  go_enter Tryd.func24, Tryd.ntmps24
  go_wp2_with fail
  refine (hW _ ((Below.refl _ _).alloc (Nat.le_refl _) _)).mono ?_
  rintro e w1 ⟨rfl, hb1⟩
  have q1 := ((Below.refl w.heap.size w).alloc (Nat.le_refl _) _).trans (hb1.mono (by simp))
  have r1 := hb1.mono (B' := w.heap.size + 1) (by simp)
  have hc1 := bcell r1 w.heap.size 0 (by simp)
  clear hb1
  go_wp2_with fail
  refine (hW _ q1).mono ?_
  rintro e w2 ⟨rfl, hb2⟩
  have hs1 := r1.size
  simp at hs1
  have q2 := q1.trans (hb2.mono q1.size)
  have r2 := r1.trans (hb2.mono (by omega))
  clear hb2 q1 hc1
  go_wp2_with fail
  refine (hN _).mono ?_
  rintro e w3 ⟨rfl, hb3⟩
  have hs2 := r2.size
  simp at hs2
  have q3 := q2.trans (hb3.mono q2.size)
  have r3 := r2.trans (hb3.mono (by omega))
  have hc3 := bcell r3 w.heap.size 0 (by simp)
  clear hb3 q2 r1 r2
  go_wp2_with fail
  refine (hO _ q3).mono ?_
  rintro e w4 ⟨rfl, hb4⟩
  have hs3 := r3.size
  simp at hs3
  have q4 := q3.trans (hb4.mono q3.size)
  have r4 := r3.trans (hb4.mono (by omega))
  clear hb4 q3 r3 hc3
  go_wp2_with fail
  go_loopw [3, 4, 5, 6] (fun vo va vd vi wr => PRel u C b o cap (w.heap.size + 1) (w.alloc (.cells #[.slice (some ⟨b, o, none⟩) u.length cap] 49)) vo va vd vi wr) (fun _ _ _ vi _ => u.length - (intOf vi).toNat)
  case atStart =>
    exact ⟨op + 1, op + 1, 0, [], by omega, Nat.le_refl _, by omega, by omega, by simp, by simp, rfl, by simp, by simpa using HC.out, World.ownsRow_nil _ _ _ _, r4⟩
  case round =>
    obtain ⟨i, a, d, acc, hi, ha, hd1, hd2, hacc, rfl, rfl, rfl, hC, hown, hbel⟩ := hrel
    clear r4 q4
    have HC := hide hC
    clear hC
    have hcb := bcell hbel w.heap.size 0 (by simp)
    by_cases hlt : i < u.length
    · have hct := (bcell hbel b (o + i * 2) (by omega)).trans ((World.cell?_alloc_lt _ _ _ h3).trans (H6.out i hlt).1)
      generalize ht : (u[i]).text = t at *
      have HT := hide ht
      clear ht
      have hsz := hbel.size
      simp at hsz
      by_cases hd0 : d = 0
      · subst hd0
        clear hd1 hd2
        have hd1 : -(i : Int) ≤ 0 := by omega
        have hd2 : (0 : Int) ≤ i := by omega
        rcases tok_cases t with rfl | rfl | rfl | rfl | rfl | ⟨g1, g2, g3, g4, g5⟩
        · go_wp2_with fail
          go_roundw
          case rel => exact prel_step hlt ha hd1 hd2 hacc HC.out HT.out rfl hown hbel (by rfl) rfl
          case measure => simp [intOf]; omega
        · go_wp2_with fail
          go_roundw
          case rel => exact prel_step hlt ha hd1 hd2 hacc HC.out HT.out rfl hown hbel (by rfl) rfl
          case measure => simp [intOf]; omega
        · go_wp2_with (at_builtin; refine wp_app1 rfl (.tmp 44) (.tmp 51) 69 49 rfl Tryd.underlying69 hi0 hz0 hz1 hz2 rfl (by decide) _ (w.heap.size + 1) _ _ _ [cutV b o cap (a, i)] wr rfl hown (by simp [Act.eval]) rfl (by simp [cutV, Value.oneCell']) (by omega) (by decide) hbel (by omega) ?_; intro v' w' hown' hbel' hne)
          go_roundw
          case rel => exact prel_cut hlt hacc HC.out HT.out rfl hown' hbel' (by rfl) rfl rfl
          case measure => simp [intOf]; omega
        · go_wp2_with fail
          go_roundw
          case rel => exact prel_step hlt ha hd1 hd2 hacc HC.out HT.out rfl hown hbel (by rfl) rfl
          case measure => simp [intOf]; omega
        · go_wp2_with (at_builtin; refine wp_app1 rfl (.tmp 44) (.tmp 51) 69 49 rfl Tryd.underlying69 hi0 hz0 hz1 hz2 rfl (by decide) _ (w.heap.size + 1) _ _ _ [cutV b o cap (a, i)] wr rfl hown (by simp [Act.eval]) rfl (by simp [cutV, Value.oneCell']) (by omega) (by decide) hbel (by omega) ?_; intro v' w' hown' hbel' hne)
          go_roundw
          case rel => exact prel_cut hlt hacc HC.out HT.out rfl hown' hbel' (by rfl) rfl rfl
          case measure => simp [intOf]; omega
        · go_wp2_with fail
          go_roundw
          case rel => exact prel_step hlt ha hd1 hd2 hacc HC.out HT.out (by simp [isSep, g3, g5]) hown hbel (by simp [depth, isOpn, isCls, g1, g2, g3, g4]) rfl
          case measure => simp [intOf]; omega
      · have hdz : (d == 0) = false := by simp [hd0]
        clear hd0
        rcases tok_cases t with rfl | rfl | rfl | rfl | rfl | ⟨g1, g2, g3, g4, g5⟩
        · go_wp2_with fail
          go_roundw
          case rel => exact prel_step hlt ha hd1 hd2 hacc HC.out HT.out (by rw [hdz]; rfl) hown hbel (by simp [depth, isOpn, isCls]) rfl
          case measure => simp [intOf]; omega
        · go_wp2_with fail
          go_roundw
          case rel => exact prel_step hlt ha hd1 hd2 hacc HC.out HT.out (by rw [hdz]; rfl) hown hbel (by simp [depth, isOpn, isCls]) rfl
          case measure => simp [intOf]; omega
        · go_wp2_with fail
          go_roundw
          case rel => exact prel_step hlt ha hd1 hd2 hacc HC.out HT.out (by rw [hdz]; rfl) hown hbel (by simp [depth, isOpn, isCls]) rfl
          case measure => simp [intOf]; omega
        · go_wp2_with fail
          go_roundw
          case rel => exact prel_step hlt ha hd1 hd2 hacc HC.out HT.out (by rw [hdz]; rfl) hown hbel (by simp [depth, isOpn, isCls]) rfl
          case measure => simp [intOf]; omega
        · go_wp2_with fail
          go_roundw
          case rel => exact prel_step hlt ha hd1 hd2 hacc HC.out HT.out (by rw [hdz]; rfl) hown hbel (by simp [depth, isOpn, isCls]) rfl
          case measure => simp [intOf]; omega
        · go_wp2_with fail
          go_roundw
          case rel => exact prel_step hlt ha hd1 hd2 hacc HC.out HT.out (by rw [hdz]; rfl) hown hbel (by simp [depth, isOpn, isCls, g1, g2, g3, g4]) rfl
          case measure => simp [intOf]; omega
    · have HCC : Hid (acc = C) := by
        unfold Hid
        have := HC.out
        rw [List.drop_of_length_le (by omega)] at this
        simpa [cuts] using this
      clear HC
      go_wp2_with fail
      go_ret
      exact parts_end HCC hown hbel
end Go.Proofs.YtiamjjonoeaggaaDoor
