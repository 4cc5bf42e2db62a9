import Derived.Test.YtiamjjonoeaggaaDoorRefN
namespace Go.Proofs.YtiamjjonoeaggaaDoor
open Go.RowKit

/-- No operator that looks ahead is without an end, where no fault is found. -/
theorem open_ahead : ∀ F : Form, (∀ k ∈ subsF F, openBad k = false) → aheadOk F = true := by
  intro F
  induction F with
  | nil => intro _; rfl
  | node p sp y l r ihl ihr =>
    intro h
    rw [aheadOk]
    have h0 := h (.node p sp y l r) (by simp [subsF])
    have h1 := ihl (fun k hk => h k (by simp [subsF, hk]))
    have h2 := ihr (fun k hk => h k (by simp [subsF, hk]))
    have h0' : (aheadB y.word && (y.hi == [42])) = false := h0
    rw [h0', h1, h2]
    rfl
theorem fault_ahead {F : Form} (h : (faultF F).1 = 0) : aheadOk F = true := by
  refine open_ahead F (fun k hk => ?_)
  unfold faultF at h
  cases h1 : (subsF F).find? rangeBad with
  | some k => rw [h1] at h; simp at h
  | none =>
    rw [h1] at h
    simp only [] at h
    cases h2 : (subsF F).find? openBad with
    | some k => rw [h2] at h; simp at h
    | none =>
      rw [List.find?_eq_none] at h2
      simpa using h2 k hk
/-- What Check says of a text: are x and y free, the reach, the error, its place. -/
def infoX (s : List UInt8) : Bool := decide ((checkR s).1 = 0) && freeB (formOf s) [120]
def infoY (s : List UInt8) : Bool := decide ((checkR s).1 = 0) && freeB (formOf s) [121]
def infoR (s : List UInt8) : Int := if (checkR s).1 = 0 then reachF (formOf s) else 0
theorem check_read {s : List UInt8} (h : (checkR s).1 = 0) : (readR s).1 = 0 ∧ aheadOk (formOf s) = true := by
  unfold checkR at h
  by_cases hr : (readR s).1 = 0
  · rw [if_neg (by simp [hr])] at h
    exact ⟨hr, fault_ahead h⟩
  · rw [if_pos hr] at h
    exact absurd h hr

theorem fault_place {F : Form} (h : (faultF F).1 = 0) : (faultF F).2 = 0 := by
  unfold faultF at h ⊢
  cases h1 : (subsF F).find? rangeBad with
  | some k => rw [h1] at h; simp at h
  | none =>
    rw [h1] at h
    simp only [] at h ⊢
    cases h2 : (subsF F).find? openBad with
    | some k => rw [h2] at h; simp at h
    | none =>
      rw [h2] at h
      simp only [] at h ⊢
      cases h3 : (subsF F).find? wrongB with
      | some k => rw [h3] at h; simp at h
      | none => rfl
theorem check_place {s : List UInt8} (h : (checkR s).1 = 0) : (checkR s).2 = 0 := by
  unfold checkR at h ⊢
  by_cases hr : (readR s).1 = 0
  · rw [if_neg (by simp [hr])] at h ⊢
    exact fault_place h
  · rw [if_pos hr] at h
    exact absurd h hr
set_option maxRecDepth 100000 in
set_option maxHeartbeats 4000000 in
theorem ref_Info (s : List UInt8) (hs64 : s.length ≤ maxLen) (w : World) :
    Calls Tryd.prog 8 #[bs s] w fun e w' => e = .returned (.tuple #[.agg #[.bool (infoX s), .bool (infoY s), .int .i64 (infoR s)], .int .i64 (checkR s).1, .int .i64 (checkR s).2]) ∧ Below w.heap.size w w' := by
  have hC := ref_Check s hs64
  have HCR := hide (@check_read s)
  have HP2 : Hid ((checkR s).1 = 0 → (checkR s).2 = 0) := fun h => check_place h
  unfold infoX infoY infoR
  by_cases hc : (checkR s).1 = 0
  · obtain ⟨hr, ha⟩ := HCR.out hc
    have hR := read_form hr
    have hG : Good (lexR s).1 := lex_good s
    have hz := HP2.out hc
    rw [if_pos hc, decide_eq_true hc, Bool.true_and, Bool.true_and]
    generalize checkR s = cr at *
    obtain ⟨ce, cp⟩ := cr
    simp only [] at hc hC hz
    subst hc hz
    generalize (lexR s).1 = toks at *
    generalize formOf s = F at *
    have HX := hide (fun v w h => ref_free F toks v w [120] hR h rfl)
    have HY := hide (fun v w h => ref_free F toks v w [121] hR h rfl)
    have HRc := hide (fun v w h => ref_Reach F toks v w hR hG ha h)
    clear hR hG ha hr HCR HP2
    generalize freeB F [120] = fx at *
    generalize freeB F [121] = fy at *
    generalize reachF F = fr at *
    go_enter Tryd.func8, Tryd.ntmps8
    go_wp2_with fail
    refine (hC _).mono ?_
    rintro e w1 ⟨va, vn, vcc, rfl, hfr, hb1⟩
    have hfr : FrmV w1 (.agg #[.slice va vn vcc]) toks := hfr trivial
    have r1 := hb1.mono (B' := w.heap.size + 1) (by simp)
    have q1 := ((Below.refl w.heap.size w).alloc (Nat.le_refl _) _).trans (hb1.mono (by simp))
    have hs1 := r1.size
    simp at hs1
    obtain ⟨vb, vo, vc, hve, _⟩ := frm_open hfr
    simp at hve
    obtain ⟨rfl, rfl, rfl⟩ := hve
    have HF1 := hide hfr
    clear hfr hb1 hC
    go_wp2_with fail
    refine (HX.out _ _ (HF1.out.below ((Below.refl _ _).alloc (Nat.le_refl _) _))).mono ?_
    rintro e w2 ⟨rfl, hb2⟩
    have t2 := hb2.mono (B' := w1.heap.size + 1) (by simp)
    have s2 := t2.size
    simp at s2
    have p2 := ((Below.refl w1.heap.size w1).alloc (Nat.le_refl _) _).trans (t2.mono (by omega))
    have hc2 := bcell t2 w1.heap.size 0 (by omega)
    clear hb2
    go_wp2_with fail
    refine (HY.out _ _ (HF1.out.below p2)).mono ?_
    rintro e w3 ⟨rfl, hb3⟩
    have t3 := t2.trans (hb3.mono (by omega))
    have s3 := t3.size
    simp at s3
    have p3 := p2.trans (hb3.mono (by omega))
    have hc3 := bcell t3 w1.heap.size 0 (by omega)
    clear hb3 hc2 t2 p2
    go_wp2_with fail
    refine (HRc.out _ _ (HF1.out.below p3)).mono ?_
    rintro e w4 ⟨rfl, hb4⟩
    have p4 := p3.trans (hb4.mono (by omega))
    have g4 := r1.trans (p4.mono hs1)
    have q4 := q1.trans (p4.mono q1.size)
    have c0 := bcell g4 w.heap.size 0 (by omega)
    have c1 := bcell g4 w.heap.size 1 (by omega)
    have c2 := bcell g4 w.heap.size 2 (by omega)
    have z0 := g4.frozen (p := ⟨w.heap.size, 0, none⟩) (by simp)
    have z1 := g4.frozen (p := ⟨w.heap.size, 1, none⟩) (by simp)
    have z2 := g4.frozen (p := ⟨w.heap.size, 2, none⟩) (by simp)
    clear hb4 hc3 t3 p3
    go_wp2_with fail
    exact bodyPost_ret (v := .tuple #[.agg #[.bool fx, .bool fy, .int .i64 fr], .int .i64 0, .int .i64 0]) (by simp [results, Tryd.results8, go_sem, c0, c1, c2]) rfl ⟨rfl, ((q4.setCell (by simp) _).setCell (by simp) _).setCell (by simp) _⟩
  · have hne : ((checkR s).1 != 0) = true := by simp [hc]
    rw [if_neg hc, decide_eq_false hc, Bool.false_and, Bool.false_and]
    generalize checkR s = cr at *
    obtain ⟨ce, cp⟩ := cr
    simp only [] at hc hC hne
    clear HCR HP2 hc
    go_enter Tryd.func8, Tryd.ntmps8
    go_wp2_with fail
    refine (hC _).mono ?_
    rintro e w1 ⟨va, vn, vcc, rfl, _, hb1⟩
    have r1 := hb1.mono (B' := w.heap.size + 1) (by simp)
    have q1 := ((Below.refl w.heap.size w).alloc (Nat.le_refl _) _).trans (hb1.mono (by simp))
    have hs1 := r1.size
    simp at hs1
    have c0 := fun o => bcell (r1.alloc (by omega) o) w.heap.size 0 (by omega)
    have c1 := fun o => bcell (r1.alloc (by omega) o) w.heap.size 1 (by omega)
    have c2 := fun o => bcell (r1.alloc (by omega) o) w.heap.size 2 (by omega)
    have z0 := fun o => (r1.alloc (by omega) o).frozen (p := ⟨w.heap.size, 0, none⟩) (by simp)
    have z1 := fun o => (r1.alloc (by omega) o).frozen (p := ⟨w.heap.size, 1, none⟩) (by simp)
    have z2 := fun o => (r1.alloc (by omega) o).frozen (p := ⟨w.heap.size, 2, none⟩) (by simp)
    clear hb1 hC
    go_wp2_with fail
    exact bodyPost_ret (v := .tuple #[.agg #[.bool false, .bool false, .int .i64 0], .int .i64 ce, .int .i64 cp]) (by simp [results, Tryd.results8, go_sem, c0, c1, c2]) rfl ⟨rfl, (((q1.alloc q1.size _).setCell (by simp) _).setCell (by simp) _).setCell (by simp) _⟩
end Go.Proofs.YtiamjjonoeaggaaDoor
