import Derived.Test.YtiamjjonoeaggaaDoorRulB
namespace Go.Proofs.YtiamjjonoeaggaaDoor
open Go.RowKit

set_option maxRecDepth 100000 in
set_option maxHeartbeats 4000000 in
theorem rul_isFreeWrongly (nd : PNode) (V : Value) (hV : V = nodeV nd) (I : List PInfo) (base bi ci : Nat) (w : World) (h : w.ownsRow base 34 3 (.slice (some ⟨bi, 0, none⟩) I.length ci) I.length (inCells I)) (hI : I.length ≤ 1000)
    (hf : -100000 ≤ nd.fst ∧ nd.fst ≤ 100000) (hsn : -100000 ≤ nd.snd ∧ nd.snd ≤ 100000) (a b : PInfo) (ha : infoAtP I nd.fst = a) (hb : infoAtP I nd.snd = b) :
    Calls Tryd.prog 34 #[V, .slice (some ⟨bi, 0, none⟩) I.length ci] w fun e w' => e = .returned (.bool (wrongP nd a b)) ∧ Below w.heap.size w w' := by
  have HV : Hid (V = .agg (nodeCs nd).toArray) := hide hV
  clear hV
  generalize hR : wrongP nd a b = r
  have HT := hide hR
  clear hR
  have t1 := fun w h => rul_infoAt I nd.fst base bi ci w h hI hf
  have t2 := fun w h => rul_infoAt I nd.snd base bi ci w h hI hsn
  rw [ha] at t1
  rw [hb] at t2
  have H := hide h
  clear h ha hb
  have hlt : bi < w.heap.size := (H.out.lt bi rfl).2
  go_enter Tryd.func34, Tryd.ntmps34
  go_wp2_with (refine wp_box_to rfl 95 (.tmp 0) rfl V _ rfl HV.out ?_; intro w1 hB hb1 hs1; have HS1 := hide hs1; have l01 : w.heap.size < w1.heap.size := (by omega); clear hs1; have N1 := NodeAt.ofB hB; have c20 := N1.cells 20 (by omega); simp only [nodeCs, List.getElem?_cons_zero, List.getElem?_cons_succ] at c20)
  have H1 := hide N1
  clear hB N1
  refine (t1 _ (ownsRow_below H.out hb1)).mono ?_
  rintro e w2 ⟨rfl, hb2⟩
  have hs2 := hb2.size
  have l02 : w.heap.size < w2.heap.size := by omega
  have N2 := H1.out.only (bl := []) (.of_below hb2) (by simp)
  have c21 := N2.cells 21 (by omega)
  simp only [nodeCs, List.getElem?_cons_zero, List.getElem?_cons_succ] at c21
  have H2 := hide N2
  have B2 : Below w.heap.size w w2 := hb1.trans (hb2.mono (by have := hb1.size; omega))
  clear N2 c20 t1 hb2
  obtain ⟨ax, ay, ar⟩ := a
  obtain ⟨bx, bY, br⟩ := b
  go_wp2_with fail
  refine (t2 _ (ownsRow_below H.out (B2.alloc B2.size _))).mono ?_
  rintro e w3 ⟨rfl, hb3⟩
  have hs3 := hb3.size
  simp at hs3
  have N3 := H2.out.only (bl := []) ((OnlyB.nw [] _ _).trans (.of_below hb3)) (by simp)
  have c0 := N3.cells 0 (by omega)
  have c15 := N3.cells 15 (by omega)
  simp only [nodeCs, List.getElem?_cons_zero, List.getElem?_cons_succ] at c0 c15
  have B3 : Below w.heap.size w w3 := (B2.alloc B2.size _).trans (hb3.mono (by have := B2.size; simp; omega))
  have hg3 : w3.heap[w2.heap.size]? = some (.cells #[.bool ax, .bool ay, .int .i64 ar] 34 (0, 0)) := by rw [hb3.block w2.heap.size (by simp)]; exact heap_alloc_new _ _
  have g0 := cell_of_row _ _ 0 _ _ _ hg3
  have g1 := cell_of_row _ _ 1 _ _ _ hg3
  have g2 := cell_of_row _ _ 2 _ _ _ hg3
  simp only [List.getElem?_toArray, List.getElem?_cons_zero, List.getElem?_cons_succ] at g0 g1 g2
  have l2 : w2.heap.size < w3.heap.size := by omega
  have l3 : w.heap.size < w3.heap.size := by omega
  have HB3 := hide B3
  clear hg3 N3 c21 t2 hb3 H2 hb1 B2 H1 HS1 hs2 hs3 l01 l02 B3
  have cva := rul_isCovered ⟨ax, ay, ar⟩ ⟨bx, bY, br⟩
  have cvb := rul_isCovered ⟨bx, bY, br⟩ ⟨ax, ay, ar⟩
  have HW : Hid (wrongP nd ⟨ax, ay, ar⟩ ⟨bx, bY, br⟩ = if nd.kind = 8 then (ax != bx) || (ay != bY) else if nd.kind = 7 then !covP ⟨bx, bY, br⟩ ⟨ax, ay, ar⟩ else if nd.kind = 14 ∨ nd.kind = 15 ∨ nd.kind = 16 ∨ nd.kind = 17 then !covP ⟨ax, ay, ar⟩ ⟨bx, bY, br⟩ else if nd.kind = 9 then !(nd.var == 3 && ax) && !(nd.var == 4 && ay) else false) := hide rfl
  generalize nd.kind = kd at *
  generalize nd.var = vr at *
  generalize covP ⟨bx, bY, br⟩ ⟨ax, ay, ar⟩ = cb at *
  generalize covP ⟨ax, ay, ar⟩ ⟨bx, bY, br⟩ = ca at *
  have hB4 := fun o => hide (HB3.out.alloc HB3.out.size o)
  by_cases k8 : kd = 8
  · subst k8
    have er : r = ((ax != bx) || (ay != bY)) := by rw [← HT.out, HW.out]; rfl
    subst er
    cases ax <;> cases bx
    all_goals
      go_wp2_with fail
      go_ret
      exact ⟨by cases ay <;> cases bY <;> rfl, (hB4 _).out⟩
  · by_cases k7 : kd = 7
    · subst k7
      have er : r = !cb := by rw [← HT.out, HW.out]; rfl
      subst er
      go_wp2_with fail
      refine (cvb _).mono ?_
      rintro e w4 ⟨rfl, b4⟩
      go_wp2_with fail
      go_ret
      exact ⟨by simp, (hB4 _).out.trans (b4.mono (by have := HB3.out.size; simp; omega))⟩
    · by_cases k14 : kd = 14 ∨ kd = 15 ∨ kd = 16 ∨ kd = 17
      · have er : r = !ca := by rw [← HT.out, HW.out, if_neg k8, if_neg k7, if_pos k14]
        subst er
        rcases k14 with rfl | rfl | rfl | rfl
        all_goals
          go_wp2_with fail
          refine (cva _).mono ?_
          rintro e w4 ⟨rfl, b4⟩
          go_wp2_with fail
          go_ret
          exact ⟨by simp, (hB4 _).out.trans (b4.mono (by have := HB3.out.size; simp; omega))⟩
      · by_cases k9 : kd = 9
        · subst k9
          have er : r = (!(vr == 3 && ax) && !(vr == 4 && ay)) := by rw [← HT.out, HW.out]; rfl
          by_cases v3 : vr = 3
          · subst v3
            cases ax with
            | true =>
              have er' : r = false := by rw [er]; rfl
              clear er
              subst er'
              go_wp2_with fail
              go_ret
              exact ⟨by simp, (hB4 _).out⟩
            | false =>
              have er' : r = true := by rw [er]; rfl
              clear er
              subst er'
              go_wp2_with fail
              go_ret
              exact ⟨by simp, (hB4 _).out⟩
          · by_cases v4 : vr = 4
            · subst v4
              have er' : r = !ay := by rw [er]; rfl
              clear er
              subst er'
              go_wp2_with fail
              go_ret
              exact ⟨by simp, (hB4 _).out⟩
            · have er' : r = true := by rw [er]; simp [v3, v4]
              clear er
              subst er'
              go_wp2_with fail
              go_ret
              exact ⟨by simp, (hB4 _).out⟩
        · have er : r = false := by rw [← HT.out, HW.out, if_neg k8, if_neg k7, if_neg k14, if_neg k9]
          subst er
          have n14 : ¬ kd = 14 := by omega
          have n15 : ¬ kd = 15 := by omega
          have n16 : ¬ kd = 16 := by omega
          have n17 : ¬ kd = 17 := by omega
          go_wp2_with fail
          go_ret
          exact ⟨by simp, (hB4 _).out⟩
end Go.Proofs.YtiamjjonoeaggaaDoor
