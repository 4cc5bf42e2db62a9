import Derived.Test.YtiamjjonoeaggaaDoorRulB
namespace Go.Proofs.YtiamjjonoeaggaaDoor
open Go.RowKit

set_option maxRecDepth 100000 in
set_option maxHeartbeats 4000000 in
theorem rul_infoOf9 (nd : PNode) (V : Value) (hV : V = nodeV nd) (I : List PInfo) (base bi ci : Nat) (w : World) (h : w.ownsRow base 34 3 (.slice (some ⟨bi, 0, none⟩) I.length ci) I.length (inCells I)) (hI : I.length ≤ 1000)
    (hf : -100000 ≤ nd.fst ∧ nd.fst ≤ 100000) (hsn : -100000 ≤ nd.snd ∧ nd.snd ≤ 100000) (_hc : 0 ≤ nd.cnt ∧ nd.cnt ≤ 2) (_hh : 0 ≤ nd.shi ∧ nd.shi ≤ 100000) (a b : PInfo) (ha : infoAtP I nd.fst = a) (hb : infoAtP I nd.snd = b) (hra : -1 ≤ a.reach ∧ a.reach ≤ 1000000) (hrb : -1 ≤ b.reach ∧ b.reach ≤ 1000000)
    (k9 : nd.kind = 9) (h9 : b = noInfo) :
    Calls Tryd.prog 55 #[V, .slice (some ⟨bi, 0, none⟩) I.length ci] w fun e w' => e = .returned (infoV (infoOfP nd a b)) ∧ Below w.heap.size w w' := by
  have HK9 := hide k9
  have HH9 := hide h9
  clear k9 h9
  have HV : Hid (V = .agg (nodeCs nd).toArray) := hide hV
  clear hV
  generalize hR : infoOfP nd a b = r
  have HT := hide hR
  clear hR
  have t1 := fun w h => rul_infoAt I nd.fst base bi ci w h hI hf
  have t2 := fun w h => rul_infoAt I nd.snd base bi ci w h hI hsn
  rw [ha] at t1
  rw [hb] at t2
  have H := hide h
  clear h ha hb
  have hlt : bi < w.heap.size := (H.out.lt bi rfl).2
  go_enter Tryd.func55, Tryd.ntmps55
  go_wp2_with (refine wp_box_to rfl 95 (.tmp 0) rfl V _ rfl HV.out ?_; intro w1 hB hb1 hs1; have HS1 := hide hs1; have l01 : w.heap.size < w1.heap.size := (by omega); clear hs1; have N1 := NodeAt.ofB hB; have c20 := N1.cells 20 (by omega); simp only [nodeCs, List.getElem?_cons_zero, List.getElem?_cons_succ] at c20)
  have H1 := hide N1
  clear hB N1
  refine (t1 _ (ownsRow_below H.out (hb1.alloc hb1.size _))).mono ?_
  rintro e w2 ⟨rfl, hb2⟩
  have hs2 := hb2.size
  simp at hs2
  have l02 : w.heap.size < w2.heap.size := by omega
  have l12 : w1.heap.size < w2.heap.size := by omega
  have HR2 : Hid (w2.heap[w1.heap.size]? = some (.cells #[.bool false, .bool false, .int .i64 0] 34 (0, 0))) := hide (by rw [hb2.block w1.heap.size (by simp)]; exact heap_alloc_new _ _)
  have N2 := H1.out.only (bl := []) ((OnlyB.nw [] _ _).trans (.of_below hb2)) (by simp)
  have c21 := N2.cells 21 (by omega)
  simp only [nodeCs, List.getElem?_cons_zero, List.getElem?_cons_succ] at c21
  have H2 := hide N2
  have B2 : Below w.heap.size w w2 := (hb1.alloc hb1.size _).trans (hb2.mono (by have := hb1.size; simp; omega))
  clear N2 c20 t1 hb2
  obtain ⟨ax, ay, ar⟩ := a
  obtain ⟨bx, bY, br⟩ := b
  simp only [] at hra hrb
  go_wp2_with fail
  refine (t2 _ (ownsRow_below H.out (B2.alloc B2.size _))).mono ?_
  rintro e w3 ⟨rfl, hb3⟩
  have hs3 := hb3.size
  simp at hs3
  have HR3 : Hid (w3.heap[w1.heap.size]? = some (.cells #[.bool false, .bool false, .int .i64 0] 34 (0, 0))) := hide (by rw [hb3.block w1.heap.size (by simp; omega), heap_alloc_old _ _ (by omega)]; exact HR2.out)
  have N3 := H2.out.only (bl := []) ((OnlyB.nw [] _ _).trans (.of_below hb3)) (by simp)
  have c0 := N3.cells 0 (by omega)
  have c15 := N3.cells 15 (by omega)
  have c18 := N3.cells 18 (by omega)
  simp only [nodeCs, List.getElem?_cons_zero, List.getElem?_cons_succ] at c0 c15 c18
  have H3 := hide N3
  have B3 : Below w.heap.size w w3 := (B2.alloc B2.size _).trans (hb3.mono (by have := B2.size; simp; omega))
  have hg3 : w3.heap[w2.heap.size]? = some (.cells #[.bool ax, .bool ay, .int .i64 ar] 34 (0, 0)) := by rw [hb3.block w2.heap.size (by simp)]; exact heap_alloc_new _ _
  have g0 := cell_of_row _ _ 0 _ _ _ hg3
  have g1 := cell_of_row _ _ 1 _ _ _ hg3
  have g2 := cell_of_row _ _ 2 _ _ _ hg3
  have r0 := cell_of_row _ _ 0 _ _ _ HR3.out
  have r1 := cell_of_row _ _ 1 _ _ _ HR3.out
  have r2 := cell_of_row _ _ 2 _ _ _ HR3.out
  have z0 : ∀ j, w3.frozen? ⟨w1.heap.size, j, none⟩ = false := fun j => by simp [World.frozen?, HR3.out]
  simp only [List.getElem?_toArray, List.getElem?_cons_zero, List.getElem?_cons_succ] at g0 g1 g2 r0 r1 r2
  have HL : Hid (w.heap.size ≤ w1.heap.size) := hide (by omega)
  have l1 : w1.heap.size < w3.heap.size := by omega
  have l2 : w2.heap.size < w3.heap.size := by omega
  have l3 : w.heap.size < w3.heap.size := by omega
  clear hg3 N3 c21 t2 hb3 H2 HR2 hb1 B2 H1 HS1 hs2 hs3 l01 l02 l12
  generalize hkd : nd.kind = kd at *
  have HKD := hide hkd
  clear hkd
  have k9 := HK9.out
  have h9 := HH9.out
  clear HK9 HH9
  subst k9
  simp only [noInfo, PInfo.mk.injEq] at h9
  obtain ⟨rfl, rfl, rfl⟩ := h9
  have HE : Hid (r = ⟨ax && (nd.var != 3), ay && (nd.var != 4), ar⟩) := hide (by
    rw [← HT.out]
    unfold infoOfP
    rw [if_neg (by rw [HKD.out]; decide), if_pos HKD.out, HKD.out]
    have e : mxP ⟨ax, ay, ar⟩ ⟨false, false, -1⟩ = ar := by unfold mxP; simp only []; rw [if_neg (by omega)]
    rw [e]
    simp [aheadK, bne])
  have hla := rul_looksAhead 9
  have hbr : ¬ (-1 > ar) := by omega
  generalize nd.var = vr at *
  cases ax <;> cases ay
  all_goals
    go_wp2_with fail
    refine (hla _).mono ?_
    rintro e w4 ⟨rfl, rfl⟩
    simp only [show aheadK 9 = false from rfl]
    go_wp2_with fail
    exact bodyPost_ret (v := infoV r) (by rw [HE.out]; simp [results, Tryd.results55, go_sem, r0, r1, r2, l1]) rfl ⟨rfl, ((((B3.setCell HL.out _).setCell HL.out _).setCell HL.out _).alloc (by have := B3.size; simp; omega) _).alloc (by have := B3.size; simp; omega) _⟩
end Go.Proofs.YtiamjjonoeaggaaDoor
