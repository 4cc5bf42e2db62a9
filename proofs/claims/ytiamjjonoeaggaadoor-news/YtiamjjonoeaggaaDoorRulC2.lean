import Derived.Test.YtiamjjonoeaggaaDoorRulB
namespace Go.Proofs.YtiamjjonoeaggaaDoor
open Go.RowKit

theorem NodeAt.loadB {w : World} {b : Nat} {n : PNode} (h : NodeAt w b n) : (Instr.loadAt 95 (.pointer (some ⟨b, 0, none⟩))).run Tryd.prog w = .ok (nodeV n) w := by
  have hr : w.rangeAt b 0 (nodeCs n) := by
    intro j v hv
    have hj : j < 22 := (List.getElem?_eq_some_iff.1 hv).1
    rw [Nat.zero_add, h.cells j hj]
    exact hv
  exact run_loadAt_mid w b 0 95 (nodeCs n) _ hr Tryd.underlying95 rfl (by kernel_rfl)
set_option maxRecDepth 100000 in
set_option maxHeartbeats 4000000 in
theorem rul_infoOf2 (nd : PNode) (V : Value) (hV : V = nodeV nd) (I : List PInfo) (base bi ci : Nat) (w : World) (h : w.ownsRow base 34 3 (.slice (some ⟨bi, 0, none⟩) I.length ci) I.length (inCells I)) (hI : I.length ≤ 1000)
    (hf : -100000 ≤ nd.fst ∧ nd.fst ≤ 100000) (hsn : -100000 ≤ nd.snd ∧ nd.snd ≤ 100000) (hc : 0 ≤ nd.cnt ∧ nd.cnt ≤ 2) (_hh : 0 ≤ nd.shi ∧ nd.shi ≤ 100000) (a b : PInfo) (ha : infoAtP I nd.fst = a) (hb : infoAtP I nd.snd = b) (hra : -1 ≤ a.reach ∧ a.reach ≤ 1000000) (hrb : -1 ≤ b.reach ∧ b.reach ≤ 1000000)
    (k2 : nd.kind = 2) (h2 : a = noInfo ∧ b = noInfo) :
    Calls Tryd.prog 55 #[V, .slice (some ⟨bi, 0, none⟩) I.length ci] w fun e w' => e = .returned (infoV (infoOfP nd a b)) ∧ Below w.heap.size w w' := by
  have HK2 := hide k2
  have HH2 := hide h2
  clear k2 h2
  have HV : Hid (V = .agg (nodeCs nd).toArray) := hide hV
  clear hV
  generalize hR : infoOfP nd a b = r
  have HT := hide hR
  clear hR
  have t1 := fun w h => rul_infoAt I nd.fst base bi ci w h hI hf
  have t2 := fun w h => rul_infoAt I nd.snd base bi ci w h hI hsn
  rw [ha] at t1
  rw [hb] at t2
  have H := hide h
  have HA := hide hc
  clear h ha hb hc
  have hlt : bi < w.heap.size := (H.out.lt bi rfl).2
  go_enter Tryd.func55, Tryd.ntmps55
  go_wp2_with (refine wp_box_to rfl 95 (.tmp 0) rfl V _ rfl HV.out ?_; intro w1 hB hb1 hs1; have HS1 := hide hs1; have l01 : w.heap.size < w1.heap.size := (by omega); clear hs1; have N1 := NodeAt.ofB hB; have c20 := N1.cells 20 (by omega); simp only [nodeCs, List.getElem?_cons_zero, List.getElem?_cons_succ] at c20)
  have H1 := hide N1
  clear hB N1
  refine (t1 _ (ownsRow_below H.out (hb1.alloc hb1.size _))).mono ?_
  rintro e w2 ⟨rfl, hb2⟩
  have hs2 := hb2.size
  simp at hs2
  have l02 : w.heap.size < w2.heap.size := by omega
  have l12 : w1.heap.size < w2.heap.size := by omega
  have HR2 : Hid (w2.heap[w1.heap.size]? = some (.cells #[.bool false, .bool false, .int .i64 0] 34 (0, 0))) := hide (by rw [hb2.block w1.heap.size (by simp)]; exact heap_alloc_new _ _)
  have N2 := H1.out.only (bl := []) ((OnlyB.nw [] _ _).trans (.of_below hb2)) (by simp)
  have c21 := N2.cells 21 (by omega)
  simp only [nodeCs, List.getElem?_cons_zero, List.getElem?_cons_succ] at c21
  have H2 := hide N2
  have B2 : Below w.heap.size w w2 := (hb1.alloc hb1.size _).trans (hb2.mono (by have := hb1.size; simp; omega))
  clear N2 c20 t1 hb2
  obtain ⟨ax, ay, ar⟩ := a
  obtain ⟨bx, bY, br⟩ := b
  simp only [] at hra hrb
  go_wp2_with fail
  refine (t2 _ (ownsRow_below H.out (B2.alloc B2.size _))).mono ?_
  rintro e w3 ⟨rfl, hb3⟩
  have hs3 := hb3.size
  simp at hs3
  have HR3 : Hid (w3.heap[w1.heap.size]? = some (.cells #[.bool false, .bool false, .int .i64 0] 34 (0, 0))) := hide (by rw [hb3.block w1.heap.size (by simp; omega), heap_alloc_old _ _ (by omega)]; exact HR2.out)
  have N3 := H2.out.only (bl := []) ((OnlyB.nw [] _ _).trans (.of_below hb3)) (by simp)
  have c0 := N3.cells 0 (by omega)
  have c15 := N3.cells 15 (by omega)
  have c18 := N3.cells 18 (by omega)
  simp only [nodeCs, List.getElem?_cons_zero, List.getElem?_cons_succ] at c0 c15 c18
  have H3 := hide N3
  have B3 : Below w.heap.size w w3 := (B2.alloc B2.size _).trans (hb3.mono (by have := B2.size; simp; omega))
  have hg3 : w3.heap[w2.heap.size]? = some (.cells #[.bool ax, .bool ay, .int .i64 ar] 34 (0, 0)) := by rw [hb3.block w2.heap.size (by simp)]; exact heap_alloc_new _ _
  have g0 := cell_of_row _ _ 0 _ _ _ hg3
  have g1 := cell_of_row _ _ 1 _ _ _ hg3
  have g2 := cell_of_row _ _ 2 _ _ _ hg3
  have r0 := cell_of_row _ _ 0 _ _ _ HR3.out
  have r1 := cell_of_row _ _ 1 _ _ _ HR3.out
  have r2 := cell_of_row _ _ 2 _ _ _ HR3.out
  have z0 : ∀ j, w3.frozen? ⟨w1.heap.size, j, none⟩ = false := fun j => by simp [World.frozen?, HR3.out]
  simp only [List.getElem?_toArray, List.getElem?_cons_zero, List.getElem?_cons_succ] at g0 g1 g2 r0 r1 r2
  have HL : Hid (w.heap.size ≤ w1.heap.size) := hide (by omega)
  have l1 : w1.heap.size < w3.heap.size := by omega
  have l2 : w2.heap.size < w3.heap.size := by omega
  have l3 : w.heap.size < w3.heap.size := by omega
  clear hg3 N3 c21 t2 hb3 H2 HR2 hb1 B2 H1 HS1 hs2 hs3 l01 l02 l12
  generalize hkd : nd.kind = kd at *
  have HKD := hide hkd
  clear hkd
  have k2 := HK2.out
  have h2 := HH2.out
  clear HK2 HH2
  subst k2
  obtain ⟨e1, e2⟩ := h2
  simp only [noInfo, PInfo.mk.injEq] at e1 e2
  obtain ⟨rfl, rfl, rfl⟩ := e1
  obtain ⟨rfl, rfl, rfl⟩ := e2
  have HE : Hid (r = ⟨hasArgP nd 3, hasArgP nd 4, -1⟩) := hide (by
    rw [← HT.out]
    unfold infoOfP
    rw [if_pos HKD.out, HKD.out]
    rfl)
  have hla := rul_looksAhead 2
  have ha3 := rul_hasArg nd V (HV.out) 3 HA.out
  have ha4 := rul_hasArg nd V (HV.out) 4 HA.out
  generalize hasArgP nd 3 = x3 at *
  generalize hasArgP nd 4 = x4 at *
  go_wp2_with fail
  refine (hla _).mono ?_
  rintro e w4 ⟨rfl, rfl⟩
  simp only [show aheadK 2 = false from rfl]
  obtain ⟨W4, hW4⟩ : ∃ W : World, W = (w3.alloc (.cells #[.bool false, .bool false, .int .i64 (-1)] 34)).alloc (.cells #[.bool false, .bool false, .int .i64 (-1)] 34) := ⟨_, rfl⟩
  rw [← hW4]
  have b4 : Below w3.heap.size w3 W4 := by rw [hW4]; exact ((Below.refl _ _).alloc (Nat.le_refl _) _).alloc (by simp) _
  have s4 : W4.heap.size = w3.heap.size + 2 := by rw [hW4]; simp
  have N4 := H3.out.only (bl := []) (.of_below b4) (by simp)
  have L4 := N4.loadB
  rw [show nodeV nd = V from HV.out.symm] at L4
  have k4 := World.cell?_of_block (a := ⟨w.heap.size, 0, none⟩) (b4.block w.heap.size l3)
  rw [c0] at k4
  have hI4 : W4.heap[w3.heap.size + 1]? = some (.cells #[.bool false, .bool false, .int .i64 (-1)] 34 (0, 0)) := by
    rw [hW4]
    have := heap_alloc_new (w3.alloc (.cells #[.bool false, .bool false, .int .i64 (-1)] 34)) (.cells #[.bool false, .bool false, .int .i64 (-1)] 34)
    simpa using this
  have HW4 := hide hW4
  have S4 := hide s4
  have HI4 := hide hI4
  have HN4 := hide N4
  clear hW4 s4 hI4 N4 c0 c15 c18 g0 g1 g2 hla
  go_wp2_with (refine wp_load_from rfl 95 (.tmp 2) rfl ⟨w.heap.size, 0, none⟩ V rfl L4 ?_)
  refine (ha3 _).mono ?_
  rintro e w5 ⟨rfl, b5⟩
  have s5 := b5.size
  have hI5 : w5.heap[w3.heap.size + 1]? = some (.cells #[.bool false, .bool false, .int .i64 (-1)] 34 (0, 0)) := by rw [b5.block _ (by have := S4.out; omega)]; exact HI4.out
  have i0 := cell_of_row _ _ 0 _ _ _ hI5
  simp only [List.getElem?_toArray, List.getElem?_cons_zero] at i0
  have f0 : w5.frozen? ⟨w3.heap.size + 1, 0, none⟩ = false := by simp [World.frozen?, hI5]
  have hI6 : (w5.setCell ⟨w3.heap.size + 1, 0, none⟩ (.bool x3)).heap[w3.heap.size + 1]? = some (.cells #[.bool x3, .bool false, .int .i64 (-1)] 34 (0, 0)) := heap_setCell_same w5 _ 0 _ _ _ hI5
  obtain ⟨W6, hW6⟩ : ∃ W : World, W = w5.setCell ⟨w3.heap.size + 1, 0, none⟩ (.bool x3) := ⟨_, rfl⟩
  rw [← hW6] at hI6
  have o6 : OnlyB [w3.heap.size + 1] W4 W6 := by rw [hW6]; exact (OnlyB.of_below b5).setCell (by simp) _
  have s6 : w3.heap.size + 2 ≤ W6.heap.size := by have := o6.size; have := S4.out; omega
  have N6 := HN4.out.only o6 (by simp; omega)
  have L6 := N6.loadB
  rw [show nodeV nd = V from HV.out.symm, hW6] at L6
  have HW6 := hide hW6
  have HI6 := hide hI6
  have HN6 := hide N6
  clear hI5 hI6 hW6 N6 L4 k4 b5 s5 ha3
  go_wp2_with (refine wp_load_from rfl 95 (.tmp 2) rfl ⟨w.heap.size, 0, none⟩ V rfl L6 ?_)
  rw [← HW6.out]
  clear i0 f0
  refine (ha4 _).mono ?_
  rintro e w7 ⟨rfl, b7⟩
  have hI7 : w7.heap[w3.heap.size + 1]? = some (.cells #[.bool x3, .bool false, .int .i64 (-1)] 34 (0, 0)) := by rw [b7.block _ (by omega)]; exact HI6.out
  have i0 := cell_of_row _ _ 0 _ _ _ hI7
  have i1 := cell_of_row _ _ 1 _ _ _ hI7
  have i2 := cell_of_row _ _ 2 _ _ _ hI7
  simp only [List.getElem?_toArray, List.getElem?_cons_zero, List.getElem?_cons_succ] at i0 i1 i2
  have f1 : w7.frozen? ⟨w3.heap.size + 1, 1, none⟩ = false := by simp [World.frozen?, hI7]
  have HR7 : w7.heap[w1.heap.size]? = some (.cells #[.bool false, .bool false, .int .i64 0] 34 (0, 0)) := by
    rw [b7.block _ (by omega), o6.block _ (by have := S4.out; omega) (by simp; omega), b4.block _ l1]
    exact HR3.out
  have q0 := cell_of_row _ _ 0 _ _ _ HR7
  have q1 := cell_of_row _ _ 1 _ _ _ HR7
  have q2 := cell_of_row _ _ 2 _ _ _ HR7
  simp only [List.getElem?_toArray, List.getElem?_cons_zero, List.getElem?_cons_succ] at q0 q1 q2
  have y0 : ∀ j, w7.frozen? ⟨w1.heap.size, j, none⟩ = false := fun j => by simp [World.frozen?, HR7]
  have B7 : Below w.heap.size w w7 := (B3.trans ((OnlyB.trans ((OnlyB.of_below (bl := [w3.heap.size + 1]) b4)) o6).below (B := w.heap.size) (by omega) (by simp; omega))).trans (b7.mono (by omega))
  have hne : w3.heap.size + 1 ≠ w1.heap.size := by omega
  have hl : w3.heap.size < w7.heap.size := by have := b7.size; omega
  have HB7 := hide B7
  clear HR7 hI7 L6 b7 ha4 r0 r1 r2 z0 B7
  go_wp2_with fail
  exact bodyPost_ret (v := infoV r) (by rw [HE.out]; simp [results, Tryd.results55, go_sem, q0, q1, q2]) rfl ⟨rfl, (((HB7.out.setCell (by show w.heap.size ≤ w3.heap.size + 1; omega) _).setCell HL.out _).setCell HL.out _).setCell HL.out _⟩
end Go.Proofs.YtiamjjonoeaggaaDoor
