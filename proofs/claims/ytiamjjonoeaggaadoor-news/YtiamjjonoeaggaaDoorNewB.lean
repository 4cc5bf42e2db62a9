import Derived.Test.YtiamjjonoeaggaaDoorNewA
namespace Go.Proofs.YtiamjjonoeaggaaDoor
open Go.RowKit

/-- append of one value to a row of the call's own, however long. -/
theorem wp_app8 {P : Program} {ops : Array Oper} {rest : List Oper} {o : Oper} {a : Act} {Q : Exit → Act → World → Prop} (hgd : o.guard = none) (x y : Operand) (t e : TypeId)
    (ho : o.op = .call { callee := .builtin .append, args := #[x, y], argTypes := #[t, t] }) {i : TypeInfo} {z : Value} (ht : P.underlying t = some (.slice e)) (hi : P.info? e = some i) (hz : i.zero = some z)
    (hsize : i.size = 1) (hby : i.bytes = 8) (hzs : z.cells.size = 1) (base : Nat) (v : Value) (n : Nat) (xs : List Value) (u : Value) (W : World) (hx : a.eval x = v)
    (hown : W.ownsRow base e 1 v n xs) (hy : a.eval y = .slice (some ⟨W.heap.size, 0, none⟩) 1 1) (h1 : u.oneCell' = true) (hn : n ≤ 10000000000000) (hbase : base ≤ W.heap.size)
    (h : ∀ v' w', w'.ownsRow base e 1 v' (n + 1) (xs ++ [u]) → (W.alloc (.cells #[u] e)).grownBy w' v.ownBlock → wpList P ops Q rest (a.put o.dst v') w') : wpList P ops Q (o :: rest) a (W.alloc (.cells #[u] e)) := by
  refine wpList_append_own _ hgd x y t ho base e i z 1 8 ht hi hz hsize hby hzs (by decide) v n xs hx (hown.alloc _) ⟨W.heap.size, 0, none⟩ 1 1 [u] hy rfl ?_ (by simpa using h1) ?_ (by omega) (by simp; omega) ?_
  · intro j w hj
    rw [addr_add, Nat.zero_add, cell_of_row _ _ j _ _ _ (heap_alloc_new W _)]
    simpa using hj
  · unfold maxLen; omega
  · intro v' w' ho' hg _
    exact h v' w' ho' hg
/-- The two lists of monitors. -/
def WAt (w : World) (bw n : Nat) : Prop := ∃ vx vy xs ys, w.cell? ⟨bw, 0, none⟩ = some vx ∧ w.cell? ⟨bw, 1, none⟩ = some vy ∧ (∀ o, w.frozen? ⟨bw, o, none⟩ = false) ∧ bw < w.heap.size ∧ w.ownsRow (bw + 1) 38 1 vx n xs ∧ w.ownsRow (bw + 1) 41 1 vy n ys
theorem WAt.below {w w' : World} {bw n : Nat} (h : WAt w bw n) (hb : Below w.heap.size w w') : WAt w' bw n := by
  obtain ⟨vx, vy, xs, ys, h1, h2, h3, h4, h5, h6⟩ := h
  exact ⟨vx, vy, xs, ys, by rw [World.cell?_of_block (w := w) (hb.block bw h4)]; exact h1, by rw [World.cell?_of_block (w := w) (hb.block bw h4)]; exact h2, fun o => by rw [World.frozen?_of_block (w := w) (hb.block bw h4)]; exact h3 o, Nat.lt_of_lt_of_le h4 hb.size, ownsRow_below h5 hb, ownsRow_below h6 hb⟩
theorem info_mon : (Tryd.prog.info? 38).map (fun i => (i.zero, i.size, i.bytes)) = some (some (.pointer none), 1, 8) := by kernel_rfl
theorem info_mor : (Tryd.prog.info? 41).map (fun i => (i.zero, i.size, i.bytes)) = some (some (.pointer none), 1, 8) := by kernel_rfl
/-- Rows of two kinds lie apart. -/
theorem rows_apart {w : World} {b1 b2 s1 s2 n1 n2 : Nat} {e1 e2 : TypeId} {v1 v2 : Value} {x1 x2 : List Value} (h1 : w.ownsRow b1 e1 s1 v1 n1 x1) (h2 : w.ownsRow b2 e2 s2 v2 n2 x2) (he : e1 ≠ e2) : v2.ownBlock = none ∨ v2.ownBlock ≠ v1.ownBlock := by
  rcases h1.2 with ⟨rfl, _⟩ | ⟨g, cap, cur, rfl, _, hg, _⟩
  · cases h : v2.ownBlock with
    | none => exact .inl rfl
    | some k => exact .inr (by simp [Value.ownBlock])
  · rcases h2.2 with ⟨rfl, _⟩ | ⟨g', cap', cur', rfl, _, hg', _⟩
    · exact .inl rfl
    · right
      intro e
      simp [Value.ownBlock] at e
      subst e
      rw [hg] at hg'
      simp at hg'
      exact he hg'.2
theorem grown_cell {W w' : World} {bw : Nat} {v : Value} {ob : Obj} {base size n : Nat} {e : TypeId} {xs : List Value} (hg : (W.alloc ob).grownBy w' v.ownBlock) (hown : W.ownsRow base e size v n xs) (hb : bw < base) (hl : bw < W.heap.size) : w'.heap[bw]? = W.heap[bw]? := by
  rw [hg.block bw (by simp; omega) (fun h => by have := (hown.lt bw h.symm).1; omega)]
  exact heap_alloc_old W _ hl
theorem made_tail {w2 w3 w4 : World} {bw n g3 k3 g4 k4 : Nat} {vx vy : Value} {xs ys xs3 ys4 : List Value} {ob ob' : Obj} (hl : bw < w2.heap.size) (hx : w2.ownsRow (bw + 1) 38 1 vx n xs) (hy : w2.ownsRow (bw + 1) 41 1 vy n ys) (c0 : w2.cell? ⟨bw, 0, none⟩ = some vx) (c1 : w2.cell? ⟨bw, 1, none⟩ = some vy) (fz : ∀ o, w2.frozen? ⟨bw, o, none⟩ = false)
    (own3 : w3.ownsRow (bw + 1) 38 1 (.slice (some ⟨g3, 0, none⟩) (n + 1) k3) (n + 1) xs3) (gr3 : (w2.alloc ob).grownBy w3 vx.ownBlock)
    (own4 : w4.ownsRow (bw + 1) 41 1 (.slice (some ⟨g4, 0, none⟩) (n + 1) k4) (n + 1) ys4) (gr4 : ((w3.setCell ⟨bw, 0, none⟩ (.slice (some ⟨g3, 0, none⟩) (n + 1) k3)).alloc ob').grownBy w4 vy.ownBlock) :
    WAt (w4.setCell ⟨bw, 1, none⟩ (.slice (some ⟨g4, 0, none⟩) (n + 1) k4)) bw (n + 1) ∧ Below bw w2 (w4.setCell ⟨bw, 1, none⟩ (.slice (some ⟨g4, 0, none⟩) (n + 1) k4)) ∧ w4.cell? ⟨bw, 1, none⟩ = some vy ∧ w4.frozen? ⟨bw, 1, none⟩ = false := by
  have hl3 : bw < w3.heap.size := by have := gr3.size; simp at this; omega
  have oy3 := (hy.alloc ob).kept gr3 (rows_apart hx hy (by decide))
  have oyW : (w3.setCell ⟨bw, 0, none⟩ (.slice (some ⟨g3, 0, none⟩) (n + 1) k3)).ownsRow (bw + 1) 41 1 vy n ys := ownsRow_setCell_below oy3 (by simp) _
  have oxW : (w3.setCell ⟨bw, 0, none⟩ (.slice (some ⟨g3, 0, none⟩) (n + 1) k3)).ownsRow (bw + 1) 38 1 (.slice (some ⟨g3, 0, none⟩) (n + 1) k3) (n + 1) xs3 := ownsRow_setCell_below own3 (by simp) _
  have ox4 := (oxW.alloc ob').kept gr4 (rows_apart oyW oxW (by decide))
  have e3 := grown_cell gr3 hx (show bw < bw + 1 by omega) hl
  have e4 := grown_cell gr4 oyW (show bw < bw + 1 by omega) (by simpa using hl3)
  have d0 : w3.cell? ⟨bw, 0, none⟩ = some vx := by rw [World.cell?_of_block (w := w2) e3]; exact c0
  have d1 : w3.cell? ⟨bw, 1, none⟩ = some vy := by rw [World.cell?_of_block (w := w2) e3]; exact c1
  have p0 : w4.cell? ⟨bw, 0, none⟩ = some (.slice (some ⟨g3, 0, none⟩) (n + 1) k3) := by rw [World.cell?_of_block e4]; exact World.cell?_setCell_same w3 _ _ d0
  have p1 : w4.cell? ⟨bw, 1, none⟩ = some vy := by rw [World.cell?_of_block e4, World.cell?_setCell_other w3 _ _ _ (by intro e; injection e with _ e2; simp at e2)]; exact d1
  have fz4 : ∀ o, w4.frozen? ⟨bw, o, none⟩ = false := fun o => by rw [World.frozen?_of_block e4, World.frozen?_setCell, World.frozen?_of_block (w := w2) e3]; exact fz o
  have hl4 : bw < w4.heap.size := by have := gr4.size; simp at this; omega
  refine ⟨⟨_, _, xs3, ys4, ?_, World.cell?_setCell_same w4 _ _ p1, fun o => by rw [World.frozen?_setCell]; exact fz4 o, by simpa using hl4, ownsRow_setCell_below ox4 (by simp) _, ownsRow_setCell_below own4 (by simp) _⟩, ?_, p1, fz4 1⟩
  · rw [World.cell?_setCell_other w4 _ _ _ (by intro e; injection e with _ e2; simp at e2)]
    exact p0
  · refine ⟨gr4.os.trans (gr3.os), gr4.tape.trans gr3.tape, gr4.output.trans gr3.output, ?_, fun k hk => ?_⟩
    · have := gr4.size
      have := gr3.size
      simp at *
      omega
    · rw [Below.heap_setCell w4 _ _ k (by simp; omega), grown_cell gr4 oyW (show k < bw + 1 by omega) (by simp; omega), Below.heap_setCell w3 _ _ k (by simp; omega), grown_cell gr3 hx (show k < bw + 1 by omega) (by omega)]
set_option maxRecDepth 100000 in
set_option maxHeartbeats 4000000 in
theorem law_made (s : List UInt8) (hs64 : s.length ≤ maxLen) (bw n : Nat) (hn : n ≤ 10000000000000) (w : World) (h : WAt w bw n) :
    Calls Tryd.prog 6 #[.pointer (some ⟨bw, 0, none⟩), bs s] w fun e w' => e = .returned (.bool true) ∧ (∃ n', n' ≤ n + 1 ∧ WAt w' bw n') ∧ Below bw w w' := by
  have h1 := vig_New s hs64
  have h2 := ref_New s hs64
  generalize checkR s = c at *
  obtain ⟨ce, cp⟩ := c
  simp only [] at h1 h2
  have H := hide h
  have hlt : bw < w.heap.size := by obtain ⟨_, _, _, _, _, _, _, h4, _⟩ := h; exact h4
  clear h
  obtain ⟨i0, hi0, hz0, hz1, hz2⟩ := info_parts info_mon
  obtain ⟨i1, hi1, hy0, hy1, hy2⟩ := info_parts info_mor
  go_enter Tryd.func6, Tryd.ntmps6
  go_wp2_with fail
  refine (h1 _).mono ?_
  rintro e w1 ⟨p, rfl, hp, b1⟩
  have HP := hide hp
  have HB1 := hide b1
  clear hp b1
  go_wp2_with fail
  refine (h2 _).mono ?_
  rintro e w2 ⟨q, rfl, hq, b2⟩
  have HQ := hide hq
  have B2 : Below w.heap.size w w2 := HB1.out.trans (b2.mono HB1.out.size)
  have hW2 := H.out.below B2
  have HB2 := hide B2
  have HW2 := hide hW2
  clear hq b2 B2 h1 h2
  by_cases hc : ce = 0
  · obtain ⟨pa, rfl⟩ : ∃ a, p = some a := by
      cases p with
      | none => exact absurd hc (HP.out.1 rfl)
      | some a => exact ⟨a, rfl⟩
    obtain ⟨qa, rfl⟩ : ∃ a, q = some a := by
      cases q with
      | none => exact absurd hc (HQ.out.1 rfl)
      | some a => exact ⟨a, rfl⟩
    obtain ⟨vx, vy, xs, ys, c0, c1, fz, hl, ox, oy⟩ := hW2
    obtain ⟨ax, kx, rfl⟩ := slice_form ox
    obtain ⟨ay, ky, rfl⟩ := slice_form oy
    have f0 := fz 0
    have f1 := fz 1
    have HFZ := hide fz
    have HX := hide ox
    have HY := hide oy
    have HA := hide (rows_apart ox oy (by decide))
    clear fz ox oy
    go_wp2_with (first | (at_builtin; refine wp_app8 rfl (.tmp 44) (.tmp 46) 28 38 rfl Tryd.underlying28 hi0 hz0 hz1 hz2 rfl (bw + 1) _ n xs (.pointer (some pa)) w2 rfl HX.out (by simp [Act.eval]) rfl hn (by omega) ?_; intro v3 w3 own3 gr3; obtain ⟨g3, k3, rfl⟩ := Go.Joins.ownsRow_form own3 (by omega); have e3 := grown_cell gr3 HX.out (show bw < bw + 1 by omega) hl; have d0 := World.cell?_of_block (a := ⟨bw, 0, none⟩) e3; have d1 := World.cell?_of_block (a := ⟨bw, 1, none⟩) e3; have z0 := World.frozen?_of_block (a := ⟨bw, 0, none⟩) e3; have z1 := World.frozen?_of_block (a := ⟨bw, 1, none⟩) e3; rw [c0] at d0; rw [c1] at d1; rw [f0] at z0; rw [f1] at z1; have hl3 : bw < w3.heap.size := (by have := gr3.size; simp at this; omega); have OY3 := hide (ownsRow_setCell_below (a := ⟨bw, 0, none⟩) ((HY.out.alloc _).kept gr3 HA.out) (by simp) (.slice (some ⟨g3, 0, none⟩) (n + 1) k3)); have G3 := hide gr3; have O3 := hide own3; clear gr3 own3 e3) | (at_builtin; refine wp_app8 rfl (.tmp 54) (.tmp 56) 29 41 rfl Tryd.underlying29 hi1 hy0 hy1 hy2 rfl (bw + 1) _ n ys (.pointer (some qa)) (w3.setCell ⟨bw, 0, none⟩ (.slice (some ⟨g3, 0, none⟩) (n + 1) k3)) rfl OY3.out (by simp [Act.eval]) rfl hn (by simp; omega) ?_; intro v4 w4 own4 gr4; obtain ⟨g4, k4, rfl⟩ := Go.Joins.ownsRow_form own4 (by omega); obtain ⟨T1, T2, T3, T4⟩ := made_tail hl HX.out HY.out c0 c1 HFZ.out O3.out G3.out own4 gr4; have HT1 := hide T1; have HT2 := hide T2; have O4 := hide own4; clear own4 gr4 T1 T2))
    go_ret
    exact ⟨rfl, ⟨n + 1, Nat.le_refl _, HT1.out⟩, (HB2.out.mono (by omega)).trans HT2.out⟩
  · have ep : p = none := HP.out.2 hc
    have eq : q = none := HQ.out.2 hc
    subst ep eq
    go_wp2_with fail
    go_ret
    exact ⟨rfl, ⟨n, by omega, HW2.out⟩, HB2.out.mono (by omega)⟩
end Go.Proofs.YtiamjjonoeaggaaDoor
