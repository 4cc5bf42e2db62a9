import Derived.Test.YtiamjjonoeaggaaDoorSynH
namespace Go.Proofs.YtiamjjonoeaggaaDoor
open Go.RowKit

theorem slice_form {w : World} {base : Nat} {e : TypeId} {size : Nat} {v : Value} {n : Nat} {xs : List Value} (h : w.ownsRow base e size v n xs) : ∃ ao cap, v = .slice ao n cap := by
  rcases h.2 with ⟨rfl, rfl⟩ | ⟨g, cap, cur, rfl, _⟩
  · exact ⟨none, 0, rfl⟩
  · exact ⟨_, cap, rfl⟩
theorem Pars.nodesSet {w : World} {bp bt ct : Nat} {ts : List PTok} {nv : Value} {nx : Nat} (h : Pars w bp bt ct ts nv nx) (u : Value) : Pars (w.setCell ⟨bp, 2, none⟩ u) bp bt ct ts u nx := by
  refine ⟨?_, ?_, World.cell?_setCell_same w _ _ h.nodes, fun o => by rw [World.frozen?_setCell]; exact h.free o, h.cap, h.ne, by simpa using h.lt, fun i hi j hj => ?_⟩
  · rw [World.cell?_setCell_other w _ _ _ (by intro e; injection e with e1 e2; simp at e2)]; exact h.toks
  · rw [World.cell?_setCell_other w _ _ _ (by intro e; injection e with e1 e2; simp at e2)]; exact h.next
  · rw [World.cell?_setCell_other w _ _ _ (by intro e; injection e with e1 e2; exact h.ne e1.symm)]; exact h.cells i hi j hj
/-- Behind p.nodes = append(p.nodes, node). -/
theorem append_after {w1 w2 w3 : World} {bp bt ct : Nat} {ts : List PTok} {nv : Value} {nx : Nat} {ns : List PNode} {nd : PNode} {ob : Obj} (hP : Pars w1 bp bt ct ts nv nx) (hbt : bt < bp) (hb : Below w1.heap.size w1 w2) (hrow : ∀ k, nv.ownBlock = some k → bp + 1 ≤ k ∧ k < w1.heap.size)
    (hN : w2.cell? ⟨w1.heap.size, 0, none⟩ = some (.int .i64 nd.kind)) (hg : (w2.drew.alloc ob).grownBy w3 nv.ownBlock) {g cap : Nat} (hown : w3.ownsRow (bp + 1) 95 22 (.slice (some ⟨g, 0, none⟩) (ns.length + 1) cap) (ns.length + 1) (ndCells ns ++ nodeCs nd)) :
    PN (w3.setCell ⟨bp, 2, none⟩ (.slice (some ⟨g, 0, none⟩) (ns.length + 1) cap)) bp bt ct ts nx (ns ++ [nd]) ∧ (w3.setCell ⟨bp, 2, none⟩ (.slice (some ⟨g, 0, none⟩) (ns.length + 1) cap)).cell? ⟨w1.heap.size, 0, none⟩ = some (.int .i64 nd.kind) ∧ Below bp w1 (w3.setCell ⟨bp, 2, none⟩ (.slice (some ⟨g, 0, none⟩) (ns.length + 1) cap)) := by
  have hl := hP.lt.2
  have hs2 : w1.heap.size < w2.heap.size := World.block_lt_of_cell? w2 _ hN
  have hb2 : Below w1.heap.size w1 (w2.drew.alloc ob) := (hb.drew).alloc (by simpa using hb.size) _
  have hP3 : Pars w3 bp bt ct ts nv nx := by
    have hP2 := hP.only (bl := []) (.of_below hb2) (by simp) (by simp)
    have ho : OnlyB (match nv.ownBlock with | some k => [k] | none => []) (w2.drew.alloc ob) w3 := by
      refine ⟨hg.os, hg.tape, hg.output, hg.size, fun k hk hn => hg.block k hk (fun e => hn ?_)⟩
      rw [← e]
      simp
    refine hP2.only ho ?_ ?_
    · cases e : nv.ownBlock with
      | none => simp
      | some k => have := hrow k e; simp; omega
    · cases e : nv.ownBlock with
      | none => simp
      | some k => have := hrow k e; simp; omega
  have hkey : ∀ k, k < w1.heap.size + 1 → some k ≠ nv.ownBlock → w3.heap[k]? = w2.heap[k]? := by
    intro k hk hn
    rw [hg.block k (by simp; omega) hn]
    exact heap_alloc_old w2.drew _ (by simpa using (by omega : k < w2.heap.size))
  refine ⟨⟨_, hP3.nodesSet _, ?_⟩, ?_, ?_⟩
  · rw [ndCells_append, ndCells_one, List.length_append]
    exact ownsRow_setCell_below hown (by simp) _
  · rw [World.cell?_setCell_other _ _ _ _ (by intro e; injection e with e1 e2; omega), World.cell?_of_block (w := w2) (hkey w1.heap.size (by omega) (fun e => by have := hrow _ e.symm; omega))]
    exact hN
  · refine ⟨hg.os.trans hb2.os, hg.tape.trans hb2.tape, hg.output.trans hb2.output, ?_, fun k hk => ?_⟩
    · have := hg.size
      have := hb2.size
      simp at *
      omega
    · rw [Below.heap_setCell w3 _ _ k (by simp; omega), hkey k (by omega) (fun e => by have := hrow _ e.symm; omega)]
      exact hb.block k (by omega)
theorem news_at (W : World) (nd : PNode) (t : TypeId) : ∀ j u, (nodeCs nd)[j]? = some u → (W.alloc (.cells (nodeCs nd).toArray t)).cell? ((⟨W.heap.size, 0, none⟩ : Addr).add j) = some u := by
  intro j u hj
  rw [addr_add, Nat.zero_add, cell_of_row _ _ j _ _ _ (heap_alloc_new W _)]
  simpa using hj
theorem nodeCs_one (nd : PNode) : ∀ u ∈ nodeCs nd, u.oneCell' = true := by simp [nodeCs, Value.oneCell']
theorem info_node3 : (Tryd.prog.info? 95).map (fun i => (i.zero, i.size, i.bytes)) = some (some (nodeV nodeZ), 22, 120) := by kernel_rfl
theorem app_cell {w2 w3 : World} {bp : Nat} {v nv : Value} {ob : Obj} (hg : (w2.drew.alloc ob).grownBy w3 v.ownBlock) (hrow : ∀ k, v.ownBlock = some k → bp + 1 ≤ k) (hl : bp < w2.heap.size) (hc : w2.cell? ⟨bp, 2, none⟩ = some nv) (hf : w2.frozen? ⟨bp, 2, none⟩ = false) :
    w3.cell? ⟨bp, 2, none⟩ = some nv ∧ w3.frozen? ⟨bp, 2, none⟩ = false := by
  have e : w3.heap[bp]? = w2.heap[bp]? := by
    rw [hg.block bp (by simp; omega) (fun e => by have := hrow bp e.symm; omega)]
    exact heap_alloc_old w2.drew _ (by simpa using hl)
  exact ⟨by rw [World.cell?_of_block (w := w2) e]; exact hc, by rw [World.frozen?_of_block (w := w2) e]; exact hf⟩
/-- What formula says at a depth. -/
def FormC (bp bt ct : Nat) (ts : List PTok) (d : Nat) : Prop := ∀ (w : World) (nx : Nat) (ns : List PNode) (dp : Int), dp + d = 9 → PN w bp bt ct ts nx ns → bt < bp → nx + farN d ≤ 4000 → ns.length + manyN d ≤ 1000 →
  Calls Tryd.prog 29 #[.pointer (some ⟨bp, 0, none⟩), .int .i64 dp] w fun e w' => e = .returned (.bool (formR ts d nx ns.length).1) ∧ Outs w w' bp bt ct ts ns (formR ts d nx ns.length)
def PartsC (bp bt ct : Nat) (ts : List PTok) (d : Nat) : Prop := ∀ (w : World) (m : Nat) (ns : List PNode) (nd : PNode) (dp : Int), dp + d = 9 → PN w bp bt ct ts m (ns ++ [nd]) → bt < bp → m + 3 + 2 * farN d ≤ 4000 → ns.length + 1 + 2 * manyN d ≤ 1000 →
  Calls Tryd.prog 54 #[.pointer (some ⟨bp, 0, none⟩), .int .i64 ns.length, .int .i64 dp] w fun e w' => e = .returned (.bool (partsR ts (formR ts d) m ns.length nd).1) ∧ Outs w w' bp bt ct ts ns (partsR ts (formR ts d) m ns.length nd)
theorem form_zero (bp bt ct : Nat) (ts : List PTok) : FormC bp bt ct ts 0 := by
  intro w nx ns dp hd hpn hbt hn hm
  have hd : dp = 9 := by omega
  subst hd
  obtain ⟨nv, hP, hown⟩ := hpn
  have H := hide hP
  clear hP hown hn hm
  go_enter Tryd.func29, Tryd.ntmps29
  go_wp2_with fail
  go_ret
  exact ⟨rfl, ⟨nv, H.out, fun h => absurd h (by simp [formR])⟩, Below.refl _ _⟩
theorem wp_load_op {P : Program} {o : Oper} {a : Act} {w : World} {K : Act → World → Prop} {Q : Exit → Act → World → Prop} (ty : TypeId) (x : Operand) (ho : o.op = .load ty x) (ad : Addr) (v : Value) (hx : a.eval x = .pointer (some ad)) (hr : (Instr.loadAt ty (.pointer (some ad))).run P w = .ok v w)
    (h : K (a.put o.dst v) w) : o.wp P a w K Q := by
  unfold Oper.wp execOp
  simp only [ho, hx, hr, Sem.run_bind, Sem.run_pure, Result.andThen_ok]
  exact h
theorem wp_slice_op {P : Program} {o : Oper} {a : Act} {w : World} {K : Act → World → Prop} {Q : Exit → Act → World → Prop} (ty : TypeId) (x : Operand) (ho : o.op = .buildSlice ty 1 #[(0, x)]) (v u : Value) (W : World) (hx : a.eval x = v) (hr : (Instr.buildSlice ty 1 #[(0, v)]).run P w = .ok u W)
    (h : K (a.put o.dst u) W) : o.wp P a w K Q := by
  unfold Oper.wp execOp
  simp only [ho, List.map_toArray, List.map_cons, List.map_nil, hx, hr, Sem.run_bind, Sem.run_pure, Result.andThen_ok]
  exact h
theorem slice_one (nd : PNode) (w : World) : (Instr.buildSlice 44 1 #[(0, nodeV nd)]).run Tryd.prog w = .ok (.slice (some ⟨w.heap.size, 0, none⟩) 1 1) (w.alloc (.cells (nodeCs nd).toArray 95)) := by
  simp [Instr.buildSlice, go_sem, nodeCs]
end Go.Proofs.YtiamjjonoeaggaaDoor
