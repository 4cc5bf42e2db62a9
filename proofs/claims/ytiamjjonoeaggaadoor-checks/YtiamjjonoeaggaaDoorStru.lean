import Derived.WalkKit
import Derived.WalkSpells
import Derived.WalkSmall
import Derived.Below
import Derived.Deep.MidRow
import Derived.Laws.Tables
namespace Go.Proofs.YtiamjjonoeaggaaDoor
open Go.RowKit

theorem setRow_other (w : World) (g : Nat) (cs : Array Value) (k : Nat) (h : k ≠ g) : (w.setRow g cs).heap[k]? = w.heap[k]? := by
  unfold World.setRow
  simp only [Array.getElem?_modify]
  rw [if_neg (by omega)]
/-- A struct goes whole into a block that was just made. -/
theorem store_fresh {P : Program} (ty : TypeId) (W : World) (old cells : Array Value) (hi : (P.info? ty).map (·.size) = some cells.size) (ho : old.size = cells.size) (h1 : cells.all (·.oneCell') = true) :
    ∃ W', (Instr.storeAt ty (.pointer (some ⟨W.heap.size, 0, none⟩)) (.agg cells)).run P (W.alloc (.cells old ty)) = .ok () W' ∧ W'.heap[W.heap.size]? = some (.cells cells ty (0, 0)) ∧ Below W.heap.size W W' ∧ W'.heap.size = W.heap.size + 1 := by
  have hg : (W.alloc (.cells old ty)).heap[W.heap.size]? = some (.cells old ty (0, 0)) := heap_alloc_new W _
  refine ⟨(W.alloc (.cells old ty)).setRow W.heap.size cells, ?_, ?_, ?_, ?_⟩
  · simp only [Instr.storeAt, Instr.sureAddr, Sem.run_bind, Sem.run_pure, Result.andThen_ok, run_storeVar_row _ _ ty ty old cells hg hi ho h1]
  · exact setRow_heap _ _ old cells ty _ hg
  · refine ⟨rfl, rfl, rfl, by simp, fun k hk => ?_⟩
    rw [setRow_other _ _ _ _ (by omega)]
    exact heap_alloc_old W _ hk
  · simp
/-- A struct goes whole into a block that is there. -/
theorem store_whole {P : Program} (ty t : TypeId) (W : World) (b : Nat) (old cells : Array Value) (hg : W.heap[b]? = some (.cells old t (0, 0))) (hi : (P.info? ty).map (·.size) = some cells.size) (ho : old.size = cells.size) (h1 : cells.all (·.oneCell') = true) :
    ∃ W', (Instr.storeAt ty (.pointer (some ⟨b, 0, none⟩)) (.agg cells)).run P W = .ok () W' ∧ W'.heap[b]? = some (.cells cells t (0, 0)) ∧ (∀ k, k ≠ b → W'.heap[k]? = W.heap[k]?) ∧ W'.heap.size = W.heap.size ∧ W'.os = W.os ∧ W'.tape = W.tape ∧ W'.output = W.output := by
  refine ⟨W.setRow b cells, ?_, setRow_heap _ _ old cells t _ hg, fun k hk => setRow_other _ _ _ _ hk, by simp, rfl, rfl, rfl⟩
  simp only [Instr.storeAt, Instr.sureAddr, Sem.run_bind, Sem.run_pure, Result.andThen_ok, run_storeVar_row _ _ t ty old cells hg hi ho h1]
theorem load_whole {P : Program} (ty t : TypeId) (W : World) (b : Nat) (cs : Array Value) (fr : Nat × Nat) (d : TypeDesc) (hg : W.heap[b]? = some (.cells cs t fr)) (hu : P.underlying ty = some d) (hd : (match d with | .struct _ | .array _ _ => true | _ => false) = true) (hi : (P.info? ty).map (·.size) = some cs.size) :
    (Instr.loadAt ty (.pointer (some ⟨b, 0, none⟩))).run P W = .ok (.agg cs) W := by
  simp only [Instr.loadAt, Instr.sureAddr, Sem.run_bind, Sem.run_pure, Result.andThen_ok, run_loadVar_row W b t ty cs fr d hg hu hd hi]
theorem wp_store_to {P : Program} {ops : Array Oper} {rest : List Oper} {o : Oper} {a : Act} {W : World} {Q : Exit → Act → World → Prop} (hgd : o.guard = none) (ty : TypeId) (x y : Operand) (ho : o.op = .store ty x y)
    (ad : Addr) (v : Value) (hx : a.eval x = .pointer (some ad)) (hy : a.eval y = v) (W' : World) (hr : (Instr.storeAt ty (.pointer (some ad)) v).run P W = .ok () W')
    (h : wpList P ops Q rest (a.put o.dst undef) W') : wpList P ops Q (o :: rest) a W := by
  refine wpList_plain hgd fun _ hK => ?_
  unfold Oper.wp execOp
  simp only [ho, hx, hy, hr, Sem.run_bind, Sem.run_pure, Result.andThen_ok]
  exact hK _ _ h
theorem wp_load_from {P : Program} {ops : Array Oper} {rest : List Oper} {o : Oper} {a : Act} {W : World} {Q : Exit → Act → World → Prop} (hgd : o.guard = none) (ty : TypeId) (x : Operand) (ho : o.op = .load ty x)
    (ad : Addr) (v : Value) (hx : a.eval x = .pointer (some ad)) (hr : (Instr.loadAt ty (.pointer (some ad))).run P W = .ok v W)
    (h : wpList P ops Q rest (a.put o.dst v) W) : wpList P ops Q (o :: rest) a W := by
  refine wpList_plain hgd fun _ hK => ?_
  unfold Oper.wp execOp
  simp only [ho, hx, hr, Sem.run_bind, Sem.run_pure, Result.andThen_ok]
  exact hK _ _ h
theorem results_cell_tmp {P : Program} {fn : Func} {p q : Tmp} {ty : TypeId} (h : fn.results = #[.cell p ty, .tmp q]) (tmps : Array Value) (w : World) (g : Nat) (v u : Value) (hp : tmps.getD p undef = .pointer (some ⟨g, 0, none⟩)) (hq : tmps.getD q undef = u)
    (hl : (loadVar ty ⟨g, 0, none⟩).run P w = .ok v w) : (results fn tmps).run P w = .ok (.tuple #[v, u]) w := by
  have hp' : tmps[p]?.getD undef = .pointer (some ⟨g, 0, none⟩) := by simpa using hp
  have hq' : tmps[q]?.getD undef = u := by simpa using hq
  simp [results, h, hp', hq', asAddr, hl]
/-- A struct that came in is laid into a block of its own. -/
theorem wp_box_to {P : Program} {ops : Array Oper} {rest : List Oper} {o : Oper} {a : Act} {W : World} {Q : Exit → Act → World → Prop} (hgd : o.guard = none) (ty : TypeId) (x : Operand) (ho : o.op = .box ty x)
    (v : Value) (cells : Array Value) (hx : a.eval x = v) (hv : v = .agg cells)
    (h : ∀ W', W'.heap[W.heap.size]? = some (.cells cells ty (0, 0)) → Below W.heap.size W W' → W'.heap.size = W.heap.size + 1 → wpList P ops Q rest (a.put o.dst (.pointer (some ⟨W.heap.size, 0, none⟩))) W') : wpList P ops Q (o :: rest) a W := by
  refine wpList_plain hgd fun _ hK => ?_
  have hk := hK _ _ (h (W.alloc (.cells cells ty)) (heap_alloc_new W _) ((Below.refl _ _).alloc (Nat.le_refl _) _) (by simp))
  unfold Oper.wp execOp
  simp only [ho, hx, hv, Sem.run_bind, Instr.box, newVar, newRow, run_newObj_alloc, Sem.run_pure, Result.andThen_ok, Value.cells]
  exact hk
end Go.Proofs.YtiamjjonoeaggaaDoor
