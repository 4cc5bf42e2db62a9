import Derived.Test.YtiamjjonoeaggaaDoorRulC2
import Derived.Test.YtiamjjonoeaggaaDoorRulC9
import Derived.Test.YtiamjjonoeaggaaDoorRulCx
import Derived.Test.YtiamjjonoeaggaaDoorBridF
import Derived.Test.YtiamjjonoeaggaaDoorSynI
namespace Go.Proofs.YtiamjjonoeaggaaDoor
open Go.RowKit

theorem rul_infoOf (nd : PNode) (V : Value) (hV : V = nodeV nd) (I : List PInfo) (base bi ci : Nat) (w : World) (h : w.ownsRow base 34 3 (.slice (some ⟨bi, 0, none⟩) I.length ci) I.length (inCells I)) (hI : I.length ≤ 1000)
    (hf : -100000 ≤ nd.fst ∧ nd.fst ≤ 100000) (hsn : -100000 ≤ nd.snd ∧ nd.snd ≤ 100000) (hc : 0 ≤ nd.cnt ∧ nd.cnt ≤ 2) (hh : 0 ≤ nd.shi ∧ nd.shi ≤ 100000) (a b : PInfo) (ha : infoAtP I nd.fst = a) (hb : infoAtP I nd.snd = b) (hra : -1 ≤ a.reach ∧ a.reach ≤ 1000000) (hrb : -1 ≤ b.reach ∧ b.reach ≤ 1000000)
    (h2 : nd.kind = 2 → a = noInfo ∧ b = noInfo) (h9 : nd.kind = 9 → b = noInfo) :
    Calls Tryd.prog 55 #[V, .slice (some ⟨bi, 0, none⟩) I.length ci] w fun e w' => e = .returned (infoV (infoOfP nd a b)) ∧ Below w.heap.size w w' := by
  by_cases k2 : nd.kind = 2
  · exact rul_infoOf2 nd V hV I base bi ci w h hI hf hsn hc hh a b ha hb hra hrb k2 (h2 k2)
  · by_cases k9 : nd.kind = 9
    · exact rul_infoOf9 nd V hV I base bi ci w h hI hf hsn hc hh a b ha hb hra hrb k9 (h9 k9)
    · exact rul_infoOfx nd V hV I base bi ci w h hI hf hsn hc hh a b ha hb hra hrb k2 k9
/-- A row of nodes, as the rules get it. -/
structure NodesAt (w : World) (gn cn : Nat) (ns : List PNode) : Prop where
  cells : ∀ m nd, ns[m]? = some nd → w.rangeAt gn (m * 22) (nodeCs nd)
  cap : ns.length ≤ cn ∧ cn ≤ maxLen
  lt : gn < w.heap.size
theorem NodesAt.of_row {w : World} {base gn cn : Nat} {ns : List PNode} (h : w.ownsRow base 95 22 (.slice (some ⟨gn, 0, none⟩) ns.length cn) ns.length (ndCells ns)) : NodesAt w gn cn ns := by
  refine ⟨fun m nd hm j v hv => ?_, ?_, (h.lt gn rfl).2⟩
  · have hj : j < 22 := (List.getElem?_eq_some_iff.1 hv).1
    obtain ⟨hlt, he⟩ := List.getElem?_eq_some_iff.1 hm
    rw [h.cellAt _ (by omega)]
    have e : ns = ns.take m ++ nd :: ns.drop (m + 1) := by rw [← he]; simp
    have hk := ndCells_at (ns.take m) (ns.drop (m + 1)) nd j hj
    rw [← e] at hk
    have e2 : (ns.take m).length = m := by simp; omega
    rw [e2] at hk
    rw [hk]
    exact hv
  · rcases h.2 with ⟨h', _⟩ | ⟨g', cap', cur, h', _, _, a, b, _⟩
    · simp at h'
    · simp only [Value.slice.injEq, Option.some.injEq, Addr.mk.injEq, and_true, true_and] at h'
      obtain ⟨rfl, rfl⟩ := h'
      exact ⟨a, b⟩
theorem NodesAt.below {w w' : World} {gn cn : Nat} {ns : List PNode} (h : NodesAt w gn cn ns) (hb : Below w.heap.size w w') : NodesAt w' gn cn ns :=
  ⟨fun m nd hm j v hv => by rw [World.cell?_of_block (w := w) (hb.block gn h.lt)]; exact h.cells m nd hm j v hv, h.cap, Nat.lt_of_lt_of_le h.lt hb.size⟩
theorem NodesAt.load {w : World} {gn cn : Nat} {ns : List PNode} (h : NodesAt w gn cn ns) {m : Nat} {nd : PNode} (hm : ns[m]? = some nd) : (Instr.loadAt 95 (.pointer (some ⟨gn, m * 22, none⟩))).run Tryd.prog w = .ok (nodeV nd) w :=
  run_loadAt_mid w gn (m * 22) 95 (nodeCs nd) _ (h.cells m nd hm) Tryd.underlying95 rfl (by kernel_rfl)
theorem info_info : (Tryd.prog.info? 34).map (fun i => (i.zero, i.size, i.bytes)) = some (some (.agg #[.bool false, .bool false, .int .i64 0]), 3, 16) := by kernel_rfl
def IRel (F : Form) (w : World) (gi : Nat) (gk : Nat) (vi : Value) (wr : World) : Prop :=
  ∃ k : Nat, k ≤ sizeF F ∧ k ≤ gk ∧ vi = .int .i64 ((k : Int) - 1) ∧ wr.ownsRow w.heap.size 34 3 (.slice (some ⟨gi, 0, none⟩) (sizeF F) (sizeF F)) (sizeF F) (inCells (infosK F k)) ∧ Below w.heap.size w wr
set_option maxRecDepth 100000 in
set_option maxHeartbeats 4000000 in
theorem rul_infosOf (F : Form) (hF : FormOk F) (hS : SmallF F) (hN : sizeF F ≤ 255) (gn cn : Nat) (w : World) (h : NodesAt w gn cn (nodesOf F 0)) :
    Calls Tryd.prog 33 #[.slice (some ⟨gn, 0, none⟩) (sizeF F) cn] w fun e w' => ∃ gi, e = .returned (.slice (some ⟨gi, 0, none⟩) (sizeF F) (sizeF F)) ∧ w'.ownsRow w.heap.size 34 3 (.slice (some ⟨gi, 0, none⟩) (sizeF F) (sizeF F)) (sizeF F) (inCells ((subsF F).map infoT)) ∧ Below w.heap.size w w' := by
  have H := hide h
  have hlt := h.lt
  have HNF := hide (fun m hm k hk => node_facts F hF hS hN m hm k hk)
  have HST := hide (fun k G h => infosK_step F k G h)
  have HZ := hide (infosK_zero F)
  have HAL := hide (infosK_all F)
  have HLN := hide (fun k h => infosK_length F k h)
  clear h
  obtain ⟨i0, hi0, hz0, hz1, hz2⟩ := info_parts info_info
  generalize hn : sizeF F = N at *
  have HSZ := hide hn
  clear hn
  go_enter Tryd.func33, Tryd.ntmps33
  go_wp2_with (at_make; refine wpList_make_full _ rfl (.tmp 7) (.tmp 7) 97 rfl w.heap.size 34 i0 _ 3 Tryd.underlying97 hi0 hz0 hz1 .i64 .i64 N N N rfl rfl rfl rfl (by rw [hz2]; omega) (by unfold maxLen; omega) (Nat.le_refl _) ?_; intro w1 hown1 hgrow1)
  rw [made_info] at hown1
  have B1 : Below w.heap.size w w1 := ⟨hgrow1.os, hgrow1.tape, hgrow1.output, hgrow1.size, fun k hk => hgrow1.block k hk (by simp)⟩
  have HB1 := hide B1
  have HO1 : Hid (w1.ownsRow w.heap.size 34 3 (.slice (some ⟨w.heap.size, 0, none⟩) N N) N (inCells (infosK F N))) := hide (by rw [HAL.out]; exact hown1)
  clear hown1 hgrow1 B1 hi0 hz0 hz1 hz2
  go_loopg [4] N (fun g vi wr => IRel F w w.heap.size g vi wr)
  case atStart => exact ⟨N, by have := HSZ.out; omega, Nat.le_refl _, rfl, by rw [HSZ.out]; exact HO1.out, HB1.out⟩
  case round =>
    obtain ⟨k, hk, hg, rfl, hown, hbel⟩ := hrel
    rw [HSZ.out] at hk hown
    have HG := hide hg
    have HO := hide hown
    have HB := hide hbel
    clear hg hown hbel
    cases k with
    | zero =>
      have ho := HO.out
      rw [HZ.out] at ho
      go_wp2_with fail
      go_ret
      exact ⟨_, rfl, ho, HB.out⟩
    | succ m =>
      have e : (((m + 1 : Nat) : Int) - 1) = (m : Int) := by omega
      rw [e]
      clear e
      obtain ⟨nd, G, a, b, g1, g2, g3, g4, g5, _, _, _, _, _, f1, f2, f3, f4, f5, f6, f7, f8⟩ := HNF.out m (by omega) (m + 1) (Nat.le_refl _)
      have hNr := H.out.below HB.out
      have hL := hNr.load g2
      obtain ⟨V, hV⟩ : ∃ V, V = nodeV nd := ⟨_, rfl⟩
      rw [← hV] at hL
      have hln := HLN.out (m + 1) (by omega)
      have hO := HO.out
      have hcall := fun w' (h' : w'.ownsRow w.heap.size 34 3 (.slice (some ⟨w.heap.size, 0, none⟩) (infosK F (m + 1)).length N) (infosK F (m + 1)).length (inCells (infosK F (m + 1)))) => rul_infoOf nd V hV (infosK F (m + 1)) w.heap.size w.heap.size N w' h' (by rw [hln]; omega) f1 f2 f3 f4 a b g3 g4 f5 f6 f7 f8
      rw [g5, hln] at hcall
      have HST' := hide (HST.out m G g1)
      generalize hgi : infoT G = gi at *
      have HCL := hide hcall
      have hgn := hNr.lt
      clear hcall g2 g3 g4 g5 f1 f2 f3 f4 f5 f6 f7 f8 hV hNr hln hO hgi
      obtain ⟨ix, iy, ir⟩ := gi
      go_wp2_with (refine wp_load_from rfl 95 (.tmp 18) rfl ⟨gn, m * 22, none⟩ V rfl hL ?_)
      refine (HCL.out wr HO.out).mono ?_
      rintro e w2 ⟨rfl, b2⟩
      have hO2 := ownsRow_below HO.out b2
      have hl2 : w.heap.size < w2.heap.size := (hO2.lt w.heap.size rfl).2
      have hin : (inCells (infosK F (m + 1))).length = N * 3 := hO2.1
      have c0 := hO2.cellAt (m * 3) (by omega)
      have c1 := hO2.cellAt (m * 3 + 1) (by omega)
      have c2 := hO2.cellAt (m * 3 + 2) (by omega)
      rw [List.getElem?_eq_getElem (by omega)] at c0 c1 c2
      have z0 := hO2.frozenAt (m * 3)
      have z1 := hO2.frozenAt (m * 3 + 1)
      have z2 := hO2.frozenAt (m * 3 + 2)
      have B2 : Below w.heap.size w w2 := HB.out.trans (b2.mono HB.out.size)
      have HO2 := hide hO2
      have HB2 := hide B2
      generalize (inCells (infosK F (m + 1)))[m * 3] = y0 at c0
      generalize (inCells (infosK F (m + 1)))[m * 3 + 1] = y1 at c1
      generalize (inCells (infosK F (m + 1)))[m * 3 + 2] = y2 at c2
      have HIN := hide hin
      clear hO2 B2 b2 hL HCL hin
      go_wp2_with fail
      have hg1 : 0 < gk := by have := HG.out; omega
      go_roundg (gk - 1)
      case measure => omega
      case rel =>
        refine ⟨m, by have := HSZ.out; omega, by have := HG.out; omega, by first | rfl | go_num, ?_, ?_⟩
        · rw [HSZ.out, HST'.out, inCells_set _ _ (by have := HLN.out (m + 1) (by omega); omega)]
          exact (((HO2.out.stored _ _).1.stored _ _).1.stored _ _).1.alloc _
        · exact (((HB2.out.setCell (Nat.le_refl _) _).setCell (Nat.le_refl _) _).setCell (Nat.le_refl _) _).alloc (by have := HB2.out.size; simp; omega) _
end Go.Proofs.YtiamjjonoeaggaaDoor
