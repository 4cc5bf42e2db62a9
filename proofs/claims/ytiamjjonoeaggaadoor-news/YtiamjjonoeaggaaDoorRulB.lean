import Derived.Test.YtiamjjonoeaggaaDoorRulA
namespace Go.Proofs.YtiamjjonoeaggaaDoor
open Go.RowKit

theorem NodeAt.ofB {w : World} {b : Nat} {n : PNode} {t : TypeId} (h : w.heap[b]? = some (.cells (nodeCs n).toArray t (0, 0))) : NodeAt w b n := by
  refine ⟨fun j hj => ?_, fun o => by simp [World.frozen?, h], (Array.getElem?_eq_some_iff.1 h).1⟩
  rw [cell_of_row w b j _ t _ h]
  simp
set_option maxHeartbeats 1000000 in
theorem rul_hasArg (nd : PNode) (V : Value) (hV : V = nodeV nd) (kd : Int) (hc : 0 ≤ nd.cnt ∧ nd.cnt ≤ 2) (w : World) :
    Calls Tryd.prog 72 #[V, .int .i64 kd] w fun e w' => e = .returned (.bool (hasArgP nd kd)) ∧ Below w.heap.size w w' := by
  have HP : Hid (hasArgP nd kd = ((decide (0 < nd.cnt) && nd.k0 == kd) || (decide (1 < nd.cnt) && nd.k1 == kd))) := hide rfl
  generalize hasArgP nd kd = res at *
  have HV : Hid (V = .agg (nodeCs nd).toArray) := hide hV
  clear hV
  obtain ⟨hc1, hc2⟩ := hc
  go_enter Tryd.func72, Tryd.ntmps72
  go_wp2_with (refine wp_box_to rfl 95 (.tmp 0) rfl V _ rfl HV.out ?_; intro w1 hB hb hs)
  have N1 := NodeAt.ofB hB
  have c14 := N1.cells 14 (by omega)
  have c10 := N1.cells 10 (by omega)
  have c12 := N1.cells 12 (by omega)
  simp only [nodeCs, List.getElem?_cons_zero, List.getElem?_cons_succ] at c14 c10 c12
  have HB := hide hb
  have hs' := hs
  clear hB hb N1 hs
  generalize nd.cnt = cnt at *
  generalize nd.k0 = k0 at *
  generalize nd.k1 = k1 at *
  go_loop [5] (fun v => ∃ k : Nat, k ≤ 2 ∧ (k : Int) ≤ cnt ∧ v = .int .i64 k ∧ Hid ((0 < k → ¬ k0 = kd) ∧ (1 < k → ¬ k1 = kd))) (fun v => 2 - (intOf v).toNat)
  case atStart => exact ⟨0, by omega, by omega, rfl, by unfold Hid; omega⟩
  case round =>
    obtain ⟨k, hk, hkc, rfl, HK⟩ := hrel
    by_cases hlt : (k : Int) < cnt
    · have hk2 : k < 2 := by omega
      rcases (show k = 0 ∨ k = 1 by omega) with rfl | rfl
      · by_cases he : k0 = kd
        · have hr : res = true := by rw [HP.out, he]; simp; omega
          subst hr
          go_wp2_with fail
          go_ret
          exact ⟨rfl, HB.out⟩
        · go_wp2_with fail
          go_round
          case rel => exact ⟨1, by omega, by omega, by go_num, by unfold Hid; exact ⟨fun _ => he, by omega⟩⟩
          case measure => simp [intOf]
      · by_cases he : k1 = kd
        · have hr : res = true := by rw [HP.out, he]; simp; omega
          subst hr
          go_wp2_with fail
          go_ret
          exact ⟨rfl, HB.out⟩
        · go_wp2_with fail
          go_round
          case rel => exact ⟨2, by omega, by omega, by go_num, by unfold Hid; exact ⟨fun _ => HK.out.1 (by omega), fun _ => he⟩⟩
          case measure => simp [intOf]
    · have hr : res = false := by
        have h := HK.out
        rw [HP.out]
        simp only [Bool.or_eq_false_iff, Bool.and_eq_false_iff, decide_eq_false_iff_not, beq_eq_false_iff_ne]
        omega
      subst hr
      go_wp2_with fail
      go_ret
      exact ⟨rfl, HB.out⟩
end Go.Proofs.YtiamjjonoeaggaaDoor
