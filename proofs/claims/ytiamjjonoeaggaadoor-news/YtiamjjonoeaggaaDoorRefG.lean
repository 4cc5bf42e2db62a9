import Derived.Test.YtiamjjonoeaggaaDoorRefF
import Derived.Test.YtiamjjonoeaggaaDoorCuts
namespace Go.Proofs.YtiamjjonoeaggaaDoor
open Go.RowKit

/-- A formula that lies in memory. -/
def FrmV (w : World) (v : Value) (u : List Tok) : Prop := ∃ b o cap, v = .agg #[.slice (some ⟨b, o, none⟩) u.length cap] ∧ TokSl w (.slice (some ⟨b, o, none⟩) u.length cap) u ∧ 0 < u.length ∧ u.length ≤ 1000
theorem frm_open {w : World} {v : Value} {u : List Tok} (h : FrmV w v u) : ∃ b o cap, v = .agg #[.slice (some ⟨b, o, none⟩) u.length cap] ∧ u.length ≤ cap ∧ cap ≤ maxLen ∧ b < w.heap.size ∧ 0 < u.length ∧ u.length ≤ 1000 ∧ ∀ i (h : i < u.length), w.cell? ⟨b, o + i * 2, none⟩ = some (bs (u[i]).text) ∧ w.cell? ⟨b, o + i * 2 + 1, none⟩ = some (.int .i64 (u[i]).pos) := by
  obtain ⟨b, o, cap, rfl, ht, h0, h1⟩ := h
  rcases ht with ⟨e, _⟩ | ⟨b', o', cap', e, c1, c2, c3, c4⟩
  · simp at e
  · simp at e
    obtain ⟨⟨rfl, rfl⟩, rfl⟩ := e
    exact ⟨_, _, _, rfl, c1, c2, c3, h0, h1, c4⟩
theorem FrmV.below {w w' : World} {v : Value} {u : List Tok} (h : FrmV w v u) (hb : Below w.heap.size w w') : FrmV w' v u := by
  obtain ⟨b, o, cap, e, ht, h0, h1⟩ := h
  exact ⟨b, o, cap, e, ht.below hb (Nat.le_refl _), h0, h1⟩
theorem hd_zero {u : List Tok} (h : 0 < u.length) : (u[0]).text = hd u := by
  cases u with
  | nil => simp at h
  | cons t r => rfl

theorem ref_word (v : Value) (u : List Tok) (w : World) (h : FrmV w v u) :
    Calls Tryd.prog 25 #[v] w fun e w' => e = .returned (bs (hd u)) ∧ Below w.heap.size w w' := by
  obtain ⟨b, o, cap, rfl, h1, h2, h3, h4, h5, h6⟩ := frm_open h
  have hc := (h6 0 h4).1
  rw [hd_zero h4] at hc
  simp only [Nat.zero_mul, Nat.add_zero] at hc
  clear h6 h
  generalize hd u = t at *
  unfold maxLen at h2
  go_enter Tryd.func25, Tryd.ntmps25
  go_wp2_with fail
  go_ret
  exact ⟨rfl, (Below.refl _ _).alloc (Nat.le_refl _) _⟩

theorem open_find {u : List Tok} {k : Nat} (hk : k < u.length) (hb : ∀ j (h : j < u.length), j < k → ((u[j]).text == [40]) = false) (he : ((u[k]).text == [40]) = true) : openI u = k := by
  unfold openI
  rw [List.findIdx_eq hk]
  exact ⟨he, fun j hj => by have := hb j (by omega) hj; simp [this]⟩
set_option maxHeartbeats 400000 in
theorem ref_open (v : Value) (u : List Tok) (w : World) (h : FrmV w v u) :
    Calls Tryd.prog 44 #[v] w fun e w' => e = .returned (.int .i64 (openI u)) ∧ Below w.heap.size w w' := by
  obtain ⟨b, o, cap, rfl, h1, h2, h3, h4, h5, h6⟩ := frm_open h
  have H6 := hide h6
  clear h6 h
  unfold maxLen at h2
  go_enter Tryd.func44, Tryd.ntmps44
  go_wp2_with fail
  go_loop [3] (fun i => ∃ k : Nat, k ≤ u.length ∧ i = .int .i64 k ∧ Hid (∀ j (h : j < u.length), j < k → ((u[j]).text == [40]) = false)) (fun i => u.length - (intOf i).toNat)
  case atStart => exact ⟨0, Nat.zero_le _, rfl, fun j _ hj => absurd hj (by omega)⟩
  case round =>
    obtain ⟨k, hk, rfl, HF⟩ := hrel
    by_cases hlt : k < u.length
    · have hck := (H6.out k hlt).1
      cases he : ((u[k]).text == [40]) with
      | true =>
        have HE := hide (open_find hlt HF.out he)
        generalize (u[k]).text = t at *
        go_wp2_with fail
        go_ret
        exact ⟨ret_int (by rw [HE.out]), (Below.refl _ _).alloc (Nat.le_refl _) _⟩
      | false =>
        have HE := hide he
        generalize ht : (u[k]).text = t at *
        have HT := hide ht
        clear ht
        go_wp2_with fail
        go_round
        case rel =>
          refine ⟨k + 1, by omega, by go_num, fun j hj hjk => ?_⟩
          rcases Nat.lt_or_ge j k with g | g
          · exact HF.out j hj g
          · have : j = k := by omega
            subst this
            rw [HT.out]
            exact HE.out
        case measure => simp [intOf]; omega
    · have HE : Hid (openI u = u.length) := by
        unfold Hid openI
        rw [List.findIdx_eq_length]
        intro x hx
        obtain ⟨j, hj, rfl⟩ := List.mem_iff_getElem.1 hx
        have := HF.out j hj (by omega)
        simp [this]
      go_wp2_with fail
      go_ret
      exact ⟨ret_int (by rw [HE.out]), (Below.refl _ _).alloc (Nat.le_refl _) _⟩
end Go.Proofs.YtiamjjonoeaggaaDoor
