import Derived.Test.YtiamjjonoeaggaaDoorRefH
namespace Go.Proofs.YtiamjjonoeaggaaDoor
open Go.RowKit

theorem reads_pos {F : Form} {u : List Tok} (h : Reads F u) : 0 < u.length := by
  cases F with
  | nil => exact h.elim
  | node p sp y l r =>
    rcases h with ⟨_, _, _, _, _, q1, q2, q3, x, hx, hb⟩ | ⟨_, hw, _, _, _, v, q1, q2, q3, ul, hv, _, hl, rfl⟩ | ⟨_, hw, _, _, _, q1, q2, q3, ul, ur, hl, hr, rfl⟩ | ⟨_, hw, _, _, hlo, hhi, q1, q2, q3, q4, q5, q6, ul, hl, rfl⟩ | ⟨_, hw, _, hlo, hhi, q1, q2, q3, q4, q5, q6, q7, ul, ur, hl, hr, rfl⟩ | ⟨_, hw, _, _, _, _, _, rfl⟩
    · rcases hb with ⟨_, rfl⟩ | ⟨z, q4, q5, hz, _, rfl⟩ <;> simp
    all_goals simp
def wordOf : Form → List UInt8
  | .nil => []
  | .node _ _ y _ _ => y.word
theorem reads_word {F : Form} {u : List Tok} (h : Reads F u) : hd u = wordOf F := by
  cases F with
  | nil => exact h.elim
  | node p sp y l r =>
    rcases h with ⟨_, _, _, _, _, q1, q2, q3, x, hx, hb⟩ | ⟨_, hw, _, _, _, v, q1, q2, q3, ul, hv, _, hl, rfl⟩ | ⟨_, hw, _, _, _, q1, q2, q3, ul, ur, hl, hr, rfl⟩ | ⟨_, hw, _, _, hlo, hhi, q1, q2, q3, q4, q5, q6, ul, hl, rfl⟩ | ⟨_, hw, _, hlo, hhi, q1, q2, q3, q4, q5, q6, q7, ul, ur, hl, hr, rfl⟩ | ⟨_, hw, _, _, _, _, _, rfl⟩
    · rcases hb with ⟨_, rfl⟩ | ⟨z, q4, q5, hz, _, rfl⟩ <;> rfl
    all_goals rfl
theorem op_notleaf {t : List UInt8} (hn : isNameB t = false) (h : opWord t = true) : leafW t = false := by
  have hc := op_cases h
  unfold leafW
  rw [hn, Bool.or_false]
  simp only [List.mem_cons, List.not_mem_nil, or_false] at hc
  rcases hc with rfl | rfl | rfl | rfl | rfl | rfl | rfl | rfl | rfl | rfl | rfl | rfl <;> decide
theorem leaf_kids {F : Form} {u : List Tok} (h : Reads F u) (hlf : leafW (hd u) = true) : kids F = [] := by
  cases F with
  | nil => exact h.elim
  | node p sp y l r =>
    rcases h with ⟨hn, _, _, rfl, rfl, _⟩ | ⟨hn, hw, _, _, _, v, q1, q2, q3, ul, hv, _, hl, rfl⟩ | ⟨hn, hw, _, _, _, q1, q2, q3, ul, ur, hl, hr, rfl⟩ | ⟨hn, hw, _, _, hlo, hhi, q1, q2, q3, q4, q5, q6, ul, hl, rfl⟩ | ⟨hn, hw, _, hlo, hhi, q1, q2, q3, q4, q5, q6, q7, ul, ur, hl, hr, rfl⟩ | ⟨_, hw, _, _, _, rfl, rfl, rfl⟩
    · rfl
    · have : opWord y.word = true := by unfold opWord; rw [hw]; rfl
      rw [show hd _ = y.word from rfl, op_notleaf hn this] at hlf
      simp at hlf
    · rw [show hd _ = y.word from rfl, op_notleaf hn (op_plain hw)] at hlf
      simp at hlf
    · rw [show hd _ = y.word from rfl, op_notleaf hn (op_one hw)] at hlf
      simp at hlf
    · rw [show hd _ = y.word from rfl, op_notleaf hn (op_two hw)] at hlf
      simp at hlf
    · rfl
theorem open_lt {F : Form} {u : List Tok} (h : Reads F u) (hlf : leafW (hd u) = false) : openI u < u.length := by
  rcases kids_reads h hlf with ⟨l, ul, a, _, hr, hc, _, h1, _⟩ | ⟨l, r, ul, ur, a, a', _, hr, _, hc, _, _, h1, h2, _⟩
  · rcases Nat.lt_or_ge (openI u) u.length with g | g
    · exact g
    · rw [List.drop_of_length_le (by omega)] at hc
      simp [cuts] at hc
  · rcases Nat.lt_or_ge (openI u) u.length with g | g
    · exact g
    · rw [List.drop_of_length_le (by omega)] at hc
      simp [cuts] at hc
theorem sub_frm {w : World} {b o cap : Nat} {u ul : List Tok} {a : Nat} (h : FrmV w (.agg #[.slice (some ⟨b, o, none⟩) u.length cap]) u) (hs : (u.drop a).take ul.length = ul) (ha : a + ul.length < u.length) (h0 : 0 < ul.length) : FrmV w (.agg #[cutV b o cap (a, a + ul.length)]) ul := by
  obtain ⟨b', o', cap', e, h1, h2, h3, h4, h5, h6⟩ := frm_open h
  simp at e
  obtain ⟨⟨rfl, rfl⟩, rfl⟩ := e
  have hv : cutV b o cap (a, a + ul.length) = .slice (some ⟨b, o + a * 2, none⟩) ul.length (cap - a) := by simp [cutV]
  rw [hv]
  refine ⟨b, o + a * 2, cap - a, rfl, .inr ⟨b, o + a * 2, cap - a, rfl, by omega, by omega, h3, fun i hi => ?_⟩, h0, by omega⟩
  have hg : ul[i] = u[a + i]'(by omega) := by
    have : ul[i]? = u[a + i]? := by
      rw [← hs, List.getElem?_take_of_lt hi, List.getElem?_drop]
    rw [List.getElem?_eq_getElem hi, List.getElem?_eq_getElem (by omega)] at this
    exact Option.some.inj this
  have := h6 (a + i) (by omega)
  rw [hg, show o + a * 2 + i * 2 = o + (a + i) * 2 from by omega]
  exact this
theorem mem_cut {u ul : List Tok} {a : Nat} (hs : (u.drop a).take ul.length = ul) : ∀ t ∈ ul, t ∈ u := by
  intro t ht
  rw [← hs] at ht
  exact List.mem_of_mem_drop (List.mem_of_mem_take ht)
theorem ref_parts (F : Form) (u : List Tok) (v : Value) (w : World) (hR : Reads F u) (hF : FrmV w v u) :
    Calls Tryd.prog 24 #[v] w fun e w' => ∃ (v' : Value) (ks : List (Form × List Tok)), e = .returned v' ∧ ks.map Prod.fst = kids F ∧ (∀ k ∈ ks, Reads k.1 k.2 ∧ ∀ t ∈ k.2, t ∈ u) ∧ KidSl w' v' (ks.map Prod.snd) ∧ Below w.heap.size w w' := by
  cases hlf : leafW (hd u) with
  | true =>
    refine (ref_parts_leaf v u w hF hlf).mono ?_
    rintro e w' ⟨rfl, hb⟩
    exact ⟨_, [], rfl, (leaf_kids hR hlf).symm, by simp, .inl ⟨rfl, rfl⟩, hb⟩
  | false =>
    obtain ⟨b, o, cap, rfl, _⟩ := frm_open hF
    refine (ref_parts_cuts b o cap u w hF hlf (open_lt hR hlf)).mono ?_
    rintro e w' ⟨v', rfl, hown, hb⟩
    have hF' := hF.below hb
    rcases kids_reads hR hlf with ⟨l, ul, a, hk, hr, hc, hs, h1, _⟩ | ⟨l, r, ul, ur, a, a', hk, hr, hr', hc, hs, hs', h1, h2, _⟩
    · rw [hc] at hown
      refine ⟨v', [(l, ul)], rfl, hk.symm, by simp only [List.mem_singleton]; rintro k rfl; exact ⟨hr, mem_cut hs⟩, ?_, hb⟩
      obtain ⟨_, h⟩ := id hown
      rcases h with ⟨_, hn⟩ | ⟨g, cp, cur, rfl, e2, e3, e4, e5, e6, e7⟩
      · simp at hn
      · have hlt : g < w'.heap.size := by
          rcases Nat.lt_or_ge g w'.heap.size with h' | h'
          · exact h'
          · simp [Array.getElem?_eq_none h'] at e3
        refine .inr ⟨g, 0, cp, rfl, e4, e5, hlt, fun j hj => ?_⟩
        simp at hj
        subst hj
        exact ⟨_, hown.cellAt 0 (by simp), sub_frm hF' hs h1 (reads_pos hr)⟩
    · rw [hc] at hown
      refine ⟨v', [(l, ul), (r, ur)], rfl, hk.symm, by simp only [List.mem_cons, List.not_mem_nil, or_false]; rintro k (rfl | rfl) <;> first | exact ⟨hr, mem_cut hs⟩ | exact ⟨hr', mem_cut hs'⟩, ?_, hb⟩
      obtain ⟨_, h⟩ := id hown
      rcases h with ⟨_, hn⟩ | ⟨g, cp, cur, rfl, e2, e3, e4, e5, e6, e7⟩
      · simp at hn
      · have hlt : g < w'.heap.size := by
          rcases Nat.lt_or_ge g w'.heap.size with h' | h'
          · exact h'
          · simp [Array.getElem?_eq_none h'] at e3
        refine .inr ⟨g, 0, cp, rfl, e4, e5, hlt, fun j hj => ?_⟩
        simp at hj
        rcases (by omega : j = 0 ∨ j = 1) with rfl | rfl
        · exact ⟨_, hown.cellAt 0 (by simp), sub_frm hF' hs (by omega) (reads_pos hr)⟩
        · exact ⟨_, hown.cellAt 1 (by simp), sub_frm hF' hs' h2 (reads_pos hr')⟩
end Go.Proofs.YtiamjjonoeaggaaDoor
