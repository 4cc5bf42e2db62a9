import Derived.Test.YtiamjjonoeaggaaDoorRefK
namespace Go.Proofs.YtiamjjonoeaggaaDoor
open Go.RowKit

/-- It and the FORMULAs in it, in the order of the text. -/
def subsF : Form → List Form
  | .nil => []
  | .node p sp y l r => .node p sp y l r :: (subsF l ++ subsF r)
theorem subs_kids {p sp : Nat} {y : Pay} {l r : Form} {u : List Tok} (h : Reads (.node p sp y l r) u) : subsF (.node p sp y l r) = .node p sp y l r :: (kids (.node p sp y l r)).flatMap subsF := by
  have e : subsF (.node p sp y l r) = .node p sp y l r :: (subsF l ++ subsF r) := rfl
  rw [e]
  rcases h with ⟨hn, _, _, rfl, rfl, _⟩ | ⟨hn, hw, _, _, rfl, v, q1, q2, q3, ul, hv, _, hl, rfl⟩ | ⟨hn, hw, _, _, _, q1, q2, q3, ul, ur, hl, hr, rfl⟩ | ⟨hn, hw, _, rfl, hlo, hhi, q1, q2, q3, q4, q5, q6, ul, hl, rfl⟩ | ⟨hn, hw, _, hlo, hhi, q1, q2, q3, q4, q5, q6, q7, ul, ur, hl, hr, rfl⟩ | ⟨_, hw, _, _, _, rfl, rfl, rfl⟩
  · rfl
  · rw [kids_one hl]; simp [subsF]
  · rw [kids_two hl hr]; simp
  · rw [kids_one hl]; simp [subsF]
  · rw [kids_two hl hr]; simp
  · rfl
theorem subs_len : ∀ (F : Form) (u : List Tok), Reads F u → (subsF F).length ≤ u.length := by
  intro F
  induction F with
  | nil => intro u h; exact h.elim
  | node p sp y l r ihl ihr =>
    intro u h
    have e : (subsF (.node p sp y l r)).length = (subsF l).length + (subsF r).length + 1 := by simp [subsF]
    have hR := h
    rw [e]
    have hnil : (subsF (.nil : Form)).length = 0 := rfl
    rcases h with ⟨hn, _, _, rfl, rfl, _⟩ | ⟨hn, hw, _, _, rfl, v, q1, q2, q3, ul, hv, _, hl, rfl⟩ | ⟨hn, hw, _, _, _, q1, q2, q3, ul, ur, hl, hr, rfl⟩ | ⟨hn, hw, _, rfl, hlo, hhi, q1, q2, q3, q4, q5, q6, ul, hl, rfl⟩ | ⟨hn, hw, _, hlo, hhi, q1, q2, q3, q4, q5, q6, q7, ul, ur, hl, hr, rfl⟩ | ⟨_, hw, _, _, _, rfl, rfl, rfl⟩
    · have := reads_pos hR; rw [hnil]; omega
    · have := ihl ul hl; rw [hnil]; simp; omega
    · have := ihl ul hl; have := ihr ur hr; simp; omega
    · have := ihl ul hl; rw [hnil]; simp; omega
    · have := ihl ul hl; have := ihr ur hr; simp; omega
    · rw [hnil]; simp

/-- A formula whose tokens lie in block b. -/
def FrmB (b : Nat) (w : World) (v : Value) (u : List Tok) : Prop := ∃ o cap, v = .agg #[.slice (some ⟨b, o, none⟩) u.length cap] ∧ TokSl w (.slice (some ⟨b, o, none⟩) u.length cap) u ∧ 0 < u.length ∧ u.length ≤ 1000
theorem FrmB.frm {b : Nat} {w : World} {v : Value} {u : List Tok} (h : FrmB b w v u) : FrmV w v u := by
  obtain ⟨o, cap, h⟩ := h
  exact ⟨b, o, cap, h⟩
theorem frm_b {w : World} {v : Value} {u : List Tok} (h : FrmV w v u) : ∃ b, FrmB b w v u ∧ b < w.heap.size := by
  obtain ⟨b, o, cap, e, h1, h2, h3, h4, h5, h6⟩ := frm_open h
  obtain ⟨b', o', cap', e', h⟩ := h
  rw [e] at e'
  simp at e'
  obtain ⟨⟨rfl, rfl⟩, rfl⟩ := e'
  exact ⟨b, ⟨o, cap, e, h⟩, h3⟩
theorem FrmB.keep {b B : Nat} {w w' : World} {v : Value} {u : List Tok} (h : FrmB b w v u) (hb : Below B w w') (hB : b < B) : FrmB b w' v u := by
  obtain ⟨o, cap, e, ht, h0, h1⟩ := h
  refine ⟨o, cap, e, ?_, h0, h1⟩
  rcases ht with ⟨e, _⟩ | ⟨b', o', cap', e, c1, c2, c3, c4⟩
  · simp at e
  · simp at e
    obtain ⟨⟨rfl, rfl⟩, rfl⟩ := e
    refine .inr ⟨b, o, cap, rfl, c1, c2, Nat.lt_of_lt_of_le c3 hb.size, fun i hi => ?_⟩
    rw [bcell hb b _ hB, bcell hb b _ hB]
    exact c4 i hi
def KidB (b : Nat) (w : World) (v : Value) (us : List (List Tok)) : Prop :=
  (v = .slice none 0 0 ∧ us = []) ∨ ∃ g o cap, v = .slice (some ⟨g, o, none⟩) us.length cap ∧ us.length ≤ cap ∧ cap ≤ maxLen ∧ g < w.heap.size ∧ ∀ j (h : j < us.length), ∃ x, w.cell? ⟨g, o + j, none⟩ = some x ∧ FrmB b w (.agg #[x]) us[j]
theorem KidB.sl {b : Nat} {w : World} {v : Value} {us : List (List Tok)} (h : KidB b w v us) : KidSl w v us := by
  rcases h with h | ⟨g, o, cap, e, h1, h2, h3, h4⟩
  · exact .inl h
  · refine .inr ⟨g, o, cap, e, h1, h2, h3, fun j hj => ?_⟩
    obtain ⟨x, hx, hf⟩ := h4 j hj
    exact ⟨x, hx, hf.frm⟩
theorem KidB.keep {b B : Nat} {w w' : World} {v : Value} {us : List (List Tok)} (h : KidB b w v us) (hb : Below B w w') (hB : b < B) (hB2 : w.heap.size ≤ B) : KidB b w' v us := by
  rcases h with h | ⟨g, o, cap, e, h1, h2, h3, h4⟩
  · exact .inl h
  · refine .inr ⟨g, o, cap, e, h1, h2, Nat.lt_of_lt_of_le h3 hb.size, fun j hj => ?_⟩
    obtain ⟨x, hx, hf⟩ := h4 j hj
    exact ⟨x, by rw [bcell hb g _ (by omega)]; exact hx, hf.keep hb hB⟩
theorem sub_frmB {w : World} {b o cap : Nat} {u ul : List Tok} {a : Nat} (h : FrmV w (.agg #[.slice (some ⟨b, o, none⟩) u.length cap]) u) (hs : (u.drop a).take ul.length = ul) (ha : a + ul.length < u.length) (h0 : 0 < ul.length) : FrmB b w (.agg #[cutV b o cap (a, a + ul.length)]) ul := by
  have hv : cutV b o cap (a, a + ul.length) = .slice (some ⟨b, o + a * 2, none⟩) ul.length (cap - a) := by simp [cutV]
  obtain ⟨b', o', cap', e, h⟩ := sub_frm h hs ha h0
  rw [hv] at e
  simp at e
  obtain ⟨⟨rfl, rfl⟩, rfl⟩ := e
  exact ⟨_, _, by rw [hv], h⟩
theorem ref_parts_b (F : Form) (u : List Tok) (v : Value) (w : World) (b : Nat) (hR : Reads F u) (hB : FrmB b w v u) (_hbl : b < w.heap.size) :
    Calls Tryd.prog 24 #[v] w fun e w' => ∃ (v' : Value) (ks : List (Form × List Tok)), e = .returned v' ∧ ks.map Prod.fst = kids F ∧ (∀ k ∈ ks, Reads k.1 k.2 ∧ ∀ t ∈ k.2, t ∈ u) ∧ KidB b w' v' (ks.map Prod.snd) ∧ Below w.heap.size w w' := by
  have hF := hB.frm
  cases hlf : leafW (hd u) with
  | true =>
    refine (ref_parts_leaf v u w hF hlf).mono ?_
    rintro e w' ⟨rfl, hb⟩
    exact ⟨_, [], rfl, (leaf_kids hR hlf).symm, by simp, .inl ⟨rfl, rfl⟩, hb⟩
  | false =>
    obtain ⟨o, cap, rfl, _⟩ := hB
    refine (ref_parts_cuts b o cap u w hF hlf (open_lt hR hlf)).mono ?_
    rintro e w' ⟨v', rfl, hown, hb⟩
    have hF' := hF.below hb
    rcases kids_reads hR hlf with ⟨l, ul, a, hk, hr, hc, hs, h1, _⟩ | ⟨l, r, ul, ur, a, a', hk, hr, hr', hc, hs, hs', h1, h2, _⟩
    · rw [hc] at hown
      refine ⟨v', [(l, ul)], rfl, hk.symm, by simp only [List.mem_singleton]; rintro k rfl; exact ⟨hr, mem_cut hs⟩, ?_, hb⟩
      obtain ⟨_, h⟩ := id hown
      rcases h with ⟨_, hn⟩ | ⟨g, cp, cur, rfl, e2, e3, e4, e5, e6, e7⟩
      · simp at hn
      · have hlt : g < w'.heap.size := by
          rcases Nat.lt_or_ge g w'.heap.size with h' | h'
          · exact h'
          · simp [Array.getElem?_eq_none h'] at e3
        refine .inr ⟨g, 0, cp, rfl, e4, e5, hlt, fun j hj => ?_⟩
        simp at hj
        subst hj
        exact ⟨_, hown.cellAt 0 (by simp), sub_frmB hF' hs h1 (reads_pos hr)⟩
    · rw [hc] at hown
      refine ⟨v', [(l, ul), (r, ur)], rfl, hk.symm, by simp only [List.mem_cons, List.not_mem_nil, or_false]; rintro k (rfl | rfl) <;> first | exact ⟨hr, mem_cut hs⟩ | exact ⟨hr', mem_cut hs'⟩, ?_, hb⟩
      obtain ⟨_, h⟩ := id hown
      rcases h with ⟨_, hn⟩ | ⟨g, cp, cur, rfl, e2, e3, e4, e5, e6, e7⟩
      · simp at hn
      · have hlt : g < w'.heap.size := by
          rcases Nat.lt_or_ge g w'.heap.size with h' | h'
          · exact h'
          · simp [Array.getElem?_eq_none h'] at e3
        refine .inr ⟨g, 0, cp, rfl, e4, e5, hlt, fun j hj => ?_⟩
        simp at hj
        rcases (by omega : j = 0 ∨ j = 1) with rfl | rfl
        · exact ⟨_, hown.cellAt 0 (by simp), sub_frmB hF' hs (by omega) (reads_pos hr)⟩
        · exact ⟨_, hown.cellAt 1 (by simp), sub_frmB hF' hs' h2 (reads_pos hr')⟩
theorem kidB_get {b : Nat} {w : World} {a : Option Addr} {n c : Nat} {ks : List (Form × List Tok)} {k : Nat} (h : KidB b w (.slice a n c) (ks.map Prod.snd)) (hk : k < ks.length) : ∃ g o x, a = some ⟨g, o, none⟩ ∧ w.cell? ⟨g, o + k, none⟩ = some x ∧ FrmB b w (.agg #[x]) (ks[k]).2 := by
  rcases h with ⟨_, h⟩ | ⟨g, o, c', e, h1, h2, h3, h4⟩
  · simp at h
    subst h
    simp at hk
  · simp at e
    obtain ⟨rfl, rfl, rfl⟩ := e
    obtain ⟨x, hx, hf⟩ := h4 k (by simpa using hk)
    refine ⟨g, o, x, rfl, hx, ?_⟩
    rw [List.getElem_map] at hf
    exact hf

/-- A list of formulas that the call itself has made. -/
def KidOwn (b : Nat) (w : World) (base : Nat) (v : Value) (ks : List (Form × List Tok)) : Prop := ∃ xs : List Value, xs.length = ks.length ∧ w.ownsRow base 49 1 v ks.length xs ∧ ∀ j (h : j < ks.length) (h' : j < xs.length), FrmB b w (.agg #[xs[j]]) (ks[j]).2
theorem frm_one {w : World} {x : Value} {u : List Tok} (h : FrmV w (.agg #[x]) u) : x.oneCell' = true := by
  obtain ⟨b, o, cap, e, _⟩ := h
  simp at e
  rw [e]
  rfl
theorem kidOwn_sl {b : Nat} {w : World} {base : Nat} {v : Value} {ks : List (Form × List Tok)} (h : KidOwn b w base v ks) : KidSl w v (ks.map Prod.snd) := by
  obtain ⟨xs, hl, hown, hf⟩ := h
  obtain ⟨h1, h2⟩ := id hown
  rcases h2 with ⟨e, hn⟩ | ⟨g, cap, cur, rfl, e2, e3, e4, e5, e6, e7⟩
  · exact .inl ⟨e, by rw [List.length_eq_zero_iff.1 hn]; rfl⟩
  · have hlt : g < w.heap.size := by
      rcases Nat.lt_or_ge g w.heap.size with h' | h'
      · exact h'
      · simp [Array.getElem?_eq_none h'] at e3
    refine .inr ⟨g, 0, cap, by simp, by simpa using e4, e5, hlt, fun j hj => ?_⟩
    simp at hj
    refine ⟨xs[j]'(by omega), ?_, ?_⟩
    · rw [Nat.zero_add, hown.cellAt j (by omega), List.getElem?_eq_getElem (by omega)]
    · rw [List.getElem_map]; exact (hf j hj (by omega)).frm
theorem KidOwn.below {b : Nat} {w w' : World} {base : Nat} {v : Value} {ks : List (Form × List Tok)} (h : KidOwn b w base v ks) (hb : Below w.heap.size w w') (hB : b < w.heap.size) : KidOwn b w' base v ks := by
  obtain ⟨xs, hl, hown, hf⟩ := h
  exact ⟨xs, hl, ownsRow_below hown hb, fun j h h' => (hf j h h').keep hb hB⟩
theorem kidOwn_mono {b : Nat} {w : World} {B B' : Nat} {v : Value} {ks : List (Form × List Tok)} (h : KidOwn b w B v ks) (hB : B' ≤ B) : KidOwn b w B' v ks := by
  obtain ⟨xs, hl, ⟨h1, h2⟩, hf⟩ := h
  refine ⟨xs, hl, ⟨h1, ?_⟩, hf⟩
  rcases h2 with h2 | ⟨g, cap, cur, e1, e2, e3⟩
  · exact .inl h2
  · exact .inr ⟨g, cap, cur, e1, by omega, e3⟩
theorem own_addr {w : World} {B n : Nat} {v : Value} {xs : List Value} (h : w.ownsRow B 49 1 v n xs) (hn : 0 < n) : ∃ g c, v = .slice (some ⟨g, 0, none⟩) n c ∧ ∀ j u, xs[j]? = some u → w.cell? ⟨g, 0 + j, none⟩ = some u := by
  obtain ⟨h1, h2⟩ := id h
  rcases h2 with ⟨_, h2⟩ | ⟨g, cap, cur, rfl, e2, e3, e4, e5, e6, e7⟩
  · omega
  · refine ⟨g, cap, rfl, fun j u hj => ?_⟩
    have hlt : j < xs.length := by
      rcases Nat.lt_or_ge j xs.length with g | g
      · exact g
      · rw [List.getElem?_eq_none g] at hj; exact absurd hj (by simp)
    rw [Nat.zero_add, h.cellAt j (by omega)]
    exact hj
theorem subs_pos {F : Form} {u : List Tok} (h : Reads F u) : 0 < (subsF F).length := by
  cases F with
  | nil => exact h.elim
  | node => simp [subsF]
def ARel (b : Nat) (w1 : World) (vlit : Value) (u : List Tok) (F : Form) (ps : List (Form × List Tok)) (vo vi : Value) (wr : World) : Prop :=
  ∃ (k : Nat) (acc : List (Form × List Tok)), k ≤ ps.length ∧ vi = .int .i64 k ∧ acc.map Prod.fst = F :: ((ps.take k).map Prod.fst).flatMap subsF ∧ (∀ a ∈ acc, Reads a.1 a.2 ∧ ∀ t ∈ a.2, t ∈ u) ∧ ((k = 0 ∧ acc = [(F, u)] ∧ vo = vlit) ∨ KidOwn b wr w1.heap.size vo acc) ∧ Below w1.heap.size w1 wr
theorem arel_next {b : Nat} {w1 w3 : World} {vlit : Value} {u : List Tok} {F : Form} {ps acc ms : List (Form × List Tok)} {k : Nat} {v3 : Value} {xs ys : List Value} (hk : k < ps.length) (hacc : acc.map Prod.fst = F :: ((ps.take k).map Prod.fst).flatMap subsF) (ha : ∀ a ∈ acc, Reads a.1 a.2 ∧ ∀ t ∈ a.2, t ∈ u)
    (hm : ms.map Prod.fst = subsF (ps[k]).1) (hma : ∀ a ∈ ms, Reads a.1 a.2 ∧ ∀ t ∈ a.2, t ∈ u) (hxl : xs.length = acc.length) (hyl : ys.length = ms.length) (hown : w3.ownsRow w1.heap.size 49 1 v3 (acc.length + ms.length) (xs ++ ys)) (hx : ∀ j (h : j < acc.length) (h' : j < xs.length), FrmB b w3 (.agg #[xs[j]]) (acc[j]).2) (hy : ∀ j (h : j < ms.length) (h' : j < ys.length), FrmB b w3 (.agg #[ys[j]]) (ms[j]).2) (hb : Below w1.heap.size w1 w3) :
    ARel b w1 vlit u F ps v3 (.int .i64 ((k : Int) + 1)) w3 := by
  refine ⟨k + 1, acc ++ ms, hk, by simp, ?_, ?_, (.inr ⟨xs ++ ys, by simp [hxl, hyl], by rw [List.length_append]; exact hown, ?_⟩), hb⟩
  · rw [List.map_append, hacc, hm, List.take_succ_eq_append_getElem hk, List.map_append, List.flatMap_append]
    simp only [List.map_cons, List.map_nil, List.flatMap_cons, List.flatMap_nil, List.append_nil, List.cons_append]
  · intro a hm'
    rcases List.mem_append.1 hm' with h | h
    · exact ha a h
    · exact hma a h
  · intro j h h'
    rcases Nat.lt_or_ge j acc.length with g | g
    · rw [List.getElem_append_left (by omega), List.getElem_append_left g]
      exact hx j g (by omega)
    · rw [List.getElem_append_right (by omega), List.getElem_append_right g]
      simp only [List.length_append] at h
      have := hy (j - acc.length) (by omega) (by omega)
      simpa [hxl] using this

theorem all_next {b : Nat} {w1 w3 w4 : World} {vlit v4 : Value} {u : List Tok} {F : Form} {ps acc ms : List (Form × List Tok)} {k : Nat} {xs ys : List Value} (hk : Hid (k < ps.length)) (hacc : Hid (acc.map Prod.fst = F :: ((ps.take k).map Prod.fst).flatMap subsF)) (ha : Hid (∀ a ∈ acc, Reads a.1 a.2 ∧ ∀ t ∈ a.2, t ∈ u))
    (hm : Hid (ms.map Prod.fst = subsF (ps[k]'hk.out).1)) (hma : Hid (∀ a ∈ ms, Reads a.1 a.2 ∧ ∀ t ∈ a.2, t ∈ (ps[k]'hk.out).2)) (hyl : ys.length = ms.length) (hxl : xs.length = acc.length) (hown : w4.ownsRow w1.heap.size 49 1 v4 (acc.length + ms.length) (xs ++ ys)) (hx : Hid (∀ j (h : j < acc.length) (h' : j < xs.length), FrmB b w3 (.agg #[xs[j]]) (acc[j]).2)) (hy : Hid (∀ j (h : j < ms.length) (h' : j < ys.length), FrmB b w3 (.agg #[ys[j]]) (ms[j]).2))
    (hsub : Hid (∀ t ∈ (ps[k]'hk.out).2, t ∈ u)) (h13 : Below w1.heap.size w1 w3) (hb4 : Below w1.heap.size w1 w4) (hb : b < w1.heap.size) : ARel b w1 vlit u F ps v4 (.int .i64 ((k : Int) + 1)) w4 := by
  have h34 : ∀ {v : Value} {u : List Tok}, FrmB b w3 v u → FrmB b w4 v u := by
    intro v u h
    obtain ⟨o, cap, e, ht, h0, h1⟩ := h
    refine ⟨o, cap, e, ?_, h0, h1⟩
    rcases ht with ⟨e, _⟩ | ⟨b', o', cap', e, c1, c2, c3, c4⟩
    · simp at e
    · simp at e
      obtain ⟨⟨rfl, rfl⟩, rfl⟩ := e
      refine .inr ⟨b, o, cap, rfl, c1, c2, Nat.lt_of_lt_of_le hb hb4.size, fun i hi => ?_⟩
      rw [bcell hb4 b _ hb, bcell hb4 b _ hb, ← bcell h13 b _ hb, ← bcell h13 b _ hb]
      exact c4 i hi
  exact arel_next hk.out hacc.out ha.out hm.out (fun a h => ⟨(hma.out a h).1, fun t ht => hsub.out t ((hma.out a h).2 t ht)⟩) hxl hyl hown (fun j h h' => h34 (hx.out j h h')) (fun j h h' => h34 (hy.out j h h')) hb4
theorem all_first {b : Nat} {w1 w3 w4 : World} {vlit v4 : Value} {u : List Tok} {F : Form} {ps acc ms : List (Form × List Tok)} {k : Nat} {xs ys : List Value} (ha0 : Hid (acc = [(F, u)])) (hk : Hid (k < ps.length)) (hacc : Hid (acc.map Prod.fst = F :: ((ps.take k).map Prod.fst).flatMap subsF)) (ha : Hid (∀ a ∈ acc, Reads a.1 a.2 ∧ ∀ t ∈ a.2, t ∈ u))
    (hm : Hid (ms.map Prod.fst = subsF (ps[k]'hk.out).1)) (hma : Hid (∀ a ∈ ms, Reads a.1 a.2 ∧ ∀ t ∈ a.2, t ∈ (ps[k]'hk.out).2)) (hyl : ys.length = ms.length) (hxl : xs.length = [(F, u)].length) (hown : w4.ownsRow w3.heap.size 49 1 v4 (1 + ms.length) (xs ++ ys)) (hx : Hid (∀ j (h : j < [(F, u)].length) (h' : j < xs.length), FrmB b w3 (.agg #[xs[j]]) ([(F, u)][j]).2)) (hy : Hid (∀ j (h : j < ms.length) (h' : j < ys.length), FrmB b w3 (.agg #[ys[j]]) (ms[j]).2))
    (hsub : Hid (∀ t ∈ (ps[k]'hk.out).2, t ∈ u)) (h34 : Below w3.heap.size w3 w4) (h13 : Below w1.heap.size w1 w3) (hb : b < w1.heap.size) : ARel b w1 vlit u F ps v4 (.int .i64 ((k : Int) + 1)) w4 := by
  have := ha0.out
  subst this
  have hb4 := h13.trans (h34.mono h13.size)
  refine all_next hk hacc ha hm hma hyl hxl ?_ hx hy hsub h13 hb4 hb
  obtain ⟨g1, g2⟩ := hown
  refine ⟨g1, ?_⟩
  rcases g2 with g2 | ⟨g, cap, cur, e1, e2, e3⟩
  · exact .inl g2
  · exact .inr ⟨g, cap, cur, e1, Nat.le_trans h13.size e2, e3⟩
theorem all_end {b : Nat} {w w1 wr : World} {v vlit : Value} {u : List Tok} {F : Form} {acc : List (Form × List Tok)} {k : Nat} (h : Hid ((k = 0 ∧ acc = [(F, u)] ∧ v = vlit) ∨ KidOwn b wr w1.heap.size v acc)) (h0 : Hid (KidOwn b w1 (w.heap.size + 1) vlit [(F, u)])) (hb : Below w1.heap.size w1 wr) (hs : w.heap.size ≤ w1.heap.size) (hbl : b < w1.heap.size) : KidOwn b wr w.heap.size v acc := by
  rcases h.out with ⟨_, rfl, rfl⟩ | h
  · exact kidOwn_mono (h0.out.below hb hbl) (by omega)
  · exact kidOwn_mono h hs

set_option maxRecDepth 100000 in
set_option maxHeartbeats 4000000 in
theorem ref_all (b : Nat) : ∀ (F : Form) (u : List Tok) (v : Value) (w : World), Reads F u → FrmB b w v u → b < w.heap.size →
    Calls Tryd.prog 19 #[v] w fun e w' => ∃ (v' : Value) (ks : List (Form × List Tok)), e = .returned v' ∧ ks.map Prod.fst = subsF F ∧ (∀ k ∈ ks, Reads k.1 k.2 ∧ ∀ t ∈ k.2, t ∈ u) ∧ KidOwn b w' w.heap.size v' ks ∧ Below w.heap.size w w' := by
  intro F
  induction F with
  | nil => intro u v w h; exact h.elim
  | node p sp y l r ihl ihr =>
    intro u v w hR hF hbl
    have HP := hide (fun w1 (hb : Below w.heap.size w w1) => ref_parts_b _ u v w1 b hR (hF.keep hb hbl) (Nat.lt_of_lt_of_le hbl hb.size))
    have HI : Hid (∀ k ∈ kids (.node p sp y l r), ∀ (u' : List Tok) (v' : Value) (w' : World), Reads k u' → FrmB b w' v' u' → b < w'.heap.size → Calls Tryd.prog 19 #[v'] w' fun e w'' => ∃ (v'' : Value) (ks : List (Form × List Tok)), e = .returned v'' ∧ ks.map Prod.fst = subsF k ∧ (∀ k ∈ ks, Reads k.1 k.2 ∧ ∀ t ∈ k.2, t ∈ u') ∧ KidOwn b w'' w'.heap.size v'' ks ∧ Below w'.heap.size w' w'') := by
      intro k hk u' v' w' h1 h2 h3
      rcases kids_mem hk with rfl | rfl
      · exact ihl u' v' w' h1 h2 h3
      · exact ihr u' v' w' h1 h2 h3
    clear ihl ihr
    have HS := hide (subs_kids hR)
    have HLn := hide (subs_len _ u hR)
    have HRd := hide hR
    have HFm := hide hF
    clear hR
    generalize hFF : (Go.Deep.BT.node p sp y l r : Form) = F at *
    clear hFF
    obtain ⟨o, cap, rfl, _, h4, h5⟩ := hF
    obtain ⟨i0, hi0, hz0, hz1, hz2⟩ := info_parts info_frm
    go_enter Tryd.func19, Tryd.ntmps19
    go_wp2_with fail
    have q0 := ((Below.refl w.heap.size w).alloc (Nat.le_refl _) (.cells #[.slice (some ⟨b, o, none⟩) u.length cap] 49)).alloc (by simp) (.cells #[.slice (some ⟨b, o, none⟩) u.length cap] 49)
    refine (HP.out _ q0).mono ?_
    rintro e w1 ⟨vk, ks, rfl, hk1, hk2, hk3, hb1⟩
    have r1 := hb1.mono (B' := w.heap.size + 2) (by simp)
    have q1 := q0.trans (hb1.mono (by simp; omega))
    have hs1 := r1.size
    simp at hs1
    have hown0 : KidOwn b w1 (w.heap.size + 1) (.slice (some ⟨w.heap.size + 1, 0, none⟩) 1 1) [(F, u)] := by
      refine ⟨[.slice (some ⟨b, o, none⟩) u.length cap], rfl, ?_, ?_⟩
      · refine ⟨rfl, .inr ⟨w.heap.size + 1, 1, #[.slice (some ⟨b, o, none⟩) u.length cap], rfl, Nat.le_refl _, ?_, Nat.le_refl _, by unfold maxLen; omega, rfl, rfl⟩⟩
        rw [r1.block _ (by omega)]
        have := heap_alloc_new (w.alloc (.cells #[.slice (some ⟨b, o, none⟩) u.length cap] 49)) (.cells #[.slice (some ⟨b, o, none⟩) u.length cap] 49)
        simpa using this
      · intro j hj hj'
        simp at hj
        subst hj
        exact HFm.out.keep q1 hbl
    have HO0 := hide hown0
    have hbw : Below (w.heap.size + 1) (w.alloc (.cells #[.slice (some ⟨b, o, none⟩) u.length cap] 49)) w1 := ((Below.refl _ _).alloc (by simp) _).trans (r1.mono (by omega))
    clear hb1 hown0 r1
    obtain ⟨av, nv, cv, rfl, hnv, hcv⟩ := kid_shape hk3.sl
    have hnv' : ks.length = nv := by simpa using hnv.symm
    have HK2 := hide hk2
    have HK1 := hide hk1
    have HK3 := hide hk3
    have HNV := hide hnv'
    unfold maxLen at hcv
    clear hk1 hk2 hk3 hnv hnv'
    go_wp2_with fail
    go_loopw [3, 5] (fun vo vi wr => ARel b w1 (.slice (some ⟨w.heap.size + 1, 0, none⟩) 1 1) u F ks vo vi wr) (fun _ vi _ => nv - (intOf vi).toNat)
    case atStart => exact ⟨0, [(F, u)], by omega, rfl, rfl, by simp only [List.mem_singleton]; rintro a rfl; exact ⟨HRd.out, fun t ht => ht⟩, .inl ⟨rfl, rfl, rfl⟩, Below.refl _ _⟩
    case round =>
      obtain ⟨k, acc, hk, rfl, hacc, haa, hown, hb1r⟩ := hrel
      have hbt := q1.trans (hb1r.mono q1.size)
      have HAc := hide hacc
      have HAa := hide haa
      have HOw := hide hown
      clear hacc haa hown
      by_cases hlt : k < nv
      · have hlt' : k < ks.length := by rw [HNV.out]; exact hlt
        obtain ⟨gk, ok, xk, rfl, hxk, hfk⟩ := kidB_get (HK3.out.keep hb1r (by omega) (Nat.le_refl _)) hlt'
        have hmem : ks[k] ∈ ks := List.getElem_mem hlt'
        have hC := HI.out _ (by rw [← HK1.out]; exact List.mem_map_of_mem hmem) _ _ _ (HK2.out _ hmem).1 hfk (by have := hb1r.size; omega)
        have HSub := hide (HK2.out _ hmem).2
        have HKl := hide hlt'
        have HCn : Hid (acc.length + (subsF (ks[k]).1).length ≤ 1000) := by
          have e1 := congrArg List.length HAc.out
          have e2 : (F :: ((ks.take (k + 1)).map Prod.fst).flatMap subsF).length ≤ (subsF F).length := by
            rw [HS.out, ← HK1.out]
            simp only [List.length_cons]
            refine Nat.succ_le_succ ?_
            conv => rhs; rw [← List.take_append_drop (k + 1) ks]
            rw [List.map_append, List.flatMap_append, List.length_append]
            omega
          rw [List.take_succ_eq_append_getElem hlt', List.map_append, List.flatMap_append] at e2
          simp only [List.length_map, List.length_cons, List.length_append, List.map_cons, List.map_nil, List.flatMap_cons, List.flatMap_nil, List.append_nil] at e1 e2
          have := HLn.out
          unfold Hid
          omega
        clear hmem hfk
        rcases HOw.out with ⟨hk0, hac0, rfl⟩ | hown
        · have HK0 := hide hk0
          have HA0 := hide hac0
          clear hk0 hac0
          go_wp2_with fail
          refine hC.mono ?_
          rintro e w3 ⟨vm, ms, rfl, hm1, hm2, hm3, hb3⟩
          obtain ⟨ys, hyl, hyo, hyf⟩ := hm3
          have hml : acc.length + ms.length ≤ 1000 := by
            have := HCn.out
            have e := congrArg List.length hm1
            rw [List.length_map] at e
            omega
          have hb13 := hb1r.trans (hb3.mono hb1r.size)
          have hy1 : ∀ u ∈ ys, u.oneCell' = true := by
            intro x hx
            obtain ⟨j, hj, rfl⟩ := List.mem_iff_getElem.1 hx
            exact frm_one (hyf j (by omega) hj).frm
          have hyne : 0 < ms.length := by
            have e := congrArg List.length hm1
            rw [List.length_map] at e
            have := subs_pos (HK2.out _ (List.getElem_mem HKl.out)).1
            omega
          obtain ⟨gy, cy, hve, hcy⟩ := own_addr hyo hyne
          subst hve
          obtain ⟨xs0, hx0l, hx0o, hx0f⟩ := HO0.out.below hb13 (by omega)
          obtain ⟨g0, c0, hg0, hcx0⟩ := own_addr hx0o (by simp)
          simp at hg0
          obtain ⟨rfl, rfl⟩ := hg0
          have HM1 := hide hm1
          have HM2 := hide hm2
          have HYF := hide hyf
          have HY1 := hide hy1
          have HX0 := hide hcx0
          have HXF := hide hx0f
          clear hm1 hm2 hyf hy1 hcx0 hx0f
          go_wp2_with (at_builtin; refine wpList_append_grows w3 rfl (.tmp 22) (.tmp 23) 69 rfl 49 i0 _ 1 24 Tryd.underlying69 hi0 hz0 hz1 hz2 rfl (by decide) (some ⟨w.heap.size + 1, 0, none⟩) 1 1 xs0 rfl (by simp) (by simpa using hx0l) (by intro bb hbb j u hj; simp at hbb; subst hbb; rw [addr_add]; exact HX0.out j u hj) ⟨gy, 0, none⟩ ms.length cy ys rfl (by omega) (by intro j u hj; rw [addr_add]; exact hcy j u hj) HY1.out (by omega) (by unfold maxLen; omega) (by omega) ?_; intro v4 w4 hown4 hg4)
          have b34 : Below w3.heap.size w3 w4 := (Below.refl _ _).grown hg4 (Nat.le_refl _) (by intro k hk; simp at hk)
          go_roundw
          case rel => exact all_first HA0 HKl HAc HAa HM1 HM2 hyl hx0l hown4 HXF HYF HSub b34 hb13 (by omega)
          case measure => simp [intOf]; omega
        · go_wp2_with fail
          refine hC.mono ?_
          rintro e w3 ⟨vm, ms, rfl, hm1, hm2, hm3, hb3⟩
          obtain ⟨xs, hxl, hxo, hxf⟩ := hown.below hb3 (by have := hb1r.size; omega)
          obtain ⟨ys, hyl, hyo, hyf⟩ := hm3
          have hml : acc.length + ms.length ≤ 1000 := by
            have := HCn.out
            have e := congrArg List.length hm1
            rw [List.length_map] at e
            omega
          have hb13 := hb1r.trans (hb3.mono hb1r.size)
          have hy1 : ∀ u ∈ ys, u.oneCell' = true := by
            intro x hx
            obtain ⟨j, hj, rfl⟩ := List.mem_iff_getElem.1 hx
            exact frm_one (hyf j (by omega) hj).frm
          have hyne : 0 < ms.length := by
            have e := congrArg List.length hm1
            rw [List.length_map] at e
            have := subs_pos (HK2.out _ (List.getElem_mem HKl.out)).1
            omega
          obtain ⟨gy, cy, hve, hcy⟩ := own_addr hyo hyne
          subst hve
          have HM1 := hide hm1
          have HM2 := hide hm2
          have HXF := hide hxf
          have HYF := hide hyf
          have HY1 := hide hy1
          clear hm1 hm2 hxf hyf hy1
          go_wp2_with (at_builtin; refine wp_appS rfl (.tmp 22) (.tmp 23) 69 49 rfl Tryd.underlying69 hi0 hz0 hz1 hz2 rfl (by decide) w1 w1.heap.size _ _ xs ys w3 rfl hxo gy 0 ms.length cy rfl (by omega) hcy HY1.out (by omega) (by decide) hb13 hb13.size ?_; intro v4 w4 hown4 hb4 _)
          go_roundw
          case rel => exact all_next HKl HAc HAa HM1 HM2 hyl hxl hown4 HXF HYF HSub hb13 hb4 (by omega)
          case measure => simp [intOf]; omega
      · have hkn : k = ks.length := by have := HNV.out; omega
        have HFin : Hid (acc.map Prod.fst = subsF F) := by unfold Hid; rw [HAc.out, hkn, List.take_length, HK1.out, HS.out]
        clear hkn HAc
        go_wp2_with fail
        go_ret
        exact ⟨_, acc, rfl, HFin.out, HAa.out, all_end HOw HO0 hb1r q1.size (by omega), hbt⟩
end Go.Proofs.YtiamjjonoeaggaaDoor
