import Derived.Test.YtiamjjonoeaggaaDoorRefJ
namespace Go.Proofs.YtiamjjonoeaggaaDoor
open Go.RowKit

def aheadB (t : List UInt8) : Bool := inB t w4ahead
theorem in_w4ahead (t : List UInt8) (w : World) :
    Calls Tryd.prog 42 #[bs t, .slice (some ⟨w.heap.size, 0, none⟩) 4 4] (w.alloc (.cells #[bs [110, 101, 120, 116], bs [115, 111, 111, 110], bs [117, 110, 116, 105, 108], bs [117, 110, 117, 110, 116, 105, 108]] 9)) fun e w' => e = .returned (.bool (aheadB t)) ∧ w' = w.alloc (.cells #[bs [110, 101, 120, 116], bs [115, 111, 111, 110], bs [117, 110, 116, 105, 108], bs [117, 110, 117, 110, 116, 105, 108]] 9) :=
  ref_in t _ w4ahead _ (StrSl_lit w w4ahead 9 (by decide))
theorem ref_ahead (v : Value) (u : List Tok) (w : World) (h : FrmV w v u) :
    Calls Tryd.prog 22 #[v] w fun e w' => e = .returned (.bool (aheadB (hd u))) ∧ Below w.heap.size w w' := by
  have HW := hide (fun w1 (hb : Below w.heap.size w w1) => ref_word v u w1 (h.below hb))
  obtain ⟨b, o, cap, rfl, _⟩ := frm_open h
  clear h
  go_enter Tryd.func22, Tryd.ntmps22
  go_wp2_with fail
  refine (HW.out _ ((Below.refl _ _).alloc (Nat.le_refl _) _)).mono ?_
  rintro e w1 ⟨rfl, hb1⟩
  have q1 := ((Below.refl w.heap.size w).alloc (Nat.le_refl _) _).trans (hb1.mono (by simp))
  go_wp2_with fail
  refine (in_w4ahead (hd u) _).mono ?_
  rintro e w2 ⟨rfl, rfl⟩
  go_wp2_with fail
  go_ret
  exact ⟨rfl, q1.alloc q1.size _⟩
theorem ref_spanned (v : Value) (u : List Tok) (w : World) (h : FrmV w v u) :
    Calls Tryd.prog 20 #[v] w fun e w' => e = .returned (.bool (isOneB (hd u) || isTwoB (hd u))) ∧ Below w.heap.size w w' := by
  have HW := hide (fun w1 (hb : Below w.heap.size w w1) => ref_word v u w1 (h.below hb))
  obtain ⟨b, o, cap, rfl, _⟩ := frm_open h
  clear h
  have h1 := ref_isOne (hd u)
  have h2 := ref_isTwo (hd u)
  generalize isOneB (hd u) = b1 at *
  generalize isTwoB (hd u) = b2 at *
  cases b1 with
  | true =>
    go_enter Tryd.func20, Tryd.ntmps20
    go_wp2_with fail
    refine (HW.out _ ((Below.refl _ _).alloc (Nat.le_refl _) _)).mono ?_
    rintro e w1 ⟨rfl, hb1⟩
    have q1 := ((Below.refl w.heap.size w).alloc (Nat.le_refl _) _).trans (hb1.mono (by simp))
    go_wp2_with fail
    refine (h1 _).mono ?_
    rintro e w2 ⟨rfl, hb2⟩
    go_wp2_with fail
    go_ret
    exact ⟨rfl, q1.trans (hb2.mono q1.size)⟩
  | false =>
    go_enter Tryd.func20, Tryd.ntmps20
    go_wp2_with fail
    refine (HW.out _ ((Below.refl _ _).alloc (Nat.le_refl _) _)).mono ?_
    rintro e w1 ⟨rfl, hb1⟩
    have q1 := ((Below.refl w.heap.size w).alloc (Nat.le_refl _) _).trans (hb1.mono (by simp))
    have r1 := hb1.mono (B' := w.heap.size + 1) (by simp)
    go_wp2_with fail
    refine (h1 _).mono ?_
    rintro e w2 ⟨rfl, hb2⟩
    have hs1 := r1.size
    simp at hs1
    have q2 := q1.trans (hb2.mono q1.size)
    have r2 := r1.trans (hb2.mono (by omega))
    have hc2 := bcell r2 w.heap.size 0 (by simp)
    go_wp2_with fail
    refine (HW.out _ q2).mono ?_
    rintro e w3 ⟨rfl, hb3⟩
    have q3 := q2.trans (hb3.mono q2.size)
    go_wp2_with fail
    refine (h2 _).mono ?_
    rintro e w4 ⟨rfl, hb4⟩
    go_wp2_with fail
    go_ret
    exact ⟨rfl, q3.trans (hb4.mono q3.size)⟩

def mxI (a c : Int) : Int := if a < c then c else a
/-- How far it looks ahead. -/
def reachF : Form → Int
  | .nil => -1
  | .node _ _ y l r => if aheadB y.word then (if mxI (mxI (-1) (reachF l)) (reachF r) == -1 then 0 else mxI (mxI (-1) (reachF l)) (reachF r)) + (numV y.hi : Int) else mxI (mxI (-1) (reachF l)) (reachF r)
/-- No operator that looks ahead is without an end. -/
def aheadOk : Form → Bool
  | .nil => true
  | .node _ _ y l r => !(aheadB y.word && y.hi == [42]) && aheadOk l && aheadOk r
def Good (u : List Tok) : Prop := ∀ t ∈ u, tokGood t
def foldR (ks : List Form) : Int := ks.foldl (fun m k => mxI m (reachF k)) (-1)
theorem reads_shape {p sp : Nat} {y : Pay} {l r : Form} {u : List Tok} (h : Reads (.node p sp y l r) u) : foldR (kids (.node p sp y l r)) = mxI (mxI (-1) (reachF l)) (reachF r) := by
  have e0 : mxI (-1) (reachF .nil) = -1 := rfl
  have e1 : ∀ a, -1 ≤ a → mxI a (reachF .nil) = a := fun a ha => by
    show (if a < -1 then -1 else a) = a
    rw [if_neg (by omega)]
  have e2 : ∀ a, -1 ≤ mxI (-1) a := fun a => by unfold mxI; split <;> omega
  rcases h with ⟨hn, _, _, rfl, rfl, _⟩ | ⟨hn, hw, _, _, rfl, v, q1, q2, q3, ul, hv, _, hl, rfl⟩ | ⟨hn, hw, _, _, _, q1, q2, q3, ul, ur, hl, hr, rfl⟩ | ⟨hn, hw, _, rfl, hlo, hhi, q1, q2, q3, q4, q5, q6, ul, hl, rfl⟩ | ⟨hn, hw, _, hlo, hhi, q1, q2, q3, q4, q5, q6, q7, ul, ur, hl, hr, rfl⟩ | ⟨_, hw, _, _, _, rfl, rfl, rfl⟩
  · rfl
  · rw [kids_one hl, e1 _ (e2 _)]; rfl
  · rw [kids_two hl hr]; rfl
  · rw [kids_one hl, e1 _ (e2 _)]; rfl
  · rw [kids_two hl hr]; rfl
  · rfl
theorem ahead_two {t : List UInt8} (h : aheadB t = true) : t ∈ [[110, 101, 120, 116], [115, 111, 111, 110], [117, 110, 116, 105, 108], [117, 110, 117, 110, 116, 105, 108]] := by
  unfold aheadB inB w4ahead at h
  simp [List.any] at h
  simp
  rcases h with h | h | h | h <;> simp [h]
theorem span_toks {p sp : Nat} {y : Pay} {l r : Form} {u : List Tok} (h : Reads (.node p sp y l r) u) (_ha : (isOneB y.word || isTwoB y.word) = true) (hn : isNameB y.word = false) (hx : y.word ≠ [101, 120, 105, 115, 116, 115]) (hp : isPlainB y.word = false) (htr : y.word ≠ [116, 114, 117, 101]) :
    ∃ (h4 : 4 < u.length), (u[4]).text = y.hi ∧ (u[2]).text = y.lo ∧ (u[1]).pos = sp ∧ numB y.lo = true ∧ endB y.hi = true := by
  rcases h with ⟨hn', _⟩ | ⟨_, hw, _⟩ | ⟨_, hw, _⟩ | ⟨_, hw, _, rfl, hlo, hhi, q1, q2, q3, q4, q5, q6, ul, hl, rfl⟩ | ⟨_, hw, _, hlo, hhi, q1, q2, q3, q4, q5, q6, q7, ul, ur, hl, hr, rfl⟩ | ⟨_, hw, _⟩
  · rw [hn] at hn'; simp at hn'
  · exact absurd hw hx
  · rw [hp] at hw; simp at hw
  · exact ⟨by simp, rfl, rfl, rfl, hlo, hhi⟩
  · exact ⟨by simp, rfl, rfl, rfl, hlo, hhi⟩
  · exact absurd hw htr
theorem span_word {t : List UInt8} (ha : (isOneB t || isTwoB t) = true) : isNameB t = false ∧ t ≠ [101, 120, 105, 115, 116, 115] ∧ isPlainB t = false ∧ t ≠ [116, 114, 117, 101] := by
  have ho : opWord t = true := by
    rw [Bool.or_eq_true] at ha
    rcases ha with h | h
    · exact op_one h
    · exact op_two h
  have hc := op_cases ho
  simp only [List.mem_cons, List.not_mem_nil, or_false] at hc
  rcases hc with rfl | rfl | rfl | rfl | rfl | rfl | rfl | rfl | rfl | rfl | rfl | rfl
  all_goals first | exact absurd ha (by decide) | exact ⟨by decide, by decide, by decide, by decide⟩
theorem ahead_span {t : List UInt8} (h : aheadB t = true) : (isOneB t || isTwoB t) = true := by
  have hc := ahead_two h
  simp only [List.mem_cons, List.not_mem_nil, or_false] at hc
  rcases hc with rfl | rfl | rfl | rfl <;> decide
theorem good_num {t : Tok} (h : tokGood t) (hn : numB t.text = true) : digs t.text = true ∧ 0 < t.text.length ∧ t.text.length ≤ 3 := by
  obtain ⟨c, r, e, ho, hd⟩ := h
  rw [e] at hn
  have hd := hd hn
  refine ⟨hd, by rw [e]; simp, ?_⟩
  unfold okTok at ho
  have hn' : digB (c.toNat : Int) = true := hn
  rw [hn', dig_not_let hn'] at ho
  simp only [Bool.true_and, Bool.false_and, Bool.or_false, Bool.or_eq_true, decide_eq_true_eq] at ho
  rcases ho with ho | ho
  · exfalso
    rw [e] at ho
    unfold inB w6sign at ho
    simp [List.any] at ho
    simp [digB] at hn'
    rcases ho with ⟨h, _⟩ | ⟨h, _⟩ | ⟨h, _⟩ | ⟨h, _⟩ | ⟨h, _⟩ | ⟨h, _⟩ <;> subst h <;> revert hn' <;> decide
  · exact ho
theorem end_num {t : List UInt8} (h : endB t = true) (hs : (t == [42]) = false) : numB t = true := by
  unfold endB at h
  rw [hs] at h
  simpa using h
theorem numV_le {l : List UInt8} (h : digs l = true) (h3 : l.length ≤ 3) : numV l ≤ 999 := by
  have := numV_lt h l.length (Nat.le_refl _)
  rw [List.take_length] at this
  have h2 : 10 ^ l.length ≤ 10 ^ 3 := Nat.pow_le_pow_right (by omega) h3
  omega
theorem good_sub {u u' : List Tok} (h : Good u) (hs : ∀ t ∈ u', t ∈ u) : Good u' := fun t ht => h t (hs t ht)
theorem hi_le {u : List Tok} {y : Pay} (hg : Good u) (h4 : 4 < u.length) (e : (u[4]).text = y.hi) (he : endB y.hi = true) : numV y.hi ≤ 999 := by
  cases hs : (y.hi == [42]) with
  | true =>
    have : y.hi = [42] := by simpa using hs
    rw [this]
    decide
  | false =>
    have g := good_num (hg _ (List.getElem_mem h4)) (by rw [e]; exact end_num he hs)
    rw [e] at g
    exact numV_le g.1 g.2.2
theorem mxI_le {a c n : Int} (h1 : a ≤ n) (h2 : c ≤ n) : mxI a c ≤ n := by unfold mxI; split <;> assumption
theorem mxI_ge {a c : Int} : a ≤ mxI a c := by unfold mxI; split <;> omega
theorem reach_bd : ∀ (F : Form) (u : List Tok), Reads F u → Good u → -1 ≤ reachF F ∧ reachF F ≤ 1000 * (u.length : Int) := by
  intro F
  induction F with
  | nil => intro u h; exact h.elim
  | node p sp y l r ihl ihr =>
    intro u h hg
    have hR := h
    have key : ∀ (n : Int), reachF l ≤ n → reachF r ≤ n → -1 ≤ n → 999 ≤ 1000 * (u.length : Int) → n + 999 ≤ 1000 * (u.length : Int) → numV y.hi ≤ 999 → -1 ≤ reachF (.node p sp y l r) ∧ reachF (.node p sp y l r) ≤ 1000 * (u.length : Int) := by
      intro n h1 h2 h3 h4 h5 h6
      have g0 := @mxI_ge (-1) (reachF l)
      have g1 := @mxI_ge (mxI (-1) (reachF l)) (reachF r)
      have g2 := mxI_le (mxI_le h3 h1) h2
      rw [reachF]
      generalize mxI (mxI (-1) (reachF l)) (reachF r) = m at *
      split
      · split
        · omega
        · rename_i hne
          have : m ≠ -1 := by simpa using hne
          omega
      · omega
    have hnil : reachF .nil = -1 := rfl
    rcases h with ⟨hn, hlo, hhi, rfl, rfl, q1, q2, q3, a, ha, hb⟩ | ⟨hn, hw, hlo, hhi, rfl, v, q1, q2, q3, ul, hv, _, hl, rfl⟩ | ⟨hn, hw, _, hlo, hhi, q1, q2, q3, ul, ur, hl, hr, rfl⟩ | ⟨hn, hw, _, rfl, hlo, hhi, q1, q2, q3, q4, q5, q6, ul, hl, rfl⟩ | ⟨hn, hw, _, hlo, hhi, q1, q2, q3, q4, q5, q6, q7, ul, ur, hl, hr, rfl⟩ | ⟨_, hw, _, hlo, hhi, rfl, rfl, rfl⟩
    · have hp := reads_pos hR
      exact key (-1) (by rw [hnil]; omega) (by rw [hnil]; omega) (by omega) (by omega) (by omega) (by rw [hhi]; decide)
    · have i1 := ihl ul hl (good_sub hg (by intro t ht; simp [ht]))
      refine key (1000 * (ul.length : Int)) i1.2 (by rw [hnil]; omega) (by omega) ?_ ?_ (by rw [hhi]; decide) <;> simp <;> omega
    · have i1 := ihl ul hl (good_sub hg (by intro t ht; simp [ht]))
      have i2 := ihr ur hr (good_sub hg (by intro t ht; simp [ht]))
      refine key (1000 * (ul.length : Int) + 1000 * (ur.length : Int)) (by omega) (by omega) (by omega) ?_ ?_ (by rw [hhi]; decide) <;> simp <;> omega
    · have i1 := ihl ul hl (good_sub hg (by intro t ht; simp [ht]))
      refine key (1000 * (ul.length : Int)) i1.2 (by rw [hnil]; omega) (by omega) ?_ ?_ (hi_le (y := y) hg (by simp) rfl hhi) <;> simp <;> omega
    · have i1 := ihl ul hl (good_sub hg (by intro t ht; simp [ht]))
      have i2 := ihr ur hr (good_sub hg (by intro t ht; simp [ht]))
      refine key (1000 * (ul.length : Int) + 1000 * (ur.length : Int)) (by omega) (by omega) (by omega) ?_ ?_ (hi_le (y := y) hg (by simp) rfl hhi) <;> simp <;> omega
    · exact key (-1) (by rw [hnil]; omega) (by rw [hnil]; omega) (by omega) (by simp) (by simp) (by rw [hhi]; decide)

theorem kid_shape {w : World} {v : Value} {us : List (List Tok)} (h : KidSl w v us) : ∃ a n c, v = .slice a n c ∧ n = us.length ∧ n ≤ maxLen := by
  rcases h with ⟨h, rfl⟩ | ⟨g, o, cap, h, h1, h2, _⟩
  · exact ⟨_, _, _, h, rfl, Nat.zero_le _⟩
  · exact ⟨_, _, _, h, rfl, by omega⟩
theorem kid_get {w : World} {a : Option Addr} {n c : Nat} {ks : List (Form × List Tok)} {k : Nat} (h : KidSl w (.slice a n c) (ks.map Prod.snd)) (hk : k < ks.length) : ∃ g o x, a = some ⟨g, o, none⟩ ∧ w.cell? ⟨g, o + k, none⟩ = some x ∧ FrmV w (.agg #[x]) (ks[k]).2 := by
  rcases h with ⟨_, h⟩ | ⟨g, o, c', e, h1, h2, h3, h4⟩
  · simp at h
    subst h
    simp at hk
  · simp at e
    obtain ⟨rfl, rfl, rfl⟩ := e
    obtain ⟨x, hx, hf⟩ := h4 k (by simpa using hk)
    refine ⟨g, o, x, rfl, hx, ?_⟩
    rw [List.getElem_map] at hf
    exact hf
theorem foldR_ge (l : List Form) : -1 ≤ foldR l := by
  unfold foldR
  suffices ∀ (l : List Form) (a : Int), -1 ≤ a → -1 ≤ l.foldl (fun m k => mxI m (reachF k)) a from this l (-1) (by omega)
  intro l
  induction l with
  | nil => intro a h; exact h
  | cons k l ih => intro a h; exact ih _ (Int.le_trans h mxI_ge)
def RcRel (B : Nat) (W0 : World) (ks : List (Form × List Tok)) (vm vi : Value) (wr : World) : Prop := ∃ k : Nat, k ≤ ks.length ∧ vi = .int .i64 k ∧ vm = .int .i64 (foldR ((ks.take k).map Prod.fst)) ∧ Below B W0 wr
theorem foldR_snoc (l : List Form) (k : Form) : foldR (l ++ [k]) = mxI (foldR l) (reachF k) := by simp [foldR]
theorem foldR_take (ks : List (Form × List Tok)) (k : Nat) (h : k < ks.length) : foldR ((ks.take (k + 1)).map Prod.fst) = mxI (foldR ((ks.take k).map Prod.fst)) (reachF (ks[k]).1) := by
  rw [List.take_succ_eq_append_getElem h, List.map_append, List.map_singleton, foldR_snoc]

set_option maxRecDepth 100000 in
set_option maxHeartbeats 4000000 in
theorem ref_Reach : ∀ (F : Form) (u : List Tok) (v : Value) (w : World), Reads F u → Good u → aheadOk F = true → FrmV w v u →
    Calls Tryd.prog 14 #[v] w fun e w' => e = .returned (.int .i64 (reachF F)) ∧ Below w.heap.size w w' := by
  intro F
  induction F with
  | nil => intro u v w h; exact h.elim
  | node p sp y l r ihl ihr =>
    intro u v w hR hG hA hF
    have HP := hide (fun w1 (hb : Below w.heap.size w w1) => ref_parts _ u v w1 hR (hF.below hb))
    have HAh := hide (fun w1 (hb : Below w.heap.size w w1) => ref_ahead v u w1 (hF.below hb))
    have HI : Hid (∀ k ∈ kids (.node p sp y l r), ∀ (u' : List Tok) (v' : Value) (w' : World), Reads k u' → (∀ t ∈ u', t ∈ u) → FrmV w' v' u' → (Calls Tryd.prog 14 #[v'] w' fun e w'' => e = .returned (.int .i64 (reachF k)) ∧ Below w'.heap.size w' w'') ∧ -1 ≤ reachF k ∧ reachF k ≤ 1000000) := by
      intro k hk u' v' w' h1 h2 h3
      have hg := good_sub hG h2
      have hb := reach_bd k u' h1 hg
      obtain ⟨_, _, _, _, _, _, _, _, h5, _⟩ := frm_open h3
      refine ⟨?_, hb.1, by omega⟩
      rw [aheadOk] at hA
      simp only [Bool.and_eq_true] at hA
      rcases kids_mem hk with rfl | rfl
      · exact ihl u' v' w' h1 hg hA.1.2 h3
      · exact ihr u' v' w' h1 hg hA.2 h3
    clear ihl ihr
    have HWd : Hid (hd u = y.word) := reads_word hR
    have HSh := hide (reads_shape hR)
    have HSp := hide (fun ha : aheadB y.word = true => span_toks hR (ahead_span ha) (span_word (ahead_span ha)).1 (span_word (ahead_span ha)).2.1 (span_word (ahead_span ha)).2.2.1 (span_word (ahead_span ha)).2.2.2)
    have HRe : Hid (reachF (.node p sp y l r) = if aheadB y.word then (if mxI (mxI (-1) (reachF l)) (reachF r) == -1 then 0 else mxI (mxI (-1) (reachF l)) (reachF r)) + (numV y.hi : Int) else mxI (mxI (-1) (reachF l)) (reachF r)) := by unfold Hid; rw [reachF]
    rw [← HSh.out] at HRe
    have HOk : Hid (aheadB y.word = true → (y.hi == [42]) = false) := by
      intro ha
      rw [aheadOk, ha] at hA
      simp only [Bool.true_and, Bool.and_eq_true, Bool.not_eq_true'] at hA
      exact hA.1.1
    have hbd := reach_bd _ u hR hG
    have HG := hide hG
    clear hR hG hA HSh
    generalize hFF : (Go.Deep.BT.node p sp y l r : Form) = F at *
    clear hFF
    generalize reachF F = rF at *
    obtain ⟨b, o, cap, rfl, h1, h2, h3, h4, h5, h6⟩ := frm_open hF
    have H6 := hide h6
    clear h6 hF
    unfold maxLen at h2
    go_enter Tryd.func14, Tryd.ntmps14
    go_wp2_with fail
    refine (HP.out _ ((Below.refl _ _).alloc (Nat.le_refl _) _)).mono ?_
    rintro e w1 ⟨vk, ks, rfl, hk1, hk2, hk3, hb1⟩
    have r1 := hb1.mono (B' := w.heap.size + 1) (by simp)
    have q1 := ((Below.refl w.heap.size w).alloc (Nat.le_refl _) _).trans (hb1.mono (by simp))
    have hc1 := bcell r1 w.heap.size 0 (by simp)
    clear hb1
    obtain ⟨av, nv, cv, rfl, hnv, hcv⟩ := kid_shape hk3
    have hnv' : ks.length = nv := by simpa using hnv.symm
    have HK2 := hide hk2
    have HK1 := hide hk1
    have HK3 := hide hk3
    have HNV := hide hnv'
    clear hk1 hk2 hk3 hnv hnv'
    go_wp2_with fail
    go_loopw [3, 5] (fun vm vi wr => RcRel w1.heap.size w1 ks vm vi wr) (fun _ vi _ => nv - (intOf vi).toNat)
    case atStart => exact ⟨0, by omega, rfl, rfl, Below.refl _ _⟩
    case round =>
      obtain ⟨k, hk, rfl, rfl, hbel⟩ := hrel
      have hbt := q1.trans (hbel.mono q1.size)
      have hcb := (bcell hbel w.heap.size 0 (by have := r1.size; simp at this; omega)).trans hc1
      unfold maxLen at hcv
      by_cases hlt : k < nv
      · have hlt' : k < ks.length := by rw [HNV.out]; exact hlt
        obtain ⟨gk, ok, xk, rfl, hxk, hfk⟩ := kid_get (HK3.out.below hbel) hlt'
        have hmem : ks[k] ∈ ks := List.getElem_mem hlt'
        obtain ⟨hC, hCl, hCu⟩ := HI.out _ (by rw [← HK1.out]; exact List.mem_map_of_mem hmem) _ _ _ (HK2.out _ hmem).1 (HK2.out _ hmem).2 hfk
        have HT := hide (foldR_take ks k hlt')
        have hk2 : k + 1 ≤ ks.length := hlt'
        clear hmem hfk hk
        generalize reachF (ks[k]).1 = rk at *
        clear hlt'
        generalize foldR ((ks.take k).map Prod.fst) = m at *
        by_cases hmx : m < rk
        · go_wp2_with fail
          refine hC.mono ?_
          rintro e w3 ⟨rfl, hb3⟩
          go_wp2_with fail
          go_roundw
          case rel => exact ⟨k + 1, hk2, by go_num, by rw [HT.out]; unfold mxI; rw [if_pos hmx], hbel.trans (hb3.mono hbel.size)⟩
          case measure => simp [intOf]; omega
        · go_wp2_with fail
          refine hC.mono ?_
          rintro e w3 ⟨rfl, hb3⟩
          go_wp2_with fail
          go_roundw
          case rel => exact ⟨k + 1, hk2, by go_num, by rw [HT.out]; unfold mxI; rw [if_neg (by omega)], hbel.trans (hb3.mono hbel.size)⟩
          case measure => simp [intOf]; omega
      · have hkn : k = ks.length := by have := HNV.out; omega
        have HFo : Hid (foldR ((ks.take k).map Prod.fst) = foldR (kids F)) := by unfold Hid; rw [hkn, List.take_length, HK1.out]
        clear hkn
        rw [HFo.out]
        have HFo2 := hide HFo.out
        clear HFo
        have hmb : -1 ≤ foldR (kids F) := foldR_ge _
        generalize foldR (kids F) = m at *
        cases hah : aheadB y.word with
        | false =>
          have hm : rF = m := by have := HRe.out; rw [hah] at this; simpa using this
          have HM := hide hm
          clear hm HRe
          go_wp2_with fail
          refine (calls_to (HAh.out _ hbt) (by rw [HWd.out, hah])).mono ?_
          rintro e w3 ⟨rfl, hb3⟩
          go_wp2_with fail
          go_ret
          exact ⟨ret_int HM.out.symm, hbt.trans (hb3.mono hbt.size)⟩
        | true =>
          obtain ⟨hu4, e4, _, _, _, hend⟩ := HSp.out hah
          have hnum := good_num (HG.out _ (List.getElem_mem hu4)) (by rw [e4]; exact end_num hend (HOk.out hah))
          have hNb := numV_le hnum.1 hnum.2.2
          have HNum := hide (fun w' => ref_number (u[4]).text ((u[4]).pos : Int) hnum.2.1 hnum.2.2 hnum.1 w')
          have hct := fun w2 (hb2 : Below w1.heap.size w1 w2) => (bcell hb2 b (o + 4 * 2) (by have := r1.size; simp at this; omega)).trans ((bcell r1 b (o + 4 * 2) (by omega)).trans ((World.cell?_alloc_lt _ _ _ h3).trans (H6.out 4 hu4).1))
          have hcp := fun w2 (hb2 : Below w1.heap.size w1 w2) => (bcell hb2 b (o + 4 * 2 + 1) (by have := r1.size; simp at this; omega)).trans ((bcell r1 b (o + 4 * 2 + 1) (by omega)).trans ((World.cell?_alloc_lt _ _ _ h3).trans (H6.out 4 hu4).2))
          have HCT := hide hct
          have HCP := hide hcp
          have hm : rF = (if m == -1 then 0 else m) + (numV (u[4]).text : Int) := by have := HRe.out; rw [hah] at this; rw [e4]; simpa using this
          have HM := hide hm
          clear hct hcp hm HRe hnum
          generalize (u[4]).text = t4 at *
          generalize (u[4]).pos = p4 at *
          generalize numV t4 = n4 at *
          clear HSp e4
          by_cases hm1 : m = -1
          · subst hm1
            go_wp2_with fail
            refine (calls_to (HAh.out _ hbt) (by rw [HWd.out, hah])).mono ?_
            rintro e w3 ⟨rfl, hb3⟩
            have hb13 := hbel.trans (hb3.mono hbel.size)
            have hct3 := HCT.out w3 hb13
            have hcp3 := HCP.out w3 hb13
            have hcb3 := (bcell hb13 w.heap.size 0 (by have := r1.size; simp at this; omega)).trans hc1
            simp only [show 4 * 2 = 8 from rfl, Nat.add_assoc, Nat.reduceAdd] at hct3 hcp3
            go_wp2_with fail
            refine (HNum.out _).mono ?_
            rintro e w4 ⟨rfl, hb4⟩
            go_wp2_with fail
            go_ret
            exact ⟨ret_int (by rw [HM.out]; simp), (hbt.trans (hb3.mono hbt.size)).trans (hb4.mono (Nat.le_trans hbt.size hb3.size))⟩
          · have hm2 : (m == -1) = false := by simp [hm1]
            go_wp2_with fail
            refine (calls_to (HAh.out _ hbt) (by rw [HWd.out, hah])).mono ?_
            rintro e w3 ⟨rfl, hb3⟩
            have hb13 := hbel.trans (hb3.mono hbel.size)
            have hct3 := HCT.out w3 hb13
            have hcp3 := HCP.out w3 hb13
            have hcb3 := (bcell hb13 w.heap.size 0 (by have := r1.size; simp at this; omega)).trans hc1
            simp only [show 4 * 2 = 8 from rfl, Nat.add_assoc, Nat.reduceAdd] at hct3 hcp3
            have hmu : m ≤ 2000000 := by
              have := HM.out
              rw [hm2] at this
              simp at this
              omega
            go_wp2_with fail
            refine (HNum.out _).mono ?_
            rintro e w4 ⟨rfl, hb4⟩
            go_wp2_with fail
            go_ret
            exact ⟨ret_int (by rw [HM.out, hm2]; rfl), (hbt.trans (hb3.mono hbt.size)).trans (hb4.mono (Nat.le_trans hbt.size hb3.size))⟩
end Go.Proofs.YtiamjjonoeaggaaDoor
