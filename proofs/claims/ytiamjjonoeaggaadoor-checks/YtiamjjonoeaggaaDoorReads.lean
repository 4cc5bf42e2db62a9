import Derived.Test.YtiamjjonoeaggaaDoorParse
namespace Go.Proofs.YtiamjjonoeaggaaDoor
open Go.RowKit

/-- These tokens are this formula's. -/
def Reads : Form → List Tok → Prop
  | .nil, _ => False
  | .node p sp y l r, ts =>
    (isNameB y.word = true ∧ y.lo = [] ∧ y.hi = [] ∧ l = .nil ∧ r = .nil ∧ ∃ q1 q2 q3 a, argB a = true ∧ ((y.args = [a] ∧ ts = [⟨y.word, p⟩, ⟨[40], q1⟩, ⟨a, q2⟩, ⟨[41], q3⟩]) ∨ ∃ b q4 q5, argB b = true ∧ y.args = [a, b] ∧ ts = [⟨y.word, p⟩, ⟨[40], q1⟩, ⟨a, q2⟩, ⟨[44], q4⟩, ⟨b, q5⟩, ⟨[41], q3⟩])) ∨
    (isNameB y.word = false ∧ y.word = [101, 120, 105, 115, 116, 115] ∧ y.lo = [] ∧ y.hi = [] ∧ r = .nil ∧ ∃ v q1 q2 q3 u, isVarB v = true ∧ y.args = [v] ∧ Reads l u ∧ ts = ⟨y.word, p⟩ :: ⟨v, q1⟩ :: ⟨[40], q2⟩ :: (u ++ [⟨[41], q3⟩])) ∨
    (isNameB y.word = false ∧ isPlainB y.word = true ∧ y.args = [] ∧ y.lo = [] ∧ y.hi = [] ∧ ∃ q1 q2 q3 u u', Reads l u ∧ Reads r u' ∧ ts = ⟨y.word, p⟩ :: ⟨[40], q1⟩ :: (u ++ ⟨[44], q2⟩ :: (u' ++ [⟨[41], q3⟩]))) ∨
    (isNameB y.word = false ∧ isOneB y.word = true ∧ y.args = [] ∧ r = .nil ∧ numB y.lo = true ∧ endB y.hi = true ∧ ∃ q1 q2 q3 q4 q5 q6 u, Reads l u ∧ ts = ⟨y.word, p⟩ :: ⟨[91], sp⟩ :: ⟨y.lo, q1⟩ :: ⟨[44], q2⟩ :: ⟨y.hi, q3⟩ :: ⟨[93], q4⟩ :: ⟨[40], q5⟩ :: (u ++ [⟨[41], q6⟩])) ∨
    (isNameB y.word = false ∧ isTwoB y.word = true ∧ y.args = [] ∧ numB y.lo = true ∧ endB y.hi = true ∧ ∃ q1 q2 q3 q4 q5 q6 q7 u u', Reads l u ∧ Reads r u' ∧ ts = ⟨y.word, p⟩ :: ⟨[91], sp⟩ :: ⟨y.lo, q1⟩ :: ⟨[44], q2⟩ :: ⟨y.hi, q3⟩ :: ⟨[93], q4⟩ :: ⟨[40], q5⟩ :: (u ++ ⟨[44], q6⟩ :: (u' ++ [⟨[41], q7⟩]))) ∨
    (isNameB y.word = false ∧ y.word = [116, 114, 117, 101] ∧ y.args = [] ∧ y.lo = [] ∧ y.hi = [] ∧ l = .nil ∧ r = .nil ∧ ts = [⟨y.word, p⟩])

theorem bind_inr {α β : Type} {x : Pres α} {f : α → List Tok → Pres β} {c : β × List Tok} (h : bindP x f = .inr c) : ∃ a r, x = .inr (a, r) ∧ f a r = .inr c := by
  cases x with
  | inl r => simp [bindP] at h
  | inr p => exact ⟨p.1, p.2, rfl, h⟩
theorem isTok_eq {c t : List UInt8} (h : isTok c t = true) : t = c := by
  unfold isTok at h
  simp at h
  exact h.symm
theorem need_tok {c : List UInt8} {ts r : List Tok} {t : Tok} (h : need (isTok c) ts = .inr (t, r)) : ts = ⟨c, t.pos⟩ :: r := by
  obtain ⟨h1, h2⟩ := need_mem h
  have := isTok_eq h2
  rw [h1, ← this]
theorem span_reads {ts r : List Tok} {x : Nat × List UInt8 × List UInt8} (h : parseSpan ts = .inr (x, r)) : numB x.2.1 = true ∧ endB x.2.2 = true ∧ ∃ q1 q2 q3 q4, ts = ⟨[91], x.1⟩ :: ⟨x.2.1, q1⟩ :: ⟨[44], q2⟩ :: ⟨x.2.2, q3⟩ :: ⟨[93], q4⟩ :: r := by
  obtain ⟨t1, r1, h1, h⟩ := bind_inr h
  obtain ⟨t2, r2, h2, h⟩ := bind_inr h
  obtain ⟨t3, r3, h3, h⟩ := bind_inr h
  obtain ⟨t4, r4, h4, h⟩ := bind_inr h
  obtain ⟨t5, r5, h5, h⟩ := bind_inr h
  simp at h
  obtain ⟨rfl, rfl⟩ := h
  have e1 := need_tok h1
  obtain ⟨e2, g2⟩ := need_mem h2
  have e3 := need_tok h3
  obtain ⟨e4, g4⟩ := need_mem h4
  have e5 := need_tok h5
  exact ⟨g2, g4, t2.pos, t3.pos, t4.pos, t5.pos, by rw [e1, e2, e3, e4, e5]⟩
theorem more_reads {ts r : List Tok} {x : List (List UInt8)} (h : parseMore ts = .inr (x, r)) : (x = [] ∧ r = ts) ∨ ∃ b q1 q2, argB b = true ∧ x = [b] ∧ ts = ⟨[44], q1⟩ :: ⟨b, q2⟩ :: r := by
  unfold parseMore at h
  by_cases hc : (hd ts == [44]) = true
  · rw [if_pos hc] at h
    obtain ⟨t1, r1, h1, h⟩ := bind_inr h
    obtain ⟨t2, r2, h2, h⟩ := bind_inr h
    simp at h
    obtain ⟨rfl, rfl⟩ := h
    have e1 := need_tok h1
    obtain ⟨e2, g2⟩ := need_mem h2
    exact .inr ⟨t2.text, t1.pos, t2.pos, g2, rfl, by rw [e1, e2]⟩
  · rw [if_neg hc] at h
    simp at h
    exact .inl ⟨h.1, h.2.symm⟩
theorem parse_reads : ∀ (n : Nat) (ts r : List Tok) (F : Form), parseF n ts = .inr (F, r) → ∃ u, ts = u ++ r ∧ Reads F u := by
  intro n
  induction n with
  | zero => intro ts r F h; simp [parseF] at h
  | succ n ih =>
    intro ts r F h
    rw [parseF] at h
    by_cases c1 : isNameB (hd ts) = true
    · rw [if_pos c1] at h
      obtain ⟨t1, r1, h1, h⟩ := bind_inr h
      obtain ⟨t2, r2, h2, h⟩ := bind_inr h
      obtain ⟨t3, r3, h3, h⟩ := bind_inr h
      obtain ⟨x4, r4, h4, h⟩ := bind_inr h
      obtain ⟨t5, r5, h5, h⟩ := bind_inr h
      simp at h
      obtain ⟨rfl, rfl⟩ := h
      obtain ⟨e1, g1⟩ := need_mem h1
      have e2 := need_tok h2
      obtain ⟨e3, g3⟩ := need_mem h3
      have e5 := need_tok h5
      rcases more_reads h4 with ⟨rfl, rfl⟩ | ⟨b, q1, q2, gb, rfl, e4⟩
      · exact ⟨[t1, ⟨[40], t2.pos⟩, t3, ⟨[41], t5.pos⟩], by rw [e1, e2, e3, e5]; rfl, .inl ⟨g1, rfl, rfl, rfl, rfl, t2.pos, t3.pos, t5.pos, t3.text, g3, .inl ⟨rfl, rfl⟩⟩⟩
      · exact ⟨[t1, ⟨[40], t2.pos⟩, t3, ⟨[44], q1⟩, ⟨b, q2⟩, ⟨[41], t5.pos⟩], by rw [e1, e2, e3, e4, e5]; rfl, .inl ⟨g1, rfl, rfl, rfl, rfl, t2.pos, t3.pos, t5.pos, t3.text, g3, .inr ⟨b, q1, q2, gb, rfl, rfl⟩⟩⟩
    · rw [if_neg c1] at h
      by_cases c2 : (hd ts == [101, 120, 105, 115, 116, 115]) = true
      · rw [if_pos c2] at h
        obtain ⟨t1, r1, h1, h⟩ := bind_inr h
        obtain ⟨t2, r2, h2, h⟩ := bind_inr h
        obtain ⟨t3, r3, h3, h⟩ := bind_inr h
        obtain ⟨A, r4, h4, h⟩ := bind_inr h
        obtain ⟨t5, r5, h5, h⟩ := bind_inr h
        simp at h
        obtain ⟨rfl, rfl⟩ := h
        obtain ⟨e1, g1⟩ := need_mem h1
        have g1 := isTok_eq g1
        obtain ⟨e2, g2⟩ := need_mem h2
        have e3 := need_tok h3
        obtain ⟨u, e4, hu⟩ := ih _ _ _ h4
        have e5 := need_tok h5
        simp only [beq_iff_eq] at c2
        rw [c2] at g1 c1
        refine ⟨t1 :: t2 :: ⟨[40], t3.pos⟩ :: (u ++ [⟨[41], t5.pos⟩]), by rw [e1, e2, e3, e4, e5]; simp, .inr (.inl ⟨?_, g1, rfl, rfl, rfl, t2.text, t2.pos, t3.pos, t5.pos, u, g2, rfl, hu, rfl⟩)⟩
        show isNameB t1.text = false
        rw [g1]
        simpa using c1
      · rw [if_neg c2] at h
        by_cases c3 : isPlainB (hd ts) = true
        · rw [if_pos c3] at h
          obtain ⟨t1, r1, h1, h⟩ := bind_inr h
          obtain ⟨t2, r2, h2, h⟩ := bind_inr h
          obtain ⟨A, r3, h3, h⟩ := bind_inr h
          obtain ⟨t4, r4, h4, h⟩ := bind_inr h
          obtain ⟨B, r5, h5, h⟩ := bind_inr h
          obtain ⟨t6, r6, h6, h⟩ := bind_inr h
          simp at h
          obtain ⟨rfl, rfl⟩ := h
          obtain ⟨e1, g1⟩ := need_mem h1
          have g1 := isTok_eq g1
          have e2 := need_tok h2
          obtain ⟨u, e3, hu⟩ := ih _ _ _ h3
          have e4 := need_tok h4
          obtain ⟨u', e5, hu'⟩ := ih _ _ _ h5
          have e6 := need_tok h6
          rw [← g1] at c1 c3
          exact ⟨t1 :: ⟨[40], t2.pos⟩ :: (u ++ ⟨[44], t4.pos⟩ :: (u' ++ [⟨[41], t6.pos⟩])), by rw [e1, e2, e3, e4, e5, e6]; simp, .inr (.inr (.inl ⟨by simpa [noPay] using c1, c3, rfl, rfl, rfl, t2.pos, t4.pos, t6.pos, u, u', hu, hu', rfl⟩))⟩
        · rw [if_neg c3] at h
          by_cases c4 : isOneB (hd ts) = true
          · rw [if_pos c4] at h
            obtain ⟨t1, r1, h1, h⟩ := bind_inr h
            obtain ⟨x2, r2, h2, h⟩ := bind_inr h
            obtain ⟨t3, r3, h3, h⟩ := bind_inr h
            obtain ⟨A, r4, h4, h⟩ := bind_inr h
            obtain ⟨t5, r5, h5, h⟩ := bind_inr h
            simp at h
            obtain ⟨rfl, rfl⟩ := h
            obtain ⟨e1, g1⟩ := need_mem h1
            have g1 := isTok_eq g1
            obtain ⟨n1, n2, q1, q2, q3, q4, e2⟩ := span_reads h2
            have e3 := need_tok h3
            obtain ⟨u, e4, hu⟩ := ih _ _ _ h4
            have e5 := need_tok h5
            rw [← g1] at c1 c4
            exact ⟨t1 :: ⟨[91], x2.1⟩ :: ⟨x2.2.1, q1⟩ :: ⟨[44], q2⟩ :: ⟨x2.2.2, q3⟩ :: ⟨[93], q4⟩ :: ⟨[40], t3.pos⟩ :: (u ++ [⟨[41], t5.pos⟩]), by rw [e1, e2, e3, e4, e5]; simp, .inr (.inr (.inr (.inl ⟨by simpa using c1, c4, rfl, rfl, n1, n2, q1, q2, q3, q4, t3.pos, t5.pos, u, hu, rfl⟩)))⟩
          · rw [if_neg c4] at h
            by_cases c5 : isTwoB (hd ts) = true
            · rw [if_pos c5] at h
              obtain ⟨t1, r1, h1, h⟩ := bind_inr h
              obtain ⟨x2, r2, h2, h⟩ := bind_inr h
              obtain ⟨t3, r3, h3, h⟩ := bind_inr h
              obtain ⟨A, r4, h4, h⟩ := bind_inr h
              obtain ⟨t5, r5, h5, h⟩ := bind_inr h
              obtain ⟨B, r6, h6, h⟩ := bind_inr h
              obtain ⟨t7, r7, h7, h⟩ := bind_inr h
              simp at h
              obtain ⟨rfl, rfl⟩ := h
              obtain ⟨e1, g1⟩ := need_mem h1
              have g1 := isTok_eq g1
              obtain ⟨n1, n2, q1, q2, q3, q4, e2⟩ := span_reads h2
              have e3 := need_tok h3
              obtain ⟨u, e4, hu⟩ := ih _ _ _ h4
              have e5 := need_tok h5
              obtain ⟨u', e6, hu'⟩ := ih _ _ _ h6
              have e7 := need_tok h7
              rw [← g1] at c1 c5
              exact ⟨t1 :: ⟨[91], x2.1⟩ :: ⟨x2.2.1, q1⟩ :: ⟨[44], q2⟩ :: ⟨x2.2.2, q3⟩ :: ⟨[93], q4⟩ :: ⟨[40], t3.pos⟩ :: (u ++ ⟨[44], t5.pos⟩ :: (u' ++ [⟨[41], t7.pos⟩])), by rw [e1, e2, e3, e4, e5, e6, e7]; simp, .inr (.inr (.inr (.inr (.inl ⟨by simpa using c1, c5, rfl, n1, n2, q1, q2, q3, q4, t3.pos, t5.pos, t7.pos, u, u', hu, hu', rfl⟩))))⟩
            · rw [if_neg c5] at h
              obtain ⟨t1, r1, h1, h⟩ := bind_inr h
              simp at h
              obtain ⟨rfl, rfl⟩ := h
              obtain ⟨e1, g1⟩ := need_mem h1
              have g1 := isTok_eq g1
              refine ⟨[t1], by rw [e1]; rfl, .inr (.inr (.inr (.inr (.inr ⟨?_, g1, rfl, rfl, rfl, rfl, rfl, rfl⟩))))⟩
              show isNameB t1.text = false
              rw [g1]
              decide

theorem parse_rest {n : Nat} {ts r : List Tok} {F : Form} (h : parseF n ts = .inr (F, r)) (hts : ∀ t ∈ ts, t.text ≠ []) : ∀ t ∈ r, t.text ≠ [] := by
  obtain ⟨u, rfl, _⟩ := parse_reads n ts r F h
  exact fun t ht => hts t (by simp [ht])
theorem span_rest {ts r : List Tok} {x : Nat × List UInt8 × List UInt8} (h : parseSpan ts = .inr (x, r)) (hts : ∀ t ∈ ts, t.text ≠ []) : ∀ t ∈ r, t.text ≠ [] := by
  obtain ⟨_, _, q1, q2, q3, q4, rfl⟩ := span_reads h
  exact fun t ht => hts t (by simp [ht])
theorem more_rest {ts r : List Tok} {x : List (List UInt8)} (h : parseMore ts = .inr (x, r)) (hts : ∀ t ∈ ts, t.text ≠ []) : ∀ t ∈ r, t.text ≠ [] := by
  rcases more_reads h with ⟨_, rfl⟩ | ⟨b, q1, q2, _, _, rfl⟩
  · exact hts
  · exact fun t ht => hts t (by simp [ht])

/-- A word of an operator, as a symbol. -/
def opWord (t : List UInt8) : Bool := t == [101, 120, 105, 115, 116, 115] || isPlainB t || isOneB t || isTwoB t
theorem op_cases {t : List UInt8} (h : opWord t = true) : t ∈ [[101, 120, 105, 115, 116, 115], [97, 110, 100], [98, 117, 116], [111, 114], [112, 114, 101, 118], [110, 101, 120, 116], [111, 110, 99, 101], [115, 111, 111, 110], [115, 105, 110, 99, 101], [117, 110, 115, 105, 110, 99, 101], [117, 110, 116, 105, 108], [117, 110, 117, 110, 116, 105, 108]] := by
  unfold opWord isPlainB isOneB isTwoB inB w3plain w4one w4two at h
  simp [List.any] at h
  simp
  rcases h with ((h | h | h | h) | h | h | h | h) | h | h | h | h <;> simp [h]
theorem runs_word (L : Nat) (ts : List Tok) (h : opWord (hd ts) = true) (hts : ∀ t ∈ ts, t.text ≠ []) : Runs L [hd ts] ts (outP (need (isTok (hd ts)) ts)) := by
  have hc := op_cases h
  generalize hd ts = t at *
  simp only [List.mem_cons, List.not_mem_nil, or_false] at hc
  rcases hc with rfl | rfl | rfl | rfl | rfl | rfl | rfl | rfl | rfl | rfl | rfl | rfl
  all_goals exact runs_lit L _ _ (by decide) (by decide) (by decide) (by decide) (by decide) (by decide) (by decide) (by decide) hts
theorem runs_span (L : Nat) (ts : List Tok) (hts : ∀ t ∈ ts, t.text ≠ []) : Runs L [[91], [78, 85, 77], [44], [69, 78, 68], [93]] ts (outP (parseSpan ts)) := by
  refine runs_bind (ss := [[91]]) (ss' := [[78, 85, 77], [44], [69, 78, 68], [93]]) (runs_lit L _ _ (by decide) (by decide) (by decide) (by decide) (by decide) (by decide) (by decide) (by decide) hts) fun a1 r1 g1 => ?_
  have hts := need_rest g1 hts
  refine runs_bind (ss := [[78, 85, 77]]) (ss' := [[44], [69, 78, 68], [93]]) (runs_num L _) fun a2 r2 g2 => ?_
  have hts := need_rest g2 hts
  refine runs_bind (ss := [[44]]) (ss' := [[69, 78, 68], [93]]) (runs_lit L _ _ (by decide) (by decide) (by decide) (by decide) (by decide) (by decide) (by decide) (by decide) hts) fun a3 r3 g3 => ?_
  have hts := need_rest g3 hts
  refine runs_bind (ss := [[69, 78, 68]]) (ss' := [[93]]) (runs_end L _ hts) fun a4 r4 g4 => ?_
  have hts := need_rest g4 hts
  exact runs_bind (ss := [[93]]) (ss' := []) (runs_lit L _ _ (by decide) (by decide) (by decide) (by decide) (by decide) (by decide) (by decide) (by decide) hts) fun a5 r5 g5 => runs_nil L r5
theorem becomes_fsym (d : Nat) (h1 : 1 ≤ d) (h9 : d ≤ 9) (t : List UInt8) : becomesS (fSym d) t = some (fNext t d) := by
  rcases (by omega : d = 1 ∨ d = 2 ∨ d = 3 ∨ d = 4 ∨ d = 5 ∨ d = 6 ∨ d = 7 ∨ d = 8 ∨ d = 9) with rfl | rfl | rfl | rfl | rfl | rfl | rfl | rfl | rfl <;> rfl
theorem runs_none (L : Nat) (ts : List Tok) (hts : ∀ t ∈ ts, t.text ≠ [78, 79, 78, 69]) (hne : ∀ t ∈ ts, t.text ≠ []) : Runs L [[78, 79, 78, 69]] ts (.inl ts) := by
  have h := runs_lit L [78, 79, 78, 69] ts (by decide) (by decide) (by decide) (by decide) (by decide) (by decide) (by decide) (by decide) hne
  have e : need (isTok [78, 79, 78, 69]) ts = .inl ts := by
    cases ts with
    | nil => rfl
    | cons t r =>
      have := hts t (by simp)
      simp only [need]
      rw [if_neg]
      intro g
      exact this (isTok_eq g)
  rw [e] at h
  exact h
theorem runs_F (L : Nat) : ∀ (n d : Nat) (ts : List Tok), n + d = 9 → 1 ≤ d → (∀ t ∈ ts, t.text ≠ [78, 79, 78, 69]) → (∀ t ∈ ts, t.text ≠ []) → Runs L [fSym d] ts (outP (parseF n ts)) := by
  intro n
  induction n with
  | zero =>
    intro d ts hd9 hd1 hN hts
    refine runs_step (becomes_fsym d hd1 (by omega) _) ?_
    unfold fNext
    rw [if_pos (by omega)]
    exact runs_none L ts hN hts
  | succ n ih =>
    intro d ts hd9 hd1 hN hts
    have sub : ∀ {r : List Tok}, (∀ t ∈ r, t ∈ ts) → Runs L [fSym (d + 1)] r (outP (parseF n r)) := fun hr => ih (d + 1) _ (by omega) (by omega) (fun t ht => hN t (hr t ht)) (fun t ht => hts t (hr t ht))
    refine runs_step (becomes_fsym d hd1 (by omega) _) ?_
    unfold fNext
    rw [if_neg (by omega), parseF]
    by_cases c1 : isNameB (hd ts) = true
    · rw [if_pos c1, if_pos c1]
      refine runs_bind (ss := [[78, 65, 77, 69]]) (ss' := [[40], [65, 82, 71], [77, 79, 82, 69], [41]]) (runs_name L _) fun a1 r1 g1 => ?_
      have hts := need_rest g1 hts
      refine runs_bind (ss := [[40]]) (ss' := [[65, 82, 71], [77, 79, 82, 69], [41]]) (runs_lit L _ _ (by decide) (by decide) (by decide) (by decide) (by decide) (by decide) (by decide) (by decide) hts) fun a2 r2 g2 => ?_
      have hts := need_rest g2 hts
      refine runs_bind (ss := [[65, 82, 71]]) (ss' := [[77, 79, 82, 69], [41]]) (runs_arg L _ hts) fun a3 r3 g3 => ?_
      have hts := need_rest g3 hts
      refine runs_bind (ss := [[77, 79, 82, 69]]) (ss' := [[41]]) (runs_more L _ hts) fun a4 r4 g4 => ?_
      have hts := more_rest g4 hts
      exact runs_bind (ss := [[41]]) (ss' := []) (runs_lit L _ _ (by decide) (by decide) (by decide) (by decide) (by decide) (by decide) (by decide) (by decide) hts) fun a5 r5 g5 => runs_nil L r5
    · rw [if_neg c1, if_neg c1]
      by_cases cw : opWord (hd ts) = true
      · rw [if_pos (show (hd ts == [101, 120, 105, 115, 116, 115] || isPlainB (hd ts) || isOneB (hd ts) || isTwoB (hd ts)) = true from cw)]
        unfold bodyS bodyF
        by_cases c2 : (hd ts == [101, 120, 105, 115, 116, 115]) = true
        · rw [if_pos c2, if_pos c2]
          refine runs_bind (ss := [hd ts]) (ss' := [[86, 65, 82], [40], fSym (d + 1), [41]]) (runs_word L _ cw hts) fun a1 r1 g1 => ?_
          have m1 := (need_mem g1).1
          have h1 := need_rest g1 hts
          refine runs_bind (ss := [[86, 65, 82]]) (ss' := [[40], fSym (d + 1), [41]]) (runs_var L _) fun a2 r2 g2 => ?_
          have m2 := (need_mem g2).1
          have h2 := need_rest g2 h1
          refine runs_bind (ss := [[40]]) (ss' := [fSym (d + 1), [41]]) (runs_lit L _ _ (by decide) (by decide) (by decide) (by decide) (by decide) (by decide) (by decide) (by decide) h2) fun a3 r3 g3 => ?_
          have m3 := (need_mem g3).1
          have h3 := need_rest g3 h2
          refine runs_bind (ss := [fSym (d + 1)]) (ss' := [[41]]) (sub (fun t ht => by rw [m1, m2, m3]; simp [ht])) fun a4 r4 g4 => ?_
          have h4 := parse_rest g4 h3
          exact runs_bind (ss := [[41]]) (ss' := []) (runs_lit L _ _ (by decide) (by decide) (by decide) (by decide) (by decide) (by decide) (by decide) (by decide) h4) fun a5 r5 g5 => runs_nil L r5
        · rw [if_neg c2, if_neg c2]
          by_cases c3 : isPlainB (hd ts) = true
          · rw [if_pos c3, if_pos c3]
            refine runs_bind (ss := [hd ts]) (ss' := [[40], fSym (d + 1), [44], fSym (d + 1), [41]]) (runs_word L _ cw hts) fun a1 r1 g1 => ?_
            have m1 := (need_mem g1).1
            have h1 := need_rest g1 hts
            refine runs_bind (ss := [[40]]) (ss' := [fSym (d + 1), [44], fSym (d + 1), [41]]) (runs_lit L _ _ (by decide) (by decide) (by decide) (by decide) (by decide) (by decide) (by decide) (by decide) h1) fun a2 r2 g2 => ?_
            have m2 := (need_mem g2).1
            have h2 := need_rest g2 h1
            refine runs_bind (ss := [fSym (d + 1)]) (ss' := [[44], fSym (d + 1), [41]]) (sub (fun t ht => by rw [m1, m2]; simp [ht])) fun a3 r3 g3 => ?_
            obtain ⟨u3, m3, _⟩ := parse_reads _ _ _ _ g3
            have h3 := parse_rest g3 h2
            refine runs_bind (ss := [[44]]) (ss' := [fSym (d + 1), [41]]) (runs_lit L _ _ (by decide) (by decide) (by decide) (by decide) (by decide) (by decide) (by decide) (by decide) h3) fun a4 r4 g4 => ?_
            have m4 := (need_mem g4).1
            have h4 := need_rest g4 h3
            refine runs_bind (ss := [fSym (d + 1)]) (ss' := [[41]]) (sub (fun t ht => by rw [m1, m2, m3, m4]; simp [ht])) fun a5 r5 g5 => ?_
            have h5 := parse_rest g5 h4
            exact runs_bind (ss := [[41]]) (ss' := []) (runs_lit L _ _ (by decide) (by decide) (by decide) (by decide) (by decide) (by decide) (by decide) (by decide) h5) fun a6 r6 g6 => runs_nil L r6
          · rw [if_neg c3, if_neg c3]
            by_cases c4 : isOneB (hd ts) = true
            · rw [if_pos c4, if_pos c4]
              refine runs_bind (ss := [hd ts]) (ss' := [[91], [78, 85, 77], [44], [69, 78, 68], [93], [40], fSym (d + 1), [41]]) (runs_word L _ cw hts) fun a1 r1 g1 => ?_
              have m1 := (need_mem g1).1
              have h1 := need_rest g1 hts
              refine runs_bind (ss := [[91], [78, 85, 77], [44], [69, 78, 68], [93]]) (ss' := [[40], fSym (d + 1), [41]]) (runs_span L _ h1) fun a2 r2 g2 => ?_
              obtain ⟨_, _, q1, q2, q3, q4, m2⟩ := span_reads g2
              have h2 := span_rest g2 h1
              refine runs_bind (ss := [[40]]) (ss' := [fSym (d + 1), [41]]) (runs_lit L _ _ (by decide) (by decide) (by decide) (by decide) (by decide) (by decide) (by decide) (by decide) h2) fun a3 r3 g3 => ?_
              have m3 := (need_mem g3).1
              have h3 := need_rest g3 h2
              refine runs_bind (ss := [fSym (d + 1)]) (ss' := [[41]]) (sub (fun t ht => by rw [m1, m2, m3]; simp [ht])) fun a4 r4 g4 => ?_
              have h4 := parse_rest g4 h3
              exact runs_bind (ss := [[41]]) (ss' := []) (runs_lit L _ _ (by decide) (by decide) (by decide) (by decide) (by decide) (by decide) (by decide) (by decide) h4) fun a5 r5 g5 => runs_nil L r5
            · rw [if_neg c4, if_neg c4]
              have c5 : isTwoB (hd ts) = true := by
                unfold opWord at cw
                simpa [c2, c3, c4] using cw
              rw [if_pos c5]
              refine runs_bind (ss := [hd ts]) (ss' := [[91], [78, 85, 77], [44], [69, 78, 68], [93], [40], fSym (d + 1), [44], fSym (d + 1), [41]]) (runs_word L _ cw hts) fun a1 r1 g1 => ?_
              have m1 := (need_mem g1).1
              have h1 := need_rest g1 hts
              refine runs_bind (ss := [[91], [78, 85, 77], [44], [69, 78, 68], [93]]) (ss' := [[40], fSym (d + 1), [44], fSym (d + 1), [41]]) (runs_span L _ h1) fun a2 r2 g2 => ?_
              obtain ⟨_, _, q1, q2, q3, q4, m2⟩ := span_reads g2
              have h2 := span_rest g2 h1
              refine runs_bind (ss := [[40]]) (ss' := [fSym (d + 1), [44], fSym (d + 1), [41]]) (runs_lit L _ _ (by decide) (by decide) (by decide) (by decide) (by decide) (by decide) (by decide) (by decide) h2) fun a3 r3 g3 => ?_
              have m3 := (need_mem g3).1
              have h3 := need_rest g3 h2
              refine runs_bind (ss := [fSym (d + 1)]) (ss' := [[44], fSym (d + 1), [41]]) (sub (fun t ht => by rw [m1, m2, m3]; simp [ht])) fun a4 r4 g4 => ?_
              obtain ⟨u4, m4, _⟩ := parse_reads _ _ _ _ g4
              have h4 := parse_rest g4 h3
              refine runs_bind (ss := [[44]]) (ss' := [fSym (d + 1), [41]]) (runs_lit L _ _ (by decide) (by decide) (by decide) (by decide) (by decide) (by decide) (by decide) (by decide) h4) fun a5 r5 g5 => ?_
              have m5 := (need_mem g5).1
              have h5 := need_rest g5 h4
              refine runs_bind (ss := [fSym (d + 1)]) (ss' := [[41]]) (sub (fun t ht => by rw [m1, m2, m3, m4, m5]; simp [ht])) fun a6 r6 g6 => ?_
              have h6 := parse_rest g6 h5
              exact runs_bind (ss := [[41]]) (ss' := []) (runs_lit L _ _ (by decide) (by decide) (by decide) (by decide) (by decide) (by decide) (by decide) (by decide) h6) fun a7 r7 g7 => runs_nil L r7
      · rw [if_neg (show ¬ (hd ts == [101, 120, 105, 115, 116, 115] || isPlainB (hd ts) || isOneB (hd ts) || isTwoB (hd ts)) = true from cw)]
        have cw' : opWord (hd ts) = false := by simpa using cw
        unfold opWord at cw'
        simp only [Bool.or_eq_false_iff] at cw'
        obtain ⟨⟨⟨c2, c3⟩, c4⟩, c5⟩ := cw'
        rw [c2, c3, c4, c5]
        simp only [Bool.false_eq_true, if_false]
        exact runs_bind (ss := [[116, 114, 117, 101]]) (ss' := []) (runs_lit L _ _ (by decide) (by decide) (by decide) (by decide) (by decide) (by decide) (by decide) (by decide) hts) fun a5 r5 g5 => runs_nil L r5

/-- The syntax of the whole: nothing, if it is a formula, or the place of the error. -/
def parseR (L : Nat) (ts : List Tok) : Option Nat := match parseF 8 ts with
  | .inl r => some (plc L r)
  | .inr (_, []) => none
  | .inr (_, t :: _) => some t.pos
theorem mach_parse (L : Nat) (ts : List Tok) (hN : ∀ t ∈ ts, t.text ≠ [78, 79, 78, 69]) (hts : ∀ t ∈ ts, t.text ≠ []) : ∃ k, mach L k [fSym 1] ts = some (parseR L ts) := by
  obtain ⟨k, hk⟩ := runs_F L 8 1 ts rfl (by omega) hN hts []
  refine ⟨k + 1, ?_⟩
  have h := hk 1
  simp only [List.append_nil] at h
  rw [h]
  unfold parseR
  cases parseF 8 ts with
  | inl r => rfl
  | inr p =>
    obtain ⟨F, r⟩ := p
    cases r <;> rfl
end Go.Proofs.YtiamjjonoeaggaaDoor
