import Derived.Test.YtiamjjonoeaggaaDoorReads
namespace Go.Proofs.YtiamjjonoeaggaaDoor
open Go.RowKit

/-- What a token of a text is like. -/
def tokGood (t : Tok) : Prop := ∃ c r, t.text = c :: r ∧ okTok c t.text = true ∧ (digB (c.toNat : Int) = true → digs t.text = true)
theorem dig_not_let {n : Int} (h : digB n = true) : letB n = false := by
  simp [digB] at h
  simp [letB]
  omega
theorem span_digs (l : List UInt8) : ∀ c : UInt8, digB (c.toNat : Int) = true → (l.take (spanLen c l)).all (fun c => digB (c.toNat : Int)) = true := by
  induction l with
  | nil => intro c _; simp
  | cons d r ih =>
    intro c hc
    rw [spanLen]
    by_cases hr : rowB (c.toNat : Int) (d.toNat : Int) = true
    · rw [if_pos hr]
      have hd : digB (d.toNat : Int) = true := by
        unfold rowB at hr
        rw [dig_not_let hc, hc] at hr
        simpa using hr
      rw [List.take_succ_cons, List.all_cons, hd, ih d hd]
      rfl
    · rw [if_neg hr]; simp
theorem cut_tok (s : List UInt8) (i : Nat) (h : i < s.length) : cut s i (tokEnd s i) = s.getD i 0 :: (s.drop (i + 1)).take (spanLen (s.getD i 0) (s.drop (i + 1))) := by
  unfold cut tokEnd
  rw [List.drop_eq_getElem_cons h]
  have e : i + 1 + spanLen (s.getD i 0) (s.drop (i + 1)) - i = spanLen (s.getD i 0) (s.drop (i + 1)) + 1 := by omega
  rw [e, List.take_succ_cons]
  simp [List.getD, h]
theorem lexF_good (s : List UInt8) : ∀ (f i : Nat) (acc : List Tok), (∀ t ∈ acc, tokGood t) → ∀ t ∈ (lexF s f i acc).1, tokGood t := by
  intro f
  induction f with
  | zero => intro i acc h; exact h
  | succ f ih =>
    intro i acc h
    rw [lexF]
    by_cases h1 : s.length ≤ i
    · rw [if_pos h1]; exact h
    · rw [if_neg h1]
      by_cases h2 : isBlank (s.getD i 0) = true
      · rw [if_pos h2]; exact ih _ _ h
      · rw [if_neg h2]
        by_cases h3 : okTok (s.getD i 0) (cut s i (tokEnd s i)) = true
        · rw [if_pos h3]
          refine ih _ _ (fun t ht => ?_)
          rcases List.mem_append.1 ht with ht | ht
          · exact h t ht
          · have := List.mem_singleton.1 ht
            subst this
            refine ⟨_, _, cut_tok s i (by omega), h3, fun hd => ?_⟩
            show digs (cut s i (tokEnd s i)) = true
            rw [cut_tok s i (by omega)]
            unfold digs
            rw [List.all_cons, hd, span_digs _ _ hd]
            rfl
        · rw [if_neg h3]; simp
theorem lex_good (s : List UInt8) : ∀ t ∈ (lexR s).1, tokGood t := lexF_good s _ _ _ (by simp)
theorem good_ne {t : Tok} (h : tokGood t) : t.text ≠ [] := by
  obtain ⟨c, r, e, _⟩ := h
  rw [e]; simp
theorem sign_head {c : UInt8} {r : List UInt8} (h : inB (c :: r) w6sign = true) : c.toNat < 94 ∧ c.toNat ≠ 70 ∧ c.toNat ≠ 78 ∧ c.toNat ≠ 69 ∧ c.toNat ≠ 65 ∧ c.toNat ≠ 77 ∧ c.toNat ≠ 86 := by
  unfold inB w6sign at h
  simp [List.any] at h
  rcases h with ⟨h, _⟩ | ⟨h, _⟩ | ⟨h, _⟩ | ⟨h, _⟩ | ⟨h, _⟩ | ⟨h, _⟩ <;> subst h <;> decide
theorem good_head {t : Tok} (h : tokGood t) : ∃ c r, t.text = c :: r ∧ c.toNat ≠ 70 ∧ c.toNat ≠ 78 ∧ c.toNat ≠ 69 ∧ c.toNat ≠ 65 ∧ c.toNat ≠ 77 ∧ c.toNat ≠ 86 := by
  obtain ⟨c, r, e, h, _⟩ := h
  refine ⟨c, r, e, ?_⟩
  unfold okTok at h
  simp only [Bool.or_eq_true, Bool.and_eq_true] at h
  rcases h with (h | h) | h
  · rw [e] at h; exact (sign_head h).2
  · have := h.1; simp [digB] at this; omega
  · have := h.1; simp [letB] at this; omega
theorem good_notNONE {t : Tok} (h : tokGood t) : t.text ≠ [78, 79, 78, 69] := by
  obtain ⟨c, r, e, _, h, _⟩ := good_head h
  rw [e]
  intro g
  simp at g
  have := g.1
  subst this
  exact h rfl

/-- The weight of a symbol: how much may come of it. -/
def wF : Nat → Nat
  | 0 => 1
  | n + 1 => 2 * wF n + 12
def wt (s : List UInt8) : Nat := if s == [77, 79, 82, 69] then 2 else match s with
  | 70 :: r => wF (9 - numV r)
  | _ => 1
def wts (l : List (List UInt8)) : Nat := (l.map wt).sum
def symOk (s : List UInt8) : Prop := s ≠ [] ∧ (s.head? = some 70 → ∃ d, 1 ≤ d ∧ d ≤ 9 ∧ s = fSym d)
theorem wF_pos (n : Nat) : 1 ≤ wF n := by
  cases n with
  | zero => exact Nat.le_refl _
  | succ n => rw [wF]; omega
theorem wt_pos (s : List UInt8) : 1 ≤ wt s := by
  unfold wt
  split
  · omega
  · split
    · exact wF_pos _
    · omega
theorem len_wts (l : List (List UInt8)) : l.length ≤ wts l := by
  induction l with
  | nil => simp
  | cons s l ih =>
    have := wt_pos s
    simp [wts] at ih ⊢
    omega
theorem wt_f (d : Nat) (h1 : 1 ≤ d) (h9 : d ≤ 9) : wt (fSym d) = wF (9 - d) := by
  rcases (by omega : d = 1 ∨ d = 2 ∨ d = 3 ∨ d = 4 ∨ d = 5 ∨ d = 6 ∨ d = 7 ∨ d = 8 ∨ d = 9) with rfl | rfl | rfl | rfl | rfl | rfl | rfl | rfl | rfl <;> rfl
theorem symOk_f (d : Nat) (h1 : 1 ≤ d) (h9 : d ≤ 9) : symOk (fSym d) := ⟨by simp [fSym], fun _ => ⟨d, h1, h9, rfl⟩⟩
theorem symOk_of {s : List UInt8} (h : s ≠ []) (h' : s.head? ≠ some 70) : symOk s := ⟨h, fun e => absurd e h'⟩
theorem numV_f (d : Nat) (h1 : 1 ≤ d) (h9 : d ≤ 9) : becomesS (fSym d) = fun t => some (fNext t d) := by
  funext t
  exact becomes_fsym d h1 h9 t
theorem wt_one {s : List UInt8} (h1 : (s == [77, 79, 82, 69]) = false) (h2 : s.head? ≠ some 70) : wt s = 1 := by
  unfold wt
  rw [h1]
  simp only [Bool.false_eq_true, if_false]
  split
  · rename_i r
    exact absurd rfl h2
  · rfl
theorem op_sym {t : List UInt8} (h : opWord t = true) : symOk t ∧ wt t = 1 := by
  have hc := op_cases h
  simp only [List.mem_cons, List.not_mem_nil, or_false] at hc
  rcases hc with rfl | rfl | rfl | rfl | rfl | rfl | rfl | rfl | rfl | rfl | rfl | rfl
  all_goals exact ⟨symOk_of (by decide) (by decide), wt_one (by decide) (by decide)⟩
theorem wts_cons (s : List UInt8) (l : List (List UInt8)) : wts (s :: l) = wt s + wts l := by simp [wts]
theorem wts_nil : wts [] = 0 := rfl
theorem wts_app (a b : List (List UInt8)) : wts (a ++ b) = wts a + wts b := by simp [wts]
theorem body_ok {t : List UInt8} {d : Nat} (ho : opWord t = true) (h1 : 1 ≤ d) (h8 : d ≤ 8) : wts (bodyS t d) ≤ wF (9 - d) ∧ ∀ x ∈ bodyS t d, symOk x := by
  obtain ⟨hs, hw⟩ := op_sym ho
  have hf := wt_f (d + 1) (by omega) (by omega)
  have hfo := symOk_f (d + 1) (by omega) (by omega)
  have e : 9 - d = (9 - (d + 1)) + 1 := by omega
  rw [e, wF]
  have lits : ∀ x ∈ [[86, 65, 82], [40], [41], [44], [91], [93], [78, 85, 77], [69, 78, 68]], symOk x ∧ wt x = 1 := by
    intro x hx
    simp only [List.mem_cons, List.not_mem_nil, or_false] at hx
    rcases hx with rfl | rfl | rfl | rfl | rfl | rfl | rfl | rfl
    all_goals exact ⟨symOk_of (by decide) (by decide), wt_one (by decide) (by decide)⟩
  have l1 := lits [86, 65, 82] (by simp)
  have l2 := lits [40] (by simp)
  have l3 := lits [41] (by simp)
  have l4 := lits [44] (by simp)
  have l5 := lits [91] (by simp)
  have l6 := lits [93] (by simp)
  have l7 := lits [78, 85, 77] (by simp)
  have l8 := lits [69, 78, 68] (by simp)
  unfold bodyS bodyF
  generalize fSym (d + 1) = f at *
  generalize 9 - (d + 1) = n at *
  split
  · refine ⟨by simp only [wts_cons, wts_nil, hw, hf, l1.2, l2.2, l3.2]; omega, ?_⟩
    simp only [List.mem_cons, List.not_mem_nil, or_false]
    rintro x (rfl | rfl | rfl | rfl | rfl)
    all_goals first | exact hs | exact hfo | exact l1.1 | exact l2.1 | exact l3.1 | exact l4.1 | exact l5.1 | exact l6.1 | exact l7.1 | exact l8.1
  · split
    · refine ⟨by simp only [wts_cons, wts_nil, hw, hf, l2.2, l3.2, l4.2]; omega, ?_⟩
      simp only [List.mem_cons, List.not_mem_nil, or_false]
      rintro x (rfl | rfl | rfl | rfl | rfl | rfl)
      all_goals first | exact hs | exact hfo | exact l1.1 | exact l2.1 | exact l3.1 | exact l4.1 | exact l5.1 | exact l6.1 | exact l7.1 | exact l8.1
    · split
      · refine ⟨by simp only [wts_cons, wts_nil, hw, hf, l2.2, l3.2, l4.2, l5.2, l6.2, l7.2, l8.2]; omega, ?_⟩
        simp only [List.mem_cons, List.not_mem_nil, or_false]
        rintro x (rfl | rfl | rfl | rfl | rfl | rfl | rfl | rfl | rfl)
        all_goals first | exact hs | exact hfo | exact l1.1 | exact l2.1 | exact l3.1 | exact l4.1 | exact l5.1 | exact l6.1 | exact l7.1 | exact l8.1
      · refine ⟨by simp only [wts_cons, wts_nil, hw, hf, l2.2, l3.2, l4.2, l5.2, l6.2, l7.2, l8.2]; omega, ?_⟩
        simp only [List.mem_cons, List.not_mem_nil, or_false]
        rintro x (rfl | rfl | rfl | rfl | rfl | rfl | rfl | rfl | rfl | rfl | rfl)
        all_goals first | exact hs | exact hfo | exact l1.1 | exact l2.1 | exact l3.1 | exact l4.1 | exact l5.1 | exact l6.1 | exact l7.1 | exact l8.1
theorem becomes_ok {s t : List UInt8} {m : List (List UInt8)} (hs : symOk s) (h : becomesS s t = some m) : wts m ≤ wt s ∧ ∀ x ∈ m, symOk x := by
  by_cases hf : s.head? = some 70
  · obtain ⟨d, h1, h9, rfl⟩ := hs.2 hf
    rw [becomes_fsym d h1 h9] at h
    simp at h
    subst h
    rw [wt_f d h1 h9]
    unfold fNext
    by_cases h8 : 8 < d
    · rw [if_pos h8]
      have : d = 9 := by omega
      subst this
      exact ⟨by decide, by simp only [List.mem_singleton]; rintro x rfl; exact symOk_of (by decide) (by decide)⟩
    · rw [if_neg h8]
      have e : 9 - d = (8 - d) + 1 := by omega
      have hp := wF_pos (8 - d)
      split
      · rw [e, wF]
        refine ⟨?_, ?_⟩
        · have : wts [[78, 65, 77, 69], [40], [65, 82, 71], [77, 79, 82, 69], [41]] = 6 := by decide
          omega
        · simp only [List.mem_cons, List.not_mem_nil, or_false]
          rintro x (rfl | rfl | rfl | rfl | rfl)
          all_goals exact symOk_of (by decide) (by decide)
      · split
        · rename_i ho
          exact body_ok ho h1 (by omega)
        · rw [e, wF]
          refine ⟨?_, ?_⟩
          · have : wts [[116, 114, 117, 101]] = 1 := by decide
            omega
          · simp only [List.mem_singleton]; rintro x rfl; exact symOk_of (by decide) (by decide)
  · unfold becomesS at h
    by_cases h1 : (s == [69, 78, 68]) = true
    · rw [if_pos h1] at h
      have : s = [69, 78, 68] := by simpa using h1
      subst this
      simp at h
      subst h
      split
      · exact ⟨by decide, by simp only [List.mem_singleton]; rintro x rfl; exact symOk_of (by decide) (by decide)⟩
      · exact ⟨by decide, by simp only [List.mem_singleton]; rintro x rfl; exact symOk_of (by decide) (by decide)⟩
    · rw [if_neg h1] at h
      by_cases h2 : (s == [65, 82, 71]) = true
      · rw [if_pos h2] at h
        have : s = [65, 82, 71] := by simpa using h2
        subst this
        simp only [Option.some.injEq] at h
        subst h
        by_cases hd : (t.length == 1 && digs t) = true
        · rw [if_pos hd]
          obtain ⟨c, rfl, g1, g2⟩ := one_digit hd
          have hne : ([c] : List UInt8).head? ≠ some 70 := by
            simp
            exact digit_ne g2 70 (by decide)
          refine ⟨?_, ?_⟩
          · rw [wts_cons, wts_nil, wt_one (by simp) hne]
            decide
          · simp only [List.mem_singleton]; rintro x rfl; exact symOk_of (by simp) hne
        · rw [if_neg hd]
          exact ⟨by decide, by simp only [List.mem_singleton]; rintro x rfl; exact symOk_of (by decide) (by decide)⟩
      · rw [if_neg h2] at h
        by_cases h3 : (s == [77, 79, 82, 69]) = true
        · rw [if_pos h3] at h
          have : s = [77, 79, 82, 69] := by simpa using h3
          subst this
          simp only [Option.some.injEq] at h
          subst h
          split
          · refine ⟨by decide, ?_⟩
            simp only [List.mem_cons, List.not_mem_nil, or_false]
            rintro x (rfl | rfl)
            all_goals exact symOk_of (by decide) (by decide)
          · exact ⟨by decide, by simp⟩
        · rw [if_neg h3] at h
          cases s with
          | nil => simp at h
          | cons c r =>
            simp only [] at h
            rw [if_neg] at h
            · simp at h
            · intro g
              apply hf
              simp at g
              simp [g]

theorem ref_becomes_some (sym t : List UInt8) (m : List (List UInt8)) (hs : symOk sym) (ht : t.length ≤ 1000) (h : becomesS sym t = some m) (w : World) :
    Calls Tryd.prog 37 #[bs sym, bs t] w fun e w' => ∃ v, e = .returned (.tuple #[v, .bool true]) ∧ StrSl w' v m ∧ Below w.heap.size w w' := by
  by_cases hf : sym.head? = some 70
  · obtain ⟨d, h1, h9, rfl⟩ := hs.2 hf
    rw [becomes_fsym d h1 h9] at h
    simp at h
    subst h
    exact becomes_f t d h1 h9 w
  · unfold becomesS at h
    by_cases h1 : (sym == [69, 78, 68]) = true
    · rw [if_pos h1] at h
      have : sym = [69, 78, 68] := by simpa using h1
      subst this
      simp only [Option.some.injEq] at h
      subst h
      exact becomes_end t w
    · rw [if_neg h1] at h
      by_cases h2 : (sym == [65, 82, 71]) = true
      · rw [if_pos h2] at h
        have : sym = [65, 82, 71] := by simpa using h2
        subst this
        simp only [Option.some.injEq] at h
        subst h
        exact becomes_arg t ht w
      · rw [if_neg h2] at h
        by_cases h3 : (sym == [77, 79, 82, 69]) = true
        · rw [if_pos h3] at h
          have : sym = [77, 79, 82, 69] := by simpa using h3
          subst this
          simp only [Option.some.injEq] at h
          subst h
          exact becomes_more t w
        · rw [if_neg h3] at h
          cases sym with
          | nil => simp at h
          | cons c r =>
            simp only [] at h
            rw [if_neg] at h
            · simp at h
            · intro g
              apply hf
              simp at g
              simp [g]
theorem ref_becomes_none (sym t : List UInt8) (hs : symOk sym) (h : becomesS sym t = none) (w : World) :
    Calls Tryd.prog 37 #[bs sym, bs t] w fun e w' => e = .returned (.tuple #[.slice none 0 0, .bool false]) ∧ w' = w := by
  have h1 : (sym == [69, 78, 68]) = false := by
    cases g : (sym == [69, 78, 68]) with
    | false => rfl
    | true => unfold becomesS at h; rw [if_pos g] at h; simp at h
  have h2 : (sym == [65, 82, 71]) = false := by
    cases g : (sym == [65, 82, 71]) with
    | false => rfl
    | true => unfold becomesS at h; rw [if_neg (by simp [h1]), if_pos g] at h; simp at h
  have h3 : (sym == [77, 79, 82, 69]) = false := by
    cases g : (sym == [77, 79, 82, 69]) with
    | false => rfl
    | true => unfold becomesS at h; rw [if_neg (by simp [h1]), if_neg (by simp [h2]), if_pos g] at h; simp at h
  refine becomes_other sym t h1 h2 h3 hs.1 (fun e => ?_) w
  obtain ⟨d, g1, g9, rfl⟩ := hs.2 e
  rw [becomes_fsym d g1 g9] at h
  simp at h
end Go.Proofs.YtiamjjonoeaggaaDoor
