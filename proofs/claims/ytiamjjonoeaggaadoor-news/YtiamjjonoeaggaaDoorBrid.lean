import Derived.Test.YtiamjjonoeaggaaDoorSynF
import Derived.Test.YtiamjjonoeaggaaDoorRefN
namespace Go.Proofs.YtiamjjonoeaggaaDoor
open Go.RowKit

def aheadK (k : Int) : Bool := k == 11 || k == 13 || k == 16 || k == 17
/-- What the kind of a token says of it. -/
structure KFacts (t : List UInt8) : Prop where
  name : isNameB t = (kindP t == 2)
  ex : (t == [101, 120, 105, 115, 116, 115]) = (kindP t == 9)
  plain : isPlainB t = (twoK (kindP t) && !spanK (kindP t))
  one : isOneB t = (spanK (kindP t) && !twoK (kindP t))
  two : isTwoB t = (spanK (kindP t) && twoK (kindP t))
  tr : isTok [116, 114, 117, 101] t = (kindP t == 5)
  opn : isTok [40] t = (kindP t == 18)
  cls : isTok [41] t = (kindP t == 19)
  com : isTok [44] t = (kindP t == 20)
  osq : isTok [91] t = (kindP t == 21)
  csq : isTok [93] t = (kindP t == 22)
  star : isTok [42] t = (kindP t == 23)
  num : numB t = (kindP t == 1)
  var : isVarB t = varK (kindP t)
  ahead : aheadB t = aheadK (kindP t)
  isX : (t == [120]) = (kindP t == 3)
  isY : (t == [121]) = (kindP t == 4)
  isOr : (t == [111, 114]) = (kindP t == 8)
  isBut : (t == [98, 117, 116]) = (kindP t == 7)
  nz : kindP t ≠ 0
theorem kf_sign {t : List UInt8} (h : inB t w6sign = true) : KFacts t := by
  unfold inB w6sign at h
  simp [List.any] at h
  rcases h with h | h | h | h | h | h <;> subst h <;> exact ⟨by decide, by decide, by decide, by decide, by decide, by decide, by decide, by decide, by decide, by decide, by decide, by decide, by decide, by decide, by decide, by decide, by decide, by decide, by decide, by decide⟩
theorem kf_word {t : List UInt8} (h : inB t w15 = true) : KFacts t := by
  unfold inB w15 at h
  simp [List.any] at h
  rcases h with h | h | h | h | h | h | h | h | h | h | h | h | h | h | h <;> subst h <;> exact ⟨by decide, by decide, by decide, by decide, by decide, by decide, by decide, by decide, by decide, by decide, by decide, by decide, by decide, by decide, by decide, by decide, by decide, by decide, by decide, by decide⟩
theorem kf_other {t : List UInt8} (h : ∀ x ∈ w15 ++ w6sign, (x == t) = false) (hk : kindP t = 1 ∨ kindP t = 2) (hn : isNameB t = (kindP t == 2)) (hd : numB t = (kindP t == 1)) : KFacts t := by
  have g : ∀ x ∈ w15 ++ w6sign, (t == x) = false := fun x hx => by have := h x hx; simp at this ⊢; exact fun e => this e.symm
  have f0 := h [120] (by decide)
  have f1 := h [121] (by decide)
  have f2 := h [116, 114, 117, 101] (by decide)
  have f3 := h [97, 110, 100] (by decide)
  have f4 := h [98, 117, 116] (by decide)
  have f5 := h [111, 114] (by decide)
  have f6 := h [101, 120, 105, 115, 116, 115] (by decide)
  have f7 := h [112, 114, 101, 118] (by decide)
  have f8 := h [110, 101, 120, 116] (by decide)
  have f9 := h [111, 110, 99, 101] (by decide)
  have f10 := h [115, 111, 111, 110] (by decide)
  have f11 := h [115, 105, 110, 99, 101] (by decide)
  have f12 := h [117, 110, 115, 105, 110, 99, 101] (by decide)
  have f13 := h [117, 110, 116, 105, 108] (by decide)
  have f14 := h [117, 110, 117, 110, 116, 105, 108] (by decide)
  refine ⟨hn, ?_, ?_, ?_, ?_, ?_, ?_, ?_, ?_, ?_, ?_, ?_, hd, ?_, ?_, ?_, ?_, ?_, ?_, ?_⟩
  · rw [g _ (by decide)]; rcases hk with hk | hk <;> rw [hk] <;> rfl
  · unfold isPlainB inB w3plain; simp only [List.any_cons, List.any_nil, f3, f4, f5]; rcases hk with hk | hk <;> rw [hk] <;> rfl
  · unfold isOneB inB w4one; simp only [List.any_cons, List.any_nil, f7, f8, f9, f10]; rcases hk with hk | hk <;> rw [hk] <;> rfl
  · unfold isTwoB inB w4two; simp only [List.any_cons, List.any_nil, f11, f12, f13, f14]; rcases hk with hk | hk <;> rw [hk] <;> rfl
  · unfold isTok; rw [f2]; rcases hk with hk | hk <;> rw [hk] <;> rfl
  · unfold isTok; rw [h [40] (by decide)]; rcases hk with hk | hk <;> rw [hk] <;> rfl
  · unfold isTok; rw [h [41] (by decide)]; rcases hk with hk | hk <;> rw [hk] <;> rfl
  · unfold isTok; rw [h [44] (by decide)]; rcases hk with hk | hk <;> rw [hk] <;> rfl
  · unfold isTok; rw [h [91] (by decide)]; rcases hk with hk | hk <;> rw [hk] <;> rfl
  · unfold isTok; rw [h [93] (by decide)]; rcases hk with hk | hk <;> rw [hk] <;> rfl
  · unfold isTok; rw [h [42] (by decide)]; rcases hk with hk | hk <;> rw [hk] <;> rfl
  · unfold isVarB; rw [g [120] (by decide), g [121] (by decide)]; rcases hk with hk | hk <;> rw [hk] <;> rfl
  · unfold aheadB inB w4ahead; simp only [List.any_cons, List.any_nil, f8, f10, f13, f14]; rcases hk with hk | hk <;> rw [hk] <;> rfl
  · rw [g [120] (by decide)]; rcases hk with hk | hk <;> rw [hk] <;> rfl
  · rw [g [121] (by decide)]; rcases hk with hk | hk <;> rw [hk] <;> rfl
  · rw [g [111, 114] (by decide)]; rcases hk with hk | hk <;> rw [hk] <;> rfl
  · rw [g [98, 117, 116] (by decide)]; rcases hk with hk | hk <;> rw [hk] <;> rfl
  · rcases hk with hk | hk <;> rw [hk] <;> decide
theorem wordK_none {t : List UInt8} (h : inB t w15 = false) : wordK t = 2 := by
  have g : ∀ x ∈ w15, (t == x) = false := fun x hx => by
    unfold inB at h
    rw [List.any_eq_false] at h
    have := h x hx
    simp at this ⊢
    exact fun e => this e.symm
  unfold wordK
  rw [g [120] (by decide), g [121] (by decide), g [116, 114, 117, 101] (by decide), g [97, 110, 100] (by decide), g [98, 117, 116] (by decide), g [111, 114] (by decide), g [101, 120, 105, 115, 116, 115] (by decide), g [112, 114, 101, 118] (by decide), g [110, 101, 120, 116] (by decide), g [111, 110, 99, 101] (by decide), g [115, 111, 111, 110] (by decide), g [115, 105, 110, 99, 101] (by decide), g [117, 110, 115, 105, 110, 99, 101] (by decide), g [117, 110, 116, 105, 108] (by decide), g [117, 110, 117, 110, 116, 105, 108] (by decide)]
  rfl
theorem sign_heads : ∀ x ∈ w6sign, ∀ c q, x = c :: q → letB (c.toNat : Int) = false ∧ digB (c.toNat : Int) = false := by
  intro x hx c q e
  simp only [w6sign, List.mem_cons, List.not_mem_nil, or_false] at hx
  rcases hx with rfl | rfl | rfl | rfl | rfl | rfl <;> injection e with e1 e2 <;> subst e1 <;> decide
theorem word_heads : ∀ x ∈ w15, ∀ c q, x = c :: q → digB (c.toNat : Int) = false := by
  intro x hx c q e
  simp only [w15, List.mem_cons, List.not_mem_nil, or_false] at hx
  rcases hx with rfl | rfl | rfl | rfl | rfl | rfl | rfl | rfl | rfl | rfl | rfl | rfl | rfl | rfl | rfl <;> injection e with e1 e2 <;> subst e1 <;> decide
theorem kfacts {t : Tok} (h : tokGood t) : KFacts t.text := by
  obtain ⟨c, r, e, ho, _⟩ := h
  generalize t.text = t at *
  subst e
  unfold okTok at ho
  simp only [Bool.or_eq_true, Bool.and_eq_true, decide_eq_true_eq] at ho
  rcases ho with (ho | ⟨hd, _⟩) | ⟨hl, _⟩
  · exact kf_sign ho
  · have k1 : kindP (c :: r) = 1 := by simp only [kindP]; rw [if_pos hd]
    refine kf_other ?_ (.inl k1) ?_ ?_
    · intro x hx
      rcases List.mem_append.1 hx with hx | hx
      · simp only [beq_eq_false_iff_ne]
        intro e
        have := word_heads x hx c r e
        rw [hd] at this
        exact absurd this (by decide)
      · simp only [beq_eq_false_iff_ne]
        intro e
        have := (sign_heads x hx c r e).2
        rw [hd] at this
        exact absurd this (by decide)
    · rw [k1]; simp only [isNameB]; rw [dig_not_let hd]; rfl
    · rw [k1]; exact hd
  · cases hw : inB (c :: r) w15 with
    | true => exact kf_word hw
    | false =>
      have hnd : digB (c.toNat : Int) = false := by
        cases hq : digB (c.toNat : Int) with
        | false => rfl
        | true => rw [dig_not_let hq] at hl; exact absurd hl (by decide)
      have k2 : kindP (c :: r) = 2 := by simp only [kindP]; rw [hnd, if_neg (by decide), if_pos hl]; exact wordK_none hw
      refine kf_other ?_ (.inr k2) ?_ ?_
      · intro x hx
        rcases List.mem_append.1 hx with hx | hx
        · unfold inB at hw
          rw [List.any_eq_false] at hw
          have := hw x hx
          simpa using this
        · simp only [beq_eq_false_iff_ne]
          intro e
          have := (sign_heads x hx c r e).1
          rw [hl] at this
          exact absurd this (by decide)
      · rw [k2]; simp only [isNameB]; rw [hl, hw]; rfl
      · rw [k2]; exact hnd
theorem KFacts.arg {t : Tok} (k : KFacts t.text) (h : tokGood t) : argB t.text = okArg (ptOf t) := by
  unfold argB
  rw [k.var]
  unfold okArg ptOf
  simp only []
  cases hn : numB t.text with
  | true =>
    have hk := k.num
    rw [hn] at hk
    have hd := (good_num h hn).1
    rw [hd, ← hk]
    have e : ((t.text.length : Int) == 1) = (t.text.length == 1) := by rw [Bool.eq_iff_iff]; simp; omega
    rw [e]
    simp
  | false =>
    have hk := k.num
    rw [hn] at hk
    have hd : digs t.text = false := by
      obtain ⟨c, r, e, _⟩ := h
      rw [e] at hn ⊢
      unfold digs
      have hn' : digB (c.toNat : Int) = false := hn
      rw [List.all_cons, hn']
      rfl
    rw [hd, ← hk]
    simp
end Go.Proofs.YtiamjjonoeaggaaDoor

namespace Go.Proofs.YtiamjjonoeaggaaDoor
open Go.RowKit

def endT (L : Nat) : PTok := ⟨0, L, 0, 0, []⟩
/-- The program's tokens of these. -/
def ptsOf (toks : List Tok) (L : Nat) : List PTok := toks.map ptOf ++ [endT L]
def hereS (L : Nat) : List Tok → PTok
  | [] => endT L
  | t :: _ => ptOf t
def atS (toks r : List Tok) : Nat := toks.length - r.length
theorem here_s {toks r : List Tok} (L : Nat) (h : r <:+ toks) : hereT (ptsOf toks L) (atS toks r) = hereS L r := by
  obtain ⟨u, rfl⟩ := h
  have e : atS (u ++ r) r = u.length := by unfold atS; simp
  rw [e]
  unfold hereT ptsOf
  cases r with
  | nil => simp [hereS]
  | cons t q => simp [hereS]
theorem at_s {toks q : List Tok} {t : Tok} (h : (t :: q) <:+ toks) : atS toks q = atS toks (t :: q) + 1 ∧ q <:+ toks := by
  obtain ⟨u, rfl⟩ := h
  refine ⟨?_, u ++ [t], by simp⟩
  unfold atS
  simp
  omega
theorem good_suf {toks q : List Tok} {t : Tok} (hg : Good toks) (h : (t :: q) <:+ toks) : tokGood t := hg t (h.subset (by simp))
/-- A token that is wanted: it stands there, or it does not. -/
theorem need_at {toks r : List Tok} (L : Nat) {p : List UInt8 → Bool} (P : PTok → Bool) (hg : Good toks) (hs : r <:+ toks) (hp : ∀ t, tokGood t → p t.text = P (ptOf t)) (h0 : P (endT L) = false) :
    (∃ t q, r = t :: q ∧ tokGood t ∧ need p r = .inr (t, q) ∧ hereT (ptsOf toks L) (atS toks r) = ptOf t ∧ P (hereT (ptsOf toks L) (atS toks r)) = true ∧ atS toks q = atS toks r + 1 ∧ q <:+ toks)
    ∨ (need p r = .inl r ∧ P (hereT (ptsOf toks L) (atS toks r)) = false) := by
  rw [here_s L hs]
  cases r with
  | nil => exact .inr ⟨rfl, h0⟩
  | cons t q =>
    have ht := good_suf hg hs
    have e := hp t ht
    cases hq : p t.text with
    | true => exact .inl ⟨t, q, rfl, ht, by simp [need, hq], rfl, by rw [← hq, e]; rfl, (at_s hs).1, (at_s hs).2⟩
    | false => exact .inr ⟨by simp [need, hq], by rw [← hq, e]; rfl⟩
theorem need_kind {toks r : List Tok} (L : Nat) {p : List UInt8 → Bool} (k : Int) (hg : Good toks) (hs : r <:+ toks) (hp : ∀ t, tokGood t → p t.text = (kindP t.text == k)) (h0 : k ≠ 0) :
    (∃ t q, r = t :: q ∧ tokGood t ∧ need p r = .inr (t, q) ∧ hereT (ptsOf toks L) (atS toks r) = ptOf t ∧ (hereT (ptsOf toks L) (atS toks r)).kind = k ∧ atS toks q = atS toks r + 1 ∧ q <:+ toks)
    ∨ (need p r = .inl r ∧ ¬ (hereT (ptsOf toks L) (atS toks r)).kind = k) := by
  rcases need_at L (fun q => q.kind == k) hg hs hp (by simp [endT, h0.symm]) with ⟨t, q, a, b, c, d, e, f, g⟩ | ⟨a, b⟩
  · exact .inl ⟨t, q, a, b, c, d, by simpa using e, f, g⟩
  · exact .inr ⟨a, by simpa using b⟩
/-- What came of a head, on both sides. -/
def HSim {β : Type} (toks : List Tok) (o : Bool × Nat × PNode) (x : Pres β) (f : β → PNode) : Prop := match x with
  | .inl r => o.1 = false ∧ o.2.1 = atS toks r ∧ r <:+ toks
  | .inr (b, r) => o = (true, atS toks r, f b) ∧ r <:+ toks
theorem kind_nil : kindP [] = 0 := rfl
theorem val_nil : valP [] = 0 := rfl
def withArgs (nd : PNode) (gs : List (List UInt8)) : PNode := { nd with k0 := kindP (gs.getD 0 []), v0 := valP (gs.getD 0 []), k1 := kindP (gs.getD 1 []), v1 := valP (gs.getD 1 []), cnt := gs.length }
theorem args_sim {toks r : List Tok} (L : Nat) (hg : Good toks) (hs : r <:+ toks) (nd : PNode) (h0 : nd.k1 = 0 ∧ nd.v1 = 0) :
    HSim toks (argsR (ptsOf toks L) (atS toks r) nd) (bindP (need (isTok [40]) r) fun _ r => bindP (need argB r) fun a r => bindP (parseMore r) fun b r => bindP (need (isTok [41]) r) fun _ r => .inr (a.text :: b, r)) (withArgs nd) := by
  obtain ⟨z1, z2⟩ := h0
  unfold argsR
  rcases need_kind L 18 hg hs (fun t ht => (kfacts ht).opn) (by decide) with ⟨t, q, rfl, _, en, _, ek, ea, hs1⟩ | ⟨en, ek⟩
  · rw [en, if_pos ek, ← ea]
    simp only [bindP]
    rcases need_at L okArg hg hs1 (fun t ht => (kfacts ht).arg ht) rfl with ⟨t1, q1, rfl, _, en1, eh1, ek1, ea1, hs2⟩ | ⟨en1, ek1⟩
    · rw [en1, if_pos ek1]
      simp only []
      unfold argsT parseMore
      have ea' : atS toks q1 = atS toks (t :: t1 :: q1) + 2 := by omega
      rw [← ea']
      rcases need_kind L 20 hg hs2 (fun t ht => (kfacts ht).com) (by decide) with ⟨t2, q2, rfl, g2, en2, eh2, ek2, ea2, hs3⟩ | ⟨en2, ek2⟩
      · have hh : (hd (t2 :: q2) == [44]) = true := by
          have := (kfacts g2).com
          rw [eh2] at ek2
          have e2 : kindP t2.text = 20 := ek2
          rw [e2] at this
          simp [isTok] at this
          simp [hd, ← this]
        rw [if_pos ek2, if_pos hh, en2]
        simp only [bindP]
        have ea3 : atS toks (t :: t1 :: t2 :: q2) + 3 = atS toks q2 := by omega
        rw [ea3]
        rcases need_at L okArg hg hs3 (fun t ht => (kfacts ht).arg ht) rfl with ⟨t3, q3, rfl, _, en3, eh3, ek3, ea4, hs4⟩ | ⟨en3, ek3⟩
        · rw [en3, if_pos ek3]
          simp only []
          have ea5 : atS toks (t :: t1 :: t2 :: t3 :: q3) + 4 = atS toks q3 := by omega
          rw [ea5]
          rcases need_kind L 19 hg hs4 (fun t ht => (kfacts ht).cls) (by decide) with ⟨t4, q4, rfl, _, en4, _, ek4, ea6, hs5⟩ | ⟨en4, ek4⟩
          · rw [en4, if_pos ek4]
            refine ⟨?_, hs5⟩
            rw [show atS toks (t :: t1 :: t2 :: t3 :: t4 :: q4) + 5 = atS toks q4 from by omega, eh1, eh3]
            rfl
          · rw [en4, if_neg ek4]
            exact ⟨rfl, rfl, hs4⟩
        · rw [en3, if_neg (by rw [ek3]; decide)]
          exact ⟨rfl, rfl, hs3⟩
      · have hh : ¬ (hd q1 == [44]) = true := by
          intro hc
          cases q1 with
          | nil => exact absurd hc (by decide)
          | cons a b =>
            apply ek2
            rw [here_s L hs2]
            have := (kfacts (good_suf hg hs2)).com
            simp [hd] at hc
            rw [hc] at this
            simp [isTok] at this
            simp [hereS, ptOf, hc, ← this]
        rw [if_neg ek2, if_neg hh]
        simp only []
        rcases need_kind L 19 hg hs2 (fun t ht => (kfacts ht).cls) (by decide) with ⟨t2, q2, rfl, g2, en3, eh2, ek3, ea2, hs3⟩ | ⟨en3, ek3⟩
        · rw [en3, if_pos ek3]
          refine ⟨?_, hs3⟩
          rw [show atS toks (t :: t1 :: t2 :: q2) + 3 = atS toks q2 from by omega, eh1]
          simp [withArgs, ptOf, z1, z2, kind_nil, val_nil]
        · rw [en3, if_neg ek3]
          exact ⟨rfl, rfl, hs2⟩
    · rw [en1, if_neg (by rw [ek1]; decide)]
      exact ⟨rfl, rfl, hs1⟩
  · rw [en, if_neg ek]
    exact ⟨rfl, rfl, hs⟩
def withSpan (nd : PNode) (s : Nat × List UInt8 × List UInt8) : PNode := { nd with sat := s.1, slo := valP s.2.1, shi := valP s.2.2, sop := s.2.2 == [42] }
theorem span_sim {toks r : List Tok} (L : Nat) (hg : Good toks) (hs : r <:+ toks) (nd : PNode) (h0 : nd.shi = 0 ∧ nd.sop = false) : HSim toks (spanR (ptsOf toks L) (atS toks r) nd) (parseSpan r) (withSpan nd) := by
  obtain ⟨z1, z2⟩ := h0
  unfold spanR parseSpan
  rcases need_kind L 21 hg hs (fun t ht => (kfacts ht).osq) (by decide) with ⟨t, q, rfl, _, en, eh, ek, ea, hs1⟩ | ⟨en, ek⟩
  · rw [en, if_pos ek, ← ea]
    simp only [bindP]
    rcases need_kind L 1 hg hs1 (fun t ht => (kfacts ht).num) (by decide) with ⟨t1, q1, rfl, _, en1, eh1, ek1, ea1, hs2⟩ | ⟨en1, ek1⟩
    · rw [en1, if_pos ek1, show atS toks (t :: t1 :: q1) + 2 = atS toks q1 from by omega]
      simp only []
      rcases need_kind L 20 hg hs2 (fun t ht => (kfacts ht).com) (by decide) with ⟨t2, q2, rfl, _, en2, eh2, ek2, ea2, hs3⟩ | ⟨en2, ek2⟩
      · rw [en2, if_pos ek2, show atS toks (t :: t1 :: t2 :: q2) + 3 = atS toks q2 from by omega]
        simp only []
        rcases need_at L (fun q => q.kind == 23 || q.kind == 1) hg hs3 (p := endB) (fun t ht => by
            unfold endB
            have h1 := (kfacts ht).star
            unfold isTok at h1
            have h2 : (t.text == [42]) = ([42] == t.text) := by rw [Bool.eq_iff_iff]; simp; exact ⟨fun h => h.symm, fun h => h.symm⟩
            rw [h2, h1, (kfacts ht).num]
            rfl) rfl with ⟨t3, q3, rfl, g3, en3, eh3, ek3, ea3, hs4⟩ | ⟨en3, ek3⟩
        · rw [en3]
          simp only []
          have e4 : atS toks (t :: t1 :: t2 :: t3 :: q3) + 4 = atS toks q3 := by omega
          rw [e4]
          have hst := (kfacts g3).star
          unfold isTok at hst
          by_cases ks : (hereT (ptsOf toks L) (atS toks (t3 :: q3))).kind = 23
          · rw [if_pos ks]
            have e3 : t3.text = [42] := by
              rw [eh3] at ks
              have ks' : kindP t3.text = 23 := ks
              rw [ks'] at hst
              simp at hst
              exact hst.symm
            rcases need_kind L 22 hg hs4 (fun t ht => (kfacts ht).csq) (by decide) with ⟨t4, q4, rfl, _, en4, _, ek4, ea4, hs5⟩ | ⟨en4, ek4⟩
            · rw [en4, if_pos ek4, show atS toks (t :: t1 :: t2 :: t3 :: t4 :: q4) + 5 = atS toks q4 from by omega, eh, eh1]
              refine ⟨?_, hs5⟩
              simp [withSpan, ptOf, e3, z1]
              rfl
            · rw [en4, if_neg ek4]
              exact ⟨rfl, rfl, hs4⟩
          · rw [if_neg ks]
            have k1 : (hereT (ptsOf toks L) (atS toks (t3 :: q3))).kind = 1 := by
              simp only [Bool.or_eq_true, beq_iff_eq] at ek3
              rcases ek3 with e | e
              · exact absurd e ks
              · exact e
            rw [if_pos k1]
            have e3 : (t3.text == [42]) = false := by
              rw [eh3] at k1
              have ks' : kindP t3.text = 1 := k1
              rw [ks'] at hst
              simp at hst ⊢
              exact fun h => hst h.symm
            rcases need_kind L 22 hg hs4 (fun t ht => (kfacts ht).csq) (by decide) with ⟨t4, q4, rfl, _, en4, _, ek4, ea4, hs5⟩ | ⟨en4, ek4⟩
            · rw [en4, if_pos ek4, show atS toks (t :: t1 :: t2 :: t3 :: t4 :: q4) + 5 = atS toks q4 from by omega, eh, eh1, eh3]
              refine ⟨?_, hs5⟩
              simp [withSpan, ptOf, e3, z2]
            · rw [en4, if_neg ek4]
              exact ⟨rfl, rfl, hs4⟩
        · simp only [Bool.or_eq_false_iff, beq_eq_false_iff_ne] at ek3
          rw [en3, if_neg ek3.1, if_neg ek3.2]
          exact ⟨rfl, rfl, hs3⟩
      · rw [en2, if_neg ek2]
        exact ⟨rfl, rfl, hs2⟩
    · rw [en1, if_neg ek1]
      exact ⟨rfl, rfl, hs1⟩
  · rw [en, if_neg ek]
    exact ⟨rfl, rfl, hs⟩
end Go.Proofs.YtiamjjonoeaggaaDoor

namespace Go.Proofs.YtiamjjonoeaggaaDoor
open Go.RowKit

/-- The bracket behind a head: is it there, where does it end, the nodes. -/
def partsR (ts : List PTok) (F : Nat → Nat → Bool × Nat × List PNode) (m base : Nat) (nd : PNode) : Bool × Nat × List PNode :=
  if (hereT ts m).kind = 18 then
    if (F (m + 1) (base + 1)).1 = true then
      if twoK nd.kind = true then
        if (hereT ts (F (m + 1) (base + 1)).2.1).kind = 20 then
          if (F ((F (m + 1) (base + 1)).2.1 + 1) (base + 1 + (F (m + 1) (base + 1)).2.2.length)).1 = true then
            if (hereT ts (F ((F (m + 1) (base + 1)).2.1 + 1) (base + 1 + (F (m + 1) (base + 1)).2.2.length)).2.1).kind = 19 then
              (true, (F ((F (m + 1) (base + 1)).2.1 + 1) (base + 1 + (F (m + 1) (base + 1)).2.2.length)).2.1 + 1, { nd with fst := base + 1, snd := base + 1 + (F (m + 1) (base + 1)).2.2.length } :: ((F (m + 1) (base + 1)).2.2 ++ (F ((F (m + 1) (base + 1)).2.1 + 1) (base + 1 + (F (m + 1) (base + 1)).2.2.length)).2.2))
            else (false, (F ((F (m + 1) (base + 1)).2.1 + 1) (base + 1 + (F (m + 1) (base + 1)).2.2.length)).2.1, [])
          else (false, (F ((F (m + 1) (base + 1)).2.1 + 1) (base + 1 + (F (m + 1) (base + 1)).2.2.length)).2.1, [])
        else (false, (F (m + 1) (base + 1)).2.1, [])
      else if (hereT ts (F (m + 1) (base + 1)).2.1).kind = 19 then (true, (F (m + 1) (base + 1)).2.1 + 1, { nd with fst := base + 1 } :: (F (m + 1) (base + 1)).2.2)
      else (false, (F (m + 1) (base + 1)).2.1, [])
    else (false, (F (m + 1) (base + 1)).2.1, [])
  else (false, m, [])
/-- A FORMULA at token nx, in which d may stand in one another; base nodes stand ahead. -/
def formR (ts : List PTok) : Nat → Nat → Nat → Bool × Nat × List PNode
  | 0, nx, _ => (false, nx, [])
  | d + 1, nx, base =>
    if (headR ts nx).1 = true then
      if (headR ts nx).2.2.kind = 5 ∨ (headR ts nx).2.2.kind = 2 then (true, (headR ts nx).2.1, [(headR ts nx).2.2])
      else partsR ts (formR ts d) (headR ts nx).2.1 base (headR ts nx).2.2
    else (false, (headR ts nx).2.1, [])

def sizeF : Form → Nat
  | .nil => 0
  | .node _ _ _ l r => 1 + sizeF l + sizeF r
def exB (t : List UInt8) : Bool := t == [101, 120, 105, 115, 116, 115]
/-- The node of a FORMULA, where base nodes stand ahead. -/
def nodeOf (base : Nat) (p sp : Nat) (y : Pay) (l r : Form) : PNode :=
  { kind := kindP y.word, pos := p, name := padP y.word
    k0 := if isNameB y.word then kindP (y.args.getD 0 []) else 0
    v0 := if isNameB y.word then valP (y.args.getD 0 []) else 0
    k1 := if isNameB y.word then kindP (y.args.getD 1 []) else 0
    v1 := if isNameB y.word then valP (y.args.getD 1 []) else 0
    cnt := if isNameB y.word then y.args.length else 0
    var := if exB y.word then kindP (y.args.getD 0 []) else 0
    sat := sp, slo := valP y.lo, shi := valP y.hi, sop := y.hi == [42]
    fst := if sizeF l = 0 then -1 else base + 1
    snd := if sizeF r = 0 then -1 else base + 1 + sizeF l }
def nodesOf : Form → Nat → List PNode
  | .nil, _ => []
  | .node p sp y l r, base => nodeOf base p sp y l r :: (nodesOf l (base + 1) ++ nodesOf r (base + 1 + sizeF l))
theorem nodesOf_length (F : Form) : ∀ base, (nodesOf F base).length = sizeF F := by
  induction F with
  | nil => intro base; rfl
  | node p sp y l r ihl ihr => intro base; simp [nodesOf, sizeF, ihl, ihr]; omega
/-- What came of a FORMULA, on both sides. -/
def FSim (toks : List Tok) (o : Bool × Nat × List PNode) (x : Pres Form) (base : Nat) : Prop := match x with
  | .inl r => o.1 = false ∧ o.2.1 = atS toks r ∧ r <:+ toks
  | .inr (F, r) => o = (true, atS toks r, nodesOf F base) ∧ r <:+ toks ∧ 0 < sizeF F
theorem parts_one {toks r : List Tok} (L : Nat) (hg : Good toks) (hs : r <:+ toks) (F : Nat → Nat → Bool × Nat × List PNode) (n base : Nat) (ih : ∀ r base, r <:+ toks → FSim toks (F (atS toks r) base) (parseF n r) base) (nd : PNode) (h2 : twoK nd.kind = false) (p sp : Nat) (y : Pay)
    (hn : ∀ l : Form, 0 < sizeF l → nodeOf base p sp y l .nil = { nd with fst := base + 1 }) :
    FSim toks (partsR (ptsOf toks L) F (atS toks r) base nd) (bindP (need (isTok [40]) r) fun _ r => bindP (parseF n r) fun A r => bindP (need (isTok [41]) r) fun _ r => .inr (.node p sp y A .nil, r)) base := by
  unfold partsR
  rcases need_kind L 18 hg hs (fun t ht => (kfacts ht).opn) (by decide) with ⟨t, q, rfl, _, en, _, ek, ea, hs1⟩ | ⟨en, ek⟩
  · rw [en, if_pos ek, ← ea]
    simp only [bindP]
    have h := ih q (base + 1) hs1
    generalize F (atS toks q) (base + 1) = o at *
    cases hp : parseF n q with
    | inl r1 =>
      rw [hp] at h
      obtain ⟨a1, a2, a3⟩ := h
      rw [if_neg (by rw [a1]; decide)]
      exact ⟨rfl, a2, a3⟩
    | inr z =>
      obtain ⟨A, r1⟩ := z
      rw [hp] at h
      obtain ⟨rfl, hs2, hz⟩ := h
      simp only [if_true, h2, Bool.false_eq_true, if_false]
      rcases need_kind L 19 hg hs2 (fun t ht => (kfacts ht).cls) (by decide) with ⟨t2, q2, rfl, _, en2, _, ek2, ea2, hs3⟩ | ⟨en2, ek2⟩
      · rw [en2, if_pos ek2, ← ea2]
        refine ⟨?_, hs3, by simp [sizeF]; omega⟩
        simp only [nodesOf, List.append_nil]
        rw [hn A hz]
      · rw [en2, if_neg ek2]
        exact ⟨rfl, rfl, hs2⟩
  · rw [en, if_neg ek]
    exact ⟨rfl, rfl, hs⟩
theorem parts_two {toks r : List Tok} (L : Nat) (hg : Good toks) (hs : r <:+ toks) (F : Nat → Nat → Bool × Nat × List PNode) (n base : Nat) (ih : ∀ r base, r <:+ toks → FSim toks (F (atS toks r) base) (parseF n r) base) (nd : PNode) (h2 : twoK nd.kind = true) (p sp : Nat) (y : Pay)
    (hn : ∀ l r : Form, 0 < sizeF l → 0 < sizeF r → nodeOf base p sp y l r = { nd with fst := base + 1, snd := base + 1 + sizeF l }) :
    FSim toks (partsR (ptsOf toks L) F (atS toks r) base nd) (bindP (need (isTok [40]) r) fun _ r => bindP (parseF n r) fun A r => bindP (need (isTok [44]) r) fun _ r => bindP (parseF n r) fun B r => bindP (need (isTok [41]) r) fun _ r => .inr (.node p sp y A B, r)) base := by
  unfold partsR
  rcases need_kind L 18 hg hs (fun t ht => (kfacts ht).opn) (by decide) with ⟨t, q, rfl, _, en, _, ek, ea, hs1⟩ | ⟨en, ek⟩
  · rw [en, if_pos ek, ← ea]
    simp only [bindP]
    have h := ih q (base + 1) hs1
    generalize F (atS toks q) (base + 1) = o at *
    cases hp : parseF n q with
    | inl r1 =>
      rw [hp] at h
      obtain ⟨a1, a2, a3⟩ := h
      rw [if_neg (by rw [a1]; decide)]
      exact ⟨rfl, a2, a3⟩
    | inr z =>
      obtain ⟨A, r1⟩ := z
      rw [hp] at h
      obtain ⟨rfl, hs2, hz⟩ := h
      simp only [if_true, h2]
      rcases need_kind L 20 hg hs2 (fun t ht => (kfacts ht).com) (by decide) with ⟨t2, q2, rfl, _, en2, _, ek2, ea2, hs3⟩ | ⟨en2, ek2⟩
      · rw [en2, if_pos ek2, ← ea2]
        simp only []
        have h' := ih q2 (base + 1 + (nodesOf A (base + 1)).length) hs3
        generalize F (atS toks q2) (base + 1 + (nodesOf A (base + 1)).length) = o at *
        cases hp2 : parseF n q2 with
        | inl r3 =>
          rw [hp2] at h'
          obtain ⟨a1, a2, a3⟩ := h'
          rw [if_neg (by rw [a1]; decide)]
          exact ⟨rfl, a2, a3⟩
        | inr z2 =>
          obtain ⟨B, r3⟩ := z2
          rw [hp2] at h'
          obtain ⟨rfl, hs4, hz2⟩ := h'
          simp only [if_true]
          rcases need_kind L 19 hg hs4 (fun t ht => (kfacts ht).cls) (by decide) with ⟨t4, q4, rfl, _, en4, _, ek4, ea4, hs5⟩ | ⟨en4, ek4⟩
          · rw [en4, if_pos ek4, ← ea4]
            refine ⟨?_, hs5, by simp [sizeF]; omega⟩
            simp only [nodesOf]
            rw [hn A B hz hz2, nodesOf_length]
          · rw [en4, if_neg ek4]
            exact ⟨rfl, rfl, hs4⟩
      · rw [en2, if_neg ek2]
        exact ⟨rfl, rfl, hs2⟩
  · rw [en, if_neg ek]
    exact ⟨rfl, rfl, hs⟩
theorem need_self {t : Tok} {q : List Tok} {p : List UInt8 → Bool} (h : p t.text = true) : need p (t :: q) = .inr (t, q) := by simp [need, h]
theorem form_sim {toks : List Tok} (L : Nat) (hg : Good toks) : ∀ (d : Nat) (r : List Tok) (base : Nat), r <:+ toks → FSim toks (formR (ptsOf toks L) d (atS toks r) base) (parseF d r) base := by
  intro d
  induction d with
  | zero => intro r base hs; exact ⟨rfl, rfl, hs⟩
  | succ n ih =>
    intro r base hs
    have hh := here_s L hs
    cases r with
    | nil =>
      have hb : ¬ beginK (hereT (ptsOf toks L) (atS toks [])).kind = true := by rw [hh]; show ¬ beginK 0 = true; decide
      unfold formR headR
      rw [if_neg hb]
      exact ⟨rfl, rfl, hs⟩
    | cons t q =>
      have gt := good_suf hg hs
      have K := kfacts gt
      obtain ⟨ea, hs1⟩ := at_s hs
      have hk : (hereT (ptsOf toks L) (atS toks (t :: q))).kind = kindP t.text := by rw [hh]; rfl
      have hself : isTok t.text t.text = true := by simp [isTok]
      have hhd : hd (t :: q) = t.text := rfl
      rw [formR, parseF]
      simp only [hhd]
      unfold headR
      rw [hk]
      by_cases c1 : kindP t.text = 2
      · have b1 : isNameB t.text = true := by rw [K.name, c1]; rfl
        rw [if_pos b1, if_pos (show beginK (kindP t.text) = true by rw [c1]; decide), if_pos c1, need_self b1, ← ea]
        simp only [bindP]
        have h := args_sim L hg hs1 (node0 (hereT (ptsOf toks L) (atS toks (t :: q)))) ⟨rfl, rfl⟩
        generalize argsR (ptsOf toks L) (atS toks q) (node0 (hereT (ptsOf toks L) (atS toks (t :: q)))) = o at *
        have key : ∀ (x : Pres (List (List UInt8))) (g : Pres Form), (g = bindP x fun gs r => .inr (.node t.pos 0 ⟨t.text, gs, [], []⟩ .nil .nil, r)) → HSim toks o x (withArgs (node0 (hereT (ptsOf toks L) (atS toks (t :: q))))) → FSim toks (if o.1 = true then if o.2.2.kind = 5 ∨ o.2.2.kind = 2 then (true, o.2.1, [o.2.2]) else partsR (ptsOf toks L) (formR (ptsOf toks L) n) o.2.1 base o.2.2 else (false, o.2.1, [])) g base := by
          intro x g hg' hx
          subst hg'
          cases x with
          | inl r1 =>
            obtain ⟨a1, a2, a3⟩ := hx
            rw [if_neg (by rw [a1]; decide)]
            exact ⟨rfl, a2, a3⟩
          | inr z =>
            obtain ⟨gs, r1⟩ := z
            obtain ⟨rfl, a2⟩ := hx
            rw [hh]
            simp only [if_true]
            rw [if_pos (show (withArgs (node0 (hereS L (t :: q))) gs).kind = 5 ∨ (withArgs (node0 (hereS L (t :: q))) gs).kind = 2 from Or.inr c1)]
            refine ⟨?_, a2, by simp [sizeF]⟩
            have hne : exB t.text = false := by unfold exB; rw [K.ex, c1]; rfl
            simp only [nodesOf, List.append_nil, nodeOf, b1, hne, sizeF, if_true, withArgs, node0, hereS, ptOf]
            rfl
        refine key _ _ ?_ h
        cases need (isTok [40]) q with
        | inl r1 => rfl
        | inr z =>
          obtain ⟨t1, r1⟩ := z
          simp only [bindP]
          cases need argB r1 with
          | inl r2 => rfl
          | inr z =>
            obtain ⟨t2, r2⟩ := z
            simp only []
            cases parseMore r2 with
            | inl r3 => rfl
            | inr z =>
              obtain ⟨bb, r3⟩ := z
              simp only []
              cases need (isTok [41]) r3 <;> rfl
      · have b1 : ¬ isNameB t.text = true := by rw [K.name]; simpa using c1
        rw [if_neg b1]
        by_cases c2 : kindP t.text = 9
        · have b2 : (t.text == [101, 120, 105, 115, 116, 115]) = true := by rw [K.ex, c2]; rfl
          rw [if_pos b2, if_pos (show beginK (kindP t.text) = true by rw [c2]; decide), if_neg c1, if_pos c2, need_self hself, ← ea]
          simp only [bindP]
          rcases need_at L (fun q => varK q.kind) hg hs1 (p := isVarB) (fun t ht => (kfacts ht).var) rfl with ⟨t1, q1, rfl, _, en1, eh1, ek1, ea1, hs2⟩ | ⟨en1, ek1⟩
          · rw [en1, if_pos ek1]
            simp only []
            have e2 : atS toks (t :: t1 :: q1) + 2 = atS toks q1 := by omega
            rw [e2, eh1, hh]
            simp only [if_true]
            rw [if_neg (show ¬ ((node0 (hereS L (t :: t1 :: q1))).kind = 5 ∨ (node0 (hereS L (t :: t1 :: q1))).kind = 2) from (by show ¬ (kindP t.text = 5 ∨ kindP t.text = 2); rw [c2]; decide))]
            refine parts_one L hg hs2 _ n base ih _ (show twoK (kindP t.text) = false by rw [c2]; decide) _ _ _ ?_
            intro l hl
            have hz : sizeF l ≠ 0 := by omega
            have hx : exB t.text = true := b2
            have b1' : isNameB t.text = false := by simpa using b1
            simp only [nodeOf, b1', hx, hz, sizeF, if_true, if_false, node0, hereS, ptOf, Bool.false_eq_true]
            rfl
          · have ek2 : ¬ varK (hereT (ptsOf toks L) (atS toks q)).kind = true := by have e : varK (hereT (ptsOf toks L) (atS toks q)).kind = false := ek1; rw [e]; decide
            rw [en1, if_neg ek2]
            exact ⟨rfl, rfl, hs1⟩
        · have b2 : ¬ (t.text == [101, 120, 105, 115, 116, 115]) = true := by rw [K.ex]; simpa using c2
          have hx : exB t.text = false := by simpa [exB] using b2
          have b1' : isNameB t.text = false := by simpa using b1
          rw [if_neg b2]
          cases c3 : spanK (kindP t.text) with
          | false =>
            have b4 : ¬ isOneB t.text = true := by rw [K.one, c3]; simp
            have b5 : ¬ isTwoB t.text = true := by rw [K.two, c3]; simp
            cases c4 : twoK (kindP t.text) with
            | true =>
              have b3 : isPlainB t.text = true := by rw [K.plain, c3, c4]; rfl
              have hb : beginK (kindP t.text) = true := by unfold beginK; rw [c4]; simp
              have n5 : ¬ (kindP t.text = 5 ∨ kindP t.text = 2) := by
                intro h
                rcases h with h | h
                · rw [h] at c4; exact absurd c4 (by decide)
                · exact c1 h
              rw [if_pos b3, if_pos hb, if_neg c1, if_neg c2, need_self hself, ← ea]
              simp only [bindP, Bool.false_eq_true, if_false, if_true]
              rw [hh, if_neg (show ¬ ((node0 (hereS L (t :: q))).kind = 5 ∨ (node0 (hereS L (t :: q))).kind = 2) from n5)]
              refine parts_two L hg hs1 _ n base ih _ c4 _ _ _ ?_
              intro l r hl hr
              have hz : sizeF l ≠ 0 := by omega
              have hz2 : sizeF r ≠ 0 := by omega
              simp only [nodeOf, noPay, b1', hx, hz, hz2, if_false, node0, hereS, ptOf, Bool.false_eq_true]
              rfl
            | false =>
              have b3 : ¬ isPlainB t.text = true := by rw [K.plain, c3, c4]; decide
              rw [if_neg b3, if_neg b4, if_neg b5]
              by_cases c5 : kindP t.text = 5
              · have b6 : isTok [116, 114, 117, 101] t.text = true := by rw [K.tr, c5]; rfl
                rw [if_pos (show beginK (kindP t.text) = true by rw [c5]; decide), if_neg c1, if_neg c2, need_self b6, ← ea]
                simp only [bindP, Bool.false_eq_true, if_false, if_true]
                rw [hh, if_pos (show ((node0 (hereS L (t :: q))).kind = 5 ∨ (node0 (hereS L (t :: q))).kind = 2) from .inl c5)]
                refine ⟨?_, hs1, by simp [sizeF]⟩
                simp only [nodesOf, List.append_nil, nodeOf, noPay, b1', hx, sizeF, if_true, if_false, node0, hereS, ptOf, Bool.false_eq_true]
                rfl
              · have b6 : isTok [116, 114, 117, 101] t.text = false := by rw [K.tr]; simpa using c5
                have hb : ¬ beginK (kindP t.text) = true := by unfold beginK; rw [c3, c4]; simp [c1, c2, c5]
                rw [if_neg hb]
                have e : need (isTok [116, 114, 117, 101]) (t :: q) = .inl (t :: q) := by simp [need, b6]
                rw [e]
                exact ⟨rfl, rfl, hs⟩
          | true =>
            have hb : beginK (kindP t.text) = true := by unfold beginK; rw [c3]; simp
            have b3 : ¬ isPlainB t.text = true := by rw [K.plain, c3]; simp
            have n5 : ¬ (kindP t.text = 5 ∨ kindP t.text = 2) := by
              intro h
              rcases h with h | h
              · rw [h] at c3; exact absurd c3 (by decide)
              · exact c1 h
            have h := span_sim L hg hs1 (node0 (hereT (ptsOf toks L) (atS toks (t :: q)))) ⟨rfl, rfl⟩
            rw [if_neg b3, if_pos hb, if_neg c1, if_neg c2]
            simp only [if_true]
            rw [← ea]
            cases c4 : twoK (kindP t.text) with
            | false =>
              have b4 : isOneB t.text = true := by rw [K.one, c3, c4]; rfl
              rw [if_pos b4, need_self hself]
              simp only [bindP]
              generalize spanR (ptsOf toks L) (atS toks q) (node0 (hereT (ptsOf toks L) (atS toks (t :: q)))) = o at *
              cases hp : parseSpan q with
              | inl r1 =>
                rw [hp] at h
                obtain ⟨a1, a2, a3⟩ := h
                rw [if_neg (by rw [a1]; decide)]
                exact ⟨rfl, a2, a3⟩
              | inr z =>
                obtain ⟨sv, r1⟩ := z
                rw [hp] at h
                obtain ⟨rfl, hs2⟩ := h
                simp only [if_true]
                rw [hh, if_neg (show ¬ ((withSpan (node0 (hereS L (t :: q))) sv).kind = 5 ∨ (withSpan (node0 (hereS L (t :: q))) sv).kind = 2) from n5)]
                refine parts_one L hg hs2 _ n base ih _ c4 _ _ _ ?_
                intro l hl
                have hz : sizeF l ≠ 0 := by omega
                simp only [nodeOf, b1', hx, hz, sizeF, if_true, if_false, node0, hereS, ptOf, withSpan, Bool.false_eq_true]
            | true =>
              have b4 : ¬ isOneB t.text = true := by rw [K.one, c3, c4]; decide
              have b5 : isTwoB t.text = true := by rw [K.two, c3, c4]; rfl
              rw [if_neg b4, if_pos b5, need_self hself]
              simp only [bindP]
              generalize spanR (ptsOf toks L) (atS toks q) (node0 (hereT (ptsOf toks L) (atS toks (t :: q)))) = o at *
              cases hp : parseSpan q with
              | inl r1 =>
                rw [hp] at h
                obtain ⟨a1, a2, a3⟩ := h
                rw [if_neg (by rw [a1]; decide)]
                exact ⟨rfl, a2, a3⟩
              | inr z =>
                obtain ⟨sv, r1⟩ := z
                rw [hp] at h
                obtain ⟨rfl, hs2⟩ := h
                simp only [if_true]
                rw [hh, if_neg (show ¬ ((withSpan (node0 (hereS L (t :: q))) sv).kind = 5 ∨ (withSpan (node0 (hereS L (t :: q))) sv).kind = 2) from n5)]
                refine parts_two L hg hs2 _ n base ih _ c4 _ _ _ ?_
                intro l r hl hr
                have hz : sizeF l ≠ 0 := by omega
                have hz2 : sizeF r ≠ 0 := by omega
                simp only [nodeOf, b1', hx, hz, hz2, if_false, node0, hereS, ptOf, withSpan, Bool.false_eq_true]
end Go.Proofs.YtiamjjonoeaggaaDoor

namespace Go.Proofs.YtiamjjonoeaggaaDoor
open Go.RowKit

/-- A node of a formula that was read. -/
structure NodeOk (y : Pay) (l r : Form) : Prop where
  word : KFacts y.word
  args : ∀ a ∈ y.args, KFacts a
  lo : valP y.lo = (numV y.lo : Int)
  hi : valP y.hi = (numV y.hi : Int)
  shape : (kindP y.word = 2 ∧ l = .nil ∧ r = .nil ∧ y.lo = [] ∧ y.hi = [] ∧ y.args.length ≤ 2) ∨ (kindP y.word = 5 ∧ l = .nil ∧ r = .nil ∧ y.lo = [] ∧ y.hi = [] ∧ y.args = []) ∨ (kindP y.word = 9 ∧ l ≠ .nil ∧ r = .nil ∧ y.lo = [] ∧ y.hi = [] ∧ ∃ v, y.args = [v] ∧ (v = [120] ∨ v = [121]))
    ∨ (spanK (kindP y.word) = true ∧ twoK (kindP y.word) = false ∧ l ≠ .nil ∧ r = .nil ∧ y.args = []) ∨ (twoK (kindP y.word) = true ∧ spanK (kindP y.word) = false ∧ l ≠ .nil ∧ r ≠ .nil ∧ y.args = [] ∧ y.lo = [] ∧ y.hi = []) ∨ (twoK (kindP y.word) = true ∧ spanK (kindP y.word) = true ∧ l ≠ .nil ∧ r ≠ .nil ∧ y.args = [])
def FormOk : Form → Prop
  | .nil => True
  | .node _ _ y l r => NodeOk y l r ∧ FormOk l ∧ FormOk r
theorem val_num {t : Tok} (h : tokGood t) (hn : numB t.text = true) : valP t.text = (numV t.text : Int) := by
  obtain ⟨c, r, e, _⟩ := h
  rw [e] at hn ⊢
  have e2 : digB (c.toNat : Int) = true := hn
  simp only [valP]
  rw [if_pos e2]
theorem val_end {t : Tok} (h : tokGood t) (hn : endB t.text = true) : valP t.text = (numV t.text : Int) := by
  unfold endB at hn
  rw [Bool.or_eq_true] at hn
  rcases hn with hn | hn
  · have : t.text = [42] := by simpa using hn
    rw [this]
    decide
  · exact val_num h hn
theorem reads_nil {F : Form} {u : List Tok} (h : Reads F u) : F ≠ .nil := by
  intro e
  subst e
  exact h
theorem var_two {v : List UInt8} (h : isVarB v = true) : v = [120] ∨ v = [121] := by
  unfold isVarB at h
  simpa using h
theorem reads_ok : ∀ (F : Form) (u : List Tok), Reads F u → Good u → FormOk F := by
  intro F
  induction F with
  | nil => intro u h _; trivial
  | node p sp y l r ihl ihr =>
    intro u h hg
    rcases h with ⟨hn, e1, e2, rfl, rfl, q1, q2, q3, a, ha, h⟩ | ⟨hn, hw, e1, e2, rfl, v, q1, q2, q3, ul, hv, ea, hl, rfl⟩ | ⟨hn, hw, ea, e1, e2, q1, q2, q3, ul, ur, hl, hr, rfl⟩ | ⟨hn, hw, ea, rfl, hlo, hhi, q1, q2, q3, q4, q5, q6, ul, hl, rfl⟩ | ⟨hn, hw, ea, hlo, hhi, q1, q2, q3, q4, q5, q6, q7, ul, ur, hl, hr, rfl⟩ | ⟨hn, hw, ea, e1, e2, rfl, rfl, rfl⟩
    · have kw : KFacts y.word ∧ (∀ b ∈ y.args, KFacts b) ∧ y.args.length ≤ 2 := by
        rcases h with ⟨hy, rfl⟩ | ⟨b, q4, q5, hb, hy, rfl⟩
        · refine ⟨kfacts (hg ⟨y.word, p⟩ (by simp)), ?_, by rw [hy]; simp⟩
          rw [hy]
          intro b hb
          have := List.mem_singleton.1 hb
          subst this
          exact kfacts (hg ⟨b, q2⟩ (by simp))
        · refine ⟨kfacts (hg ⟨y.word, p⟩ (by simp)), ?_, by rw [hy]; simp⟩
          rw [hy]
          intro c hc
          simp only [List.mem_cons, List.not_mem_nil, or_false] at hc
          rcases hc with rfl | rfl
          · exact kfacts (hg ⟨c, q2⟩ (by simp))
          · exact kfacts (hg ⟨c, q5⟩ (by simp))
      have k2 : kindP y.word = 2 := by have := kw.1.name; rw [hn] at this; simpa using this.symm
      exact ⟨⟨kw.1, kw.2.1, by rw [e1]; rfl, by rw [e2]; rfl, .inl ⟨k2, rfl, rfl, e1, e2, kw.2.2⟩⟩, trivial, trivial⟩
    · have kw := kfacts (hg ⟨y.word, p⟩ (by simp))
      have kv := kfacts (hg ⟨v, q1⟩ (by simp))
      have k9 : kindP y.word = 9 := by rw [hw]; decide
      exact ⟨⟨kw, by rw [ea]; intro a ha; have := List.mem_singleton.1 ha; subst this; exact kv, by rw [e1]; rfl, by rw [e2]; rfl, .inr (.inr (.inl ⟨k9, reads_nil hl, rfl, e1, e2, v, ea, var_two hv⟩))⟩, ihl ul hl (good_sub hg (by intro t ht; simp [ht])), trivial⟩
    · have kw := kfacts (hg ⟨y.word, p⟩ (by simp))
      have kp := kw.plain
      simp only [] at kp
      rw [hw] at kp
      have kp' : twoK (kindP y.word) = true ∧ spanK (kindP y.word) = false := by simpa using kp.symm
      exact ⟨⟨kw, by rw [ea]; simp, by rw [e1]; rfl, by rw [e2]; rfl, .inr (.inr (.inr (.inr (.inl ⟨kp'.1, kp'.2, reads_nil hl, reads_nil hr, ea, e1, e2⟩))))⟩, ihl ul hl (good_sub hg (by intro t ht; simp [ht])), ihr ur hr (good_sub hg (by intro t ht; simp [ht]))⟩
    · have kw := kfacts (hg ⟨y.word, p⟩ (by simp))
      have kp := kw.one
      simp only [] at kp
      rw [hw] at kp
      have kp' : spanK (kindP y.word) = true ∧ twoK (kindP y.word) = false := by simpa using kp.symm
      exact ⟨⟨kw, by rw [ea]; simp, val_num (hg ⟨y.lo, q1⟩ (by simp)) hlo, val_end (hg ⟨y.hi, q3⟩ (by simp)) hhi, .inr (.inr (.inr (.inl ⟨kp'.1, kp'.2, reads_nil hl, rfl, ea⟩)))⟩, ihl ul hl (good_sub hg (by intro t ht; simp [ht])), trivial⟩
    · have kw := kfacts (hg ⟨y.word, p⟩ (by simp))
      have kp := kw.two
      simp only [] at kp
      rw [hw] at kp
      have kp' : spanK (kindP y.word) = true ∧ twoK (kindP y.word) = true := by simpa using kp.symm
      exact ⟨⟨kw, by rw [ea]; simp, val_num (hg ⟨y.lo, q1⟩ (by simp)) hlo, val_end (hg ⟨y.hi, q3⟩ (by simp)) hhi, .inr (.inr (.inr (.inr (.inr ⟨kp'.2, kp'.1, reads_nil hl, reads_nil hr, ea⟩))))⟩, ihl ul hl (good_sub hg (by intro t ht; simp [ht])), ihr ur hr (good_sub hg (by intro t ht; simp [ht]))⟩
    · have kw := kfacts (hg ⟨y.word, p⟩ (by simp))
      have k5 : kindP y.word = 5 := by rw [hw]; decide
      exact ⟨⟨kw, by rw [ea]; simp, by rw [e1]; rfl, by rw [e2]; rfl, .inr (.inl ⟨k5, rfl, rfl, e1, e2, ea⟩)⟩, trivial, trivial⟩

/-- What is free, and the reach. -/
structure PInfo where
  x : Bool
  y : Bool
  reach : Int
def infoT (G : Form) : PInfo := ⟨freeB G [120], freeB G [121], reachF G⟩
def noInfo : PInfo := ⟨false, false, -1⟩
def hasArgP (nd : PNode) (k : Int) : Bool := (decide (0 < nd.cnt) && nd.k0 == k) || (decide (1 < nd.cnt) && nd.k1 == k)
def reachP (own inner : Int) : Int := if inner = -1 then own else own + inner
def mxP (a b : PInfo) : Int := if b.reach > a.reach then b.reach else a.reach
def infoOfP (nd : PNode) (a b : PInfo) : PInfo :=
  if nd.kind = 2 then ⟨hasArgP nd 3, hasArgP nd 4, if aheadK nd.kind then reachP nd.shi (mxP a b) else mxP a b⟩
  else if nd.kind = 9 then ⟨(a.x || b.x) && !(nd.var == 3), (a.y || b.y) && !(nd.var == 4), if aheadK nd.kind then reachP nd.shi (mxP a b) else mxP a b⟩
  else ⟨a.x || b.x, a.y || b.y, if aheadK nd.kind then reachP nd.shi (mxP a b) else mxP a b⟩
def covP (one other : PInfo) : Bool := (other.x || !one.x) && (other.y || !one.y)
def wrongP (nd : PNode) (a b : PInfo) : Bool :=
  if nd.kind = 8 then (a.x != b.x) || (a.y != b.y)
  else if nd.kind = 7 then !covP b a
  else if nd.kind = 14 ∨ nd.kind = 15 ∨ nd.kind = 16 ∨ nd.kind = 17 then !covP a b
  else if nd.kind = 9 then !(nd.var == 3 && a.x) && !(nd.var == 4 && a.y)
  else false
def backP (nd : PNode) : Bool := !nd.sop && decide (nd.slo > nd.shi)
def openP (nd : PNode) : Bool := nd.sop && aheadK nd.kind
theorem reach_ge : ∀ F : Form, -1 ≤ reachF F := by
  intro F
  induction F with
  | nil => simp [reachF]
  | node p sp y l r ihl ihr =>
    simp only [reachF, mxI]
    have : (0 : Int) ≤ (numV y.hi : Int) := by omega
    repeat' split
    all_goals omega
theorem size_zero {F : Form} : sizeF F = 0 ↔ F = .nil := by
  cases F with
  | nil => simp [sizeF]
  | node => simp [sizeF]
theorem mx_two (l r : Form) : mxI (mxI (-1) (reachF l)) (reachF r) = mxP (infoT l) (infoT r) := by
  have := reach_ge l
  have := reach_ge r
  simp only [mxI, mxP, infoT]
  repeat' split
  all_goals omega
theorem reach_of {y : Pay} {l r : Form} (base p sp : Nat) (h : NodeOk y l r) : (if aheadK (nodeOf base p sp y l r).kind then reachP (nodeOf base p sp y l r).shi (mxP (infoT l) (infoT r)) else mxP (infoT l) (infoT r)) = reachF (.node p sp y l r) := by
  have e1 : (nodeOf base p sp y l r).kind = kindP y.word := rfl
  have e2 : (nodeOf base p sp y l r).shi = valP y.hi := rfl
  rw [e1, e2, h.hi, ← h.word.ahead]
  simp only [reachF]
  rw [mx_two]
  generalize mxP (infoT l) (infoT r) = m
  cases aheadB y.word with
  | false => rfl
  | true =>
    simp only [if_true, reachP]
    by_cases hm : m = -1
    · simp [hm]
    · simp [hm]; omega
theorem any_two (gs : List (List UInt8)) (x : List UInt8) (k : Int) (h2 : gs.length ≤ 2) (hx : ∀ a ∈ gs, (a == x) = (kindP a == k)) : (gs.any fun a => a == x) = ((decide (0 < (gs.length : Int)) && kindP (gs.getD 0 []) == k) || (decide (1 < (gs.length : Int)) && kindP (gs.getD 1 []) == k)) := by
  match gs, h2 with
  | [], _ => rfl
  | [a], _ => simp [hx a (by simp)]
  | [a, b], _ => simp [hx a (by simp), hx b (by simp)]
theorem free_node {p sp : Nat} {y : Pay} {l r : Form} (x : List UInt8) (h : l ≠ .nil) : freeB (.node p sp y l r) x = (!(y.word == [101, 120, 105, 115, 116, 115] && y.args == [x]) && (freeB l x || freeB r x)) := by
  cases l with
  | nil => exact absurd rfl h
  | node => rfl
theorem info_of {y : Pay} {l r : Form} (base p sp : Nat) (h : NodeOk y l r) : infoOfP (nodeOf base p sp y l r) (infoT l) (infoT r) = infoT (.node p sp y l r) := by
  unfold infoOfP
  rw [reach_of base p sp h]
  have e1 : (nodeOf base p sp y l r).kind = kindP y.word := rfl
  rw [e1]
  have hex := h.word.ex
  have hnm := h.word.name
  rcases h.shape with ⟨k, rfl, rfl, _, _, ha⟩ | ⟨k, rfl, rfl, _, _, ha⟩ | ⟨k, hl, rfl, _, _, v, ha, hv⟩ | ⟨k1, k2, hl, rfl, ha⟩ | ⟨k1, k2, hl, hr, ha, _⟩ | ⟨k1, k2, hl, hr, ha⟩
  · rw [if_pos k]
    rw [k] at hnm
    have hn : isNameB y.word = true := hnm
    simp only [infoT, freeB]
    rw [any_two y.args [120] 3 ha (fun a hm => (h.args a hm).isX), any_two y.args [121] 4 ha (fun a hm => (h.args a hm).isY)]
    simp only [hasArgP, nodeOf, hn, if_true]
  · rw [if_neg (by rw [k]; decide), if_neg (by rw [k]; decide)]
    simp only [infoT, freeB, ha]
    rfl
  · rw [if_neg (by rw [k]; decide), if_pos k]
    have hw : y.word = [101, 120, 105, 115, 116, 115] := by rw [k] at hex; simpa using hex
    have hx : exB y.word = true := by rw [hw]; decide
    have hv0 : (nodeOf base p sp y l .nil).var = kindP v := by simp only [nodeOf, hx, ha]; rfl
    rw [hv0]
    simp only [infoT]
    rw [free_node _ hl, free_node _ hl, hw, ha]
    simp only [beq_self_eq_true, Bool.true_and]
    rcases hv with rfl | rfl
    · rw [show kindP [120] = 3 by decide]
      simp [freeB]
    · rw [show kindP [121] = 4 by decide]
      simp [freeB]
  · have n2 : ¬ kindP y.word = 2 := by intro e; rw [e] at k1; exact absurd k1 (by decide)
    have n9 : ¬ kindP y.word = 9 := by intro e; rw [e] at k1; exact absurd k1 (by decide)
    rw [if_neg n2, if_neg n9]
    have hw : (y.word == [101, 120, 105, 115, 116, 115]) = false := by rw [hex]; simpa using n9
    simp only [infoT]
    rw [free_node _ hl, free_node _ hl, hw]
    simp
  · have n2 : ¬ kindP y.word = 2 := by intro e; rw [e] at k1; exact absurd k1 (by decide)
    have n9 : ¬ kindP y.word = 9 := by intro e; rw [e] at k1; exact absurd k1 (by decide)
    rw [if_neg n2, if_neg n9]
    have hw : (y.word == [101, 120, 105, 115, 116, 115]) = false := by rw [hex]; simpa using n9
    simp only [infoT]
    rw [free_node _ hl, free_node _ hl, hw]
    simp
  · have n2 : ¬ kindP y.word = 2 := by intro e; rw [e] at k1; exact absurd k1 (by decide)
    have n9 : ¬ kindP y.word = 9 := by intro e; rw [e] at k1; exact absurd k1 (by decide)
    rw [if_neg n2, if_neg n9]
    have hw : (y.word == [101, 120, 105, 115, 116, 115]) = false := by rw [hex]; simpa using n9
    simp only [infoT]
    rw [free_node _ hl, free_node _ hl, hw]
    simp
theorem back_of {y : Pay} {l r : Form} (base p sp : Nat) (h : NodeOk y l r) : backP (nodeOf base p sp y l r) = rangeBad (.node p sp y l r) := by
  unfold backP rangeBad
  have e1 : wordOf (.node p sp y l r) = y.word := rfl
  have e2 : payOf (.node p sp y l r) = y := rfl
  rw [e1, e2, h.word.one, h.word.two]
  have e3 : (nodeOf base p sp y l r).sop = (y.hi == [42]) := rfl
  have e4 : (nodeOf base p sp y l r).slo = valP y.lo := rfl
  have e5 : (nodeOf base p sp y l r).shi = valP y.hi := rfl
  rw [e3, e4, e5, h.lo, h.hi]
  have e6 : decide ((numV y.lo : Int) > (numV y.hi : Int)) = decide (numV y.hi < numV y.lo) := by rw [decide_eq_decide]; omega
  rw [e6]
  have key : spanK (kindP y.word) = false → y.lo = [] → y.hi = [] → (!(y.hi == [42]) && decide (numV y.hi < numV y.lo)) = ((spanK (kindP y.word) && !twoK (kindP y.word) || spanK (kindP y.word) && twoK (kindP y.word)) && !(y.hi == [42]) && decide (numV y.hi < numV y.lo)) := by
    intro hs a b
    rw [hs, a, b]
    simp
  rcases h.shape with ⟨k, rfl, rfl, a, b, _⟩ | ⟨k, rfl, rfl, a, b, _⟩ | ⟨k, hl, rfl, a, b, _⟩ | ⟨k1, k2, _⟩ | ⟨k1, k2, _, _, _, a, b⟩ | ⟨k1, k2, _⟩
  · exact key (by rw [k]; decide) a b
  · exact key (by rw [k]; decide) a b
  · exact key (by rw [k]; decide) a b
  · rw [k1, k2]; simp
  · exact key k2 a b
  · rw [k1, k2]; simp
theorem open_of {y : Pay} {l r : Form} (base p sp : Nat) (h : NodeOk y l r) : openP (nodeOf base p sp y l r) = openBad (.node p sp y l r) := by
  unfold openP openBad
  have e1 : wordOf (.node p sp y l r) = y.word := rfl
  have e2 : payOf (.node p sp y l r) = y := rfl
  rw [e1, e2, h.word.ahead, Bool.and_comm]
  rfl
theorem kids_few {p sp : Nat} {y : Pay} {l r : Form} (h : r = .nil) : decide ((kids (.node p sp y l r)).length < 2) = true := by
  subst h
  cases l with
  | nil => rfl
  | node => rfl
theorem kids_both {p sp : Nat} {y : Pay} {l r : Form} (hl : l ≠ .nil) (hr : r ≠ .nil) : decide ((kids (.node p sp y l r)).length < 2) = false := by
  cases l with
  | nil => exact absurd rfl hl
  | node =>
    cases r with
    | nil => exact absurd rfl hr
    | node => rfl
theorem wrong_of {y : Pay} {l r : Form} (base p sp : Nat) (h : NodeOk y l r) : wrongP (nodeOf base p sp y l r) (infoT l) (infoT r) = wrongB (.node p sp y l r) := by
  unfold wrongP
  have e1 : (nodeOf base p sp y l r).kind = kindP y.word := rfl
  rw [e1]
  rw [wrongB]
  have hex := h.word.ex
  have hor := h.word.isOr
  have hbut := h.word.isBut
  have htwo := h.word.two
  rw [hex]
  have one : twoK (kindP y.word) = false → r = .nil → kindP y.word ≠ 9 → (if kindP y.word = 8 then ((infoT l).x != (infoT r).x) || ((infoT l).y != (infoT r).y) else if kindP y.word = 7 then !covP (infoT r) (infoT l) else if kindP y.word = 14 ∨ kindP y.word = 15 ∨ kindP y.word = 16 ∨ kindP y.word = 17 then !covP (infoT l) (infoT r) else if kindP y.word = 9 then !((nodeOf base p sp y l r).var == 3 && (infoT l).x) && !((nodeOf base p sp y l r).var == 4 && (infoT l).y) else false) = if (kindP y.word == 9) = true then !freeB l (y.args.headD []) else if (decide ((kids (.node p sp y l r)).length < 2) || y.word == [97, 110, 100]) = true then false else badV y.word (freeB l [120]) (freeB r [120]) || badV y.word (freeB l [121]) (freeB r [121]) := by
    intro ht hr n9
    have n8 : ¬ kindP y.word = 8 := by intro e; rw [e] at ht; exact absurd ht (by decide)
    have n7 : ¬ kindP y.word = 7 := by intro e; rw [e] at ht; exact absurd ht (by decide)
    have n14 : ¬ (kindP y.word = 14 ∨ kindP y.word = 15 ∨ kindP y.word = 16 ∨ kindP y.word = 17) := by
      intro e
      rcases e with e | e | e | e <;> (rw [e] at ht; exact absurd ht (by decide))
    rw [if_neg n8, if_neg n7, if_neg n14, if_neg n9, if_neg (by simpa using n9), if_pos]
    rw [kids_few hr]
    rfl
  rcases h.shape with ⟨k, hl, hr, _⟩ | ⟨k, hl, hr, _⟩ | ⟨k, hl, hr, _, _, v, ha, hv⟩ | ⟨k1, k2, hl, hr, ha⟩ | ⟨k1, k2, hl, hr, ha, _⟩ | ⟨k1, k2, hl, hr, ha⟩
  · exact one (by rw [k]; decide) hr (by rw [k]; decide)
  · exact one (by rw [k]; decide) hr (by rw [k]; decide)
  · have hw : y.word = [101, 120, 105, 115, 116, 115] := by rw [k] at hex; simpa using hex
    have hx : exB y.word = true := by rw [hw]; decide
    have hv0 : (nodeOf base p sp y l r).var = kindP v := by simp only [nodeOf, hx, ha]; rfl
    rw [hv0, k, ha]
    rw [if_neg (by decide), if_neg (by decide), if_neg (by decide), if_pos rfl, if_pos (show ((9 : Int) == 9) = true by decide)]
    rcases hv with rfl | rfl
    · have ek : kindP [120] = 3 := by decide
      rw [ek]
      simp [infoT]
    · have ek : kindP [121] = 4 := by decide
      rw [ek]
      simp [infoT]
  · exact one k2 hr (by intro e; rw [e] at k1; exact absurd k1 (by decide))
  · have n9 : ¬ kindP y.word = 9 := by intro e; rw [e] at k1; exact absurd k1 (by decide)
    have n14 : ¬ (kindP y.word = 14 ∨ kindP y.word = 15 ∨ kindP y.word = 16 ∨ kindP y.word = 17) := by
      intro e
      rcases e with e | e | e | e <;> (rw [e] at k2; exact absurd k2 (by decide))
    rw [if_neg (show ¬ (kindP y.word == 9) = true by simpa using n9), kids_both hl hr, if_neg n14, if_neg n9]
    unfold badV
    rw [hor, hbut, htwo, k2]
    by_cases a8 : kindP y.word = 8
    · have hw : y.word = [111, 114] := by rw [a8] at hor; simpa using hor
      rw [if_pos a8, a8, hw]
      simp [infoT]
    · rw [if_neg a8]
      by_cases a7 : kindP y.word = 7
      · have hw : y.word = [98, 117, 116] := by rw [a7] at hbut; simpa using hbut
        rw [if_pos a7, a7, hw]
        simp [infoT, covP]
        cases freeB l [120] <;> cases freeB r [120] <;> cases freeB l [121] <;> cases freeB r [121] <;> rfl
      · rw [if_neg a7]
        simp [a8, a7]
  · have n9 : ¬ kindP y.word = 9 := by intro e; rw [e] at k1; exact absurd k1 (by decide)
    have n8 : ¬ kindP y.word = 8 := by intro e; rw [e] at k2; exact absurd k2 (by decide)
    have n7 : ¬ kindP y.word = 7 := by intro e; rw [e] at k2; exact absurd k2 (by decide)
    have y14 : kindP y.word = 14 ∨ kindP y.word = 15 ∨ kindP y.word = 16 ∨ kindP y.word = 17 := by
      unfold twoK at k1
      unfold spanK at k2
      simp only [Bool.or_eq_true, beq_iff_eq] at k1 k2
      omega
    have na : (y.word == [97, 110, 100]) = false := by
      simp only [beq_eq_false_iff_ne]
      intro e
      rw [e] at k2
      exact absurd k2 (by decide)
    rw [if_neg (show ¬ (kindP y.word == 9) = true by simpa using n9), kids_both hl hr, if_neg n8, if_neg n7, if_pos y14]
    unfold badV
    have m8 : (kindP y.word == 8) = false := by simpa using n8
    have m7 : (kindP y.word == 7) = false := by simpa using n7
    rw [hor, hbut, htwo, k1, k2, na, m8, m7]
    simp only [infoT, covP]
    cases freeB l [120] <;> cases freeB r [120] <;> cases freeB l [121] <;> cases freeB r [121] <;> rfl
end Go.Proofs.YtiamjjonoeaggaaDoor

namespace Go.Proofs.YtiamjjonoeaggaaDoor
open Go.RowKit

theorem subs_size (F : Form) : (subsF F).length = sizeF F := by
  induction F with
  | nil => rfl
  | node p sp y l r ihl ihr => simp [subsF, sizeF, ihl, ihr]; omega
/-- A FORMULA in it, its node, and what is in it. -/
theorem at_node (F : Form) : ∀ (base m : Nat) (G : Form), (subsF F)[m]? = some G → ∃ p sp y l r, G = .node p sp y l r ∧ (nodesOf F base)[m]? = some (nodeOf (base + m) p sp y l r) ∧ (FormOk F → FormOk G) ∧ (∀ j, j < sizeF G → (subsF F)[m + j]? = (subsF G)[j]?) := by
  induction F with
  | nil => intro base m G h; simp [subsF] at h
  | node p sp y l r ihl ihr =>
    intro base m G h
    cases m with
    | zero =>
      have : .node p sp y l r = G := by simpa [subsF] using h
      subst this
      exact ⟨p, sp, y, l, r, rfl, rfl, fun h => h, fun j _ => by rw [Nat.zero_add]⟩
    | succ m =>
      have h' : (subsF l ++ subsF r)[m]? = some G := by simpa [subsF] using h
      by_cases hm : m < (subsF l).length
      · rw [List.getElem?_append_left hm] at h'
        obtain ⟨p', sp', y', l', r', e, h1, h2, h3⟩ := ihl (base + 1) m G h'
        refine ⟨p', sp', y', l', r', e, ?_, fun hf => h2 hf.2.1, fun j hj => ?_⟩
        · have hm' : m < (nodesOf l (base + 1)).length := by rw [nodesOf_length, ← subs_size]; exact hm
          have e2 : base + (m + 1) = base + 1 + m := by omega
          rw [nodesOf, List.getElem?_cons_succ, List.getElem?_append_left hm', h1, e2]
        · have h3' := h3 j hj
          have hs : m + j < (subsF l).length := by
            rw [List.getElem?_eq_getElem (show j < (subsF G).length by rw [subs_size]; exact hj)] at h3'
            exact (List.getElem?_eq_some_iff.1 h3').1
          have e2 : m + 1 + j = (m + j) + 1 := by omega
          rw [e2, subsF, List.getElem?_cons_succ, List.getElem?_append_left hs, h3']
      · rw [List.getElem?_append_right (by omega)] at h'
        obtain ⟨p', sp', y', l', r', e, h1, h2, h3⟩ := ihr (base + 1 + sizeF l) (m - (subsF l).length) G h'
        rw [subs_size] at h1 h3 hm
        refine ⟨p', sp', y', l', r', e, ?_, fun hf => h2 hf.2.2, fun j hj => ?_⟩
        · have e2 : base + 1 + sizeF l + (m - sizeF l) = base + (m + 1) := by omega
          rw [nodesOf, List.getElem?_cons_succ, List.getElem?_append_right (by rw [nodesOf_length]; omega), nodesOf_length, h1, e2]
        · have h3' := h3 j hj
          have e2 : m + 1 + j = (m + j) + 1 := by omega
          have e3 : m + j - (subsF l).length = m - sizeF l + j := by rw [subs_size]; omega
          rw [e2, subsF, List.getElem?_cons_succ, List.getElem?_append_right (by rw [subs_size]; omega), e3, h3']
theorem subs_head {F : Form} (h : F ≠ .nil) : (subsF F)[0]? = some F ∧ 0 < sizeF F := by
  cases F with
  | nil => exact absurd rfl h
  | node => exact ⟨rfl, by simp [sizeF]; omega⟩
def infoAtP (I : List PInfo) (n : Int) : PInfo := if n < 0 ∨ (I.length : Int) ≤ n then noInfo else I.getD n.toNat noInfo
/-- The infos that are reckoned when all nodes from k on are done. -/
def infosK (F : Form) (k : Nat) : List PInfo := List.replicate k ⟨false, false, 0⟩ ++ ((subsF F).map infoT).drop k
theorem infosK_length (F : Form) (k : Nat) (h : k ≤ sizeF F) : (infosK F k).length = sizeF F := by
  unfold infosK
  simp [subs_size]
  omega
theorem infosK_at (F : Form) (k m : Nat) (h : k ≤ m) (G : Form) (hG : (subsF F)[m]? = some G) : infoAtP (infosK F k) (m : Int) = infoT G := by
  have hm : m < (subsF F).length := (List.getElem?_eq_some_iff.1 hG).1
  rw [subs_size] at hm
  have hl := infosK_length F k (by omega)
  unfold infoAtP
  rw [if_neg (by rw [hl]; omega)]
  have e : (infosK F k)[m]? = some (infoT G) := by
    unfold infosK
    rw [List.getElem?_append_right (by simpa using h)]
    simp only [List.length_replicate, List.getElem?_drop, List.getElem?_map]
    rw [show k + (m - k) = m by omega, hG]
    rfl
  simp [List.getD, e]
/-- What stands at a node, and what is said of the FORMULAs in it. -/
theorem node_parts (F : Form) (hF : FormOk F) (m : Nat) (hm : m < sizeF F) (k : Nat) (hk : k ≤ m + 1) :
    ∃ p sp y l r, (subsF F)[m]? = some (.node p sp y l r) ∧ (nodesOf F 0)[m]? = some (nodeOf m p sp y l r) ∧ NodeOk y l r ∧ infoAtP (infosK F k) (nodeOf m p sp y l r).fst = infoT l ∧ infoAtP (infosK F k) (nodeOf m p sp y l r).snd = infoT r := by
  have hm' : m < (subsF F).length := by rw [subs_size]; exact hm
  obtain ⟨p, sp, y, l, r, e, h1, h2, h3⟩ := at_node F 0 m _ (List.getElem?_eq_getElem hm')
  rw [Nat.zero_add] at h1
  have hG : (subsF F)[m]? = some (.node p sp y l r) := by rw [List.getElem?_eq_getElem hm', e]
  rw [e] at h2 h3
  refine ⟨p, sp, y, l, r, hG, h1, (h2 hF).1, ?_, ?_⟩
  · have ef : (nodeOf m p sp y l r).fst = if sizeF l = 0 then -1 else (m : Int) + 1 := rfl
    rw [ef]
    by_cases hl : l = .nil
    · subst hl
      rw [if_pos (show sizeF (.nil : Form) = 0 from rfl)]
      unfold infoAtP
      rw [if_pos (.inl (by decide))]
      rfl
    · obtain ⟨g1, g2⟩ := subs_head hl
      rw [if_neg (by omega)]
      have h4 := h3 1 (by simp [sizeF]; omega)
      have h5 : (subsF (.node p sp y l r))[1]? = some l := by
        rw [subsF, List.getElem?_cons_succ, List.getElem?_append_left (by rw [subs_size]; exact g2), g1]
      rw [h5] at h4
      exact infosK_at F k (m + 1) hk l h4
  · have ef : (nodeOf m p sp y l r).snd = if sizeF r = 0 then -1 else (m : Int) + 1 + sizeF l := rfl
    rw [ef]
    by_cases hr : r = .nil
    · subst hr
      rw [if_pos (show sizeF (.nil : Form) = 0 from rfl)]
      unfold infoAtP
      rw [if_pos (.inl (by decide))]
      rfl
    · obtain ⟨g1, g2⟩ := subs_head hr
      rw [if_neg (by omega)]
      have h4 := h3 (1 + sizeF l) (by simp [sizeF]; omega)
      have h5 : (subsF (.node p sp y l r))[1 + sizeF l]? = some r := by
        rw [Nat.add_comm 1, subsF, List.getElem?_cons_succ, List.getElem?_append_right (by rw [subs_size]; omega), subs_size, Nat.sub_self, g1]
      rw [h5] at h4
      have h6 := infosK_at F k (m + (1 + sizeF l)) (by omega) r h4
      rw [← h6]
      congr 1
      omega
theorem infosK_step (F : Form) (k : Nat) (G : Form) (h : (subsF F)[k]? = some G) : infosK F k = (infosK F (k + 1)).set k (infoT G) := by
  have hk : k < (subsF F).length := (List.getElem?_eq_some_iff.1 h).1
  have hG : (subsF F)[k] = G := by rw [List.getElem?_eq_getElem hk] at h; simpa using h
  unfold infosK
  have hk' : k < ((subsF F).map infoT).length := by simpa using hk
  rw [List.drop_eq_getElem_cons hk', List.replicate_succ', List.append_assoc, List.set_append_right _ _ (by simp)]
  simp [hG]
theorem infosK_zero (F : Form) : infosK F 0 = (subsF F).map infoT := by simp [infosK]
theorem infosK_all (F : Form) : infosK F (sizeF F) = List.replicate (sizeF F) ⟨false, false, 0⟩ := by
  unfold infosK
  rw [List.drop_of_length_le (by simp [subs_size])]
  simp
end Go.Proofs.YtiamjjonoeaggaaDoor
