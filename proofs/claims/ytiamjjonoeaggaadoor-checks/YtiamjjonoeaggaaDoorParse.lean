import Derived.Test.YtiamjjonoeaggaaDoorLex
import Derived.Deep.Trees
namespace Go.Proofs.YtiamjjonoeaggaaDoor
open Go.RowKit

/-- What stands at a node of a formula: its word; an EVENT's ARGs, or the VAR of exists; its SPAN's two texts. -/
structure Pay where
  word : List UInt8
  args : List (List UInt8)
  lo : List UInt8
  hi : List UInt8
/-- A formula: a node: the place of its word, the place of its SPAN, what stands there, its FORMULAs. -/
abbrev Form := Go.Deep.BT Pay

abbrev Pres (α : Type) := Sum (List Tok) (α × List Tok)
def bindP {α β : Type} (x : Pres α) (f : α → List Tok → Pres β) : Pres β := match x with
  | .inl r => .inl r
  | .inr (a, r) => f a r
def need (p : List UInt8 → Bool) (ts : List Tok) : Pres Tok := match ts with
  | [] => .inl []
  | t :: r => if p t.text then .inr (t, r) else .inl (t :: r)
def hd (ts : List Tok) : List UInt8 := match ts with
  | [] => []
  | t :: _ => t.text
def numB (t : List UInt8) : Bool := match t with
  | [] => false
  | c :: _ => digB (c.toNat : Int)
def isVarB (t : List UInt8) : Bool := t == [120] || t == [121]
def argB (t : List UInt8) : Bool := (t.length == 1 && digs t) || isVarB t
def endB (t : List UInt8) : Bool := t == [42] || numB t
def isTok (c : List UInt8) (t : List UInt8) : Bool := c == t
def parseMore (ts : List Tok) : Pres (List (List UInt8)) :=
  if hd ts == [44] then bindP (need (isTok [44]) ts) fun _ r => bindP (need argB r) fun a r => .inr ([a.text], r) else .inr ([], ts)
/-- A SPAN: the place of its bracket, its two texts. -/
def parseSpan (ts : List Tok) : Pres (Nat × List UInt8 × List UInt8) :=
  bindP (need (isTok [91]) ts) fun o r => bindP (need numB r) fun a r => bindP (need (isTok [44]) r) fun _ r => bindP (need endB r) fun b r => bindP (need (isTok [93]) r) fun _ r => .inr ((o.pos, a.text, b.text), r)
def noPay (w : List UInt8) : Pay := ⟨w, [], [], []⟩
/-- A FORMULA at whose place n more may stand in one another; the tokens from the one on that can't stand there, or what is behind it. -/
def parseF : Nat → List Tok → Pres Form
  | 0, ts => .inl ts
  | n + 1, ts =>
    if isNameB (hd ts) then
      bindP (need isNameB ts) fun t r => bindP (need (isTok [40]) r) fun _ r => bindP (need argB r) fun a r => bindP (parseMore r) fun b r => bindP (need (isTok [41]) r) fun _ r =>
        .inr (.node t.pos 0 ⟨t.text, a.text :: b, [], []⟩ .nil .nil, r)
    else if hd ts == [101, 120, 105, 115, 116, 115] then
      bindP (need (isTok (hd ts)) ts) fun t r => bindP (need isVarB r) fun v r => bindP (need (isTok [40]) r) fun _ r => bindP (parseF n r) fun A r => bindP (need (isTok [41]) r) fun _ r =>
        .inr (.node t.pos 0 ⟨t.text, [v.text], [], []⟩ A .nil, r)
    else if isPlainB (hd ts) then
      bindP (need (isTok (hd ts)) ts) fun t r => bindP (need (isTok [40]) r) fun _ r => bindP (parseF n r) fun A r => bindP (need (isTok [44]) r) fun _ r => bindP (parseF n r) fun B r => bindP (need (isTok [41]) r) fun _ r =>
        .inr (.node t.pos 0 (noPay t.text) A B, r)
    else if isOneB (hd ts) then
      bindP (need (isTok (hd ts)) ts) fun t r => bindP (parseSpan r) fun s r => bindP (need (isTok [40]) r) fun _ r => bindP (parseF n r) fun A r => bindP (need (isTok [41]) r) fun _ r =>
        .inr (.node t.pos s.1 ⟨t.text, [], s.2.1, s.2.2⟩ A .nil, r)
    else if isTwoB (hd ts) then
      bindP (need (isTok (hd ts)) ts) fun t r => bindP (parseSpan r) fun s r => bindP (need (isTok [40]) r) fun _ r => bindP (parseF n r) fun A r => bindP (need (isTok [44]) r) fun _ r => bindP (parseF n r) fun B r => bindP (need (isTok [41]) r) fun _ r =>
        .inr (.node t.pos s.1 ⟨t.text, [], s.2.1, s.2.2⟩ A B, r)
    else bindP (need (isTok [116, 114, 117, 101]) ts) fun t r => .inr (.node t.pos 0 (noPay t.text) .nil .nil, r)

def plc (L : Nat) (ts : List Tok) : Nat := match ts with
  | [] => L
  | t :: _ => t.pos
/-- The machine of symbols: nothing: no end yet; none: it is a formula; a place: it is none. -/
def mach (L : Nat) : Nat → List (List UInt8) → List Tok → Option (Option Nat)
  | 0, _, _ => none
  | _ + 1, [], ts => some (match ts with | [] => none | t :: _ => some t.pos)
  | f + 1, s :: W, ts => match becomesS s (hd ts) with
    | some m => mach L f (m ++ W) ts
    | none => if fitsB s (hd ts) then mach L f W ts.tail else some (some (plc L ts))

/-- The symbols ss, at ts, come to this: the tokens at which it is over, or what is behind. -/
def Runs (L : Nat) (ss : List (List UInt8)) (ts : List Tok) (x : Sum (List Tok) (List Tok)) : Prop :=
  ∀ W, ∃ k, ∀ m, mach L (k + m) (ss ++ W) ts = match x with
    | .inl r => some (some (plc L r))
    | .inr r => mach L m W r
def outP {α : Type} (x : Pres α) : Sum (List Tok) (List Tok) := match x with
  | .inl r => .inl r
  | .inr (_, r) => .inr r
theorem runs_nil (L : Nat) (ts : List Tok) : Runs L [] ts (.inr ts) := fun W => ⟨0, fun m => by simp⟩
theorem runs_bind {L : Nat} {α β : Type} {ss ss' : List (List UInt8)} {ts : List Tok} {x : Pres α} {f : α → List Tok → Pres β} (h1 : Runs L ss ts (outP x)) (h2 : ∀ a r, x = .inr (a, r) → Runs L ss' r (outP (f a r))) : Runs L (ss ++ ss') ts (outP (bindP x f)) := by
  intro W
  cases x with
  | inl r =>
    obtain ⟨k, hk⟩ := h1 (ss' ++ W)
    exact ⟨k, fun m => by rw [List.append_assoc]; exact hk m⟩
  | inr p =>
    obtain ⟨a, r⟩ := p
    obtain ⟨k, hk⟩ := h1 (ss' ++ W)
    obtain ⟨k', hk'⟩ := h2 a r rfl W
    refine ⟨k + k', fun m => ?_⟩
    rw [List.append_assoc, Nat.add_assoc, hk (k' + m)]
    exact hk' m
/-- A symbol that is a token, NUM, VAR or NAME. -/
theorem runs_need (L : Nat) (s : List UInt8) (p : List UInt8 → Bool) (ts : List Tok) (hb : becomesS s (hd ts) = none) (hp : fitsB s (hd ts) = (!ts.isEmpty && p (hd ts))) : Runs L [s] ts (outP (need p ts)) := by
  intro W
  refine ⟨1, fun m => ?_⟩
  rw [Nat.add_comm 1 m]
  show mach L (m + 1) (s :: W) ts = _
  rw [mach, hb]
  simp only []
  rw [hp]
  cases ts with
  | nil => simp [need, outP]
  | cons t r =>
    simp only [hd, need]
    by_cases hpt : p t.text = true <;> simp [hpt, outP]
theorem runs_step {L : Nat} {s : List UInt8} {m : List (List UInt8)} {ts : List Tok} {x : Sum (List Tok) (List Tok)} (hb : becomesS s (hd ts) = some m) (h : Runs L m ts x) : Runs L [s] ts x := by
  intro W
  obtain ⟨k, hk⟩ := h W
  refine ⟨k + 1, fun j => ?_⟩
  have e : k + 1 + j = (k + j) + 1 := by omega
  rw [e]
  show mach L (k + j + 1) (s :: W) ts = _
  rw [mach, hb]
  exact hk j
theorem becomes_tok (s t : List UInt8) (h1 : (s == [69, 78, 68]) = false) (h2 : (s == [65, 82, 71]) = false) (h3 : (s == [77, 79, 82, 69]) = false) (h4 : s.head? ≠ some 70) : becomesS s t = none := by
  unfold becomesS
  rw [h1, h2, h3]
  simp only [Bool.false_eq_true, if_false]
  cases s with
  | nil => rfl
  | cons c r =>
    simp only []
    rw [if_neg]
    intro e
    apply h4
    simp at e
    simp [e]
theorem fits_nil (s : List UInt8) : fitsB s [] = false := rfl
theorem fits_lit (s : List UInt8) (ts : List Tok) (h1 : (s == [78, 85, 77]) = false) (h2 : (s == [86, 65, 82]) = false) (h3 : (s == [78, 65, 77, 69]) = false) (hts : ∀ t ∈ ts, t.text ≠ []) : fitsB s (hd ts) = (!ts.isEmpty && isTok s (hd ts)) := by
  cases ts with
  | nil => rfl
  | cons t r =>
    have ht := hts t (by simp)
    cases htx : t.text with
    | nil => exact absurd htx ht
    | cons c q =>
      show fitsB s t.text = _
      simp only [hd, List.isEmpty_cons, Bool.not_false, Bool.true_and, isTok]
      rw [htx, fitsB_cons, h1, h2, h3]
      rfl
theorem runs_lit (L : Nat) (s : List UInt8) (ts : List Tok) (h1 : (s == [78, 85, 77]) = false) (h2 : (s == [86, 65, 82]) = false) (h3 : (s == [78, 65, 77, 69]) = false) (_hne : s ≠ []) (hE : (s == [69, 78, 68]) = false) (hA : (s == [65, 82, 71]) = false) (hM : (s == [77, 79, 82, 69]) = false) (hF : s.head? ≠ some 70)
    (hts : ∀ t ∈ ts, t.text ≠ []) : Runs L [s] ts (outP (need (isTok s) ts)) :=
  runs_need L s _ ts (becomes_tok s _ hE hA hM hF) (fits_lit s ts h1 h2 h3 hts)
theorem fits_num (ts : List Tok) : fitsB [78, 85, 77] (hd ts) = (!ts.isEmpty && numB (hd ts)) := by
  cases ts with
  | nil => rfl
  | cons t r =>
    simp only [hd, List.isEmpty_cons, Bool.not_false, Bool.true_and]
    cases t.text with
    | nil => rfl
    | cons c q => rw [fitsB_cons]; rfl
theorem fits_var (ts : List Tok) : fitsB [86, 65, 82] (hd ts) = (!ts.isEmpty && isVarB (hd ts)) := by
  cases ts with
  | nil => rfl
  | cons t r =>
    simp only [hd, List.isEmpty_cons, Bool.not_false, Bool.true_and]
    cases t.text with
    | nil => rfl
    | cons c q => rw [fitsB_cons]; rfl
theorem fits_name (ts : List Tok) : fitsB [78, 65, 77, 69] (hd ts) = (!ts.isEmpty && isNameB (hd ts)) := by
  cases ts with
  | nil => rfl
  | cons t r =>
    simp only [hd, List.isEmpty_cons, Bool.not_false, Bool.true_and]
    cases t.text with
    | nil => rfl
    | cons c q => rw [fitsB_cons]; rfl
theorem runs_num (L : Nat) (ts : List Tok) : Runs L [[78, 85, 77]] ts (outP (need numB ts)) := runs_need L _ _ ts (becomes_tok _ _ (by decide) (by decide) (by decide) (by decide)) (fits_num ts)
theorem runs_var (L : Nat) (ts : List Tok) : Runs L [[86, 65, 82]] ts (outP (need isVarB ts)) := runs_need L _ _ ts (becomes_tok _ _ (by decide) (by decide) (by decide) (by decide)) (fits_var ts)
theorem runs_name (L : Nat) (ts : List Tok) : Runs L [[78, 65, 77, 69]] ts (outP (need isNameB ts)) := runs_need L _ _ ts (becomes_tok _ _ (by decide) (by decide) (by decide) (by decide)) (fits_name ts)
theorem need_congr {p q : List UInt8 → Bool} (ts : List Tok) (h : ts ≠ [] → p (hd ts) = q (hd ts)) : need p ts = need q ts := by
  cases ts with
  | nil => rfl
  | cons t r =>
    have := h (by simp)
    simp only [hd] at this
    simp only [need, this]
theorem runs_end (L : Nat) (ts : List Tok) (hts : ∀ t ∈ ts, t.text ≠ []) : Runs L [[69, 78, 68]] ts (outP (need endB ts)) := by
  cases h : (hd ts == [42]) with
  | true =>
    refine runs_step (m := [[42]]) (by unfold becomesS; rw [if_pos (by decide), h]; rfl) ?_
    have e : need endB ts = need (isTok [42]) ts := need_congr ts (fun _ => by
      have : hd ts = [42] := by simpa using h
      rw [this]; rfl)
    rw [e]
    exact runs_lit L _ ts (by decide) (by decide) (by decide) (by decide) (by decide) (by decide) (by decide) (by decide) hts
  | false =>
    refine runs_step (m := [[78, 85, 77]]) (by unfold becomesS; rw [if_pos (by decide), h]; rfl) ?_
    have e : need endB ts = need numB ts := need_congr ts (fun _ => by unfold endB; rw [h]; rfl)
    rw [e]
    exact runs_num L ts
theorem one_digit {t : List UInt8} (h : (t.length == 1 && digs t) = true) : ∃ c, t = [c] ∧ 48 ≤ c.toNat ∧ c.toNat ≤ 57 := by
  match t, h with
  | [c], h =>
    refine ⟨c, rfl, ?_⟩
    simp [digs, digB] at h
    omega
theorem digit_ne {c : UInt8} (h : c.toNat ≤ 57) (k : UInt8) (hk : 57 < k.toNat) : c ≠ k := by
  intro e
  subst e
  omega
theorem runs_arg (L : Nat) (ts : List Tok) (hts : ∀ t ∈ ts, t.text ≠ []) : Runs L [[65, 82, 71]] ts (outP (need argB ts)) := by
  cases h : ((hd ts).length == 1 && digs (hd ts)) with
  | true =>
    obtain ⟨c, hc, h1, h2⟩ := one_digit h
    refine runs_step (m := [hd ts]) (by unfold becomesS; rw [if_neg (by decide), if_pos (by decide), h]; rfl) ?_
    have e : need argB ts = need (isTok (hd ts)) ts := need_congr ts (fun _ => by unfold argB; rw [h]; simp [isTok])
    rw [e]
    refine runs_lit L _ ts ?_ ?_ ?_ ?_ ?_ ?_ ?_ ?_ hts
    all_goals rw [hc]
    all_goals first | simp | (simp only [beq_eq_false_iff_ne]; simp)
    exact digit_ne h2 70 (by decide)
  | false =>
    refine runs_step (m := [[86, 65, 82]]) (by unfold becomesS; rw [if_neg (by decide), if_pos (by decide), h]; rfl) ?_
    have e : need argB ts = need isVarB ts := need_congr ts (fun _ => by unfold argB; rw [h]; rfl)
    rw [e]
    exact runs_var L ts
theorem need_mem {p : List UInt8 → Bool} {ts r : List Tok} {t : Tok} (h : need p ts = .inr (t, r)) : ts = t :: r ∧ p t.text = true := by
  cases ts with
  | nil => simp [need] at h
  | cons a q =>
    simp only [need] at h
    by_cases hp : p a.text = true
    · rw [if_pos hp] at h
      simp at h
      obtain ⟨rfl, rfl⟩ := h
      exact ⟨rfl, hp⟩
    · rw [if_neg hp] at h
      simp at h
theorem need_rest {p : List UInt8 → Bool} {ts r : List Tok} {t : Tok} (h : need p ts = .inr (t, r)) (hts : ∀ t ∈ ts, t.text ≠ []) : ∀ t ∈ r, t.text ≠ [] := by
  have := (need_mem h).1
  subst this
  exact fun x hx => hts x (by simp [hx])
theorem runs_more (L : Nat) (ts : List Tok) (hts : ∀ t ∈ ts, t.text ≠ []) : Runs L [[77, 79, 82, 69]] ts (outP (parseMore ts)) := by
  unfold parseMore
  cases h : (hd ts == [44]) with
  | true =>
    rw [if_pos rfl]
    refine runs_step (m := [[44], [65, 82, 71]]) (by unfold becomesS; rw [if_neg (by decide), if_neg (by decide), if_pos (by decide), h]; rfl) ?_
    refine runs_bind (ss := [[44]]) (ss' := [[65, 82, 71]]) (runs_lit L _ ts (by decide) (by decide) (by decide) (by decide) (by decide) (by decide) (by decide) (by decide) hts) ?_
    intro a r hr
    have hr' := need_rest hr hts
    rw [← List.append_nil [[65, 82, 71]]]
    refine runs_bind (runs_arg L r hr') ?_
    intro a2 r2 _
    exact runs_nil L r2
  | false =>
    rw [if_neg (by simp)]
    exact runs_step (m := []) (by unfold becomesS; rw [if_neg (by decide), if_neg (by decide), if_pos (by decide), h]; rfl) (runs_nil L ts)
end Go.Proofs.YtiamjjonoeaggaaDoor
