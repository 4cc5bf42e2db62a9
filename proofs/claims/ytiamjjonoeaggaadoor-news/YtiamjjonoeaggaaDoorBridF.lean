import Derived.Test.YtiamjjonoeaggaaDoorBrid
import Derived.Test.YtiamjjonoeaggaaDoorRulA
namespace Go.Proofs.YtiamjjonoeaggaaDoor
open Go.RowKit

def SmallF : Form → Prop
  | .nil => True
  | .node _ _ y l r => numV y.hi ≤ 999 ∧ numV y.lo ≤ 999 ∧ SmallF l ∧ SmallF r
theorem num_small {t : Tok} (h : tokGood t) (hn : numB t.text = true) : numV t.text ≤ 999 := by
  obtain ⟨hd, _, h3⟩ := good_num h hn
  have := numV_lt hd t.text.length (Nat.le_refl _)
  rw [List.take_length] at this
  have hp : 10 ^ t.text.length ≤ 10 ^ 3 := Nat.pow_le_pow_right (by omega) h3
  omega
theorem end_small {t : Tok} (h : tokGood t) (hn : endB t.text = true) : numV t.text ≤ 999 := by
  unfold endB at hn
  rw [Bool.or_eq_true] at hn
  rcases hn with hn | hn
  · have : t.text = [42] := by simpa using hn
    rw [this]
    decide
  · exact num_small h hn
theorem reads_small : ∀ (F : Form) (u : List Tok), Reads F u → Good u → SmallF F := by
  intro F
  induction F with
  | nil => intro u h _; trivial
  | node p sp y l r ihl ihr =>
    intro u h hg
    have z : numV [] ≤ 999 := by decide
    rcases h with ⟨hn, e1, e2, rfl, rfl, _⟩ | ⟨hn, hw, e1, e2, rfl, v, q1, q2, q3, ul, hv, ea, hl, rfl⟩ | ⟨hn, hw, ea, e1, e2, q1, q2, q3, ul, ur, hl, hr, rfl⟩ | ⟨hn, hw, ea, rfl, hlo, hhi, q1, q2, q3, q4, q5, q6, ul, hl, rfl⟩ | ⟨hn, hw, ea, hlo, hhi, q1, q2, q3, q4, q5, q6, q7, ul, ur, hl, hr, rfl⟩ | ⟨hn, hw, ea, e1, e2, rfl, rfl, rfl⟩
    · exact ⟨by rw [e2]; exact z, by rw [e1]; exact z, trivial, trivial⟩
    · exact ⟨by rw [e2]; exact z, by rw [e1]; exact z, ihl ul hl (good_sub hg (by intro t ht; simp [ht])), trivial⟩
    · exact ⟨by rw [e2]; exact z, by rw [e1]; exact z, ihl ul hl (good_sub hg (by intro t ht; simp [ht])), ihr ur hr (good_sub hg (by intro t ht; simp [ht]))⟩
    · exact ⟨end_small (hg ⟨y.hi, q3⟩ (by simp)) hhi, num_small (hg ⟨y.lo, q1⟩ (by simp)) hlo, ihl ul hl (good_sub hg (by intro t ht; simp [ht])), trivial⟩
    · exact ⟨end_small (hg ⟨y.hi, q3⟩ (by simp)) hhi, num_small (hg ⟨y.lo, q1⟩ (by simp)) hlo, ihl ul hl (good_sub hg (by intro t ht; simp [ht])), ihr ur hr (good_sub hg (by intro t ht; simp [ht]))⟩
    · exact ⟨by rw [e2]; exact z, by rw [e1]; exact z, trivial, trivial⟩
theorem reach_le : ∀ F : Form, SmallF F → reachF F ≤ 999 * (sizeF F : Int) := by
  intro F
  induction F with
  | nil => intro _; simp [reachF, sizeF]
  | node p sp y l r ihl ihr =>
    intro h
    obtain ⟨h1, _, h2, h3⟩ := h
    have a := ihl h2
    have b := ihr h3
    have c := reach_ge l
    have d := reach_ge r
    simp only [reachF, mxI, sizeF]
    have h1' : (numV y.hi : Int) ≤ 999 := by omega
    repeat' split
    all_goals omega
theorem subs_small (F : Form) : ∀ G, G ∈ subsF F → SmallF F → SmallF G ∧ sizeF G ≤ sizeF F := by
  induction F with
  | nil => intro G h; simp [subsF] at h
  | node p sp y l r ihl ihr =>
    intro G h hs
    simp only [subsF, List.mem_cons, List.mem_append] at h
    rcases h with rfl | h | h
    · exact ⟨hs, Nat.le_refl _⟩
    · obtain ⟨a, b⟩ := ihl G h hs.2.2.1
      exact ⟨a, by simp only [sizeF]; omega⟩
    · obtain ⟨a, b⟩ := ihr G h hs.2.2.2
      exact ⟨a, by simp only [sizeF]; omega⟩
/-- All that the program reckons of the node at m. -/
theorem node_facts (F : Form) (hF : FormOk F) (hS : SmallF F) (hN : sizeF F ≤ 255) (m : Nat) (hm : m < sizeF F) (k : Nat) (hk : k ≤ m + 1) :
    ∃ (nd : PNode) (G : Form) (a b : PInfo), (subsF F)[m]? = some G ∧ (nodesOf F 0)[m]? = some nd ∧ infoAtP (infosK F k) nd.fst = a ∧ infoAtP (infosK F k) nd.snd = b ∧ infoOfP nd a b = infoT G ∧ wrongP nd a b = wrongB G ∧ backP nd = rangeBad G ∧ openP nd = openBad G ∧ nd.sat = spanOf G ∧ nd.pos = posOf G
      ∧ (-100000 ≤ nd.fst ∧ nd.fst ≤ 100000) ∧ (-100000 ≤ nd.snd ∧ nd.snd ≤ 100000) ∧ (0 ≤ nd.cnt ∧ nd.cnt ≤ 2) ∧ (0 ≤ nd.shi ∧ nd.shi ≤ 100000) ∧ (-1 ≤ a.reach ∧ a.reach ≤ 1000000) ∧ (-1 ≤ b.reach ∧ b.reach ≤ 1000000) ∧ (nd.kind = 2 → a = noInfo ∧ b = noInfo) ∧ (nd.kind = 9 → b = noInfo) := by
  obtain ⟨p, sp, y, l, r, h1, h2, h3, h4, h5⟩ := node_parts F hF m hm k hk
  have hmem : Go.Deep.BT.node p sp y l r ∈ subsF F := List.mem_of_getElem? h1
  obtain ⟨hs1, hs2⟩ := subs_small F _ hmem hS
  obtain ⟨i1, _, i3, i4⟩ := hs1
  have hsz : sizeF (.node p sp y l r) = 1 + sizeF l + sizeF r := rfl
  have rl := reach_le l i3
  have rr := reach_le r i4
  have gl := reach_ge l
  have gr := reach_ge r
  refine ⟨nodeOf m p sp y l r, .node p sp y l r, infoT l, infoT r, h1, h2, h4, h5, info_of m p sp h3, wrong_of m p sp h3, back_of m p sp h3, open_of m p sp h3, rfl, rfl, ?_, ?_, ?_, ?_, ⟨gl, ?_⟩, ⟨gr, ?_⟩, ?_, ?_⟩
  · show -100000 ≤ (if sizeF l = 0 then (-1 : Int) else (m : Int) + 1) ∧ (if sizeF l = 0 then (-1 : Int) else (m : Int) + 1) ≤ 100000
    split <;> omega
  · show -100000 ≤ (if sizeF r = 0 then (-1 : Int) else (m : Int) + 1 + sizeF l) ∧ (if sizeF r = 0 then (-1 : Int) else (m : Int) + 1 + sizeF l) ≤ 100000
    split <;> omega
  · show 0 ≤ (if isNameB y.word then (y.args.length : Int) else 0) ∧ (if isNameB y.word then (y.args.length : Int) else 0) ≤ 2
    have hn := h3.word.name
    rcases h3.shape with ⟨k2, _, _, _, _, ha⟩ | ⟨_, _, _, _, _, ha⟩ | ⟨_, _, _, _, _, v, ha, _⟩ | ⟨_, _, _, _, ha⟩ | ⟨_, _, _, _, ha, _⟩ | ⟨_, _, _, _, ha⟩ <;> (try rw [ha]) <;> split <;> simp <;> omega
  · show 0 ≤ valP y.hi ∧ valP y.hi ≤ 100000
    rw [h3.hi]
    omega
  · show reachF l ≤ 1000000
    omega
  · show reachF r ≤ 1000000
    omega
  · intro hk2
    have hk2' : kindP y.word = 2 := hk2
    rcases h3.shape with ⟨_, rfl, rfl, _⟩ | ⟨k, _⟩ | ⟨k, _⟩ | ⟨k, _⟩ | ⟨k, _⟩ | ⟨k, _⟩
    · exact ⟨rfl, rfl⟩
    all_goals (rw [hk2'] at k; exact absurd k (by decide))
  · intro hk9
    have hk9' : kindP y.word = 9 := hk9
    rcases h3.shape with ⟨k, _⟩ | ⟨k, _⟩ | ⟨_, _, rfl, _⟩ | ⟨k, _⟩ | ⟨k, _⟩ | ⟨k, _⟩
    · rw [hk9'] at k; exact absurd k (by decide)
    · rw [hk9'] at k; exact absurd k (by decide)
    · rfl
    all_goals (rw [hk9'] at k; exact absurd k (by decide))
theorem made_info (N : Nat) : (madeCells (Value.agg #[.bool false, .bool false, .int .i64 0]).cells (N * 3)).toList = inCells (List.replicate N ⟨false, false, 0⟩) := by
  apply List.ext_getElem?
  intro t
  by_cases ht : t < N * 3
  · have hi : t / 3 < (List.replicate N (⟨false, false, 0⟩ : PInfo)).length := by simp; omega
    have hR := inCells_at (List.replicate N (⟨false, false, 0⟩ : PInfo)) (t / 3) hi (t % 3) (by omega)
    rw [show t / 3 * 3 + t % 3 = t by omega] at hR
    rw [hR]
    simp only [List.getElem_replicate]
    have hc : t % 3 = 0 ∨ t % 3 = 1 ∨ t % 3 = 2 := by omega
    rcases hc with hc | hc | hc <;> simp [madeCells, Value.cells, inCs, hc, ht]
  · rw [List.getElem?_eq_none (by simp [madeCells]; omega), List.getElem?_eq_none (by rw [inCells_length]; simp; omega)]
end Go.Proofs.YtiamjjonoeaggaaDoor
