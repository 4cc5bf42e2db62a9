import Derived.Test.YtiamjjonoeaggaaDoorSynJ0
import Derived.Test.YtiamjjonoeaggaaDoorSynJ2
import Derived.Test.YtiamjjonoeaggaaDoorSynJ5
import Derived.Test.YtiamjjonoeaggaaDoorSynJp
import Derived.Test.YtiamjjonoeaggaaDoorSynK
namespace Go.Proofs.YtiamjjonoeaggaaDoor
open Go.RowKit

theorem form_every (bp bt ct : Nat) (ts : List PTok) : ∀ d, d ≤ 8 → FormC bp bt ct ts d := by
  intro d
  induction d with
  | zero => intro _; exact form_zero bp bt ct ts
  | succ d ih =>
    intro hd
    have hp := parts_all bp bt ct ts d (ih (by omega))
    intro w nx ns dp h1 h2 h3 h4 h5
    cases hk : (headR ts nx).1 with
    | false => exact form_succ_0 bp bt ct ts d (by omega) w nx ns dp h1 h2 h3 h4 h5 hk
    | true =>
      by_cases k5 : (headR ts nx).2.2.kind = 5
      · exact form_succ_5 bp bt ct ts d (by omega) w nx ns dp h1 h2 h3 h4 h5 ⟨hk, k5⟩
      · by_cases k2 : (headR ts nx).2.2.kind = 2
        · exact form_succ_2 bp bt ct ts d (by omega) w nx ns dp h1 h2 h3 h4 h5 ⟨hk, k2⟩
        · exact form_succ_p bp bt ct ts d (by omega) hp w nx ns dp h1 h2 h3 h4 h5 ⟨hk, k5, k2⟩
/-- The program's tokens lie in block bt. -/
structure ToksAt (w : World) (bt ct : Nat) (ts : List PTok) : Prop where
  cap : ts.length ≤ ct ∧ ct ≤ maxLen ∧ ts.length ≤ 1000
  lt : bt < w.heap.size
  cells : ∀ i (h : i < ts.length), (∀ j, j < 12 → w.cell? ⟨bt, i * 12 + j, none⟩ = (tokCs (ts[i]).kind (ts[i]).pos (ts[i]).size (ts[i]).val (ts[i]).name)[j]?)
def parsedB (ts : List PTok) : Bool := (formR ts 8 0 0).1 && (hereT ts (formR ts 8 0 0).2.1).kind == 0
def parsedAt (ts : List PTok) : Int := if parsedB ts = true then 0 else (hereT ts (formR ts 8 0 0).2.1).pos
set_option maxRecDepth 100000 in
set_option maxHeartbeats 2000000 in
theorem syn_Parse (bt ct : Nat) (ts : List PTok) (w : World) (h : ToksAt w bt ct ts) :
    Calls Tryd.prog 16 #[.slice (some ⟨bt, 0, none⟩) ts.length ct] w fun e w' => ∃ nv, e = .returned (.tuple #[nv, .int .i64 (parsedAt ts), .bool (parsedB ts)]) ∧ (parsedB ts = true → w'.ownsRow (w.heap.size + 1) 95 22 nv (formR ts 8 0 0).2.2.length (ndCells (formR ts 8 0 0).2.2)) ∧ Below w.heap.size w w' := by
  have hlt := h.lt
  have hP : Pars (w.alloc (.cells #[.slice (some ⟨bt, 0, none⟩) ts.length ct, .int .i64 0, .slice none 0 0] 85)) w.heap.size bt ct ts (.slice none 0 0) 0 := by
    have hg := heap_alloc_new w (.cells #[.slice (some ⟨bt, 0, none⟩) ts.length ct, .int .i64 0, .slice none 0 0] 85)
    refine ⟨?_, ?_, ?_, fun o => frozen_of_row _ _ o _ _ hg, h.cap, by omega, ⟨by simp; omega, by simp⟩, fun i hi j hj => ?_⟩
    · rw [cell_of_row _ _ 0 _ _ _ hg]; rfl
    · rw [cell_of_row _ _ 1 _ _ _ hg]; rfl
    · rw [cell_of_row _ _ 2 _ _ _ hg]; rfl
    · rw [World.cell?_alloc_lt _ _ _ hlt]; exact h.cells i hi j hj
  have hF := form_every w.heap.size bt ct ts 8 (by omega) _ 0 [] 1 (by decide) ⟨_, hP, World.ownsRow_nil _ _ _ _⟩ hlt (by decide) (by decide)
  have hle := form_le ts 8 0 0
  have HPB : Hid (parsedB ts = ((formR ts 8 0 0).1 && (hereT ts (formR ts 8 0 0).2.1).kind == 0)) := hide rfl
  have HPA : Hid (parsedAt ts = if parsedB ts = true then 0 else (hereT ts (formR ts 8 0 0).2.1).pos) := hide rfl
  simp only [List.length_nil] at hF
  generalize formR ts 8 0 0 = o at *
  generalize parsedB ts = pb at *
  generalize parsedAt ts = pa at *
  obtain ⟨ok, k, l⟩ := o
  have hk : k ≤ 100000 := Nat.le_trans hle (by decide)
  have HF := hide hF
  clear hF hP h hle
  go_enter Tryd.func16, Tryd.ntmps16
  go_wp2_with fail
  refine (HF.out).mono ?_
  rintro e w1 ⟨rfl, ⟨nv, P1, own1⟩, b1⟩
  have hh := syn_here w.heap.size bt ct ts nv k w1 P1 hk
  have H1 := hide P1
  have HO := hide own1
  have B1 : Below w.heap.size w w1 := ((Below.refl _ _).alloc (Nat.le_refl _) _).trans b1
  clear P1 own1 b1
  go_wp2_with fail
  refine hh.mono ?_
  rintro e w2 ⟨rfl, b2⟩
  have c2 := (H1.out.only (bl := []) (.of_below b2) (by simp) (by simp)).nodes
  have hl2 := (H1.out.only (bl := []) (.of_below b2) (by simp) (by simp)).lt.2
  have B2 : Below w.heap.size w w2 := B1.trans (b2.mono (by have := B1.size; omega))
  have HB2 := hide B2
  have HB := hide b2
  have hpb := HPB.out
  have hpa := HPA.out
  generalize hereT ts k = t at *
  obtain ⟨tk, tp, tz, tv, tnm⟩ := t
  simp only [] at hpb hpa
  unfold ptV tokV
  have HS := hide B1.size
  clear hh B1 B2 b2 HPB HPA
  cases ok with
  | false =>
    simp only [Bool.false_and] at hpb
    subst hpb
    simp only [Bool.false_eq_true, if_false] at hpa
    subst hpa
    go_wp2_with fail
    go_quiet (fail)
    go_wp2_with fail
    go_ret3
    exact ⟨_, rfl, fun h => absurd h (by simp), bel_drewN _ (HB2.out.alloc HB2.out.size _)⟩
  | true =>
    by_cases hkd : tk = 0
    · subst hkd
      simp only [beq_self_eq_true, Bool.and_self] at hpb
      subst hpb
      simp only [if_true] at hpa
      subst hpa
      go_wp2_with fail
      go_ret3
      exact ⟨nv, rfl, by simpa using ownsRow_below (HO.out (by trivial)) (HB.out.alloc (by have := HB.out.size; omega) _), HB2.out.alloc HB2.out.size _⟩
    · have e : (true && tk == 0) = false := by simp [hkd]
      rw [e] at hpb
      subst hpb
      simp only [Bool.false_eq_true, if_false] at hpa
      subst hpa
      clear e
      go_wp2_with fail
      go_quiet (fail)
      go_wp2_with fail
      go_ret3
      exact ⟨_, rfl, fun h => absurd h (by simp), bel_drewN _ (HB2.out.alloc HB2.out.size _)⟩
end Go.Proofs.YtiamjjonoeaggaaDoor
