import Derived.Test.YtiamjjonoeaggaaDoorSynL
import Derived.Test.YtiamjjonoeaggaaDoorRulF
import Derived.Test.YtiamjjonoeaggaaDoorRefO
import Derived.Deep.Slices
import Derived.ChangeArms
namespace Go.Proofs.YtiamjjonoeaggaaDoor
open Go.RowKit

theorem atS_self (toks : List Tok) : atS toks toks = 0 := by unfold atS; omega
theorem hereS_pos (L : Nat) (r : List Tok) : (hereS L r).pos = (plc L r : Int) := by cases r <;> rfl
/-- What the program's parser says of a text, and what the document's does. -/
theorem parse_case (s : List UInt8) (h1 : ¬ 240 < s.length) (h2 : ¬ 0 ≤ (lexR s).2) :
    (parsedB (ptsOf (lexR s).1 s.length) = false ∧ readR s = (3, parsedAt (ptsOf (lexR s).1 s.length))) ∨
    (parsedB (ptsOf (lexR s).1 s.length) = true ∧ parsedAt (ptsOf (lexR s).1 s.length) = 0 ∧ (readR s).1 = 0 ∧ (formR (ptsOf (lexR s).1 s.length) 8 0 0).2.2 = nodesOf (formOf s) 0) := by
  have hg : Good (lexR s).1 := lex_good s
  have hsim := form_sim s.length hg 8 (lexR s).1 0 (List.suffix_refl _)
  rw [atS_self] at hsim
  rw [readR_ok h1 h2]
  unfold parseR formOf
  generalize hts : ptsOf (lexR s).1 s.length = ts at *
  generalize (lexR s).1 = toks at *
  cases hp : parseF 8 toks with
  | inl r =>
    rw [hp] at hsim
    obtain ⟨a1, a2, a3⟩ := hsim
    left
    have hb : parsedB ts = false := by unfold parsedB; rw [a1]; rfl
    refine ⟨hb, ?_⟩
    unfold parsedAt
    rw [if_neg (by rw [hb]; decide), a2, ← hts, here_s _ a3, hereS_pos]
    rfl
  | inr z =>
    obtain ⟨F, r⟩ := z
    rw [hp] at hsim
    obtain ⟨a1, a2, _⟩ := hsim
    have hh := here_s s.length a2
    rw [hts] at hh
    cases r with
    | nil =>
      right
      have hb : parsedB ts = true := by unfold parsedB; rw [a1]; simp only []; rw [hh]; rfl
      refine ⟨hb, ?_, rfl, by rw [a1]⟩
      unfold parsedAt
      rw [if_pos hb]
    | cons t q =>
      left
      have hk : (hereT ts (atS toks (t :: q))).kind ≠ 0 := by rw [hh]; exact (kfacts (good_suf hg a2)).nz
      have hb : parsedB ts = false := by
        unfold parsedB
        rw [a1]
        simp only [Bool.true_and]
        simpa using hk
      refine ⟨hb, ?_⟩
      unfold parsedAt
      rw [if_neg (by rw [hb]; decide), a1]
      simp only []
      rw [hh]
      rfl
/-- What Check says of a text. -/
def infoC (s : List UInt8) : PInfo := ⟨infoX s, infoY s, infoR s⟩
theorem check_bad {s : List UInt8} (h : (readR s).1 ≠ 0) : infoC s = ⟨false, false, 0⟩ ∧ checkR s = readR s := by
  have e : checkR s = readR s := by unfold checkR; rw [if_pos h]
  have e1 : ¬ (checkR s).1 = 0 := by rw [e]; exact h
  refine ⟨?_, e⟩
  unfold infoC infoX infoY infoR
  rw [decide_eq_false e1, if_neg e1]
  rfl
theorem check_good {s : List UInt8} (h : (readR s).1 = 0) : rulesR (formOf s) = (infoC s, (checkR s).1, (checkR s).2) := by
  have e : checkR s = faultF (formOf s) := by unfold checkR; rw [if_neg (by simp [h])]
  unfold rulesR infoC infoX infoY infoR
  rw [e]
  by_cases hc : (faultF (formOf s)).1 = 0
  · rw [if_pos hc, if_pos hc, decide_eq_true hc, hc, fault_place hc]
    rfl
  · rw [if_neg hc, if_neg hc, decide_eq_false hc]
    rfl
theorem parse_no (ts : List PTok) (pb : parsedB ts = false) (bt ct : Nat) (w : World) (h : ToksAt w bt ct ts) :
    Calls Tryd.prog 16 #[.slice (some ⟨bt, 0, none⟩) ts.length ct] w fun e w' => ∃ nv, e = .returned (.tuple #[nv, .int .i64 (parsedAt ts), .bool false]) ∧ Below w.heap.size w w' := by
  refine (syn_Parse bt ct ts w h).mono ?_
  rintro e w' ⟨nv, he, _, hb⟩
  rw [pb] at he
  exact ⟨nv, he, hb⟩
theorem parse_yes (ts : List PTok) (F : Form) (pb : parsedB ts = true) (pa : parsedAt ts = 0) (hnd : (formR ts 8 0 0).2.2 = nodesOf F 0) (bt ct : Nat) (w : World) (h : ToksAt w bt ct ts) :
    Calls Tryd.prog 16 #[.slice (some ⟨bt, 0, none⟩) ts.length ct] w fun e w' => ∃ nv, e = .returned (.tuple #[nv, .int .i64 0, .bool true]) ∧ w'.ownsRow (w.heap.size + 1) 95 22 nv (sizeF F) (ndCells (nodesOf F 0)) ∧ Below w.heap.size w w' := by
  refine (syn_Parse bt ct ts w h).mono ?_
  rintro e w' ⟨nv, he, ho, hb⟩
  rw [pb, pa] at he
  have ho := ho pb
  rw [hnd, nodesOf_length] at ho
  exact ⟨nv, he, ho, hb⟩
def ptkCs (t : PTok) : List Value := tokCs t.kind t.pos t.size t.val t.name
theorem ptCells_of (toks : List Tok) (L : Nat) : ptCells toks ++ tokCs 0 L 0 0 [] = (ptsOf toks L).flatMap ptkCs := by
  unfold ptCells ptsOf
  rw [List.flatMap_append, List.flatMap_map]
  simp [ptkCs, endT, ptOf]
theorem ptk_at (l : List PTok) (i : Nat) (h : i < l.length) (j : Nat) (hj : j < 12) : (l.flatMap ptkCs)[i * 12 + j]? = (ptkCs l[i])[j]? := by
  induction l generalizing i with
  | nil => simp at h
  | cons n r ih =>
    have e2 : (ptkCs n).length = 12 := rfl
    rw [List.flatMap_cons]
    cases i with
    | zero => rw [List.getElem?_append_left (by omega)]; simp
    | succ i =>
      have hi : i < r.length := by simpa using h
      rw [List.getElem?_append_right (by omega), e2, show (i + 1) * 12 + j - 12 = i * 12 + j by omega, ih i hi]
      rfl
theorem ToksAt.of_row {w : World} {base bt ct : Nat} {ts : List PTok} (h : w.ownsRow base 82 12 (.slice (some ⟨bt, 0, none⟩) ts.length ct) ts.length (ts.flatMap ptkCs)) (hl : ts.length ≤ 1000) : ToksAt w bt ct ts := by
  refine ⟨?_, (h.lt bt rfl).2, fun i hi j hj => ?_⟩
  · rcases h.2 with ⟨h', _⟩ | ⟨g', cap', cur, h', _, _, a, b, _⟩
    · simp at h'
    · simp only [Value.slice.injEq, Option.some.injEq, Addr.mk.injEq, and_true, true_and] at h'
      obtain ⟨rfl, rfl⟩ := h'
      exact ⟨a, b, hl⟩
  · rw [h.cellAt _ (by omega)]
    exact ptk_at ts i hi j hj
end Go.Proofs.YtiamjjonoeaggaaDoor

namespace Go.Proofs.YtiamjjonoeaggaaDoor
open Go.RowKit

theorem results_tctt {P : Program} {fn : Func} {a p q r : Tmp} {ty : TypeId} (h : fn.results = #[.tmp a, .cell p ty, .tmp q, .tmp r]) (tmps : Array Value) (w : World) (g : Nat) (va v vq vr : Value) (ha : tmps.getD a undef = va) (hp : tmps.getD p undef = .pointer (some ⟨g, 0, none⟩)) (hq : tmps.getD q undef = vq) (hr : tmps.getD r undef = vr)
    (hl : (loadVar ty ⟨g, 0, none⟩).run P w = .ok v w) : (results fn tmps).run P w = .ok (.tuple #[va, v, vq, vr]) w := by
  have ha' : tmps[a]?.getD undef = va := by simpa using ha
  have hp' : tmps[p]?.getD undef = .pointer (some ⟨g, 0, none⟩) := by simpa using hp
  have hq' : tmps[q]?.getD undef = vq := by simpa using hq
  have hr' : tmps[r]?.getD undef = vr := by simpa using hr
  simp [results, h, ha', hp', hq', hr', asAddr, hl]
theorem info_load (w : World) (b : Nat) (rx ry : Bool) (rr : Int) (h : w.rangeAt b 0 [.bool rx, .bool ry, .int .i64 rr]) : (loadVar 34 ⟨b, 0, none⟩).run Tryd.prog w.drew = .ok (.agg #[.bool rx, .bool ry, .int .i64 rr]) w.drew :=
  run_loadVar_mid w.drew b 0 34 [.bool rx, .bool ry, .int .i64 rr] _ h Tryd.underlying34 rfl (by kernel_rfl)
theorem info_loadn (w : World) (b : Nat) (rx ry : Bool) (rr : Int) (h : w.rangeAt b 0 [.bool rx, .bool ry, .int .i64 rr]) : (loadVar 34 ⟨b, 0, none⟩).run Tryd.prog w = .ok (.agg #[.bool rx, .bool ry, .int .i64 rr]) w :=
  run_loadVar_mid w b 0 34 [.bool rx, .bool ry, .int .i64 rr] _ h Tryd.underlying34 rfl (by kernel_rfl)
theorem results_ctt {P : Program} {fn : Func} {p q r : Tmp} {ty : TypeId} (h : fn.results = #[.cell p ty, .tmp q, .tmp r]) (tmps : Array Value) (w : World) (g : Nat) (v vq vr : Value) (hp : tmps.getD p undef = .pointer (some ⟨g, 0, none⟩)) (hq : tmps.getD q undef = vq) (hr : tmps.getD r undef = vr)
    (hl : (loadVar ty ⟨g, 0, none⟩).run P w = .ok v w) : (results fn tmps).run P w = .ok (.tuple #[v, vq, vr]) w := by
  have hp' : tmps[p]?.getD undef = .pointer (some ⟨g, 0, none⟩) := by simpa using hp
  have hq' : tmps[q]?.getD undef = vq := by simpa using hq
  have hr' : tmps[r]?.getD undef = vr := by simpa using hr
  simp [results, h, hp', hq', hr', asAddr, hl]
theorem info_res (w3 : World) (b : Nat) (rx ry : Bool) (rr : Int) {v0 v1 v2 : Value} (t0 : w3.cell? ⟨b, 0, none⟩ = some v0) (t1 : w3.cell? ⟨b, 1, none⟩ = some v1) (t2 : w3.cell? ⟨b, 2, none⟩ = some v2) : (((w3.setCell ⟨b, 0, none⟩ (.bool rx)).setCell ⟨b, 1, none⟩ (.bool ry)).setCell ⟨b, 2, none⟩ (.int .i64 rr)).rangeAt b 0 [.bool rx, .bool ry, .int .i64 rr] := by
  intro j v hv
  have hj : j < 3 := (List.getElem?_eq_some_iff.1 hv).1
  rw [Nat.zero_add]
  rcases (by omega : j = 0 ∨ j = 1 ∨ j = 2) with rfl | rfl | rfl
  · simp at hv
    rw [World.cell?_setCell_other _ _ _ _ (by simp), World.cell?_setCell_other _ _ _ _ (by simp), World.cell?_setCell_same _ _ _ t0, hv]
  · simp at hv
    have q : (w3.setCell ⟨b, 0, none⟩ (.bool rx)).cell? ⟨b, 1, none⟩ = some v1 := by rw [World.cell?_setCell_other _ _ _ _ (by simp)]; exact t1
    rw [World.cell?_setCell_other _ _ _ _ (by simp), World.cell?_setCell_same _ _ _ q, hv]
  · simp at hv
    have q : ((w3.setCell ⟨b, 0, none⟩ (.bool rx)).setCell ⟨b, 1, none⟩ (.bool ry)).cell? ⟨b, 2, none⟩ = some v2 := by rw [World.cell?_setCell_other _ _ _ _ (by simp), World.cell?_setCell_other _ _ _ _ (by simp)]; exact t2
    rw [World.cell?_setCell_same _ _ _ q, hv]
theorem own_base {w : World} {b b' : Nat} {e : TypeId} {size : Nat} {v : Value} {n : Nat} {xs : List Value} (hb : b ≤ b') (h : w.ownsRow b' e size v n xs) : w.ownsRow b e size v n xs := by
  refine ⟨h.1, ?_⟩
  rcases h.2 with h | ⟨g, cap, cur, h1, h2, h3⟩
  · exact .inl h
  · exact .inr ⟨g, cap, cur, h1, Nat.le_trans hb h2, h3⟩
set_option maxRecDepth 100000 in
set_option maxHeartbeats 4000000 in
theorem vig_read (s : List UInt8) (hs64 : s.length ≤ maxLen) (w : World) :
    Calls Tryd.prog 11 #[bs s] w fun e w' => ∃ nv, e = .returned (.tuple #[nv, infoV (infoC s), .int .i64 (checkR s).1, .int .i64 (checkR s).2]) ∧ ((checkR s).1 = 0 → w'.ownsRow w.heap.size 95 22 nv (sizeF (formOf s)) (ndCells (nodesOf (formOf s) 0))) ∧ Below w.heap.size w w' := by
  by_cases h240 : 240 < s.length
  · have hr : readR s = (1, 0) := by unfold readR; rw [if_pos h240]
    obtain ⟨e1, e2⟩ := check_bad (s := s) (by rw [hr]; decide)
    rw [e1, e2, hr]
    unfold maxLen at hs64
    clear e1 e2 hr
    go_enter Tryd.func11, Tryd.ntmps11
    go_wp2_with fail
    exact bodyPost_ret (v := .tuple #[.slice none 0 0, infoV ⟨false, false, 0⟩, .int .i64 1, .int .i64 0]) (by simp [results, Tryd.results11, go_sem]) rfl ⟨.slice none 0 0, rfl, fun h => absurd h (by decide), (Below.refl _ _).alloc (Nat.le_refl _) _⟩
  · have hsp := tok_Split s (by omega)
    have hll := lex_len s
    have HPC := hide (parse_case s h240)
    have HG : Hid (Good (lexR s).1) := hide (lex_good s)
    by_cases hz : 0 ≤ (lexR s).2
    · have hr : readR s = (2, (lexR s).2) := by unfold readR; rw [if_neg h240, if_pos hz]
      obtain ⟨e1, e2⟩ := check_bad (s := s) (by rw [hr]; simp)
      rw [e1, e2, hr]
      have hb : splitB (lexR s).2 = false := by unfold splitB; exact decide_eq_false (by omega)
      have hp : splitP (lexR s).2 = (lexR s).2 := by unfold splitP; rw [if_pos hz]
      rw [hb, hp] at hsp
      clear e1 e2 hr HPC HG hb hp
      generalize (lexR s).2 = z at *
      go_enter Tryd.func11, Tryd.ntmps11
      go_wp2_with fail
      refine (hsp _).mono ?_
      rintro e w1 ⟨v, rfl, _, b1⟩
      have hR : ResAt w1 w.heap.size := ⟨by rw [b1.block w.heap.size (by simp)]; exact heap_alloc_new _ _⟩
      obtain ⟨t0, t1, t2, t3, t4⟩ := hR.facts
      have HB : Hid (Below w.heap.size w w1) := hide (((Below.refl _ _).alloc (Nat.le_refl _) _).trans (b1.mono (by simp)))
      clear hR b1 hsp
      go_wp2_with fail
      exact bodyPost_ret (v := .tuple #[.slice none 0 0, infoV ⟨false, false, 0⟩, .int .i64 2, .int .i64 z]) (by simp [results, Tryd.results11, go_sem, t0, t1, t2]) rfl ⟨.slice none 0 0, rfl, fun h => absurd h (by decide), ((HB.out.setCell (Nat.le_refl _) _).setCell (Nat.le_refl _) _).setCell (Nat.le_refl _) _⟩
    · have hb : splitB (lexR s).2 = true := by unfold splitB; exact decide_eq_true (by omega)
      have hp : splitP (lexR s).2 = 0 := by unfold splitP; rw [if_neg hz]
      rw [hb, hp] at hsp
      have hpc := HPC.out hz
      have hcells := ptCells_of (lexR s).1 s.length
      have hts : (ptsOf (lexR s).1 s.length).length = (lexR s).1.length + 1 := by unfold ptsOf; simp
      obtain ⟨ts, hte⟩ : ∃ ts, ts = ptsOf (lexR s).1 s.length := ⟨_, rfl⟩
      rw [← hte] at hpc hcells hts
      rw [hcells, ← hts] at hsp
      have hl1 : ts.length ≤ 241 := by omega
      have hl0 : 0 < ts.length := by omega
      clear hb hp hcells hte HPC
      rcases hpc with ⟨pb, hr⟩ | ⟨pb, pa, hr0, hnd⟩
      · obtain ⟨e1, e2⟩ := check_bad (s := s) (by rw [hr]; simp)
        rw [e1, e2, hr]
        have hpar := parse_no ts pb
        generalize parsedAt ts = pa at *
        clear e1 e2 hr pb HG hts hll
        go_enter Tryd.func11, Tryd.ntmps11
        go_wp2_with fail
        refine (hsp _).mono ?_
        rintro e w1 ⟨v, rfl, hown, b1⟩
        have hown := hown (by trivial)
        have hR : ResAt w1 w.heap.size := ⟨by rw [b1.block w.heap.size (by simp)]; exact heap_alloc_new _ _⟩
        have HB : Hid (Below w.heap.size w w1) := hide (((Below.refl _ _).alloc (Nat.le_refl _) _).trans (b1.mono (by simp)))
        obtain ⟨bt, ct, rfl⟩ := Go.Joins.ownsRow_form hown (by omega)
        have hpar := hpar bt ct w1 (ToksAt.of_row hown (by omega))
        have HP := hide hpar
        have HR := hide hR
        clear hown hR b1 hsp hpar
        go_wp2_with fail
        refine (HP.out).mono ?_
        rintro e w2 ⟨nv, rfl, b2⟩
        obtain ⟨t0, t1, t2, t3, t4⟩ := (HR.out.below b2 HR.out.facts.2.2.2.2).facts
        have HB2 : Hid (Below w.heap.size w w2) := hide (HB.out.trans (b2.mono HB.out.size))
        clear b2 HP
        go_wp2_with fail
        exact bodyPost_ret (v := .tuple #[.slice none 0 0, infoV ⟨false, false, 0⟩, .int .i64 3, .int .i64 pa]) (by simp [results, Tryd.results11, go_sem, t0, t1, t2]) rfl ⟨.slice none 0 0, rfl, fun h => absurd h (by decide), ((HB2.out.setCell (Nat.le_refl _) _).setCell (Nat.le_refl _) _).setCell (Nat.le_refl _) _⟩
      · have hgd := check_good hr0
        have e1 : infoC s = (rulesR (formOf s)).1 := by rw [hgd]
        have e2 : (checkR s).1 = (rulesR (formOf s)).2.1 := by rw [hgd]
        have e3 : (checkR s).2 = (rulesR (formOf s)).2.2 := by rw [hgd]
        rw [e1, e2, e3]
        have hrd := read_form hr0
        have hfo := reads_ok _ _ hrd HG.out
        have hsm := reads_small _ _ hrd HG.out
        have hsz := subs_len _ _ hrd
        rw [subs_size] at hsz
        have hne := reads_nil hrd
        generalize formOf s = F at *
        have hpos : 0 < sizeF F := (subs_head hne).2
        have hpar := parse_yes ts F pb pa hnd
        have hru := fun gn cn w h => rul_Check F hfo hsm (by omega) hne gn cn w h
        generalize rulesR F = r at *
        obtain ⟨⟨rx, ry, rr⟩, rerr, rpl⟩ := r
        have HRU := hide hru
        have hlen : (nodesOf F 0).length = sizeF F := nodesOf_length F 0
        have HLEN := hide hlen
        clear e1 e2 e3 hgd hr0 pb pa hnd hrd hfo hsm hsz hne HG hru hts hll hlen
        go_enter Tryd.func11, Tryd.ntmps11
        go_wp2_with fail
        refine (hsp _).mono ?_
        rintro e w1 ⟨v, rfl, hown, b1⟩
        have hown := hown (by trivial)
        have hR : ResAt w1 w.heap.size := ⟨by rw [b1.block w.heap.size (by simp)]; exact heap_alloc_new _ _⟩
        have HB : Hid (Below w.heap.size w w1) := hide (((Below.refl _ _).alloc (Nat.le_refl _) _).trans (b1.mono (by simp)))
        obtain ⟨bt, ct, rfl⟩ := Go.Joins.ownsRow_form hown (by omega)
        have hpar := hpar bt ct w1 (ToksAt.of_row hown (by omega))
        have HP := hide hpar
        have HR := hide hR
        clear hown hR b1 hsp hpar
        go_wp2_with fail
        refine (HP.out).mono ?_
        rintro e w2 ⟨nv, rfl, hown2, b2⟩
        obtain ⟨gn, cn, rfl⟩ := Go.Joins.ownsRow_form hown2 hpos
        have hna : NodesAt w2 gn cn (nodesOf F 0) := NodesAt.of_row (by rw [HLEN.out]; exact hown2)
        have hr2 := HR.out.below b2 HR.out.facts.2.2.2.2
        have HR2 := hide hr2
        have HB2 : Hid (Below w.heap.size w w2) := hide (HB.out.trans (b2.mono HB.out.size))
        have hcall := HRU.out gn cn w2 hna
        have HC := hide hcall
        have HOW := hide hown2
        clear hown2 b2 HP hna hr2 hcall HRU
        go_wp2_with fail
        refine (HC.out).mono ?_
        rintro e w3 ⟨rfl, b3⟩
        obtain ⟨t0, t1, t2, t3, t4⟩ := (HR2.out.below b3 HR2.out.facts.2.2.2.2).facts
        have HB3 : Hid (Below w.heap.size w w3) := hide (HB2.out.trans (b3.mono HB2.out.size))
        have HOW3 := hide (ownsRow_below HOW.out b3)
        have hlw : w.heap.size < w1.heap.size := HR.out.facts.2.2.2.2
        clear b3 HC HOW
        go_wp2_with fail
        go_region
        go_wp2_with fail
        have hown := ownsRow_setCell_below (a := ⟨w.heap.size, 2, none⟩) (ownsRow_setCell_below (a := ⟨w.heap.size, 1, none⟩) (ownsRow_setCell_below (a := ⟨w.heap.size, 0, none⟩) HOW3.out (by simp; omega) (.bool rx)) (by simp; omega) (.bool ry)) (by simp; omega) (.int .i64 rr)
        have hres := info_res w3 w.heap.size rx ry rr t0 t1 t2
        have hB := ((HB3.out.setCell (p := ⟨w.heap.size, 0, none⟩) (Nat.le_refl _) (.bool rx)).setCell (p := ⟨w.heap.size, 1, none⟩) (Nat.le_refl _) (.bool ry)).setCell (p := ⟨w.heap.size, 2, none⟩) (Nat.le_refl _) (.int .i64 rr)
        generalize ((w3.setCell ⟨w.heap.size, 0, none⟩ (.bool rx)).setCell ⟨w.heap.size, 1, none⟩ (.bool ry)).setCell ⟨w.heap.size, 2, none⟩ (.int .i64 rr) = W4 at *
        exact bodyPost_ret (v := .tuple #[.slice (some ⟨gn, 0, none⟩) (sizeF F) cn, infoV ⟨rx, ry, rr⟩, .int .i64 rerr, .int .i64 rpl]) (results_tctt rfl _ _ w.heap.size _ _ _ _ rfl rfl rfl rfl (info_load _ _ _ _ _ (World.rangeAt_alloc hres _))) rfl ⟨_, rfl, fun _ => own_base (by omega) (hown.alloc (.cells #[.bool rx, .bool ry, .int .i64 rr] 34)), (hB.alloc hB.size _).drew⟩
set_option maxRecDepth 100000 in
set_option maxHeartbeats 4000000 in
theorem vig_Check (s : List UInt8) (hs64 : s.length ≤ maxLen) (w : World) :
    Calls Tryd.prog 7 #[bs s] w fun e w' => e = .returned (.tuple #[infoV (infoC s), .int .i64 (checkR s).1, .int .i64 (checkR s).2]) ∧ Below w.heap.size w w' := by
  have h1 := vig_read s hs64
  generalize infoC s = ic at *
  obtain ⟨x, y, r⟩ := ic
  generalize checkR s = c at *
  obtain ⟨ce, cp⟩ := c
  simp only [] at h1
  go_enter Tryd.func7, Tryd.ntmps7
  go_wp2_with fail
  refine (h1 _).mono ?_
  rintro e w1 ⟨nv, rfl, _, b1⟩
  have hR : ResAt w1 w.heap.size := ⟨by rw [b1.block w.heap.size (by simp)]; exact heap_alloc_new _ _⟩
  obtain ⟨t0, t1, t2, t3, t4⟩ := hR.facts
  have HB : Hid (Below w.heap.size w w1) := hide (((Below.refl _ _).alloc (Nat.le_refl _) _).trans (b1.mono (by simp)))
  clear hR b1 h1
  go_wp2_with fail
  have hres := info_res w1 w.heap.size x y r t0 t1 t2
  have hB := ((HB.out.setCell (p := ⟨w.heap.size, 0, none⟩) (Nat.le_refl _) (.bool x)).setCell (p := ⟨w.heap.size, 1, none⟩) (Nat.le_refl _) (.bool y)).setCell (p := ⟨w.heap.size, 2, none⟩) (Nat.le_refl _) (.int .i64 r)
  generalize ((w1.setCell ⟨w.heap.size, 0, none⟩ (.bool x)).setCell ⟨w.heap.size, 1, none⟩ (.bool y)).setCell ⟨w.heap.size, 2, none⟩ (.int .i64 r) = W4 at *
  exact bodyPost_ret (v := .tuple #[infoV ⟨x, y, r⟩, .int .i64 ce, .int .i64 cp]) (results_ctt rfl _ _ w.heap.size _ _ _ rfl rfl rfl (info_loadn _ _ _ _ _ (World.rangeAt_alloc hres _))) rfl ⟨rfl, hB.alloc hB.size _⟩
end Go.Proofs.YtiamjjonoeaggaaDoor

namespace Go.Proofs.YtiamjjonoeaggaaDoor
open Go.RowKit

set_option maxRecDepth 100000 in
set_option maxHeartbeats 2000000 in
theorem law_checked (s : List UInt8) (hs64 : s.length ≤ maxLen) (w : World) :
    Calls Tryd.prog 5 #[bs s] w fun e w' => e = .returned (.bool true) ∧ Below w.heap.size w w' := by
  have h1 := vig_Check s hs64
  have h2 := ref_Info s hs64
  unfold infoC at h1
  generalize infoX s = x at *
  generalize infoY s = y at *
  generalize infoR s = r at *
  generalize checkR s = c at *
  obtain ⟨ce, cp⟩ := c
  simp only [] at h1 h2
  go_enter Tryd.func5, Tryd.ntmps5
  go_wp2_with fail
  refine (h1 _).mono ?_
  rintro e w1 ⟨rfl, b1⟩
  have HB1 := hide b1
  clear b1
  go_wp2_with fail
  refine (h2 _).mono ?_
  rintro e w2 ⟨rfl, b2⟩
  have s2 := b2.size
  simp at s2
  have hg2 : w2.heap[w1.heap.size]? = some (.cells #[.bool x, .bool y, .int .i64 r] 34 (0, 0)) := by rw [b2.block w1.heap.size (by simp)]; exact heap_alloc_new _ _
  have g0 := cell_of_row _ _ 0 _ _ _ hg2
  have g1 := cell_of_row _ _ 1 _ _ _ hg2
  have g2 := cell_of_row _ _ 2 _ _ _ hg2
  simp only [List.getElem?_toArray, List.getElem?_cons_zero, List.getElem?_cons_succ] at g0 g1 g2
  have l2 : w1.heap.size < w2.heap.size := by omega
  have HB2 : Hid (Below w.heap.size w w2) := hide (HB1.out.trans (((Below.refl _ _).alloc HB1.out.size _).trans (b2.mono (by have := HB1.out.size; simp; omega))))
  clear hg2 b2 h1 h2 s2
  go_wp2_with fail
  go_ret
  exact ⟨rfl, HB2.out.alloc HB2.out.size _⟩
end Go.Proofs.YtiamjjonoeaggaaDoor

namespace Go.Proofs.YtiamjjonoeaggaaDoor
open Go.RowKit

/-- A script in memory: of each step its kind and its text. -/
structure ScrAt (w : World) (b off len : Nat) (K : Nat → Int) (S : Nat → List UInt8) : Prop where
  cells : ∀ i, i < len → w.cell? ⟨b, off + i * 4, none⟩ = some (.int .i64 (K i)) ∧ w.cell? ⟨b, off + i * 4 + 3, none⟩ = some (bs (S i)) ∧ (S i).length ≤ maxLen
  lt : b < w.heap.size
  len : len ≤ maxLen
theorem ScrAt.below {w w' : World} {b off len : Nat} {K : Nat → Int} {S : Nat → List UInt8} (h : ScrAt w b off len K S) (hb : Below w.heap.size w w') : ScrAt w' b off len K S :=
  ⟨fun i hi => by
    obtain ⟨h1, h2, h3⟩ := h.cells i hi
    exact ⟨by rw [World.cell?_of_block (w := w) (hb.block b h.lt)]; exact h1, by rw [World.cell?_of_block (w := w) (hb.block b h.lt)]; exact h2, h3⟩, Nat.lt_of_lt_of_le h.lt hb.size, h.len⟩
def KRel (len : Nat) (w : World) (g : Nat) (vi : Value) (wr : World) : Prop := ∃ k : Nat, k ≤ len ∧ len - k ≤ g ∧ vi = .int .i64 k ∧ Below w.heap.size w wr
set_option maxRecDepth 100000 in
set_option maxHeartbeats 2000000 in
theorem law_Checks (b off len cap : Nat) (K : Nat → Int) (S : Nat → List UInt8) (w : World) (h : ScrAt w b off len K S) :
    Calls Tryd.prog 3 #[.slice (some ⟨b, off, none⟩) len cap] w fun e w' => e = .returned (.bool true) ∧ Below w.heap.size w w' := by
  have H := hide h
  have hlt := h.lt
  have hml := h.len
  unfold maxLen at hml
  clear h
  go_enter Tryd.func3, Tryd.ntmps3
  go_wp2_with fail
  go_loopg [3] len (fun g vi wr => KRel len w g vi wr)
  case atStart => exact ⟨0, Nat.zero_le _, by omega, rfl, Below.refl _ _⟩
  case round =>
    obtain ⟨k, hk, hg, rfl, hbel⟩ := hrel
    have HG := hide hg
    have HB := hide hbel
    have hr := H.out.below hbel
    clear hg hbel
    by_cases hkn : k < len
    · obtain ⟨c0, c3, hs⟩ := hr.cells k hkn
      have hck := law_checked (S k) hs
      generalize S k = s at *
      have hbl := hr.lt
      clear hr hs
      by_cases hk1 : K k = 1
      · rw [hk1] at c0
        go_wp2_with fail
        refine (hck _).mono ?_
        rintro e w2 ⟨rfl, b2⟩
        go_wp2_with fail
        have hg1 : 0 < gk := by have := HG.out; omega
        go_roundg (gk - 1)
        case measure => omega
        case rel => exact ⟨k + 1, by omega, by have := HG.out; omega, by go_num, HB.out.trans (b2.mono HB.out.size)⟩
      · go_wp2_with fail
        have hg1 : 0 < gk := by have := HG.out; omega
        go_roundg (gk - 1)
        case measure => omega
        case rel => exact ⟨k + 1, by omega, by have := HG.out; omega, by go_num, HB.out⟩
    · clear hr
      go_wp2_with fail
      go_ret
      exact ⟨rfl, HB.out⟩
theorem law_Checks_nil (ao : Option Addr) (cap : Nat) (w : World) :
    Calls Tryd.prog 3 #[.slice ao 0 cap] w fun e w' => e = .returned (.bool true) ∧ Below w.heap.size w w' := by
  go_enter Tryd.func3, Tryd.ntmps3
  go_wp2_with fail
  go_loopg [3] 0 (fun g vi wr => KRel 0 w g vi wr)
  case atStart => exact ⟨0, Nat.zero_le _, by omega, rfl, Below.refl _ _⟩
  case round =>
    obtain ⟨k, hk, hg, rfl, hbel⟩ := hrel
    have hk0 : k = 0 := by omega
    subst hk0
    have HB := hide hbel
    clear hbel
    go_wp2_with fail
    go_ret
    exact ⟨rfl, HB.out⟩
end Go.Proofs.YtiamjjonoeaggaaDoor
