import Derived.Test.YtiamjjonoeaggaaDoorRefL
import Derived.Test.YtiamjjonoeaggaaDoorRefM
import Derived.Deep.LoopGhost
import Derived.Deep.CutRange
import Derived.Deep.RegionHeld
import Derived.Deep.QuietTactic
import Derived.BigQuiet
namespace Go.Proofs.YtiamjjonoeaggaaDoor
open Go.RowKit

def payOf : Form → Pay
  | .nil => noPay []
  | .node _ _ y _ _ => y
def posOf : Form → Nat
  | .nil => 0
  | .node p _ _ _ _ => p
def spanOf : Form → Nat
  | .nil => 0
  | .node _ s _ _ _ => s
def rangeBad (F : Form) : Bool := (isOneB (wordOf F) || isTwoB (wordOf F)) && !((payOf F).hi == [42]) && decide (numV (payOf F).hi < numV (payOf F).lo)
def openBad (F : Form) : Bool := aheadB (wordOf F) && ((payOf F).hi == [42])
/-- The first fault of a formula that is well built, and its place. -/
def faultF (F : Form) : Int × Int := match (subsF F).find? rangeBad with
  | some k => (4, (spanOf k : Int))
  | none => match (subsF F).find? openBad with
    | some k => (5, (spanOf k : Int))
    | none => match (subsF F).find? wrongB with
      | some k => (6, (posOf k : Int))
      | none => (0, 0)
/-- The formula of a text that is one. -/
def formOf (s : List UInt8) : Form := match parseF 8 (lexR s).1 with
  | .inl _ => .nil
  | .inr (F, _) => F
def checkR (s : List UInt8) : Int × Int := if (readR s).1 ≠ 0 then readR s else faultF (formOf s)
theorem read_form {s : List UInt8} (h : (readR s).1 = 0) : Reads (formOf s) (lexR s).1 := by
  unfold readR at h
  by_cases h1 : 240 < s.length
  · rw [if_pos h1] at h; simp at h
  · rw [if_neg h1] at h
    by_cases h2 : 0 ≤ (lexR s).2
    · rw [if_pos h2] at h; simp at h
    · rw [if_neg h2] at h
      unfold parseR at h
      unfold formOf
      cases hp : parseF 8 (lexR s).1 with
      | inl r => rw [hp] at h; simp [outR] at h
      | inr p =>
        obtain ⟨F, r⟩ := p
        rw [hp] at h
        cases r with
        | nil =>
          obtain ⟨u, e, hr⟩ := parse_reads _ _ _ _ hp
          rw [List.append_nil] at e
          rw [e]
          exact hr
        | cons t r => simp [outR] at h
theorem lexF_len (s : List UInt8) : ∀ (f i : Nat) (acc : List Tok), acc.length ≤ i → i ≤ s.length → (lexF s f i acc).1.length ≤ s.length := by
  intro f
  induction f with
  | zero => intro i acc h h'; rw [lexF]; simp; omega
  | succ f ih =>
    intro i acc h h'
    rw [lexF]
    by_cases h1 : s.length ≤ i
    · rw [if_pos h1]; simp; omega
    · rw [if_neg h1]
      by_cases h2 : isBlank (s.getD i 0) = true
      · rw [if_pos h2]; exact ih _ _ (by omega) (by omega)
      · rw [if_neg h2]
        by_cases h3 : okTok (s.getD i 0) (cut s i (tokEnd s i)) = true
        · rw [if_pos h3]
          have hl := tokEnd_le s i (by omega)
          have : i + 1 ≤ tokEnd s i := by unfold tokEnd; omega
          exact ih _ _ (by simp; omega) hl
        · rw [if_neg h3]; simp
theorem lex_len (s : List UInt8) : (lexR s).1.length ≤ s.length := lexF_len s _ _ _ (by simp) (by omega)
theorem read_short {s : List UInt8} (h : (readR s).1 = 0) : s.length ≤ 240 := by
  rcases Nat.lt_or_ge 240 s.length with g | g
  · unfold readR at h; rw [if_pos g] at h; simp at h
  · exact g

theorem tokSl_frm {w : World} {v : Value} {u : List Tok} (h : TokSl w v u) (h0 : 0 < u.length) (h1 : u.length ≤ 1000) : ∃ b o cap, v = .slice (some ⟨b, o, none⟩) u.length cap ∧ FrmB b w (.agg #[.slice (some ⟨b, o, none⟩) u.length cap]) u ∧ b < w.heap.size := by
  have hh := h
  rcases h with ⟨_, rfl⟩ | ⟨b, o, cap, rfl, c1, c2, c3, c4⟩
  · simp at h0
  · exact ⟨b, o, cap, rfl, ⟨o, cap, rfl, hh, h0, h1⟩, c3⟩
/-- What the store of the tokens leaves. -/
structure SetF (w W2 : World) (b : Nat) (x : Value) (u : List Tok) : Prop where
  below : Below w.heap.size w W2
  size : w.heap.size + 2 ≤ W2.heap.size
  res : W2.cell? ⟨w.heap.size, 0, none⟩ = some (.slice none 0 0)
  resf : W2.frozen? ⟨w.heap.size, 0, none⟩ = false
  var : W2.cell? ⟨w.heap.size + 1, 0, none⟩ = some x
  frm : FrmB b W2 (.agg #[x]) u
  lt : b < W2.heap.size
  ne0 : b ≠ w.heap.size
theorem setF_facts {w w1 : World} {b : Nat} {x : Value} {u : List Tok} {T : TypeId} (hf : FrmB b w1 (.agg #[x]) u) (hb : b < w1.heap.size) (r1 : Below (w.heap.size + 2) ((w.alloc (.cells #[.slice none 0 0] T)).alloc (.cells #[.slice none 0 0] T)) w1) (q1 : Below w.heap.size w w1) (hs1 : w.heap.size + 1 + 1 ≤ w1.heap.size) : SetF w (w1.setCell ⟨w.heap.size + 1, 0, none⟩ x) b x u := by
  have hc0 := bcell r1 w.heap.size 0 (by omega)
  have hc1 := bcell r1 (w.heap.size + 1) 0 (by omega)
  have hf0 := r1.frozen (p := ⟨w.heap.size, 0, none⟩) (by simp)
  have hne0 : b ≠ w.heap.size := by
    intro e
    subst e
    obtain ⟨o, cap, _, ht, h0, _⟩ := hf
    rcases ht with ⟨e, _⟩ | ⟨b', o', cap', e, c1, c2, c3, c4⟩
    · simp at e
    · simp at e
      obtain ⟨⟨rfl, rfl⟩, rfl⟩ := e
      have := (c4 0 h0).1
      rw [bcell r1 w.heap.size _ (by omega), World.cell?_alloc_lt _ _ _ (by simp), World.cell?_alloc_at _ _ _ _ rfl] at this
      cases o with
      | zero => simp at this
      | succ o => simp at this
  have hne : b ≠ w.heap.size + 1 := by
    intro e
    subst e
    obtain ⟨o, cap, _, ht, h0, _⟩ := hf
    rcases ht with ⟨e, _⟩ | ⟨b', o', cap', e, c1, c2, c3, c4⟩
    · simp at e
    · simp at e
      obtain ⟨⟨rfl, rfl⟩, rfl⟩ := e
      have := (c4 0 h0).1
      rw [bcell r1 (w.heap.size + 1) _ (by omega)] at this
      have e2 : w.heap.size + 1 = (w.alloc (.cells #[.slice none 0 0] T)).heap.size := by simp
      rw [e2, World.cell?_alloc_at _ _ _ _ rfl] at this
      cases o with
      | zero => simp at this
      | succ o => simp at this
  have hfar : ∀ o, (w1.setCell ⟨w.heap.size + 1, 0, none⟩ x).cell? ⟨b, o, none⟩ = w1.cell? ⟨b, o, none⟩ := fun o => World.cell?_setCell_other w1 _ _ _ (by intro e; injection e with e1; exact hne e1.symm)
  refine ⟨q1.setCell (by simp) _, by simp; omega, ?_, ?_, ?_, ?_, by simpa using hb, hne0⟩
  · rw [World.cell?_setCell_other w1 _ _ _ (by intro e; simp at e), hc0]; simp
  · rw [World.frozen?_setCell, hf0]; simp
  · exact World.cell?_setCell_same w1 _ _ (u := .slice none 0 0) (by rw [hc1]; simp)
  · obtain ⟨o, cap, e, ht, h0, h1⟩ := hf
    refine ⟨o, cap, e, ?_, h0, h1⟩
    rcases ht with ⟨e, _⟩ | ⟨b', o', cap', e, c1, c2, c3, c4⟩
    · simp at e
    · simp at e
      obtain ⟨⟨rfl, rfl⟩, rfl⟩ := e
      refine .inr ⟨b, o, cap, rfl, c1, c2, by simpa using c3, fun i hi => ?_⟩
      rw [hfar, hfar]
      exact c4 i hi

theorem span_facts {F : Form} {u : List Tok} (h : Reads F u) (hs : (isOneB (wordOf F) || isTwoB (wordOf F)) = true) : ∃ (h4 : 4 < u.length), (u[4]).text = (payOf F).hi ∧ (u[2]).text = (payOf F).lo ∧ (u[1]).pos = spanOf F ∧ numB (payOf F).lo = true ∧ endB (payOf F).hi = true := by
  cases F with
  | nil => exact h.elim
  | node p sp y l r =>
    obtain ⟨g1, g2, g3, g4⟩ := span_word hs
    exact span_toks h hs g1 g2 g3 g4
theorem find_first {ks : List (Form × List Tok)} {f : Form → Bool} {k : Nat} (hk : k < ks.length) (hno : NoneBelow ks (fun x => f x.1) 0 k) (hf : f (ks[k]).1 = true) : (ks.map Prod.fst).find? f = some (ks[k]).1 := by
  rw [List.find?_eq_some_iff_getElem]
  refine ⟨hf, k, by simpa using hk, by simp, fun j hj => ?_⟩
  have := hno j (by omega) (Nat.zero_le _) hj
  simp [this]
theorem find_none {ks : List (Form × List Tok)} {f : Form → Bool} {k : Nat} (hk : ks.length ≤ k) (hno : NoneBelow ks (fun x => f x.1) 0 k) : (ks.map Prod.fst).find? f = none := by
  rw [List.find?_eq_none]
  intro x hx
  obtain ⟨a, ha, rfl⟩ := List.mem_map.1 hx
  obtain ⟨j, hj, rfl⟩ := List.mem_iff_getElem.1 ha
  have := hno j hj (Nat.zero_le _) (by omega)
  simp [this]
theorem pos_first {F : Form} {u : List Tok} (h : Reads F u) : ∃ (h0 : 0 < u.length), (u[0]).pos = posOf F := by
  refine ⟨reads_pos h, ?_⟩
  cases F with
  | nil => exact h.elim
  | node p sp y l r =>
    rcases h with ⟨_, _, _, _, _, q1, q2, q3, x, hx, hb⟩ | ⟨_, hw, _, _, _, v, q1, q2, q3, ul, hv, _, hl, rfl⟩ | ⟨_, hw, _, _, _, q1, q2, q3, ul, ur, hl, hr, rfl⟩ | ⟨_, hw, _, _, hlo, hhi, q1, q2, q3, q4, q5, q6, ul, hl, rfl⟩ | ⟨_, hw, _, hlo, hhi, q1, q2, q3, q4, q5, q6, q7, ul, ur, hl, hr, rfl⟩ | ⟨_, hw, _, _, _, _, _, rfl⟩
    · rcases hb with ⟨_, rfl⟩ | ⟨z, q4, q5, hz, _, rfl⟩ <;> rfl
    all_goals rfl
theorem bel_held {wr wc w' : World} {A : Prop} (h1 : Below wc.heap.size wc w') (h2 : A ∧ Below wr.heap.size wr wc) : Below wr.heap.size wr w' := h2.2.trans (h1.mono h2.2.size)
theorem frmB_open {b : Nat} {w : World} {x : Value} {u : List Tok} (h : FrmB b w (.agg #[x]) u) : ∃ o cap, x = .slice (some ⟨b, o, none⟩) u.length cap ∧ u.length ≤ cap ∧ cap ≤ maxLen ∧ b < w.heap.size ∧ 0 < u.length ∧ u.length ≤ 1000 ∧ ∀ i (h : i < u.length), w.cell? ⟨b, o + i * 2, none⟩ = some (bs (u[i]).text) ∧ w.cell? ⟨b, o + i * 2 + 1, none⟩ = some (.int .i64 (u[i]).pos) := by
  obtain ⟨o, cap, e, ht, h0, h1⟩ := h
  simp at e
  rcases ht with ⟨e, _⟩ | ⟨b', o', cap', e', c1, c2, c3, c4⟩
  · simp at e
  · simp at e'
    obtain ⟨⟨rfl, rfl⟩, rfl⟩ := e'
    exact ⟨_, _, e, c1, c2, c3, h0, h1, c4⟩
theorem kidOwn_b {b : Nat} {w : World} {base : Nat} {v : Value} {ks : List (Form × List Tok)} (h : KidOwn b w base v ks) : KidB b w v (ks.map Prod.snd) := by
  obtain ⟨xs, hl, hown, hf⟩ := h
  obtain ⟨h1, h2⟩ := id hown
  rcases h2 with ⟨e, hn⟩ | ⟨g, cap, cur, rfl, e2, e3, e4, e5, e6, e7⟩
  · exact .inl ⟨e, by rw [List.length_eq_zero_iff.1 hn]; rfl⟩
  · have hlt : g < w.heap.size := by
      rcases Nat.lt_or_ge g w.heap.size with h' | h'
      · exact h'
      · simp [Array.getElem?_eq_none h'] at e3
    refine .inr ⟨g, 0, cap, by simp, by simpa using e4, e5, hlt, fun j hj => ?_⟩
    simp at hj
    refine ⟨xs[j]'(by omega), ?_, ?_⟩
    · rw [Nat.zero_add, hown.cellAt j (by omega), List.getElem?_eq_getElem (by omega)]
    · rw [List.getElem_map]; exact hf j hj (by omega)
theorem kidOwn_ge {b : Nat} {w : World} {base : Nat} {v : Value} {ks : List (Form × List Tok)} (h : KidOwn b w base v ks) {g o n c : Nat} (e : v = .slice (some ⟨g, o, none⟩) n c) : base ≤ g := by
  obtain ⟨xs, hl, ⟨h1, h2⟩, hf⟩ := h
  rcases h2 with ⟨e', hn⟩ | ⟨g', cap, cur, e', e2, _⟩
  · rw [e] at e'; simp at e'
  · rw [e] at e'
    simp at e'
    rw [e'.1.1]
    exact e2
theorem ref_wrong' (F : Form) (u : List Tok) (v : Value) (w : World) (hR : Reads F u) (hF : FrmV w v u) :
    Calls Tryd.prog 23 #[v] w fun e w' => e = .returned (.bool (wrongB F)) ∧ Below w.heap.size w w' := by
  cases F with
  | nil => exact hR.elim
  | node p sp y l r => exact ref_wrong p sp y l r u v w hR hF
theorem frm_set {b N : Nat} {w : World} {v : Value} {u : List Tok} (h : FrmB b w v u) (hne : b ≠ N) (x : Value) : FrmV (w.setCell ⟨N, 0, none⟩ x) v u := by
  obtain ⟨o, cap, e, ht, h0, h1⟩ := h
  refine ⟨b, o, cap, e, ?_, h0, h1⟩
  rcases ht with ⟨e, _⟩ | ⟨b', o', cap', e, c1, c2, c3, c4⟩
  · simp at e
  · simp at e
    obtain ⟨⟨rfl, rfl⟩, rfl⟩ := e
    refine .inr ⟨b, o, cap, rfl, c1, c2, by simpa using c3, fun i hi => ?_⟩
    rw [World.cell?_setCell_other w _ _ _ (by intro e; injection e with e1; exact hne e1.symm), World.cell?_setCell_other w _ _ _ (by intro e; injection e with e1; exact hne e1.symm)]
    exact c4 i hi
def CRel (w3 : World) (ks : List (Form × List Tok)) (f : Form → Bool) (g : Nat) (vi : Value) (wr : World) : Prop := ∃ k : Nat, k ≤ ks.length ∧ g + k = ks.length ∧ vi = .int .i64 k ∧ NoneBelow ks (fun x => f x.1) 0 k ∧ Below w3.heap.size w3 wr
set_option maxRecDepth 100000 in
set_option maxHeartbeats 4000000 in
theorem ref_Check (s : List UInt8) (hs64 : s.length ≤ maxLen) (w : World) :
    Calls Tryd.prog 12 #[bs s] w fun e w' => ∃ a n c, e = .returned (.tuple #[.agg #[.slice a n c], .int .i64 (checkR s).1, .int .i64 (checkR s).2]) ∧ ((checkR s).1 = 0 → FrmV w' (.agg #[.slice a n c]) (lexR s).1) ∧ Below w.heap.size w w' := by
  have hRd := ref_Read s hs64
  by_cases hr : (readR s).1 = 0
  · have hc : checkR s = faultF (formOf s) := by unfold checkR; rw [if_neg (by simp [hr])]
    rw [hc]
    have HRe := hide (read_form hr)
    have hlen := Nat.le_trans (lex_len s) (read_short hr)
    have HGo : Hid (Good (lexR s).1) := lex_good s
    generalize hrr : readR s = rr at *
    obtain ⟨re, rp⟩ := rr
    simp only [] at hr hRd
    subst hr
    generalize (lexR s).1 = toks at *
    generalize formOf s = F at *
    clear hc hrr
    go_enter Tryd.func12, Tryd.ntmps12
    go_wp2_with fail
    have q0 := ((Below.refl w.heap.size w).alloc (Nat.le_refl _) (.cells #[.slice none 0 0] 49)).alloc (by simp) (.cells #[.slice none 0 0] 49)
    refine (hRd _).mono ?_
    rintro e w1 ⟨v, rfl, hsl, _, hb1⟩
    have hsl : TokSl w1 v toks := hsl trivial
    have hpos := reads_pos HRe.out
    obtain ⟨b, o, cap, rfl, hfb, hbl⟩ := tokSl_frm hsl hpos (by omega)
    clear hsl
    have r1 := hb1.mono (B' := w.heap.size + 2) (by simp)
    have q1 := q0.trans (hb1.mono (by simp; omega))
    have hs1 := r1.size
    simp at hs1
    have hc0 := bcell r1 w.heap.size 0 (by omega)
    have hc1 := bcell r1 (w.heap.size + 1) 0 (by omega)
    have hf0 := r1.frozen (p := ⟨w.heap.size, 0, none⟩) (by simp)
    have hf1 := r1.frozen (p := ⟨w.heap.size + 1, 0, none⟩) (by simp)
    clear hb1 hRd
    go_wp2_with fail
    have hW := setF_facts hfb hbl r1 q1 hs1
    generalize (w1.setCell ⟨w.heap.size + 1, 0, none⟩ (.slice (some ⟨b, o, none⟩) toks.length cap)) = W2 at *
    clear r1 q1 hs1 hc0 hc1 hf0 hf1 hfb hbl
    have hq2 := hW.below
    have hs2 := hW.size
    have hv2 := hW.var
    have HW2 := hide hW
    refine (ref_all b F toks _ _ HRe.out hW.frm hW.lt).mono ?_
    rintro e w3 ⟨vm, ks, rfl, hk1, hk2, hk3, hb3⟩
    have hbl3 : b < w3.heap.size := Nat.lt_of_lt_of_le hW.lt hb3.size
    have hv3 := (bcell hb3 (w.heap.size + 1) 0 (by omega)).trans hW.var
    have hq3 := hq2.trans (hb3.mono hq2.size)
    have hs3 := Nat.le_trans hs2 hb3.size
    have HR3 := hide ((bcell hb3 w.heap.size 0 (by omega)).trans hW.res)
    have HF3 := hide ((hb3.frozen (p := ⟨w.heap.size, 0, none⟩) (by simp; omega)).trans hW.resf)
    have HFr3 := hide (hW.frm.keep hb3 hW.lt)
    have hbne : ¬ w.heap.size = b := fun e => hW.ne0 e.symm
    have hs20 := hs2
    clear hW hv2 hs2 hq2 HW2
    have hksl := kidOwn_sl hk3
    have hkb := kidOwn_b hk3
    have HGX : Hid (∀ g o n c, vm = .slice (some ⟨g, o, none⟩) n c → W2.heap.size ≤ g) := fun g o n c e => kidOwn_ge hk3 e
    obtain ⟨av, nv, cv, rfl, hnv, hcv⟩ := kid_shape hksl
    have hnv' : ks.length = nv := by simpa using hnv.symm
    have HK2 := hide hk2
    have HK1 := hide hk1
    have HK3 := hide hksl
    have HKB := hide hkb
    have HNV := hide hnv'
    unfold maxLen at hcv
    clear hk1 hk2 hk3 hnv hnv' hksl hb3 hkb
    go_wp2_with fail
    go_loopg [10] (nv) (fun g vi wr => CRel w3 ks rangeBad g vi wr)
    case atStart => exact ⟨0, by omega, by have := HNV.out; omega, rfl, (fun j hj h1 h2 => absurd h2 (by omega)), Below.refl _ _⟩
    case round =>
      obtain ⟨k, hk, hgk, rfl, hno, hbel⟩ := hrel
      have HN := hide hno
      have HG := hide hgk
      clear hno hgk
      by_cases hlt : k < nv
      · have hlt' : k < ks.length := by rw [HNV.out]; exact hlt
        obtain ⟨gx, ok, xk, rfl, hxk, hfk⟩ := kidB_get (HKB.out.keep hbel hbl3 (Nat.le_refl _)) hlt'
        have hgx2 := HGX.out _ _ _ _ rfl
        have hgxn : ¬ w.heap.size = gx := by omega
        have hmem : ks[k] ∈ ks := List.getElem_mem hlt'
        have hRk := (HK2.out _ hmem).1
        have hGk : Good (ks[k]).2 := good_sub HGo.out (HK2.out _ hmem).2
        have hsp := ref_spanned _ _ wr hfk.frm
        rw [reads_word hRk] at hsp
        obtain ⟨okk, ck, rfl, f1, f2, f3, f4, f5, f6⟩ := frmB_open hfk
        have HF6 := hide f6
        have HRk := hide hRk
        have HGk := hide hGk
        have hgx : gx < w3.heap.size := kid_lt HK3.out
        clear hmem hfk hRk hGk f6
        unfold maxLen at f2
        cases hsx : (isOneB (wordOf (ks[k]).1) || isTwoB (wordOf (ks[k]).1)) with
        | false =>
          have HB : Hid (rangeBad (ks[k]).1 = false) := by unfold Hid rangeBad; rw [hsx]; rfl
          rw [hsx] at hsp
          go_wp2_with fail
          refine hsp.mono ?_
          rintro e w4 ⟨rfl, hb4⟩
          go_wp2_with fail
          go_region
          go_wp2_with fail
          have hg1 : 0 < gk := by have := HG.out; omega
          go_roundg (gk - 1)
          case measure => omega
          case rel => exact ⟨k + 1, by omega, by have := HG.out; omega, by go_num, none_next HN.out hlt' HB.out, (hbel.trans (hb4.mono hbel.size)).drew⟩
        | true =>
          obtain ⟨h4k, e4, e2, e1, hnum, hend⟩ := span_facts HRk.out hsx
          rw [hsx] at hsp
          have HRB : Hid (rangeBad (ks[k]).1 = (!((ks[k]).2[4].text == [42]) && decide (numV (ks[k]).2[4].text < numV (ks[k]).2[2].text))) := by unfold Hid rangeBad; rw [hsx, e4, e2, Bool.true_and]
          have HE1 := hide e1
          have hg2 := good_num (HGk.out _ (List.getElem_mem (show 2 < (ks[k]).2.length by omega))) (by rw [e2]; exact hnum)
          have HN2 := hide (fun w' => ref_number (ks[k]).2[2].text ((ks[k]).2[2].pos : Int) hg2.2.1 hg2.2.2 hg2.1 w')
          have HN4 : Hid (((ks[k]).2[4].text == [42]) = false → ∀ w', Calls Tryd.prog 21 #[.agg #[bs (ks[k]).2[4].text, .int .i64 (ks[k]).2[4].pos]] w' fun e w'' => e = .returned (.int .i64 (numV (ks[k]).2[4].text)) ∧ Below w'.heap.size w' w'') := by
            intro hns w'
            have hg4 := good_num (HGk.out _ (List.getElem_mem h4k)) (by rw [e4]; exact end_num hend (by rw [← e4]; exact hns))
            exact ref_number (ks[k]).2[4].text ((ks[k]).2[4].pos : Int) hg4.2.1 hg4.2.2 hg4.1 w'
          have c4 := HF6.out 4 h4k
          have c2 := HF6.out 2 (by omega)
          have c1 := HF6.out 1 (by omega)
          clear e4 e2 e1 hnum hend hg2 HF6
          generalize (ks[k]).2[4].text = t4 at *
          generalize (ks[k]).2[4].pos = p4 at *
          generalize (ks[k]).2[2].text = t2 at *
          generalize (ks[k]).2[2].pos = p2 at *
          generalize (ks[k]).2[1].text = t1 at *
          generalize (ks[k]).2[1].pos = p1 at *
          obtain ⟨c4a, c4b⟩ := c4
          obtain ⟨c2a, c2b⟩ := c2
          obtain ⟨_, c1b⟩ := c1
          go_wp2_with fail
          refine hsp.mono ?_
          rintro e w4 ⟨rfl, hb4⟩
          have hx4 := (bcell hb4 gx (ok + k) (by have := hbel.size; omega)).trans hxk
          have d4a := (bcell hb4 b _ f3).trans c4a
          have d4b := (bcell hb4 b _ f3).trans c4b
          have d2a := (bcell hb4 b _ f3).trans c2a
          have d2b := (bcell hb4 b _ f3).trans c2b
          simp only [Nat.reduceMul, Nat.add_assoc, Nat.reduceAdd] at d4a d4b d2a d2b
          go_wp2_with fail
          cases hst : (t4 == [42]) with
          | true =>
            have HB : Hid (rangeBad (ks[k]).1 = false) := by unfold Hid; rw [HRB.out, hst]; rfl
            go_region
            go_wp2_with fail
            have hg1 : 0 < gk := by have := HG.out; omega
            go_roundg (gk - 1)
            case measure => omega
            case rel => exact ⟨k + 1, by omega, by have := HG.out; omega, by go_num, none_next HN.out hlt' HB.out, (hbel.trans (hb4.mono hbel.size)).drew⟩
          | false =>
            have HN4 := hide (HN4.out hst)
            have hRB : rangeBad (ks[k]).1 = decide (numV t4 < numV t2) := by
              rw [HRB.out, hst]
              simp
            have HRB := hide hRB
            clear hRB
            generalize numV t4 = n4 at *
            generalize numV t2 = n2 at *
            go_cut [72] from 31 to 81 (fun c wx => c = .bool (decide (n4 < n2)) ∧ Below wr.heap.size wr wx)
            case first =>
              have b4 := hb4
              have SR : ∀ w', Below wr.heap.size wr w' → (w'.cell? ⟨gx, ok + k, none⟩ = some (.slice (some ⟨b, okk, none⟩) (ks[k]).2.length ck) ∧ w'.cell? ⟨b, okk + 8, none⟩ = some (bs t4) ∧ w'.cell? ⟨b, okk + 9, none⟩ = some (.int .i64 p4) ∧ w'.cell? ⟨b, okk + 4, none⟩ = some (bs t2) ∧ w'.cell? ⟨b, okk + 5, none⟩ = some (.int .i64 p2)) ∧ Below wr.heap.size wr w' := fun w' h =>
                ⟨⟨(bcell h gx (ok + k) (by have := hbel.size; omega)).trans hxk, (bcell h b _ f3).trans c4a, (bcell h b _ f3).trans c4b, (bcell h b _ f3).trans c2a, (bcell h b _ f3).trans c2b⟩, h⟩
              have HSR := hide SR
              clear SR hx4 d4a d4b d2a d2b
              go_region_held (fun w' => (w'.cell? ⟨gx, ok + k, none⟩ = some (.slice (some ⟨b, okk, none⟩) (ks[k]).2.length ck) ∧ w'.cell? ⟨b, okk + 8, none⟩ = some (bs t4) ∧ w'.cell? ⟨b, okk + 9, none⟩ = some (.int .i64 p4) ∧ w'.cell? ⟨b, okk + 4, none⟩ = some (bs t2) ∧ w'.cell? ⟨b, okk + 5, none⟩ = some (.int .i64 p2)) ∧ Below wr.heap.size wr w') (first | exact HSR.out _ b4.drew | exact HSR.out _ (bel_held (by assumption) (by assumption))) (first | (go_at_call_of 21 (bs t2); refine (HN2.out _).mono ?_; rintro e w5 ⟨rfl, hb5⟩) | (go_at_call_of 21 (bs t4); refine (HN4.out _).mono ?_; rintro e w6 ⟨rfl, hb6⟩))
              all_goals
                go_wp2_with fail
                go_meet
                case rel => exact ⟨rfl, (by assumption : _ ∧ Below wr.heap.size wr _).2⟩
            case rest =>
              obtain ⟨rfl, b5⟩ := hcut
              have d5 := hbel.trans (b5.mono hbel.size)
              clear hx4 d4a d4b d2a d2b hb4
              cases hd42 : decide (n4 < n2) with
              | false =>
                have HB : Hid (rangeBad (ks[k]).1 = false) := by unfold Hid; rw [HRB.out, hd42]
                go_wp2_with fail
                have hg1 : 0 < gk := by have := HG.out; omega
                go_roundg (gk - 1)
                case measure => omega
                case rel => exact ⟨k + 1, by omega, by have := HG.out; omega, by go_num, none_next HN.out hlt' HB.out, d5⟩
              | true =>
                have HFd : Hid (faultF F = (4, (p1 : Int))) := by
                  have := find_first hlt' HN.out (HRB.out.trans hd42)
                  rw [HK1.out] at this
                  unfold Hid faultF
                  rw [this, HE1.out]
                have hx5 := (bcell b5 gx (ok + k) (by have := hbel.size; omega)).trans hxk
                have e1b := (bcell b5 b _ f3).trans c1b
                have hv5 := (bcell d5 (w.heap.size + 1) 0 (by omega)).trans hv3
                have hr5 := (bcell d5 w.heap.size 0 (by omega)).trans HR3.out
                have hz5 := (d5.frozen (p := ⟨w.heap.size, 0, none⟩) (by simp; omega)).trans HF3.out
                simp only [Nat.one_mul, Nat.add_assoc, Nat.reduceAdd] at e1b
                go_wp2_with fail
                go_region
                go_wp2_with fail
                exact bodyPost_ret (v := .tuple #[.agg #[.slice (some ⟨b, o, none⟩) toks.length cap], .int .i64 4, .int .i64 p1]) (by simp [results, Tryd.results12, go_sem, hr5]) rfl ⟨_, _, _, by rw [HFd.out], by rw [HFd.out]; simp, ((hq3.trans (d5.mono hq3.size)).setCell (by simp) _).drew⟩
      · have HF1 : Hid ((subsF F).find? rangeBad = none) := by
          have := find_none (show ks.length ≤ k by have := HNV.out; omega) HN.out
          rw [HK1.out] at this
          exact this
        clear HN HG
        go_wp2_with fail
        go_loopg [12] (nv) (fun g vi wr => CRel w3 ks openBad g vi wr)
        case atStart => exact ⟨0, by omega, by have := HNV.out; omega, rfl, (fun j hj h1 h2 => absurd h2 (by omega)), hbel⟩
        case round =>
          clear hbel
          obtain ⟨k, hk, hgk, rfl, hno, hbel⟩ := hrel
          have HN := hide hno
          have HG := hide hgk
          clear hno hgk
          by_cases hlt : k < nv
          · have hlt' : k < ks.length := by rw [HNV.out]; exact hlt
            obtain ⟨gx, ok, xk, rfl, hxk, hfk⟩ := kidB_get (HKB.out.keep hbel hbl3 (Nat.le_refl _)) hlt'
            have hgx2 := HGX.out _ _ _ _ rfl
            have hgxn : ¬ w.heap.size = gx := by omega
            have hmem : ks[k] ∈ ks := List.getElem_mem hlt'
            have hRk := (HK2.out _ hmem).1
            have hsp := ref_ahead _ _ wr hfk.frm
            rw [reads_word hRk] at hsp
            obtain ⟨okk, ck, rfl, f1, f2, f3, f4, f5, f6⟩ := frmB_open hfk
            have HF6 := hide f6
            have HRk := hide hRk
            have hgx : gx < w3.heap.size := kid_lt HK3.out
            clear hmem hfk hRk f6
            unfold maxLen at f2
            cases hsx : aheadB (wordOf (ks[k]).1) with
            | false =>
              have HB : Hid (openBad (ks[k]).1 = false) := by unfold Hid openBad; rw [hsx]; rfl
              rw [hsx] at hsp
              go_wp2_with fail
              refine hsp.mono ?_
              rintro e w4 ⟨rfl, hb4⟩
              go_wp2_with fail
              have hg1 : 0 < gk := by have := HG.out; omega
              go_roundg (gk - 1)
              case measure => omega
              case rel => exact ⟨k + 1, by omega, by have := HG.out; omega, by go_num, none_next HN.out hlt' HB.out, hbel.trans (hb4.mono hbel.size)⟩
            | true =>
              obtain ⟨h4k, e4, e2, e1, hnum, hend⟩ := span_facts HRk.out (ahead_span hsx)
              rw [hsx] at hsp
              have HRB : Hid (openBad (ks[k]).1 = ((ks[k]).2[4].text == [42])) := by unfold Hid openBad; rw [hsx, e4, Bool.true_and]
              have HE1 := hide e1
              have c4 := HF6.out 4 h4k
              have c1 := HF6.out 1 (by omega)
              clear e4 e2 e1 hnum hend HF6
              generalize (ks[k]).2[4].text = t4 at *
              generalize (ks[k]).2[4].pos = p4 at *
              generalize (ks[k]).2[1].text = t1 at *
              generalize (ks[k]).2[1].pos = p1 at *
              obtain ⟨c4a, c4b⟩ := c4
              obtain ⟨_, c1b⟩ := c1
              go_wp2_with fail
              refine hsp.mono ?_
              rintro e w4 ⟨rfl, b5⟩
              have d5 := hbel.trans (b5.mono hbel.size)
              have hx5 := (bcell b5 gx (ok + k) (by have := hbel.size; omega)).trans hxk
              have d4a := (bcell b5 b _ f3).trans c4a
              have e1b := (bcell b5 b _ f3).trans c1b
              simp only [Nat.one_mul, Nat.reduceMul, Nat.add_assoc, Nat.reduceAdd] at d4a e1b
              cases hst : (t4 == [42]) with
              | false =>
                have HB : Hid (openBad (ks[k]).1 = false) := by unfold Hid; rw [HRB.out, hst]
                go_wp2_with fail
                have hg1 : 0 < gk := by have := HG.out; omega
                go_roundg (gk - 1)
                case measure => omega
                case rel => exact ⟨k + 1, by omega, by have := HG.out; omega, by go_num, none_next HN.out hlt' HB.out, d5⟩
              | true =>
                have HFd : Hid (faultF F = (5, (p1 : Int))) := by
                  have := find_first hlt' HN.out (HRB.out.trans hst)
                  rw [HK1.out] at this
                  unfold Hid faultF
                  rw [HF1.out, this, HE1.out]
                have hv5 := (bcell d5 (w.heap.size + 1) 0 (by omega)).trans hv3
                have hr5 := (bcell d5 w.heap.size 0 (by omega)).trans HR3.out
                have hz5 := (d5.frozen (p := ⟨w.heap.size, 0, none⟩) (by simp; omega)).trans HF3.out
                go_wp2_with fail
                go_region
                go_wp2_with fail
                exact bodyPost_ret (v := .tuple #[.agg #[.slice (some ⟨b, o, none⟩) toks.length cap], .int .i64 5, .int .i64 p1]) (by simp [results, Tryd.results12, go_sem, hr5]) rfl ⟨_, _, _, by rw [HFd.out], by rw [HFd.out]; simp, ((hq3.trans (d5.mono hq3.size)).setCell (by simp) _).drew⟩
          · have HF2 : Hid ((subsF F).find? openBad = none) := by
              have := find_none (show ks.length ≤ k by have := HNV.out; omega) HN.out
              rw [HK1.out] at this
              exact this
            clear HN HG
            go_wp2_with fail
            go_loopg [14] (nv) (fun g vi wr => CRel w3 ks wrongB g vi wr)
            case atStart => exact ⟨0, by omega, by have := HNV.out; omega, rfl, (fun j hj h1 h2 => absurd h2 (by omega)), hbel⟩
            case round =>
              clear hbel
              obtain ⟨k, hk, hgk, rfl, hno, hbel⟩ := hrel
              have HN := hide hno
              have HG := hide hgk
              clear hno hgk
              by_cases hlt : k < nv
              · have hlt' : k < ks.length := by rw [HNV.out]; exact hlt
                obtain ⟨gx, ok, xk, rfl, hxk, hfk⟩ := kidB_get (HKB.out.keep hbel hbl3 (Nat.le_refl _)) hlt'
                have hgx2 := HGX.out _ _ _ _ rfl
                have hgxn : ¬ w.heap.size = gx := by omega
                have hmem : ks[k] ∈ ks := List.getElem_mem hlt'
                have hRk := (HK2.out _ hmem).1
                have hsp := ref_wrong' _ _ _ wr hRk hfk.frm
                obtain ⟨okk, ck, rfl, f1, f2, f3, f4, f5, f6⟩ := frmB_open hfk
                obtain ⟨h0k, e0⟩ := pos_first hRk
                have c0 := f6 0 h0k
                have HE0 := hide e0
                have hgx : gx < w3.heap.size := kid_lt HK3.out
                clear hmem hfk hRk f6 e0
                unfold maxLen at f2
                generalize (ks[k]).2[0].text = t0 at *
                generalize (ks[k]).2[0].pos = p0 at *
                obtain ⟨_, c0b⟩ := c0
                cases hsx : wrongB (ks[k]).1 with
                | false =>
                  have HB := hide hsx
                  rw [hsx] at hsp
                  clear hsx
                  go_wp2_with fail
                  refine hsp.mono ?_
                  rintro e w4 ⟨rfl, hb4⟩
                  go_wp2_with fail
                  have hg1 : 0 < gk := by have := HG.out; omega
                  go_roundg (gk - 1)
                  case measure => omega
                  case rel => exact ⟨k + 1, by omega, by have := HG.out; omega, by go_num, none_next HN.out hlt' HB.out, hbel.trans (hb4.mono hbel.size)⟩
                | true =>
                  have HFd : Hid (faultF F = (6, (p0 : Int))) := by
                    have := find_first hlt' HN.out hsx
                    rw [HK1.out] at this
                    unfold Hid faultF
                    rw [HF1.out, HF2.out, this, HE0.out]
                  rw [hsx] at hsp
                  clear hsx
                  go_wp2_with fail
                  refine hsp.mono ?_
                  rintro e w4 ⟨rfl, b5⟩
                  have d5 := hbel.trans (b5.mono hbel.size)
                  have hx5 := (bcell b5 gx (ok + k) (by have := hbel.size; omega)).trans hxk
                  have e0b := (bcell b5 b _ f3).trans c0b
                  simp only [Nat.zero_mul, Nat.add_zero] at e0b
                  have hv5 := (bcell d5 (w.heap.size + 1) 0 (by omega)).trans hv3
                  have hr5 := (bcell d5 w.heap.size 0 (by omega)).trans HR3.out
                  have hz5 := (d5.frozen (p := ⟨w.heap.size, 0, none⟩) (by simp; omega)).trans HF3.out
                  go_wp2_with fail
                  go_region
                  go_wp2_with fail
                  exact bodyPost_ret (v := .tuple #[.agg #[.slice (some ⟨b, o, none⟩) toks.length cap], .int .i64 6, .int .i64 p0]) (by simp [results, Tryd.results12, go_sem, hr5]) rfl ⟨_, _, _, by rw [HFd.out], by rw [HFd.out]; simp, ((hq3.trans (d5.mono hq3.size)).setCell (by simp) _).drew⟩
              · have HFd : Hid (faultF F = (0, 0)) := by
                  have := find_none (show ks.length ≤ k by have := HNV.out; omega) HN.out
                  rw [HK1.out] at this
                  unfold Hid faultF
                  rw [HF1.out, HF2.out, this]
                have hv5 := (bcell hbel (w.heap.size + 1) 0 (by omega)).trans hv3
                have hr5 := (bcell hbel w.heap.size 0 (by omega)).trans HR3.out
                have hz5 := (hbel.frozen (p := ⟨w.heap.size, 0, none⟩) (by simp; omega)).trans HF3.out
                have HFin := hide (frm_set (HFr3.out.keep hbel hbl3) (show b ≠ w.heap.size from fun e => hbne e.symm))
                go_wp2_with fail
                exact bodyPost_ret (v := .tuple #[.agg #[.slice (some ⟨b, o, none⟩) toks.length cap], .int .i64 0, .int .i64 0]) (by simp [results, Tryd.results12, go_sem, hr5]) rfl ⟨_, _, _, by rw [HFd.out], fun _ => HFin.out _, ((hq3.trans (hbel.mono hq3.size)).setCell (by simp) _)⟩


  · have hc : checkR s = readR s := by unfold checkR; rw [if_pos hr]
    rw [hc]
    generalize readR s = rr at *
    obtain ⟨re, rp⟩ := rr
    simp only [] at hr hRd
    have hre : (re != 0) = true := by simp [hr]
    go_enter Tryd.func12, Tryd.ntmps12
    go_wp2_with fail
    have q0 := ((Below.refl w.heap.size w).alloc (Nat.le_refl _) (.cells #[.slice none 0 0] 49)).alloc (by simp) (.cells #[.slice none 0 0] 49)
    refine (hRd _).mono ?_
    rintro e w1 ⟨v, rfl, _, hv0, hb1⟩
    have hv1 := hv0 hr
    subst hv1
    have r1 := hb1.mono (B' := w.heap.size + 2) (by simp)
    have q1 := q0.trans (hb1.mono (by simp; omega))
    have hs1 := r1.size
    simp at hs1
    have hc0 := bcell r1 w.heap.size 0 (by omega)
    have hc1 := bcell r1 (w.heap.size + 1) 0 (by omega)
    have hf0 := r1.frozen (p := ⟨w.heap.size, 0, none⟩) (by simp)
    clear hb1 hRd hv0
    go_wp2_with fail
    exact bodyPost_ret (v := .tuple #[.agg #[.slice none 0 0], .int .i64 re, .int .i64 rp]) (by simp [results, Tryd.results12, go_sem, hc0]) rfl ⟨_, _, _, rfl, fun h => absurd h hr, q1.setCell (by simp) _⟩
end Go.Proofs.YtiamjjonoeaggaaDoor
