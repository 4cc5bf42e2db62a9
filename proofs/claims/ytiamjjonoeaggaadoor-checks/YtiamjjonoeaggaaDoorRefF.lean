import Derived.Test.YtiamjjonoeaggaaDoorMach
import Derived.Test.YtiamjjonoeaggaaDoorRefE
import Derived.Deep.LoopGhost
import Derived.Laws.AppendOwnNone
namespace Go.Proofs.YtiamjjonoeaggaaDoor
open Go.RowKit

/-- A slice of tokens that lies in memory. -/
def TokSl (w : World) (v : Value) (l : List Tok) : Prop :=
  (v = .slice none 0 0 ∧ l = []) ∨ ∃ b o cap, v = .slice (some ⟨b, o, none⟩) l.length cap ∧ l.length ≤ cap ∧ cap ≤ maxLen ∧ b < w.heap.size ∧ ∀ i (h : i < l.length), w.cell? ⟨b, o + i * 2, none⟩ = some (bs (l[i]).text) ∧ w.cell? ⟨b, o + i * 2 + 1, none⟩ = some (.int .i64 (l[i]).pos)
theorem TokSl.below {w w' : World} {v : Value} {l : List Tok} {B : Nat} (h : TokSl w v l) (hb : Below B w w') (hB : w.heap.size ≤ B) : TokSl w' v l := by
  rcases h with h | ⟨b, o, cap, e, h1, h2, h3, h4⟩
  · exact .inl h
  · refine .inr ⟨b, o, cap, e, h1, h2, Nat.lt_of_lt_of_le h3 hb.size, fun i hi => ?_⟩
    rw [bcell hb b _ (by omega), bcell hb b _ (by omega)]
    exact h4 i hi
theorem tokSl_of {w : World} {base : Nat} {v : Value} {l : List Tok} (h : w.ownsRow base 73 2 v l.length (tokCells l)) : TokSl w v l := by
  obtain ⟨h1, h2⟩ := id h
  rcases h2 with ⟨e, hn⟩ | ⟨g, cap, cur, rfl, e2, e3, e4, e5, e6, e7⟩
  · exact .inl ⟨e, List.length_eq_zero_iff.1 hn⟩
  · have hlt : g < w.heap.size := by
      rcases Nat.lt_or_ge g w.heap.size with h' | h'
      · exact h'
      · simp [Array.getElem?_eq_none h'] at e3
    refine .inr ⟨g, 0, cap, rfl, e4, e5, hlt, fun i hi => ?_⟩
    have hc := tokCells_at l i hi
    rw [Nat.zero_add, Nat.mul_comm i 2]
    rw [h.cellAt (2 * i) (by omega), h.cellAt (2 * i + 1) (by omega)]
    exact hc
theorem strSl_of {w : World} {base : Nat} {v : Value} {l : List (List UInt8)} (h : w.ownsRow base 9 1 v l.length (l.map bs)) : StrSl w v l := by
  obtain ⟨h1, h2⟩ := id h
  rcases h2 with ⟨e, hn⟩ | ⟨g, cap, cur, rfl, e2, e3, e4, e5, e6, e7⟩
  · exact .inl ⟨e, List.length_eq_zero_iff.1 hn⟩
  · have hlt : g < w.heap.size := by
      rcases Nat.lt_or_ge g w.heap.size with h' | h'
      · exact h'
      · simp [Array.getElem?_eq_none h'] at e3
    refine .inr ⟨g, 0, cap, rfl, e4, e5, hlt, fun i hi => ?_⟩
    rw [Nat.zero_add, h.cellAt i (by omega)]
    simp [List.getD, hi]
theorem info_str : (Tryd.prog.info? 9).map (fun i => (i.zero, i.size, i.bytes)) = some (some (.string ByteArray.empty), 1, 16) := by kernel_rfl

theorem good_len {t : Tok} (h : tokGood t) : t.text.length ≤ 8 := by
  obtain ⟨c, r, e, h, _⟩ := h
  unfold okTok at h
  simp only [Bool.or_eq_true, Bool.and_eq_true, decide_eq_true_eq] at h
  rcases h with (h | h) | h
  · unfold inB w6sign at h
    simp [List.any] at h
    rcases h with h | h | h | h | h | h <;> rw [← h] <;> decide
  · omega
  · omega
/-- What Read says: the error, its place. -/
def outR (x : Option Nat) : Int × Int := match x with
  | none => (0, 0)
  | some p => (3, (p : Int))
def readR (s : List UInt8) : Int × Int :=
  if 240 < s.length then (1, 0) else if 0 ≤ (lexR s).2 then (2, (lexR s).2) else outR (parseR s.length (lexR s).1)
theorem readR_ok {s : List UInt8} (h1 : ¬ 240 < s.length) (h2 : ¬ 0 ≤ (lexR s).2) : readR s = outR (parseR s.length (lexR s).1) := by
  unfold readR
  rw [if_neg h1, if_neg h2]
def RRel (L : Nat) (w0 : World) (v : Value) (toks : List Tok) (R : Option Nat) (gk : Nat) (vw vi : Value) (wr : World) : Prop :=
  ∃ (want : List (List UInt8)) (i : Nat), StrSl wr vw want ∧ vi = .int .i64 i ∧ i ≤ toks.length ∧ wts want ≤ 4000 ∧ (∀ s ∈ want, symOk s) ∧ mach L gk want (toks.drop i) = some R ∧ TokSl wr v toks ∧ Below w0.heap.size w0 wr
theorem hd_drop (toks : List Tok) (i : Nat) (h : i < toks.length) : hd (toks.drop i) = (toks[i]).text ∧ plc 0 (toks.drop i) = (toks[i]).pos ∧ (toks.drop i).tail = toks.drop (i + 1) := by
  rw [List.drop_eq_getElem_cons h]
  exact ⟨rfl, rfl, rfl⟩
theorem mach_cons {L f : Nat} {s : List UInt8} {W : List (List UInt8)} {ts : List Tok} {R : Option Nat} (h : mach L f (s :: W) ts = some R) : ∃ g, f = g + 1 ∧ ((∃ m, becomesS s (hd ts) = some m ∧ mach L g (m ++ W) ts = some R) ∨ (becomesS s (hd ts) = none ∧ fitsB s (hd ts) = true ∧ mach L g W ts.tail = some R) ∨ (becomesS s (hd ts) = none ∧ fitsB s (hd ts) = false ∧ R = some (plc L ts))) := by
  cases f with
  | zero => simp [mach] at h
  | succ g =>
    refine ⟨g, rfl, ?_⟩
    rw [mach] at h
    cases hb : becomesS s (hd ts) with
    | some m => rw [hb] at h; exact .inl ⟨m, rfl, h⟩
    | none =>
      rw [hb] at h
      simp only [] at h
      cases hf : fitsB s (hd ts) with
      | true => rw [hf] at h; exact .inr (.inl ⟨rfl, rfl, h⟩)
      | false =>
        rw [hf] at h
        simp at h
        exact .inr (.inr ⟨rfl, rfl, h.symm⟩)
def endR (ts : List Tok) : Option Nat := match ts with
  | [] => none
  | t :: _ => some t.pos
theorem mach_nil {L f : Nat} {ts : List Tok} {R : Option Nat} (h : mach L f [] ts = some R) : R = endR ts := by
  cases f with
  | zero => simp [mach] at h
  | succ g =>
    cases ts <;> simp [mach] at h <;> exact h.symm
/-- A slice of texts: its head and its rest. -/
theorem StrSl.cons {w : World} {v : Value} {s : List UInt8} {W : List (List UInt8)} (h : StrSl w v (s :: W)) : ∃ b o cap, v = .slice (some ⟨b, o, none⟩) (W.length + 1) cap ∧ W.length + 1 ≤ cap ∧ cap ≤ maxLen ∧ b < w.heap.size ∧ w.cell? ⟨b, o, none⟩ = some (bs s) ∧ ∀ j u, (W.map bs)[j]? = some u → w.cell? ⟨b, o + 1 + j, none⟩ = some u := by
  rcases h with ⟨_, h⟩ | ⟨b, o, cap, rfl, h1, h2, h3, h4⟩
  · simp at h
  · refine ⟨b, o, cap, rfl, h1, h2, h3, by simpa using h4 0 (by simp), fun j u hj => ?_⟩
    simp at hj
    obtain ⟨x, hx, rfl⟩ := hj
    have hlt : j < W.length := by
      rcases Nat.lt_or_ge j W.length with g | g
      · exact g
      · rw [List.getElem?_eq_none g] at hx; exact absurd hx (by simp)
    have := h4 (j + 1) (by simp; omega)
    rw [show o + 1 + j = o + (j + 1) from by omega, this]
    simp [List.getD, hx]
theorem StrSl.tail {w : World} {b o cap : Nat} {W : List (List UInt8)} (h1 : W.length + 1 ≤ cap) (h2 : cap ≤ maxLen) (h3 : b < w.heap.size) (h4 : ∀ j u, (W.map bs)[j]? = some u → w.cell? ⟨b, o + 1 + j, none⟩ = some u) : StrSl w (.slice (some ⟨b, o + 1, none⟩) W.length (cap - 1)) W :=
  .inr ⟨b, o + 1, cap - 1, rfl, by omega, by omega, h3, fun i hi => h4 i _ (by simp [hi])⟩

theorem map_cell {w : World} {b o : Nat} {m : List (List UInt8)} (f4 : ∀ i, i < m.length → w.cell? ⟨b, o + i, none⟩ = some (bs (m.getD i []))) (j : Nat) (u : Value) (hj : (m.map bs)[j]? = some u) : w.cell? ⟨b, o + j, none⟩ = some u := by
  simp at hj
  obtain ⟨x, hx, rfl⟩ := hj
  have hlt : j < m.length := by
    rcases Nat.lt_or_ge j m.length with g | g
    · exact g
    · rw [List.getElem?_eq_none g] at hx; exact absurd hx (by simp)
  rw [f4 j hlt]
  simp [List.getD, hx]
theorem read_more {L g i : Nat} {w wr w2 w4 : World} {v v4 : Value} {toks : List Tok} {R : Option Nat} {sy : List UInt8} {m W : List (List UInt8)} (hm : Hid (mach L g (m ++ W) (toks.drop i) = some R)) (h1 : wts m ≤ wt sy) (h2 : ∀ x ∈ m, symOk x) (h3 : Hid (∀ x ∈ sy :: W, symOk x)) (h4 : wt sy + wts W ≤ 4000)
    (hown : w4.ownsRow w2.heap.size 9 1 v4 (m ++ W).length ((m ++ W).map bs)) (hi : i ≤ toks.length) (hts : Hid (TokSl wr v toks)) (hbel : Below w.heap.size w wr) (hb2 : Below wr.heap.size wr w2) (hb4 : Below w2.heap.size w2 w4) : RRel L w v toks R g v4 (.int .i64 i) w4 := by
  refine ⟨m ++ W, i, strSl_of hown, rfl, hi, by rw [wts_app]; omega, ?_, hm.out, ?_, ?_⟩
  · intro x hx
    rcases List.mem_append.1 hx with hx | hx
    · exact h2 x hx
    · exact h3.out x (by simp [hx])
  · exact (hts.out.below hb2 (Nat.le_refl _)).below hb4 (Nat.le_refl _)
  · exact (hbel.trans (hb2.mono hbel.size)).trans (hb4.mono (Nat.le_trans hbel.size hb2.size))

theorem read_fit {L g i : Nat} {w wr w3 : World} {v v3 : Value} {toks : List Tok} {R : Option Nat} {sy : List UInt8} {W : List (List UInt8)} (hm : Hid (mach L g W (toks.drop (i + 1)) = some R)) (h3 : Hid (∀ x ∈ sy :: W, symOk x)) (h4 : wt sy + wts W ≤ 4000)
    (hsl : StrSl wr v3 W) (hi : i < toks.length) (hts : Hid (TokSl wr v toks)) (hbel : Below w.heap.size w wr) (hb3 : Below wr.heap.size wr w3) : RRel L w v toks R g v3 (.int .i64 ((i : Int) + 1)) w3 :=
  ⟨W, i + 1, hsl.below hb3, by simp, hi, by omega, fun x hx => h3.out x (by simp [hx]), hm.out, hts.out.below hb3 (Nat.le_refl _), hbel.trans (hb3.mono hbel.size)⟩
theorem read_bad {R : Option Nat} {rr : Int × Int} {w w' : World} {p : Nat} {toks : List Tok} {e : Ending} (hR : Hid (rr = outR R)) (h : R = some p) (he : e = .returned (.tuple #[.slice none 0 0, .int .i64 3, .int .i64 p])) (hb : Below w.heap.size w w') :
    ∃ v, e = .returned (.tuple #[v, .int .i64 rr.1, .int .i64 rr.2]) ∧ (rr.1 = 0 → TokSl w' v toks) ∧ (rr.1 ≠ 0 → v = .slice none 0 0) ∧ Below w.heap.size w w' := by
  have := hR.out
  subst h
  subst this
  exact ⟨_, he, by simp [outR], fun _ => rfl, hb⟩
theorem tokSl_shape {w : World} {v : Value} {l : List Tok} (h : TokSl w v l) : ∃ a n c, v = .slice a n c ∧ n = l.length := by
  rcases h with ⟨h, rfl⟩ | ⟨b, o, cap, h, _⟩
  · exact ⟨_, _, _, h, rfl⟩
  · exact ⟨_, _, _, h, rfl⟩
theorem strSl_shape {w : World} {v : Value} {l : List (List UInt8)} (h : StrSl w v l) : ∃ a n c, v = .slice a n c ∧ n = l.length := by
  rcases h with ⟨h, rfl⟩ | ⟨b, o, cap, h, _⟩
  · exact ⟨_, _, _, h, rfl⟩
  · exact ⟨_, _, _, h, rfl⟩
theorem read_good {R : Option Nat} {rr : Int × Int} {w w' : World} {v : Value} {toks : List Tok} {e : Ending} (hR : Hid (rr = outR R)) (h : R = none) (hts : Hid (TokSl w' v toks)) (he : e = .returned (.tuple #[v, .int .i64 0, .int .i64 0])) (hb : Below w.heap.size w w') :
    ∃ v, e = .returned (.tuple #[v, .int .i64 rr.1, .int .i64 rr.2]) ∧ (rr.1 = 0 → TokSl w' v toks) ∧ (rr.1 ≠ 0 → v = .slice none 0 0) ∧ Below w.heap.size w w' := by
  have := hR.out
  subst h
  subst this
  exact ⟨_, he, fun _ => hts.out, by simp [outR], hb⟩
theorem calls_to_bool {f : FuncId} {xs : Array Value} {c d : Bool} (h : ∀ w, Calls Tryd.prog f xs w fun e w' => e = .returned (.bool c) ∧ Below w.heap.size w w') (hc : c = d) : ∀ w, Calls Tryd.prog f xs w fun e w' => e = .returned (.bool d) ∧ Below w.heap.size w w' := hc ▸ h

set_option maxRecDepth 100000 in
set_option maxHeartbeats 4000000 in
theorem ref_Read (s : List UInt8) (hs64 : s.length ≤ maxLen) (w : World) :
    Calls Tryd.prog 18 #[bs s] w fun e w' => ∃ v, e = .returned (.tuple #[v, .int .i64 (readR s).1, .int .i64 (readR s).2]) ∧ ((readR s).1 = 0 → TokSl w' v (lexR s).1) ∧ ((readR s).1 ≠ 0 → v = .slice none 0 0) ∧ Below w.heap.size w w' := by
  unfold maxLen at hs64
  by_cases h240 : 240 < s.length
  · have hr : readR s = (1, 0) := by unfold readR; rw [if_pos h240]
    rw [hr]
    clear hr
    go_enter Tryd.func18, Tryd.ntmps18
    go_wp2_with fail
    go_ret3
    exact ⟨_, rfl, by simp, by simp, Below.refl _ _⟩
  · have hT := ref_Tokens s (by omega)
    have hgood := lex_good s
    have HM := hide (mach_parse s.length (lexR s).1 (fun t ht => good_notNONE (hgood t ht)) (fun t ht => good_ne (hgood t ht)))
    have HR : Hid (¬ 0 ≤ (lexR s).2 → readR s = outR (parseR s.length (lexR s).1)) := fun h2 => readR_ok h240 h2
    have HR2 : Hid (0 ≤ (lexR s).2 → readR s = (2, (lexR s).2)) := fun h => by unfold readR; rw [if_neg h240, if_pos h]
    generalize lexR s = lx at *
    obtain ⟨toks, at0⟩ := lx
    simp only [] at hT hgood HM HR HR2
    have HG := hide hgood
    clear hgood
    by_cases hat : 0 ≤ at0
    · have hr := HR2.out hat
      rw [hr]
      clear hr HR HR2 HM
      go_enter Tryd.func18, Tryd.ntmps18
      go_wp2_with fail
      refine (hT _).mono ?_
      rintro e w1 ⟨v, rfl, hown, hb⟩
      go_wp2_with fail
      go_ret3
      exact ⟨_, rfl, by simp, by simp, hb⟩
    · have HRo := hide (HR.out hat)
      clear HR2 HR
      generalize parseR s.length toks = R at *
      obtain ⟨k0, hk0⟩ := HM.out
      have HK := hide hk0
      clear hk0 HM
      generalize readR s = rr at *
      obtain ⟨i0, hi0, hz0, hz1, hz2⟩ := info_parts info_str
      go_enter Tryd.func18, Tryd.ntmps18
      go_wp2_with fail
      refine (hT _).mono ?_
      rintro e w1 ⟨v, rfl, hown, hb⟩
      have hsl := tokSl_of hown
      clear hown hT
      go_wp2_with fail
      go_loopg [7, 8] k0 (fun gk vw vi wr => RRel s.length w v toks R gk vw vi wr)
      case atStart =>
        exact ⟨[fSym 1], 0, StrSl_lit w1 [fSym 1] 9 (by simp), rfl, Nat.zero_le _, by decide, by simp only [List.mem_singleton]; rintro x rfl; exact symOk_f 1 (by omega) (by omega), HK.out, hsl.below ((Below.refl _ _).alloc (Nat.le_refl _) _) (Nat.le_refl _), hb.alloc hb.size _⟩
      case round =>
        obtain ⟨want, i, hw, rfl, hi, hwt, hso, hm, hts, hbel⟩ := hrel
        clear HK hsl hb
        cases want with
        | nil =>
          obtain ⟨av, nv, cv, rfl, hnv⟩ := strSl_shape hw
          simp only [List.length_nil] at hnv
          subst hnv
          have HN := hide (mach_nil hm)
          clear hm hw hso
          by_cases hlt : i < toks.length
          · have HP : Hid (R = some (toks[i]).pos) := by unfold Hid; rw [HN.out, List.drop_eq_getElem_cons hlt]; rfl
            rcases hts with ⟨_, hz⟩ | ⟨b', o', cap', rfl, d1, d2, d3, d4⟩
            · subst hz; simp at hlt
            obtain ⟨hda, hdb⟩ := d4 i hlt
            clear d4 HN
            unfold maxLen at d2
            generalize (toks[i]).text = t at *
            generalize (toks[i]).pos = pp at *
            go_wp2_with fail
            go_region
            go_wp2_with fail
            go_ret3
            exact read_bad HRo HP.out rfl hbel.drew
          · have HP : Hid (R = none) := by unfold Hid; rw [HN.out, List.drop_of_length_le (by omega)]; rfl
            have HTS := hide hts
            clear HN
            obtain ⟨av, nv, cv, rfl, hnv⟩ := tokSl_shape hts
            subst hnv
            clear hts
            go_wp2_with fail
            go_ret3
            exact read_good HRo HP.out HTS rfl hbel
        | cons sy W =>
          obtain ⟨b, o, cap, rfl, hc1, hc2, hc3, hc4, hc5⟩ := hw.cons
          have hsy := hso sy (by simp)
          rw [wts_cons] at hwt
          have hwp := wt_pos sy
          obtain ⟨g, rfl, hcase⟩ := mach_cons hm
          clear hm hw
          have HC5 := hide hc5
          have HSO := hide hso
          unfold maxLen at hc2
          by_cases hcap : cap = 1
          · obtain rfl : cap = 1 := hcap
            have HC5 : Hid (∀ j u, (W.map bs)[j]? = some u → wr.cell? ⟨b, o + j, none⟩ = some u) := fun j u hj => by
              have hW0 : W = [] := List.length_eq_zero_iff.1 (by omega)
              rw [hW0] at hj
              simp at hj
            by_cases hlt : i < toks.length
            · obtain ⟨e1, e2, e3⟩ := hd_drop toks i hlt
              have htl : (toks[i]).text.length ≤ 1000 := Nat.le_trans (good_len (HG.out _ (List.getElem_mem hlt))) (by decide)
              have HTS := hide hts
              rcases hts with ⟨_, hz⟩ | ⟨b', o', cap', rfl, d1, d2, d3, d4⟩
              · subst hz; simp at hlt
              obtain ⟨hda, hdb⟩ := d4 i hlt
              clear d4
              unfold maxLen at d2
              rw [e1, e3] at hcase
              have HP : Hid (plc s.length (toks.drop i) = (toks[i]).pos) := by unfold Hid; rw [List.drop_eq_getElem_cons hlt]; rfl
              clear e1 e2 e3
              generalize (toks[i]).text = t at *
              generalize (toks[i]).pos = pp at *
              rcases hcase with ⟨m, hbm, hmg⟩ | ⟨hbm, hfit, hmg⟩ | ⟨hbm, hfit, hR⟩

              · obtain ⟨hok1, hok2⟩ := becomes_ok hsy hbm
                have hBc := ref_becomes_some sy t m hsy htl hbm
                have hlw := len_wts m
                have hlW := len_wts W
                have HMG := hide hmg
                clear hbm hmg
                go_wp2_with fail
                refine (hBc _).mono ?_
                rintro e w2 ⟨vm, rfl, hvm, hb2⟩
                have hsz2 := hb2.size
                have hwc : ∀ j u, (W.map bs)[j]? = some u → w2.cell? ⟨b, o + j, none⟩ = some u := fun j u hj => by rw [bcell hb2 b _ hc3]; exact HC5.out j u hj
                have HWC := hide hwc
                clear hwc
                rcases hvm with ⟨rfl, rfl⟩ | ⟨bm, om, capm, rfl, f1, f2, f3, f4⟩
                · go_wp2_with (first | (at_builtin; refine wpList_append_own_none rfl (.tmp 54) (.tmp 55) 103 rfl w2.heap.size 9 i0 1 Tryd.underlying103 hi0 _ _ _ rfl (World.ownsRow_nil _ _ _ _) rfl ?_) | (at_builtin; refine wp_appS rfl (.tmp 57) (.tmp 59) 103 9 rfl Tryd.underlying103 hi0 hz0 hz1 hz2 rfl (by decide) w2 w2.heap.size _ 0 [] (W.map bs) w2 rfl (World.ownsRow_nil _ _ _ _) b (o) W.length (0) (by simp [Act.eval]; try omega) (by simp) HWC.out (by simp [Value.oneCell']) (by omega) (by decide) (Below.refl _ _) (Nat.le_refl _) ?_; intro v2 w3 hown3 hb3 _))
                  go_roundg g
                  case measure => omega
                  case rel => exact read_more (m := []) HMG hok1 hok2 HSO hwt (by simpa using hown3) hi HTS hbel hb2 hb3
                · have hmc : ∀ j u, (m.map bs)[j]? = some u → w2.cell? ⟨bm, om + j, none⟩ = some u := fun j u hj => map_cell f4 j u hj
                  have HMC := hide hmc
                  clear hmc f4
                  unfold maxLen at f2
                  go_wp2_with (first | (at_builtin; refine wp_appS rfl (.tmp 54) (.tmp 55) 103 9 rfl Tryd.underlying103 hi0 hz0 hz1 hz2 rfl (by decide) w2 w2.heap.size _ 0 [] (m.map bs) w2 rfl (World.ownsRow_nil _ _ _ _) bm om m.length capm (by simp [Act.eval]) (by simp) HMC.out (by simp [Value.oneCell']) (by omega) (by decide) (Below.refl _ _) (Nat.le_refl _) ?_; intro v3 w3 hown3 hb3 _; have hwc3 := hide (fun j u hj => (bcell hb3 b (o + j) (by omega)).trans (HWC.out j u hj))) | (at_builtin; refine wp_appS rfl (.tmp 57) (.tmp 59) 103 9 rfl Tryd.underlying103 hi0 hz0 hz1 hz2 rfl (by decide) w2 w2.heap.size _ (0 + m.length) ([] ++ m.map bs) (W.map bs) w3 rfl hown3 b (o) W.length (0) (by simp [Act.eval]; try omega) (by simp) hwc3.out (by simp [Value.oneCell']) (by omega) (by decide) hb3 hb3.size ?_; intro v4 w4 hown4 hb4 _))
                  go_roundg g
                  case measure => omega
                  case rel => exact read_more HMG hok1 hok2 HSO hwt (by simpa using hown4) hi HTS hbel hb2 hb4
              · have hBc := ref_becomes_none sy t hsy hbm
                have hFt := calls_to_bool (ref_fits sy t) hfit
                have HMG := hide hmg
                clear hbm hfit hmg
                go_wp2_with fail
                refine (hBc _).mono ?_
                rintro e w2 ⟨rfl, rfl⟩
                go_wp2_with fail
                refine (hFt _).mono ?_
                rintro e w3 ⟨rfl, hb3⟩
                go_wp2_with fail
                go_roundg g
                case measure => omega
                case rel => exact read_fit HMG HSO hwt (by exact .inr ⟨b, o, 0, by rw [show W.length = 0 from by omega], by omega, by unfold maxLen; omega, hc3, fun i hi => by omega⟩) hlt HTS hbel hb3
              · have hBc := ref_becomes_none sy t hsy hbm
                have hFt := calls_to_bool (ref_fits sy t) hfit
                have HRR := hide hR
                clear hbm hfit hR
                go_wp2_with fail
                refine (hBc _).mono ?_
                rintro e w2 ⟨rfl, rfl⟩
                go_wp2_with fail
                refine (hFt _).mono ?_
                rintro e w3 ⟨rfl, hb3⟩
                go_wp2_with fail
                go_ret3
                exact read_bad HRo (HRR.out.trans (by rw [HP.out])) rfl (hbel.trans (hb3.mono hbel.size))

            · have hie : toks.length ≤ i := by omega
              have hdn : toks.drop i = [] := List.drop_of_length_le (by omega)
              have htl : ([] : List UInt8).length ≤ 1000 := by decide
              have HTS := hide hts
              have HP : Hid (plc s.length (toks.drop i) = s.length) := by unfold Hid; rw [hdn]; rfl
              rw [hdn] at hcase
              clear hdn
              obtain ⟨av, nv, cv, rfl, hnv⟩ := tokSl_shape hts
              subst hnv
              have hd0 : hd ([] : List Tok) = [] := rfl
              rw [hd0] at hcase
              clear hd0
              rcases hcase with ⟨m, hbm, hmg⟩ | ⟨hbm, hfit, hmg⟩ | ⟨hbm, hfit, hR⟩

              · obtain ⟨hok1, hok2⟩ := becomes_ok hsy hbm
                have hBc := ref_becomes_some sy [] m hsy htl hbm
                have hlw := len_wts m
                have hlW := len_wts W
                have HMG : Hid (mach s.length g (m ++ W) (toks.drop i) = some R) := by unfold Hid; rw [List.drop_of_length_le (by omega)]; exact hmg
                clear hbm hmg
                go_wp2_with fail
                refine (hBc _).mono ?_
                rintro e w2 ⟨vm, rfl, hvm, hb2⟩
                have hsz2 := hb2.size
                have hwc : ∀ j u, (W.map bs)[j]? = some u → w2.cell? ⟨b, o + j, none⟩ = some u := fun j u hj => by rw [bcell hb2 b _ hc3]; exact HC5.out j u hj
                have HWC := hide hwc
                clear hwc
                rcases hvm with ⟨rfl, rfl⟩ | ⟨bm, om, capm, rfl, f1, f2, f3, f4⟩
                · go_wp2_with (first | (at_builtin; refine wpList_append_own_none rfl (.tmp 54) (.tmp 55) 103 rfl w2.heap.size 9 i0 1 Tryd.underlying103 hi0 _ _ _ rfl (World.ownsRow_nil _ _ _ _) rfl ?_) | (at_builtin; refine wp_appS rfl (.tmp 57) (.tmp 59) 103 9 rfl Tryd.underlying103 hi0 hz0 hz1 hz2 rfl (by decide) w2 w2.heap.size _ 0 [] (W.map bs) w2 rfl (World.ownsRow_nil _ _ _ _) b (o) W.length (0) (by simp [Act.eval]; try omega) (by simp) HWC.out (by simp [Value.oneCell']) (by omega) (by decide) (Below.refl _ _) (Nat.le_refl _) ?_; intro v2 w3 hown3 hb3 _))
                  go_roundg g
                  case measure => omega
                  case rel => exact read_more (m := []) HMG hok1 hok2 HSO hwt (by simpa using hown3) hi HTS hbel hb2 hb3
                · have hmc : ∀ j u, (m.map bs)[j]? = some u → w2.cell? ⟨bm, om + j, none⟩ = some u := fun j u hj => map_cell f4 j u hj
                  have HMC := hide hmc
                  clear hmc f4
                  unfold maxLen at f2
                  go_wp2_with (first | (at_builtin; refine wp_appS rfl (.tmp 54) (.tmp 55) 103 9 rfl Tryd.underlying103 hi0 hz0 hz1 hz2 rfl (by decide) w2 w2.heap.size _ 0 [] (m.map bs) w2 rfl (World.ownsRow_nil _ _ _ _) bm om m.length capm (by simp [Act.eval]) (by simp) HMC.out (by simp [Value.oneCell']) (by omega) (by decide) (Below.refl _ _) (Nat.le_refl _) ?_; intro v3 w3 hown3 hb3 _; have hwc3 := hide (fun j u hj => (bcell hb3 b (o + j) (by omega)).trans (HWC.out j u hj))) | (at_builtin; refine wp_appS rfl (.tmp 57) (.tmp 59) 103 9 rfl Tryd.underlying103 hi0 hz0 hz1 hz2 rfl (by decide) w2 w2.heap.size _ (0 + m.length) ([] ++ m.map bs) (W.map bs) w3 rfl hown3 b (o) W.length (0) (by simp [Act.eval]; try omega) (by simp) hwc3.out (by simp [Value.oneCell']) (by omega) (by decide) hb3 hb3.size ?_; intro v4 w4 hown4 hb4 _))
                  go_roundg g
                  case measure => omega
                  case rel => exact read_more HMG hok1 hok2 HSO hwt (by simpa using hown4) hi HTS hbel hb2 hb4
              · have hBc := ref_becomes_none sy [] hsy hbm
                have hFt := calls_to_bool (ref_fits sy []) hfit
                exact absurd hfit (by simp [fitsB])
              · have hBc := ref_becomes_none sy [] hsy hbm
                have hFt := calls_to_bool (ref_fits sy []) hfit
                have HRR := hide hR
                clear hbm hfit hR
                go_wp2_with fail
                refine (hBc _).mono ?_
                rintro e w2 ⟨rfl, rfl⟩
                go_wp2_with fail
                refine (hFt _).mono ?_
                rintro e w3 ⟨rfl, hb3⟩
                go_wp2_with fail
                go_ret3
                exact read_bad HRo (HRR.out.trans (by simp [plc])) rfl (hbel.trans (hb3.mono hbel.size))

          · skip
            by_cases hlt : i < toks.length
            · obtain ⟨e1, e2, e3⟩ := hd_drop toks i hlt
              have htl : (toks[i]).text.length ≤ 1000 := Nat.le_trans (good_len (HG.out _ (List.getElem_mem hlt))) (by decide)
              have HTS := hide hts
              rcases hts with ⟨_, hz⟩ | ⟨b', o', cap', rfl, d1, d2, d3, d4⟩
              · subst hz; simp at hlt
              obtain ⟨hda, hdb⟩ := d4 i hlt
              clear d4
              unfold maxLen at d2
              rw [e1, e3] at hcase
              have HP : Hid (plc s.length (toks.drop i) = (toks[i]).pos) := by unfold Hid; rw [List.drop_eq_getElem_cons hlt]; rfl
              clear e1 e2 e3
              generalize (toks[i]).text = t at *
              generalize (toks[i]).pos = pp at *
              rcases hcase with ⟨m, hbm, hmg⟩ | ⟨hbm, hfit, hmg⟩ | ⟨hbm, hfit, hR⟩

              · obtain ⟨hok1, hok2⟩ := becomes_ok hsy hbm
                have hBc := ref_becomes_some sy t m hsy htl hbm
                have hlw := len_wts m
                have hlW := len_wts W
                have HMG := hide hmg
                clear hbm hmg
                go_wp2_with fail
                refine (hBc _).mono ?_
                rintro e w2 ⟨vm, rfl, hvm, hb2⟩
                have hsz2 := hb2.size
                have hwc : ∀ j u, (W.map bs)[j]? = some u → w2.cell? ⟨b, o + 1 + j, none⟩ = some u := fun j u hj => by rw [bcell hb2 b _ hc3]; exact HC5.out j u hj
                have HWC := hide hwc
                clear hwc
                rcases hvm with ⟨rfl, rfl⟩ | ⟨bm, om, capm, rfl, f1, f2, f3, f4⟩
                · go_wp2_with (first | (at_builtin; refine wpList_append_own_none rfl (.tmp 54) (.tmp 55) 103 rfl w2.heap.size 9 i0 1 Tryd.underlying103 hi0 _ _ _ rfl (World.ownsRow_nil _ _ _ _) rfl ?_) | (at_builtin; refine wp_appS rfl (.tmp 57) (.tmp 59) 103 9 rfl Tryd.underlying103 hi0 hz0 hz1 hz2 rfl (by decide) w2 w2.heap.size _ 0 [] (W.map bs) w2 rfl (World.ownsRow_nil _ _ _ _) b (o + 1) W.length (cap - 1) (by simp [Act.eval]; try omega) (by simp) HWC.out (by simp [Value.oneCell']) (by omega) (by decide) (Below.refl _ _) (Nat.le_refl _) ?_; intro v2 w3 hown3 hb3 _))
                  go_roundg g
                  case measure => omega
                  case rel => exact read_more (m := []) HMG hok1 hok2 HSO hwt (by simpa using hown3) hi HTS hbel hb2 hb3
                · have hmc : ∀ j u, (m.map bs)[j]? = some u → w2.cell? ⟨bm, om + j, none⟩ = some u := fun j u hj => map_cell f4 j u hj
                  have HMC := hide hmc
                  clear hmc f4
                  unfold maxLen at f2
                  go_wp2_with (first | (at_builtin; refine wp_appS rfl (.tmp 54) (.tmp 55) 103 9 rfl Tryd.underlying103 hi0 hz0 hz1 hz2 rfl (by decide) w2 w2.heap.size _ 0 [] (m.map bs) w2 rfl (World.ownsRow_nil _ _ _ _) bm om m.length capm (by simp [Act.eval]) (by simp) HMC.out (by simp [Value.oneCell']) (by omega) (by decide) (Below.refl _ _) (Nat.le_refl _) ?_; intro v3 w3 hown3 hb3 _; have hwc3 := hide (fun j u hj => (bcell hb3 b (o + 1 + j) (by omega)).trans (HWC.out j u hj))) | (at_builtin; refine wp_appS rfl (.tmp 57) (.tmp 59) 103 9 rfl Tryd.underlying103 hi0 hz0 hz1 hz2 rfl (by decide) w2 w2.heap.size _ (0 + m.length) ([] ++ m.map bs) (W.map bs) w3 rfl hown3 b (o + 1) W.length (cap - 1) (by simp [Act.eval]; try omega) (by simp) hwc3.out (by simp [Value.oneCell']) (by omega) (by decide) hb3 hb3.size ?_; intro v4 w4 hown4 hb4 _))
                  go_roundg g
                  case measure => omega
                  case rel => exact read_more HMG hok1 hok2 HSO hwt (by simpa using hown4) hi HTS hbel hb2 hb4
              · have hBc := ref_becomes_none sy t hsy hbm
                have hFt := calls_to_bool (ref_fits sy t) hfit
                have HMG := hide hmg
                clear hbm hfit hmg
                go_wp2_with fail
                refine (hBc _).mono ?_
                rintro e w2 ⟨rfl, rfl⟩
                go_wp2_with fail
                refine (hFt _).mono ?_
                rintro e w3 ⟨rfl, hb3⟩
                go_wp2_with fail
                go_roundg g
                case measure => omega
                case rel => exact read_fit HMG HSO hwt (by exact StrSl.tail hc1 (by unfold maxLen; omega) hc3 HC5.out) hlt HTS hbel hb3
              · have hBc := ref_becomes_none sy t hsy hbm
                have hFt := calls_to_bool (ref_fits sy t) hfit
                have HRR := hide hR
                clear hbm hfit hR
                go_wp2_with fail
                refine (hBc _).mono ?_
                rintro e w2 ⟨rfl, rfl⟩
                go_wp2_with fail
                refine (hFt _).mono ?_
                rintro e w3 ⟨rfl, hb3⟩
                go_wp2_with fail
                go_ret3
                exact read_bad HRo (HRR.out.trans (by rw [HP.out])) rfl (hbel.trans (hb3.mono hbel.size))

            · have hie : toks.length ≤ i := by omega
              have hdn : toks.drop i = [] := List.drop_of_length_le (by omega)
              have htl : ([] : List UInt8).length ≤ 1000 := by decide
              have HTS := hide hts
              have HP : Hid (plc s.length (toks.drop i) = s.length) := by unfold Hid; rw [hdn]; rfl
              rw [hdn] at hcase
              clear hdn
              obtain ⟨av, nv, cv, rfl, hnv⟩ := tokSl_shape hts
              subst hnv
              have hd0 : hd ([] : List Tok) = [] := rfl
              rw [hd0] at hcase
              clear hd0
              rcases hcase with ⟨m, hbm, hmg⟩ | ⟨hbm, hfit, hmg⟩ | ⟨hbm, hfit, hR⟩

              · obtain ⟨hok1, hok2⟩ := becomes_ok hsy hbm
                have hBc := ref_becomes_some sy [] m hsy htl hbm
                have hlw := len_wts m
                have hlW := len_wts W
                have HMG : Hid (mach s.length g (m ++ W) (toks.drop i) = some R) := by unfold Hid; rw [List.drop_of_length_le (by omega)]; exact hmg
                clear hbm hmg
                go_wp2_with fail
                refine (hBc _).mono ?_
                rintro e w2 ⟨vm, rfl, hvm, hb2⟩
                have hsz2 := hb2.size
                have hwc : ∀ j u, (W.map bs)[j]? = some u → w2.cell? ⟨b, o + 1 + j, none⟩ = some u := fun j u hj => by rw [bcell hb2 b _ hc3]; exact HC5.out j u hj
                have HWC := hide hwc
                clear hwc
                rcases hvm with ⟨rfl, rfl⟩ | ⟨bm, om, capm, rfl, f1, f2, f3, f4⟩
                · go_wp2_with (first | (at_builtin; refine wpList_append_own_none rfl (.tmp 54) (.tmp 55) 103 rfl w2.heap.size 9 i0 1 Tryd.underlying103 hi0 _ _ _ rfl (World.ownsRow_nil _ _ _ _) rfl ?_) | (at_builtin; refine wp_appS rfl (.tmp 57) (.tmp 59) 103 9 rfl Tryd.underlying103 hi0 hz0 hz1 hz2 rfl (by decide) w2 w2.heap.size _ 0 [] (W.map bs) w2 rfl (World.ownsRow_nil _ _ _ _) b (o + 1) W.length (cap - 1) (by simp [Act.eval]; try omega) (by simp) HWC.out (by simp [Value.oneCell']) (by omega) (by decide) (Below.refl _ _) (Nat.le_refl _) ?_; intro v2 w3 hown3 hb3 _))
                  go_roundg g
                  case measure => omega
                  case rel => exact read_more (m := []) HMG hok1 hok2 HSO hwt (by simpa using hown3) hi HTS hbel hb2 hb3
                · have hmc : ∀ j u, (m.map bs)[j]? = some u → w2.cell? ⟨bm, om + j, none⟩ = some u := fun j u hj => map_cell f4 j u hj
                  have HMC := hide hmc
                  clear hmc f4
                  unfold maxLen at f2
                  go_wp2_with (first | (at_builtin; refine wp_appS rfl (.tmp 54) (.tmp 55) 103 9 rfl Tryd.underlying103 hi0 hz0 hz1 hz2 rfl (by decide) w2 w2.heap.size _ 0 [] (m.map bs) w2 rfl (World.ownsRow_nil _ _ _ _) bm om m.length capm (by simp [Act.eval]) (by simp) HMC.out (by simp [Value.oneCell']) (by omega) (by decide) (Below.refl _ _) (Nat.le_refl _) ?_; intro v3 w3 hown3 hb3 _; have hwc3 := hide (fun j u hj => (bcell hb3 b (o + 1 + j) (by omega)).trans (HWC.out j u hj))) | (at_builtin; refine wp_appS rfl (.tmp 57) (.tmp 59) 103 9 rfl Tryd.underlying103 hi0 hz0 hz1 hz2 rfl (by decide) w2 w2.heap.size _ (0 + m.length) ([] ++ m.map bs) (W.map bs) w3 rfl hown3 b (o + 1) W.length (cap - 1) (by simp [Act.eval]; try omega) (by simp) hwc3.out (by simp [Value.oneCell']) (by omega) (by decide) hb3 hb3.size ?_; intro v4 w4 hown4 hb4 _))
                  go_roundg g
                  case measure => omega
                  case rel => exact read_more HMG hok1 hok2 HSO hwt (by simpa using hown4) hi HTS hbel hb2 hb4
              · have hBc := ref_becomes_none sy [] hsy hbm
                have hFt := calls_to_bool (ref_fits sy []) hfit
                exact absurd hfit (by simp [fitsB])
              · have hBc := ref_becomes_none sy [] hsy hbm
                have hFt := calls_to_bool (ref_fits sy []) hfit
                have HRR := hide hR
                clear hbm hfit hR
                go_wp2_with fail
                refine (hBc _).mono ?_
                rintro e w2 ⟨rfl, rfl⟩
                go_wp2_with fail
                refine (hFt _).mono ?_
                rintro e w3 ⟨rfl, hb3⟩
                go_wp2_with fail
                go_ret3
                exact read_bad HRo (HRR.out.trans (by simp [plc])) rfl (hbel.trans (hb3.mono hbel.size))

end Go.Proofs.YtiamjjonoeaggaaDoor
