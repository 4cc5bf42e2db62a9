import Derived.Test.YtiamjjonoeaggaaDoorRefK
import Derived.Deep.RegionWith
import Derived.Deep.CutRange
import Derived.Deep.RegionHeld
namespace Go.Proofs.YtiamjjonoeaggaaDoor
open Go.RowKit

theorem tok_isDigit (n : Int) (w : World) :
    Calls Tryd.prog 48 #[.int .u8 n] w fun e w' => e = .returned (.bool (digB n)) ∧ w' = w := by
  unfold digB
  go_enter Tryd.func48, Tryd.ntmps48
  go_wp2
  all_goals
    go_ret
    exact ⟨by simp [*]; try omega, rfl⟩
theorem tok_isLetter (n : Int) (w : World) :
    Calls Tryd.prog 50 #[.int .u8 n] w fun e w' => e = .returned (.bool (letB n)) ∧ w' = w := by
  unfold letB
  go_enter Tryd.func50, Tryd.ntmps50
  go_wp2
  all_goals
    go_ret
    exact ⟨by simp [*]; try omega, rfl⟩
theorem tok_isBlank (c : UInt8) (w : World) :
    Calls Tryd.prog 26 #[.int .u8 (c.toNat : Int)] w fun e w' => e = .returned (.bool (isBlank c)) ∧ w' = w := by
  rcases blank_cases c with ⟨hb, hc⟩ | ⟨hb, hc1, hc2⟩
  · rw [hb]
    rcases hc with rfl | rfl
    all_goals
      go_enter Tryd.func26, Tryd.ntmps26
      go_wp2
      go_ret
      exact ⟨rfl, rfl⟩
  · rw [hb]
    clear hb
    go_enter Tryd.func26, Tryd.ntmps26
    go_wp2
    go_ret
    exact ⟨rfl, rfl⟩
/-- How long a row is. -/
def runLen (p : Int → Bool) (l : List UInt8) : Nat := (l.takeWhile fun c => p (c.toNat : Int)).length
theorem run_step (p : Int → Bool) (s : List UInt8) (i k : Nat) (h : i + k < s.length) (hp : p ((s.getD (i + k) 0).toNat : Int) = true) : runLen p (s.drop (i + k)) = runLen p (s.drop (i + k + 1)) + 1 := by
  rw [List.drop_eq_getElem_cons h]
  have e : s.getD (i + k) 0 = s[i + k] := by simp [List.getD, h]
  rw [e] at hp
  unfold runLen
  rw [List.takeWhile_cons_of_pos (by exact hp)]
  rfl
theorem run_stop (p : Int → Bool) (s : List UInt8) (i k : Nat) (h : i + k < s.length) (hp : p ((s.getD (i + k) 0).toNat : Int) = false) : runLen p (s.drop (i + k)) = 0 := by
  rw [List.drop_eq_getElem_cons h]
  have e : s.getD (i + k) 0 = s[i + k] := by simp [List.getD, h]
  rw [e] at hp
  unfold runLen
  rw [List.takeWhile_cons_of_neg (by simp [hp])]
  rfl
theorem run_end (p : Int → Bool) (s : List UInt8) (i : Nat) (h : s.length ≤ i) : runLen p (s.drop i) = 0 := by
  rw [List.drop_of_length_le h]
  rfl
set_option maxHeartbeats 400000 in
theorem tok_rowOfDigits (s : List UInt8) (hs : s.length ≤ 240) (i : Nat) (hi : i ≤ s.length) (w : World) :
    Calls Tryd.prog 45 #[bs s, .int .i64 i] w fun e w' => e = .returned (.int .i64 (runLen digB (s.drop i))) ∧ w' = w := by
  go_enter Tryd.func45, Tryd.ntmps45
  go_wp2_with fail
  go_loop [5] (fun v => ∃ k : Nat, i + k ≤ s.length ∧ v = .int .i64 k ∧ Hid (k + runLen digB (s.drop (i + k)) = runLen digB (s.drop i))) (fun v => s.length - (intOf v).toNat)
  case atStart => exact ⟨0, by omega, rfl, by unfold Hid; simp⟩
  case round =>
    obtain ⟨k, hk, rfl, HK⟩ := hrel
    by_cases hlt : i + k < s.length
    · have hat := at_mk s (i + k) hlt
      have hD := tok_isDigit ((s.getD (i + k) 0).toNat : Int)
      have HS := hide (run_step digB s i k hlt)
      have HT := hide (run_stop digB s i k hlt)
      generalize hc : s.getD (i + k) 0 = c at *
      clear hc
      generalize hd : digB (c.toNat : Int) = d at *
      clear hd
      cases d with
      | true =>
        go_wp2_with fail
        refine (hD _).mono ?_
        rintro e w1 ⟨rfl, rfl⟩
        go_wp2_with fail
        go_round
        case rel => exact ⟨k + 1, by omega, by go_num, by have h1 := HK.out; have h2 := HS.out trivial; unfold Hid; rw [show i + (k + 1) = i + k + 1 from by omega]; omega⟩
        case measure => simp [intOf]; omega
      | false =>
        go_wp2_with fail
        refine (hD _).mono ?_
        rintro e w1 ⟨rfl, rfl⟩
        go_wp2_with fail
        go_ret
        exact ⟨ret_int (by have h1 := HK.out; have h2 := HT.out trivial; omega), rfl⟩
    · have HE := hide (run_end digB s (i + k) (by omega))
      go_wp2_with fail
      go_ret
      exact ⟨ret_int (by have h1 := HK.out; have h2 := HE.out; omega), rfl⟩
set_option maxHeartbeats 400000 in
theorem tok_rowOfLetters (s : List UInt8) (hs : s.length ≤ 240) (i : Nat) (hi : i ≤ s.length) (w : World) :
    Calls Tryd.prog 46 #[bs s, .int .i64 i] w fun e w' => e = .returned (.int .i64 (runLen letB (s.drop i))) ∧ w' = w := by
  go_enter Tryd.func46, Tryd.ntmps46
  go_wp2_with fail
  go_loop [5] (fun v => ∃ k : Nat, i + k ≤ s.length ∧ v = .int .i64 k ∧ Hid (k + runLen letB (s.drop (i + k)) = runLen letB (s.drop i))) (fun v => s.length - (intOf v).toNat)
  case atStart => exact ⟨0, by omega, rfl, by unfold Hid; simp⟩
  case round =>
    obtain ⟨k, hk, rfl, HK⟩ := hrel
    by_cases hlt : i + k < s.length
    · have hat := at_mk s (i + k) hlt
      have hD := tok_isLetter ((s.getD (i + k) 0).toNat : Int)
      have HS := hide (run_step letB s i k hlt)
      have HT := hide (run_stop letB s i k hlt)
      generalize hc : s.getD (i + k) 0 = c at *
      clear hc
      generalize hd : letB (c.toNat : Int) = d at *
      clear hd
      cases d with
      | true =>
        go_wp2_with fail
        refine (hD _).mono ?_
        rintro e w1 ⟨rfl, rfl⟩
        go_wp2_with fail
        go_round
        case rel => exact ⟨k + 1, by omega, by go_num, by have h1 := HK.out; have h2 := HS.out trivial; unfold Hid; rw [show i + (k + 1) = i + k + 1 from by omega]; omega⟩
        case measure => simp [intOf]; omega
      | false =>
        go_wp2_with fail
        refine (hD _).mono ?_
        rintro e w1 ⟨rfl, rfl⟩
        go_wp2_with fail
        go_ret
        exact ⟨ret_int (by have h1 := HK.out; have h2 := HT.out trivial; omega), rfl⟩
    · have HE := hide (run_end letB s (i + k) (by omega))
      go_wp2_with fail
      go_ret
      exact ⟨ret_int (by have h1 := HK.out; have h2 := HE.out; omega), rfl⟩
/-- What a sign is: 0, if it is none. -/
def signK (n : Int) : Int := if n == 40 then 18 else if n == 41 then 19 else if n == 44 then 20 else if n == 91 then 21 else if n == 93 then 22 else if n == 42 then 23 else 0
theorem tok_signKind (n : Int) (w : World) :
    Calls Tryd.prog 47 #[.int .u8 n] w fun e w' => e = .returned (.int .i64 (signK n)) ∧ w' = w := by
  unfold signK
  go_enter Tryd.func47, Tryd.ntmps47
  go_wp2
  all_goals
    go_ret
    exact ⟨ret_int (by simp [*]), rfl⟩
/-- What a word is. -/
def wordK (t : List UInt8) : Int := if t == [120] then 3 else if t == [121] then 4 else if t == [116, 114, 117, 101] then 5 else if t == [97, 110, 100] then 6 else if t == [98, 117, 116] then 7 else if t == [111, 114] then 8 else if t == [101, 120, 105, 115, 116, 115] then 9 else if t == [112, 114, 101, 118] then 10 else if t == [110, 101, 120, 116] then 11 else if t == [111, 110, 99, 101] then 12 else if t == [115, 111, 111, 110] then 13 else if t == [115, 105, 110, 99, 101] then 14 else if t == [117, 110, 115, 105, 110, 99, 101] then 15 else if t == [117, 110, 116, 105, 108] then 16 else if t == [117, 110, 117, 110, 116, 105, 108] then 17 else 2
set_option maxHeartbeats 800000 in
theorem tok_wordKind (t : List UInt8) (w : World) :
    Calls Tryd.prog 51 #[bs t] w fun e w' => e = .returned (.int .i64 (wordK t)) ∧ w' = w := by
  unfold wordK
  go_enter Tryd.func51, Tryd.ntmps51
  go_wp2
  all_goals
    go_ret
    exact ⟨ret_int (by simp [*]), rfl⟩
set_option maxHeartbeats 400000 in
theorem tok_value (l : List UInt8) (h2 : l.length ≤ 3) (hd : digs l = true) (w : World) :
    Calls Tryd.prog 49 #[bs l] w fun e w' => e = .returned (.int .i64 (numV l)) ∧ w' = w := by
  have HD := hide hd
  clear hd
  go_enter Tryd.func49, Tryd.ntmps49
  go_wp2_with fail
  go_loop [3, 4] (fun vn vi => ∃ k : Nat, k ≤ l.length ∧ vi = .int .i64 k ∧ vn = .int .i64 (numV (l.take k))) (fun _ vi => l.length - (intOf vi).toNat)
  case atStart => exact ⟨0, Nat.zero_le _, rfl, rfl⟩
  case round =>
    obtain ⟨k, hk, rfl, rfl⟩ := hrel
    have hlt9 := numV_lt HD.out k hk
    have hp : 10 ^ k ≤ 1000 := Nat.le_trans (Nat.pow_le_pow_right (by omega) (show k ≤ 3 by omega)) (by decide)
    have hlt : numV (l.take k) < 1000 := by omega
    clear hlt9 hp
    by_cases hkn : k < l.length
    · have hat : ((ByteArray.mk l.toArray)[k]'(by exact hkn)) = l[k] := rfl
      have hg := digs_at HD.out k hkn
      have HN := hide (numV_take l k hkn)
      generalize numV (l.take k) = m at *
      generalize hc : l[k] = c at *
      clear hc
      obtain ⟨g1, g2⟩ := hg
      go_wp2_with fail
      go_round
      case rel => exact ⟨k + 1, by omega, by go_num, by rw [HN.out]; first | go_num | (congr 1; omega)⟩
      case measure => simp [intOf]; omega
    · have hke : k = l.length := by omega
      subst hke
      rw [List.take_length]
      go_wp2_with fail
      go_ret
      exact ⟨rfl, rfl⟩
end Go.Proofs.YtiamjjonoeaggaaDoor

namespace Go.Proofs.YtiamjjonoeaggaaDoor
open Go.RowKit

/-- The letters of a word, with zeros behind them. -/
def padC (t : List UInt8) (i : Nat) : Int := ((t.getD i 0).toNat : Int)
abbrev wordV (t : List UInt8) : Value := .agg #[.int .u8 (padC t 0), .int .u8 (padC t 1), .int .u8 (padC t 2), .int .u8 (padC t 3), .int .u8 (padC t 4), .int .u8 (padC t 5), .int .u8 (padC t 6), .int .u8 (padC t 7)]
def padK (t : List UInt8) (k j : Nat) : Int := if j < k then padC t j else 0
theorem padK_set (t : List UInt8) (k j : Nat) : padK t (k + 1) j = if j = k then padC t k else padK t k j := by
  unfold padK
  by_cases h : j = k
  · subst h; simp
  · rw [if_neg h]
    by_cases h2 : j < k
    · rw [if_pos h2, if_pos (by omega)]
    · rw [if_neg h2, if_neg (by omega)]
theorem padK_end (t : List UInt8) (j : Nat) (k : Nat) (h : t.length ≤ k) : padK t k j = padC t j := by
  unfold padK
  by_cases h2 : j < k
  · rw [if_pos h2]
  · rw [if_neg h2]
    unfold padC
    simp [List.getD, List.getElem?_eq_none (show t.length ≤ j by omega)]
def WdRel (w : World) (t : List UInt8) (vi : Value) (wr : World) : Prop := ∃ k : Nat, k ≤ t.length ∧ vi = .int .i64 k ∧ (∀ j, j < 8 → wr.cell? ⟨w.heap.size + 1, j, none⟩ = some (.int .u8 (padK t k j))) ∧ (∀ j, wr.frozen? ⟨w.heap.size + 1, j, none⟩ = false) ∧ Below (w.heap.size + 1) (w.alloc (.cells #[.int .u8 0, .int .u8 0, .int .u8 0, .int .u8 0, .int .u8 0, .int .u8 0, .int .u8 0, .int .u8 0] 80)) wr
set_option maxRecDepth 100000 in
set_option maxHeartbeats 1000000 in
theorem tok_word (t : List UInt8) (ht : t.length ≤ 8) (w : World) :
    Calls Tryd.prog 52 #[bs t] w fun e w' => e = .returned (wordV t) ∧ Below w.heap.size w w' := by
  go_enter Tryd.func52, Tryd.ntmps52
  go_wp2_with fail
  go_loopw [4] (fun vi wr => WdRel w t vi wr) (fun vi _ => t.length - (intOf vi).toNat)
  case atStart =>
    refine ⟨0, Nat.zero_le _, rfl, fun j hj => ?_, fun j => ?_, (Below.refl _ _).alloc (by simp) _⟩
    · have e : w.heap.size + 1 = (w.alloc (.cells #[.int .u8 0, .int .u8 0, .int .u8 0, .int .u8 0, .int .u8 0, .int .u8 0, .int .u8 0, .int .u8 0] 80)).heap.size := by simp
      rw [e, World.cell?_alloc_at _ _ _ _ rfl]
      rcases (by omega : j = 0 ∨ j = 1 ∨ j = 2 ∨ j = 3 ∨ j = 4 ∨ j = 5 ∨ j = 6 ∨ j = 7) with rfl | rfl | rfl | rfl | rfl | rfl | rfl | rfl <;> simp [padK]
    · simp
  case round =>
    obtain ⟨k, hk, rfl, hc, hf, hbel⟩ := hrel
    by_cases hlt : k < t.length
    · have hat := at_mk t k hlt
      have hck := hc k (by omega)
      have hfk := hf k
      have HC := hide hc
      have HF := hide hf
      have HP : Hid (((t.getD k 0).toNat : Int) = padC t k) := rfl
      generalize t.getD k 0 = c at *
      clear hc hf
      go_wp2_with fail
      go_roundw
      case rel =>
        refine ⟨k + 1, by omega, by go_num, fun j hj => ?_, fun j => ?_, hbel.setCell (by simp) _⟩
        · rw [padK_set]
          by_cases h : j = k
          · subst h
            rw [if_pos rfl, ← HP.out]
            exact World.cell?_setCell_same wr _ _ hck
          · rw [if_neg h, World.cell?_setCell_other wr _ _ _ (by intro e; injection e with e1 e2; exact h e2.symm)]
            exact HC.out j hj
        · rw [World.frozen?_setCell]; exact HF.out j
      case measure => simp [intOf]; omega
    · have hce : ∀ j, j < 8 → wr.cell? ⟨w.heap.size + 1, j, none⟩ = some (.int .u8 (padC t j)) := fun j hj => by rw [hc j hj, padK_end t j k (by omega)]
      have q := ((Below.refl w.heap.size w).alloc (Nat.le_refl _) _).trans (hbel.mono (by omega))
      have hr := fun j => bcell hbel w.heap.size j (by omega)
      have hz := fun j => hbel.frozen (p := ⟨w.heap.size, j, none⟩) (by simp)
      clear hc
      go_wp2_with fail
      exact bodyPost_ret (v := wordV t) (by simp [results, Tryd.results52, go_sem, hr]) rfl ⟨rfl, ((((((((q.setCell (by simp) _).setCell (by simp) _).setCell (by simp) _).setCell (by simp) _).setCell (by simp) _).setCell (by simp) _).setCell (by simp) _).setCell (by simp) _)⟩
/-- A token of the program: what it is, its value, the letters that it keeps. -/
def kindP (t : List UInt8) : Int := match t with
  | [] => 0
  | c :: _ => if digB (c.toNat : Int) then 1 else if letB (c.toNat : Int) then wordK t else signK (c.toNat : Int)
def valP (t : List UInt8) : Int := match t with
  | [] => 0
  | c :: _ => if digB (c.toNat : Int) then (numV t : Int) else 0
def padP (t : List UInt8) : List UInt8 := match t with
  | [] => []
  | c :: _ => if digB (c.toNat : Int) then [] else if letB (c.toNat : Int) && wordK t == 2 then t else []
def tokCs (k p z v : Int) (n : List UInt8) : List Value := [.int .i64 k, .int .i64 p, .int .i64 z, .int .i64 v, .int .u8 (padC n 0), .int .u8 (padC n 1), .int .u8 (padC n 2), .int .u8 (padC n 3), .int .u8 (padC n 4), .int .u8 (padC n 5), .int .u8 (padC n 6), .int .u8 (padC n 7)]
abbrev tokV (k p z v : Int) (n : List UInt8) : Value := .agg #[.int .i64 k, .int .i64 p, .int .i64 z, .int .i64 v, .int .u8 (padC n 0), .int .u8 (padC n 1), .int .u8 (padC n 2), .int .u8 (padC n 3), .int .u8 (padC n 4), .int .u8 (padC n 5), .int .u8 (padC n 6), .int .u8 (padC n 7)]
theorem padC_nil (i : Nat) : padC [] i = 0 := rfl
set_option maxRecDepth 100000 in
set_option maxHeartbeats 1000000 in
theorem tok_read (t : List UInt8) (h0 : t ≠ []) (h8 : t.length ≤ 8) (hd : numB t = true → digs t = true ∧ t.length ≤ 3) (w : World) :
    Calls Tryd.prog 28 #[bs t] w fun e w' => e = .returned (tokV (kindP t) 0 t.length (valP t) (padP t)) ∧ Below w.heap.size w w' := by
  cases t with
  | nil => exact absurd rfl h0
  | cons c r =>
    have hat : ((ByteArray.mk (c :: r).toArray)[0]'(by exact Nat.succ_pos _)) = c := rfl
    have hl1 : (c :: r).length = r.length + 1 := rfl
    have hnz : ((r.length : Int) + 1 == 0) = false := by simp; omega
    have hD := tok_isDigit (c.toNat : Int)
    have hL := tok_isLetter (c.toNat : Int)
    have hK := tok_wordKind (c :: r)
    have hS := tok_signKind (c.toNat : Int)
    have hV := fun h1 h2 => tok_value (c :: r) h1 h2
    have hW := tok_word (c :: r) h8
    have HD : Hid (digB (c.toNat : Int) = true → digs (c :: r) = true ∧ (c :: r).length ≤ 3) := hd
    have HHV := hide hV
    clear hd hV
    cases hdg : digB (c.toNat : Int) with
    | true =>
      obtain ⟨g1, g2⟩ := HD.out hdg
      have hV := HHV.out g2 g1
      have ek : kindP (c :: r) = 1 := by show (if digB _ = true then _ else _) = _; rw [hdg]; rfl
      have ev : valP (c :: r) = (numV (c :: r) : Int) := by show (if digB _ = true then _ else _) = _; rw [hdg]; rfl
      have ep : padP (c :: r) = [] := by show (if digB _ = true then _ else _) = _; rw [hdg]; rfl
      rw [ek, ev, ep, hl1]
      rw [hdg] at hD
      clear ek ev ep HD HHV hL hK hS hW g1 hdg
      generalize numV (c :: r) = nn at *
      go_enter Tryd.func28, Tryd.ntmps28
      go_wp2_with fail
      refine (hD _).mono ?_
      rintro e w1 ⟨rfl, rfl⟩
      go_wp2_with fail
      refine (hV _).mono ?_
      rintro e w1 ⟨rfl, rfl⟩
      go_wp2_with fail
      exact bodyPost_ret (v := .agg #[.int .i64 1, .int .i64 0, .int .i64 ((r.length : Int) + 1), .int .i64 nn, .int .u8 0, .int .u8 0, .int .u8 0, .int .u8 0, .int .u8 0, .int .u8 0, .int .u8 0, .int .u8 0]) (by simp [results, Tryd.results28, go_sem]) rfl ⟨by rw [show ((r.length + 1 : Nat) : Int) = (r.length : Int) + 1 from by omega]; rfl, ((Below.refl _ _).alloc (Nat.le_refl _) _).alloc (by simp) _⟩
    | false =>
      have ev : valP (c :: r) = 0 := by show (if digB _ = true then _ else _) = _; rw [hdg]; rfl
      cases hlt : letB (c.toNat : Int) with
      | true =>
        have ek : kindP (c :: r) = wordK (c :: r) := by show (if digB _ = true then _ else if letB _ = true then _ else _) = _; rw [hdg, hlt]; rfl
        have ep : padP (c :: r) = if wordK (c :: r) == 2 then c :: r else [] := by show (if digB _ = true then _ else if (letB _ && _) = true then _ else _) = _; rw [hdg, hlt]; simp
        rw [ek, ev, ep, hl1]
        rw [hdg] at hD
        rw [hlt] at hL
        clear ek ev ep HD HHV hS hdg hlt
        generalize wordK (c :: r) = kk at *
        cases hk2 : (kk == 2) with
        | true =>
          rw [if_pos rfl]
          go_enter Tryd.func28, Tryd.ntmps28
          go_wp2_with fail
          refine (hD _).mono ?_
          rintro e w1 ⟨rfl, rfl⟩
          go_wp2_with fail
          refine (hL _).mono ?_
          rintro e w1 ⟨rfl, rfl⟩
          go_wp2_with fail
          refine (hK _).mono ?_
          rintro e w1 ⟨rfl, rfl⟩
          go_wp2_with fail
          refine (hW _).mono ?_
          rintro e w1 ⟨rfl, hb1⟩
          have r1 := hb1.mono (B' := w.heap.size + 2) (by simp)
          have q1 := (((Below.refl w.heap.size w).alloc (Nat.le_refl _) _).alloc (by simp) _).trans (hb1.mono (by simp; omega))
          have cN := fun o => bcell r1 w.heap.size o (by omega)
          have cM := fun o => bcell r1 (w.heap.size + 1) o (by omega)
          have zN := fun o => r1.frozen (p := ⟨w.heap.size, o, none⟩) (by simp)
          have zM := fun o => r1.frozen (p := ⟨w.heap.size + 1, o, none⟩) (by simp)
          clear hb1 r1
          go_wp2_with fail
          exact bodyPost_ret (v := .agg #[.int .i64 kk, .int .i64 0, .int .i64 ((r.length : Int) + 1), .int .i64 0, .int .u8 (padC (c :: r) 0), .int .u8 (padC (c :: r) 1), .int .u8 (padC (c :: r) 2), .int .u8 (padC (c :: r) 3), .int .u8 (padC (c :: r) 4), .int .u8 (padC (c :: r) 5), .int .u8 (padC (c :: r) 6), .int .u8 (padC (c :: r) 7)]) (by simp [results, Tryd.results28, go_sem, cN]) rfl ⟨by rw [show ((r.length + 1 : Nat) : Int) = (r.length : Int) + 1 from by omega], ((((((((((((((((((((q1.setCell (by simp) _).setCell (by simp) _).setCell (by simp) _).setCell (by simp) _).setCell (by simp) _).setCell (by simp) _).setCell (by simp) _).setCell (by simp) _).setCell (by simp) _).setCell (by simp) _).setCell (by simp) _).setCell (by simp) _).setCell (by simp) _).setCell (by simp) _).setCell (by simp) _).setCell (by simp) _).setCell (by simp) _).setCell (by simp) _).setCell (by simp) _).setCell (by simp) _)⟩
        | false =>
          rw [if_neg (by simp)]
          go_enter Tryd.func28, Tryd.ntmps28
          go_wp2_with fail
          refine (hD _).mono ?_
          rintro e w1 ⟨rfl, rfl⟩
          go_wp2_with fail
          refine (hL _).mono ?_
          rintro e w1 ⟨rfl, rfl⟩
          go_wp2_with fail
          refine (hK _).mono ?_
          rintro e w1 ⟨rfl, rfl⟩
          go_wp2_with fail
          exact bodyPost_ret (v := .agg #[.int .i64 kk, .int .i64 0, .int .i64 ((r.length : Int) + 1), .int .i64 0, .int .u8 0, .int .u8 0, .int .u8 0, .int .u8 0, .int .u8 0, .int .u8 0, .int .u8 0, .int .u8 0]) (by simp [results, Tryd.results28, go_sem]) rfl ⟨by rw [show ((r.length + 1 : Nat) : Int) = (r.length : Int) + 1 from by omega]; rfl, ((Below.refl _ _).alloc (Nat.le_refl _) _).alloc (by simp) _⟩
      | false =>
        have ek : kindP (c :: r) = signK (c.toNat : Int) := by show (if digB _ = true then _ else if letB _ = true then _ else _) = _; rw [hdg, hlt]; rfl
        have ep : padP (c :: r) = [] := by show (if digB _ = true then _ else if (letB _ && _) = true then _ else _) = _; rw [hdg, hlt]; rfl
        rw [ek, ev, ep, hl1]
        rw [hdg] at hD
        rw [hlt] at hL
        clear ek ev ep HD HHV hK hW hdg hlt
        generalize signK (c.toNat : Int) = kk at *
        go_enter Tryd.func28, Tryd.ntmps28
        go_wp2_with fail
        refine (hD _).mono ?_
        rintro e w1 ⟨rfl, rfl⟩
        go_wp2_with fail
        refine (hL _).mono ?_
        rintro e w1 ⟨rfl, rfl⟩
        go_wp2_with fail
        refine (hS _).mono ?_
        rintro e w1 ⟨rfl, rfl⟩
        go_wp2_with fail
        exact bodyPost_ret (v := .agg #[.int .i64 kk, .int .i64 0, .int .i64 ((r.length : Int) + 1), .int .i64 0, .int .u8 0, .int .u8 0, .int .u8 0, .int .u8 0, .int .u8 0, .int .u8 0, .int .u8 0, .int .u8 0]) (by simp [results, Tryd.results28, go_sem]) rfl ⟨by rw [show ((r.length + 1 : Nat) : Int) = (r.length : Int) + 1 from by omega]; rfl, ((Below.refl _ _).alloc (Nat.le_refl _) _).alloc (by simp) _⟩
end Go.Proofs.YtiamjjonoeaggaaDoor

namespace Go.Proofs.YtiamjjonoeaggaaDoor
open Go.RowKit

def sizeP (s : List UInt8) (i : Nat) : Nat :=
  if 3 < runLen digB (s.drop i) ∨ 8 < runLen letB (s.drop i) then 0
  else if 0 < runLen digB (s.drop i) then runLen digB (s.drop i)
  else if 0 < runLen letB (s.drop i) then runLen letB (s.drop i)
  else if i < s.length ∧ signK ((s.getD i 0).toNat : Int) ≠ 0 then 1 else 0
set_option maxHeartbeats 1000000 in
theorem tok_sizeAt (s : List UInt8) (hs : s.length ≤ 240) (i : Nat) (hi : i < s.length) (w : World) :
    Calls Tryd.prog 27 #[bs s, .int .i64 i] w fun e w' => e = .returned (.int .i64 (sizeP s i)) ∧ w' = w := by
  have h1 := tok_rowOfDigits s hs i (by omega)
  have h2 := tok_rowOfLetters s hs i (by omega)
  have h3 := tok_signKind ((s.getD i 0).toNat : Int)
  have hat := at_mk s i hi
  unfold sizeP
  generalize runLen digB (s.drop i) = d at *
  generalize runLen letB (s.drop i) = l at *
  generalize s.getD i 0 = c at *
  generalize signK (c.toNat : Int) = k at *
  by_cases a1 : 3 < d
  · rw [if_pos (.inl a1)]
    go_enter Tryd.func27, Tryd.ntmps27
    go_wp2_with fail
    refine (h1 _).mono ?_
    rintro e w1 ⟨rfl, rfl⟩
    go_wp2_with fail
    refine (h2 _).mono ?_
    rintro e w1 ⟨rfl, rfl⟩
    go_wp2_with fail
    go_ret
    exact ⟨rfl, rfl⟩
  · by_cases a2 : 8 < l
    · rw [if_pos (.inr a2)]
      go_enter Tryd.func27, Tryd.ntmps27
      go_wp2_with fail
      refine (h1 _).mono ?_
      rintro e w1 ⟨rfl, rfl⟩
      go_wp2_with fail
      refine (h2 _).mono ?_
      rintro e w1 ⟨rfl, rfl⟩
      go_wp2_with fail
      go_ret
      exact ⟨rfl, rfl⟩
    · rw [if_neg (by omega)]
      by_cases a3 : 0 < d
      · rw [if_pos a3]
        go_enter Tryd.func27, Tryd.ntmps27
        go_wp2_with fail
        refine (h1 _).mono ?_
        rintro e w1 ⟨rfl, rfl⟩
        go_wp2_with fail
        refine (h2 _).mono ?_
        rintro e w1 ⟨rfl, rfl⟩
        go_wp2_with fail
        go_ret
        exact ⟨rfl, rfl⟩
      · rw [if_neg a3]
        by_cases a4 : 0 < l
        · rw [if_pos a4]
          go_enter Tryd.func27, Tryd.ntmps27
          go_wp2_with fail
          refine (h1 _).mono ?_
          rintro e w1 ⟨rfl, rfl⟩
          go_wp2_with fail
          refine (h2 _).mono ?_
          rintro e w1 ⟨rfl, rfl⟩
          go_wp2_with fail
          go_ret
          exact ⟨rfl, rfl⟩
        · rw [if_neg a4]
          cases hk : (k != 0) with
          | true =>
            rw [if_pos ⟨hi, by simpa using hk⟩]
            go_enter Tryd.func27, Tryd.ntmps27
            go_wp2_with fail
            refine (h1 _).mono ?_
            rintro e w1 ⟨rfl, rfl⟩
            go_wp2_with fail
            refine (h2 _).mono ?_
            rintro e w1 ⟨rfl, rfl⟩
            go_wp2_with fail
            refine (h3 _).mono ?_
            rintro e w1 ⟨rfl, rfl⟩
            go_wp2_with fail
            go_ret
            exact ⟨rfl, rfl⟩
          | false =>
            rw [if_neg (by intro h; exact h.2 (by simpa using hk))]
            go_enter Tryd.func27, Tryd.ntmps27
            go_wp2_with fail
            refine (h1 _).mono ?_
            rintro e w1 ⟨rfl, rfl⟩
            go_wp2_with fail
            refine (h2 _).mono ?_
            rintro e w1 ⟨rfl, rfl⟩
            go_wp2_with fail
            refine (h3 _).mono ?_
            rintro e w1 ⟨rfl, rfl⟩
            go_wp2_with fail
            go_ret
            exact ⟨rfl, rfl⟩
theorem span_dig (l : List UInt8) : ∀ c : UInt8, digB (c.toNat : Int) = true → spanLen c l = runLen digB l := by
  induction l with
  | nil => intro c _; rfl
  | cons d r ih =>
    intro c hc
    rw [spanLen]
    have hr : rowB (c.toNat : Int) (d.toNat : Int) = digB (d.toNat : Int) := by unfold rowB; rw [hc, dig_not_let hc]; simp
    rw [hr]
    cases hd : digB (d.toNat : Int) with
    | true => rw [if_pos rfl, ih d hd]; unfold runLen; rw [List.takeWhile_cons_of_pos (by exact hd)]; rfl
    | false => rw [if_neg (by simp)]; unfold runLen; rw [List.takeWhile_cons_of_neg (by simp [hd])]; rfl
theorem let_not_dig {n : Int} (h : letB n = true) : digB n = false := by
  simp [letB] at h
  simp [digB]
  omega
theorem span_let (l : List UInt8) : ∀ c : UInt8, letB (c.toNat : Int) = true → spanLen c l = runLen letB l := by
  induction l with
  | nil => intro c _; rfl
  | cons d r ih =>
    intro c hc
    rw [spanLen]
    have hr : rowB (c.toNat : Int) (d.toNat : Int) = letB (d.toNat : Int) := by unfold rowB; rw [hc, let_not_dig hc]; simp
    rw [hr]
    cases hd : letB (d.toNat : Int) with
    | true => rw [if_pos rfl, ih d hd]; unfold runLen; rw [List.takeWhile_cons_of_pos (by exact hd)]; rfl
    | false => rw [if_neg (by simp)]; unfold runLen; rw [List.takeWhile_cons_of_neg (by simp [hd])]; rfl
theorem span_non (l : List UInt8) (c : UInt8) (h1 : digB (c.toNat : Int) = false) (h2 : letB (c.toNat : Int) = false) : spanLen c l = 0 := by
  cases l with
  | nil => rfl
  | cons d r =>
    rw [spanLen, if_neg]
    unfold rowB
    rw [h1, h2]
    simp
theorem sign_iff (c : UInt8) : (signK (c.toNat : Int) ≠ 0) ↔ inB [c] w6sign = true := by
  have n : ∀ k : UInt8, ((c.toNat : Int) == (k.toNat : Int)) = (([k] : List UInt8) == [c]) := fun k => by
    rw [Bool.eq_iff_iff]
    simp only [beq_iff_eq, List.cons.injEq, and_true]
    constructor
    · intro h; exact (UInt8.toNat_inj.1 (by omega)).symm
    · intro h; rw [h]
  have e : inB [c] w6sign = (([40] : List UInt8) == [c] || (([41] : List UInt8) == [c] || (([44] : List UInt8) == [c] || (([91] : List UInt8) == [c] || (([93] : List UInt8) == [c] || (([42] : List UInt8) == [c] || false)))))) := rfl
  rw [e, ← n 40, ← n 41, ← n 44, ← n 91, ← n 93, ← n 42]
  unfold signK
  simp only [show ((40 : UInt8).toNat : Int) = 40 from rfl, show ((41 : UInt8).toNat : Int) = 41 from rfl, show ((44 : UInt8).toNat : Int) = 44 from rfl, show ((91 : UInt8).toNat : Int) = 91 from rfl, show ((93 : UInt8).toNat : Int) = 93 from rfl, show ((42 : UInt8).toNat : Int) = 42 from rfl]
  generalize (c.toNat : Int) = n
  cases a1 : (n == 40) <;> cases a2 : (n == 41) <;> cases a3 : (n == 44) <;> cases a4 : (n == 91) <;> cases a5 : (n == 93) <;> cases a6 : (n == 42) <;> simp
theorem run_dropc (p : Int → Bool) (s : List UInt8) (i : Nat) (h : i < s.length) : runLen p (s.drop i) = if p ((s.getD i 0).toNat : Int) then runLen p (s.drop (i + 1)) + 1 else 0 := by
  cases hp : p ((s.getD i 0).toNat : Int) with
  | true => rw [if_pos rfl]; exact run_step p s i 0 h hp
  | false => rw [if_neg (by simp)]; exact run_stop p s i 0 h hp
theorem sign_first {c : UInt8} {r : List UInt8} (h : inB (c :: r) w6sign = true) : r = [] ∧ digB (c.toNat : Int) = false ∧ letB (c.toNat : Int) = false := by
  unfold inB w6sign at h
  simp [List.any] at h
  rcases h with ⟨h, h'⟩ | ⟨h, h'⟩ | ⟨h, h'⟩ | ⟨h, h'⟩ | ⟨h, h'⟩ | ⟨h, h'⟩ <;> subst h <;> exact ⟨h', by decide, by decide⟩
/-- The program's tokens are the document's. -/
theorem size_ok (s : List UInt8) (i : Nat) (h : i < s.length) : sizeP s i = if okTok (s.getD i 0) (cut s i (tokEnd s i)) then tokEnd s i - i else 0 := by
  have hc := cut_tok s i h
  have d1 := run_dropc digB s i h
  have l1 := run_dropc letB s i h
  have hte : tokEnd s i = i + 1 + spanLen (s.getD i 0) (s.drop (i + 1)) := rfl
  have hlen : (cut s i (tokEnd s i)).length = spanLen (s.getD i 0) (s.drop (i + 1)) + 1 := by
    rw [hc]
    have := spanLen_le (s.getD i 0) (s.drop (i + 1))
    simp only [List.length_cons, List.length_take]
    omega
  have hsg := sign_iff (s.getD i 0)
  unfold sizeP okTok
  rw [hlen, hte]
  cases hd : digB ((s.getD i 0).toNat : Int) with
  | true =>
    have hl := dig_not_let hd
    have hns : inB (cut s i (tokEnd s i)) w6sign = false := by
      cases g : inB (cut s i (tokEnd s i)) w6sign with
      | false => rfl
      | true => rw [hc] at g; rw [(sign_first g).2.1] at hd; simp at hd
    rw [span_dig _ _ hd] at *
    rw [hd] at d1
    rw [hl] at l1 ⊢
    rw [← hte, hns, d1, l1]
    simp only [if_true, Bool.false_eq_true, if_false, Bool.false_or, Bool.true_and, Bool.false_and, Bool.or_false, decide_eq_true_eq]
    by_cases h3 : runLen digB (s.drop (i + 1)) + 1 ≤ 3
    · rw [if_pos h3, if_neg (by omega), if_pos (by omega)]; omega
    · rw [if_neg h3, if_pos (by omega)]
  | false =>
    cases hl : letB ((s.getD i 0).toNat : Int) with
    | true =>
      have hns : inB (cut s i (tokEnd s i)) w6sign = false := by
        cases g : inB (cut s i (tokEnd s i)) w6sign with
        | false => rfl
        | true => rw [hc] at g; rw [(sign_first g).2.2] at hl; simp at hl
      rw [span_let _ _ hl] at *
      rw [hd] at d1
      rw [hl] at l1
      rw [← hte, hns, d1, l1]
      simp only [if_true, Bool.false_eq_true, if_false, Bool.false_or, Bool.true_and, Bool.false_and, Bool.or_false, decide_eq_true_eq]
      by_cases h3 : runLen letB (s.drop (i + 1)) + 1 ≤ 8
      · rw [if_pos h3, if_neg (by omega), if_neg (by omega), if_pos (by omega)]; omega
      · rw [if_neg h3, if_pos (by omega)]
    | false =>
      have hsp := span_non (s.drop (i + 1)) _ hd hl
      rw [hsp] at hc hte ⊢
      rw [hd] at d1
      rw [hl] at l1
      rw [← hte, d1, l1, hc]
      simp only [List.take_zero, Bool.false_eq_true, if_false, Bool.false_and, Bool.or_false]
      cases g : inB [s.getD i 0] w6sign with
      | true =>
        have := hsg.2 g
        rw [if_neg (by omega), if_neg (by omega), if_neg (by omega), if_pos ⟨h, this⟩, if_pos rfl]
        omega
      | false =>
        have : ¬ signK ((s.getD i 0).toNat : Int) ≠ 0 := fun h => by rw [hsg.1 h] at g; simp at g
        rw [if_neg (by omega), if_neg (by omega), if_neg (by omega), if_neg (fun h => this h.2), if_neg (by simp)]
end Go.Proofs.YtiamjjonoeaggaaDoor

namespace Go.Proofs.YtiamjjonoeaggaaDoor
open Go.RowKit

/-- The cells of the program's tokens. -/
def ptCells (l : List Tok) : List Value := l.flatMap fun t => tokCs (kindP t.text) t.pos t.text.length (valP t.text) (padP t.text)
theorem ptCells_snoc (l : List Tok) (t : Tok) : ptCells (l ++ [t]) = ptCells l ++ tokCs (kindP t.text) t.pos t.text.length (valP t.text) (padP t.text) := by simp [ptCells]
theorem info_ptok : (Tryd.prog.info? 82).map (fun i => (i.zero, i.size, i.bytes)) = some (some (.agg #[.int .i64 0, .int .i64 0, .int .i64 0, .int .i64 0, .int .u8 0, .int .u8 0, .int .u8 0, .int .u8 0, .int .u8 0, .int .u8 0, .int .u8 0, .int .u8 0]), 12, 40) := by kernel_rfl
theorem tok_good_at (s : List UInt8) (i : Nat) (h : i < s.length) (ho : okTok (s.getD i 0) (cut s i (tokEnd s i)) = true) : cut s i (tokEnd s i) ≠ [] ∧ (cut s i (tokEnd s i)).length ≤ 8 ∧ (numB (cut s i (tokEnd s i)) = true → digs (cut s i (tokEnd s i)) = true ∧ (cut s i (tokEnd s i)).length ≤ 3) := by
  have hg : tokGood ⟨cut s i (tokEnd s i), i⟩ := by
    refine ⟨_, _, cut_tok s i h, ho, fun hd => ?_⟩
    show digs (cut s i (tokEnd s i)) = true
    rw [cut_tok s i h]
    unfold digs
    rw [List.all_cons, hd, span_digs _ _ hd]
    rfl
  exact ⟨good_ne hg, good_len hg, fun hn => ⟨(good_num hg hn).1, (good_num hg hn).2.2⟩⟩
def splitP (z : Int) : Int := if 0 ≤ z then z else 0
def splitB (z : Int) : Bool := decide (z < 0)
theorem splitP_at (i : Nat) : splitP (i : Int) = i := by unfold splitP; rw [if_pos (by omega)]
theorem splitB_at (i : Nat) : splitB (i : Int) = false := by unfold splitB; exact decide_eq_false (by omega)
def SRel (s : List UInt8) (w : World) (R : List Tok × Int) (g : Nat) (vl vi : Value) (wr : World) : Prop :=
  ∃ (i : Nat) (acc : List Tok), i ≤ s.length ∧ s.length - i ≤ g ∧ vi = .int .i64 i ∧ acc.length ≤ i ∧ wr.ownsRow w.heap.size 82 12 vl acc.length (ptCells acc) ∧ lexF s (s.length - i) i acc = R ∧ Below w.heap.size w wr
theorem srel_tok {s : List UInt8} {w w' : World} {R : List Tok × Int} {g i k : Nat} {acc : List Tok} {v' : Value} {t : List UInt8} (hT : Hid (lexF s (s.length - k) k (acc ++ [⟨t, i⟩]) = R)) (hk : k ≤ s.length) (hg : s.length - k ≤ g) (hl : acc.length + 1 ≤ k)
    (hown : w'.ownsRow w.heap.size 82 12 v' (acc.length + 1) (ptCells acc ++ tokCs (kindP t) i t.length (valP t) (padP t))) (hb : Below w.heap.size w w') {x : Int} (hx : x = (k : Int)) : SRel s w R g v' (.int .i64 x) w' := by
  refine ⟨k, acc ++ [Tok.mk t i], hk, hg, by rw [hx], by simpa using hl, ?_, hT.out, hb⟩
  rw [ptCells_snoc]
  simpa using hown
set_option maxRecDepth 100000 in
set_option maxHeartbeats 4000000 in
theorem tok_Split (s : List UInt8) (hs : s.length ≤ 240) (w : World) :
    Calls Tryd.prog 15 #[bs s] w fun e w' => ∃ v, e = .returned (.tuple #[v, .int .i64 (splitP (lexR s).2), .bool (splitB (lexR s).2)]) ∧ (splitB (lexR s).2 = true → w'.ownsRow w.heap.size 82 12 v ((lexR s).1.length + 1) (ptCells (lexR s).1 ++ tokCs 0 s.length 0 0 [])) ∧ Below w.heap.size w w' := by
  have hR : lexF s (s.length - 0) 0 [] = lexR s := rfl
  generalize lexR s = R at *
  have HR := hide hR
  clear hR
  have hext := ext_mk s
  have HEx := hide hext
  clear hext
  obtain ⟨i0, hi0, hz0, hz1, hz2⟩ := info_parts info_ptok
  go_enter Tryd.func15, Tryd.ntmps15
  go_wp2_with fail
  go_loopg [5, 6] (s.length) (fun g vl vi wr => SRel s w R g vl vi wr)
  case atStart => exact ⟨0, [], Nat.zero_le _, by omega, rfl, Nat.le_refl _, World.ownsRow_nil _ _ _ _, HR.out, Below.refl _ _⟩
  case round =>
    obtain ⟨i, acc, hi, hg, rfl, hai, hown, hL, hbel⟩ := hrel
    have HL := hide hL
    have HGk := hide hg
    clear HR hL hg
    by_cases hlt : i < s.length
    · have hat := at_mk s i hlt
      have hBk := tok_isBlank (s.getD i 0)
      have hSz := tok_sizeAt s hs i hlt
      have HBl := hide (fun hb => lex_blank HL.out hlt hb)
      have HTk := hide (fun hb ho => lex_tok HL.out hlt hb ho)
      have HBd := hide (fun hb ho => lex_bad HL.out hlt hb ho)
      have HSz := hide (size_ok s i hlt)
      have hte := tokEnd_le s i hlt
      have hte1 : i + 1 ≤ tokEnd s i := by unfold tokEnd; omega
      have HGd := hide (fun ho => tok_good_at s i hlt ho)
      generalize hcd : s.getD i 0 = c at *
      clear hcd HL
      cases hb : isBlank c with
      | true =>
        have HB := hide (HBl.out hb)
        rw [hb] at hBk
        clear HBl HTk HBd hb HGd
        go_wp2_with fail
        refine (hBk _).mono ?_
        rintro e w1 ⟨rfl, rfl⟩
        go_wp2_with fail
        have hg1 : 0 < gk := by have := HGk.out; omega
        go_roundg (gk - 1)
        case measure => omega
        case rel => exact ⟨i + 1, acc, by omega, by have := HGk.out; omega, by go_num, by omega, hown, HB.out, hbel⟩
      | false =>
        have HTk := hide (HTk.out hb)
        have HBd := hide (HBd.out hb)
        rw [hb] at hBk
        clear HBl hb
        cases ho : okTok c (cut s i (tokEnd s i)) with
        | false =>
          have hsz : sizeP s i = 0 := by rw [HSz.out, ho]; rfl
          have HRb := hide (HBd.out ho)
          rw [hsz] at hSz
          clear hsz ho HTk HBd HGd
          go_wp2_with fail
          refine (hBk _).mono ?_
          rintro e w1 ⟨rfl, rfl⟩
          go_wp2_with fail
          refine (hSz _).mono ?_
          rintro e w1 ⟨rfl, rfl⟩
          go_wp2_with fail
          go_ret3
          have := HRb.out
          subst this
          exact ⟨.slice none 0 0, by rw [show splitP (([] : List Tok), (i : Int)).2 = i from splitP_at i, show splitB (([] : List Tok), (i : Int)).2 = false from splitB_at i]; rfl, fun h => absurd h (by rw [show splitB (([] : List Tok), (i : Int)).2 = false from splitB_at i]; simp), hbel⟩
        | true =>
          have hsz : sizeP s i = tokEnd s i - i := by rw [HSz.out, ho]; rfl
          have HRt := hide (HTk.out ho)
          obtain ⟨g0, g8, gd⟩ := HGd.out ho
          have hRd := tok_read (cut s i (tokEnd s i)) g0 g8 gd
          have hx := HEx.out i (tokEnd s i)
          have hcl : (cut s i (tokEnd s i)).length = tokEnd s i - i := by unfold cut; simp; omega
          rw [hsz] at hSz
          rw [hcl] at hRd
          clear hsz ho HTk HBd HGd g0 g8 gd HSz
          generalize tokEnd s i = te at *
          generalize cut s i te = t at *
          have HCL := hide hcl
          clear hcl
          generalize hkk : kindP t = kk at *
          generalize hvv : valP t = vv at *
          generalize hnn : padP t = n at *
          have HKK := hide hkk
          have HVV := hide hvv
          have HNN := hide hnn
          clear hkk hvv hnn
          have e1 : ((te - i : Nat) : Int) = (te : Int) - i := by omega
          rw [e1] at hSz hRd
          clear e1
          have hnz : ((te : Int) - i == 0) = false := by simp; omega
          have hx' : (ByteArray.mk s.toArray).extract i (i + (te - i)) = ByteArray.mk t.toArray := by rw [show i + (te - i) = te from by omega]; exact hx
          clear hx
          go_wp2_with fail
          refine (hBk _).mono ?_
          rintro e w1 ⟨rfl, rfl⟩
          go_wp2_with fail
          refine (hSz _).mono ?_
          rintro e w1 ⟨rfl, rfl⟩
          go_wp2_with fail
          refine (hRd _).mono ?_
          rintro e w2 ⟨rfl, hb2⟩
          have b2 := hbel.trans (hb2.mono hbel.size)
          have hown2 := ownsRow_below hown hb2
          clear hb2 hbel hown
          go_wp2_with (at_builtin; refine wp_app1 rfl (.tmp 34) (.tmp 36) 61 82 rfl Tryd.underlying61 hi0 hz0 hz1 hz2 rfl (by decide) w w.heap.size _ _ _ (tokCs kk i ((te : Int) - i) vv n) (w2.alloc (.cells #[.int .i64 kk, .int .i64 i, .int .i64 ((te : Int) - i), .int .i64 vv, .int .u8 (padC n 0), .int .u8 (padC n 1), .int .u8 (padC n 2), .int .u8 (padC n 3), .int .u8 (padC n 4), .int .u8 (padC n 5), .int .u8 (padC n 6), .int .u8 (padC n 7)] 82)) rfl (hown2.alloc _) (by simp [Act.eval]) rfl (by simp [tokCs, Value.oneCell']) (by omega) (by decide) (b2.alloc b2.size _) (by have := b2.size; simp; omega) ?_; intro v' w' hown' hbel' hne)
          have hg1 : 0 < gk := by have := HGk.out; omega
          go_roundg (gk - 1)
          case measure => omega
          case rel =>
            refine srel_tok (k := te) (t := t) (i := i) (acc := acc) HRt hte (by have := HGk.out; omega) (by omega) ?_ hbel' (by omega)
            rw [HKK.out, HVV.out, HNN.out, show (t.length : Int) = (te : Int) - i from by have := HCL.out; omega]
            exact hown'
    · have HRd := hide (lex_done HL.out (by omega))
      clear HL
      go_wp2_with (at_builtin; refine wp_app1 rfl (.tmp 41) (.tmp 45) 61 82 rfl Tryd.underlying61 hi0 hz0 hz1 hz2 rfl (by decide) w w.heap.size _ _ _ (tokCs 0 s.length 0 0 []) wr rfl hown (by simp [Act.eval]) rfl (by simp [tokCs, Value.oneCell']) (by omega) (by decide) hbel (by have := hbel.size; omega) ?_; intro v' w' hown' hbel' hne)
      go_ret3
      have := HRd.out
      subst this
      exact ⟨v', rfl, fun _ => hown', hbel'⟩
end Go.Proofs.YtiamjjonoeaggaaDoor
