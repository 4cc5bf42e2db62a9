import Derived.Test.YtiamjjonoeaggaaDoorRefC
namespace Go.Proofs.YtiamjjonoeaggaaDoor
open Go.RowKit

theorem becomes_other (sym t : List UInt8) (h1 : (sym == [69, 78, 68]) = false) (h2 : (sym == [65, 82, 71]) = false) (h3 : (sym == [77, 79, 82, 69]) = false) (h4 : sym ≠ []) (h5 : sym.head? ≠ some 70) (w : World) :
    Calls Tryd.prog 37 #[bs sym, bs t] w fun e w' => e = .returned (.tuple #[.slice none 0 0, .bool false]) ∧ w' = w := by
  cases sym with
  | nil => exact absurd rfl h4
  | cons c r =>
    have h6 : ((c.toNat : Int) != 70) = true := by
      rw [bne_iff_ne]
      intro e
      apply h5
      have : c = 70 := UInt8.toNat_inj.1 (by show c.toNat = 70; omega)
      rw [this]; rfl
    clear h4 h5
    have e0 : ((ByteArray.mk (c :: r).toArray)[0]'(by exact Nat.succ_pos _)) = c := rfl
    go_enter Tryd.func37, Tryd.ntmps37
    go_wp2_with fail
    go_ret2
    exact ⟨rfl, rfl⟩

def fNext (t : List UInt8) (d : Nat) : List (List UInt8) :=
  if 8 < d then [[78, 79, 78, 69]] else if isNameB t then [[78, 65, 77, 69], [40], [65, 82, 71], [77, 79, 82, 69], [41]] else if t == [101, 120, 105, 115, 116, 115] || isPlainB t || isOneB t || isTwoB t then bodyS t d else [[116, 114, 117, 101]]

theorem bel4 {w a b c d : World} (h1 : Below w.heap.size w a) (h2 : Below a.heap.size a b) (h3 : Below b.heap.size b c) (h4 : Below c.heap.size c d) : Below w.heap.size w d := by
  have g1 := h1.trans (h2.mono h1.size)
  have g2 := g1.trans (h3.mono g1.size)
  exact g2.trans (h4.mono g2.size)
theorem bel3 {w a b c : World} (h1 : Below w.heap.size w a) (h2 : Below a.heap.size a b) (h3 : Below b.heap.size b c) : Below w.heap.size w c := by
  have g1 := h1.trans (h2.mono h1.size)
  exact g1.trans (h3.mono g1.size)
theorem bel2 {w a b : World} (h1 : Below w.heap.size w a) (h2 : Below a.heap.size a b) : Below w.heap.size w b := h1.trans (h2.mono h1.size)

set_option maxHeartbeats 2000000 in
theorem becomes_core (t : List UInt8) (c : UInt8) (d : Nat) (hd1 : 1 ≤ d) (hd9 : d ≤ 9) (nm ex pl on tw : Bool)
    (A : ∀ w, Calls Tryd.prog 41 #[.string ((ByteArray.mk #[70, c]).extract 1 2)] w fun e w' => e = .returned (.tuple #[.int .i64 d, .nilIface]) ∧ Below w.heap.size w w')
    (N : ∀ w, Calls Tryd.prog 43 #[bs t] w fun e w' => e = .returned (.bool nm) ∧ Below w.heap.size w w')
    (X : (t == [101, 120, 105, 115, 116, 115]) = ex)
    (P1 : ∀ w, Calls Tryd.prog 60 #[bs t] w fun e w' => e = .returned (.bool pl) ∧ Below w.heap.size w w')
    (P2 : ∀ w, Calls Tryd.prog 39 #[bs t] w fun e w' => e = .returned (.bool on) ∧ Below w.heap.size w w')
    (P3 : ∀ w, Calls Tryd.prog 40 #[bs t] w fun e w' => e = .returned (.bool tw) ∧ Below w.heap.size w w')
    (B : d ≤ 8 → ∀ w, Calls Tryd.prog 61 #[bs t, .int .i64 d] w fun e w' => ∃ v, e = .returned v ∧ StrSl w' v (bodyS t d) ∧ Below w.heap.size w w') (w : World) :
    Calls Tryd.prog 37 #[bs [70, c], bs t] w fun e w' => ∃ v, e = .returned (.tuple #[v, .bool true]) ∧ StrSl w' v (if 8 < d then [[78, 79, 78, 69]] else if nm then [[78, 65, 77, 69], [40], [65, 82, 71], [77, 79, 82, 69], [41]] else if ex || pl || on || tw then bodyS t d else [[116, 114, 117, 101]]) ∧ Below w.heap.size w w' := by
  by_cases h8 : 8 < d
  · rw [if_pos h8]
    cases ex with
    | true =>
      go_enter Tryd.func37, Tryd.ntmps37
      go_wp2_with fail
      refine (A _).mono ?_
      rintro e w1 ⟨rfl, qw1⟩
      go_wp2_with fail
      refine (N _).mono ?_
      rintro e w2 ⟨rfl, qw2⟩
      go_wp2_with fail
      go_ret2
      exact ⟨_, rfl, StrSl_lit w2 [[78, 79, 78, 69]] 9 (by simp), (bel2 qw1 qw2).alloc (bel2 qw1 qw2).size _⟩
    | false =>
      cases pl with
      | true =>
        go_enter Tryd.func37, Tryd.ntmps37
        go_wp2_with fail
        refine (A _).mono ?_
        rintro e w1 ⟨rfl, qw1⟩
        go_wp2_with fail
        refine (N _).mono ?_
        rintro e w2 ⟨rfl, qw2⟩
        go_wp2_with fail
        refine (P1 _).mono ?_
        rintro e w3 ⟨rfl, qw3⟩
        go_wp2_with fail
        go_ret2
        exact ⟨_, rfl, StrSl_lit w3 [[78, 79, 78, 69]] 9 (by simp), (bel2 (bel2 qw1 qw2) qw3).alloc (bel2 (bel2 qw1 qw2) qw3).size _⟩
      | false =>
        cases on with
        | true =>
          go_enter Tryd.func37, Tryd.ntmps37
          go_wp2_with fail
          refine (A _).mono ?_
          rintro e w1 ⟨rfl, qw1⟩
          go_wp2_with fail
          refine (N _).mono ?_
          rintro e w2 ⟨rfl, qw2⟩
          go_wp2_with fail
          refine (P1 _).mono ?_
          rintro e w3 ⟨rfl, qw3⟩
          go_wp2_with fail
          refine (P2 _).mono ?_
          rintro e w4 ⟨rfl, qw4⟩
          go_wp2_with fail
          go_ret2
          exact ⟨_, rfl, StrSl_lit w4 [[78, 79, 78, 69]] 9 (by simp), (bel2 (bel2 (bel2 qw1 qw2) qw3) qw4).alloc (bel2 (bel2 (bel2 qw1 qw2) qw3) qw4).size _⟩
        | false =>
          cases tw with
          | true =>
            go_enter Tryd.func37, Tryd.ntmps37
            go_wp2_with fail
            refine (A _).mono ?_
            rintro e w1 ⟨rfl, qw1⟩
            go_wp2_with fail
            refine (N _).mono ?_
            rintro e w2 ⟨rfl, qw2⟩
            go_wp2_with fail
            refine (P1 _).mono ?_
            rintro e w3 ⟨rfl, qw3⟩
            go_wp2_with fail
            refine (P2 _).mono ?_
            rintro e w4 ⟨rfl, qw4⟩
            go_wp2_with fail
            refine (P3 _).mono ?_
            rintro e w5 ⟨rfl, qw5⟩
            go_wp2_with fail
            go_ret2
            exact ⟨_, rfl, StrSl_lit w5 [[78, 79, 78, 69]] 9 (by simp), (bel2 (bel2 (bel2 (bel2 qw1 qw2) qw3) qw4) qw5).alloc (bel2 (bel2 (bel2 (bel2 qw1 qw2) qw3) qw4) qw5).size _⟩
          | false =>
            go_enter Tryd.func37, Tryd.ntmps37
            go_wp2_with fail
            refine (A _).mono ?_
            rintro e w1 ⟨rfl, qw1⟩
            go_wp2_with fail
            refine (N _).mono ?_
            rintro e w2 ⟨rfl, qw2⟩
            go_wp2_with fail
            refine (P1 _).mono ?_
            rintro e w3 ⟨rfl, qw3⟩
            go_wp2_with fail
            refine (P2 _).mono ?_
            rintro e w4 ⟨rfl, qw4⟩
            go_wp2_with fail
            refine (P3 _).mono ?_
            rintro e w5 ⟨rfl, qw5⟩
            go_wp2_with fail
            go_ret2
            exact ⟨_, rfl, StrSl_lit w5 [[78, 79, 78, 69]] 9 (by simp), (bel2 (bel2 (bel2 (bel2 qw1 qw2) qw3) qw4) qw5).alloc (bel2 (bel2 (bel2 (bel2 qw1 qw2) qw3) qw4) qw5).size _⟩
  · rw [if_neg h8]
    cases nm with
    | true =>
      rw [if_pos rfl]
      cases ex with
      | true =>
        go_enter Tryd.func37, Tryd.ntmps37
        go_wp2_with fail
        refine (A _).mono ?_
        rintro e w1 ⟨rfl, qw1⟩
        go_wp2_with fail
        refine (N _).mono ?_
        rintro e w2 ⟨rfl, qw2⟩
        go_wp2_with fail
        go_ret2
        exact ⟨_, rfl, StrSl_lit w2 [[78, 65, 77, 69], [40], [65, 82, 71], [77, 79, 82, 69], [41]] 9 (by simp), (bel2 qw1 qw2).alloc (bel2 qw1 qw2).size _⟩
      | false =>
        cases pl with
        | true =>
          go_enter Tryd.func37, Tryd.ntmps37
          go_wp2_with fail
          refine (A _).mono ?_
          rintro e w1 ⟨rfl, qw1⟩
          go_wp2_with fail
          refine (N _).mono ?_
          rintro e w2 ⟨rfl, qw2⟩
          go_wp2_with fail
          refine (P1 _).mono ?_
          rintro e w3 ⟨rfl, qw3⟩
          go_wp2_with fail
          go_ret2
          exact ⟨_, rfl, StrSl_lit w3 [[78, 65, 77, 69], [40], [65, 82, 71], [77, 79, 82, 69], [41]] 9 (by simp), (bel2 (bel2 qw1 qw2) qw3).alloc (bel2 (bel2 qw1 qw2) qw3).size _⟩
        | false =>
          cases on with
          | true =>
            go_enter Tryd.func37, Tryd.ntmps37
            go_wp2_with fail
            refine (A _).mono ?_
            rintro e w1 ⟨rfl, qw1⟩
            go_wp2_with fail
            refine (N _).mono ?_
            rintro e w2 ⟨rfl, qw2⟩
            go_wp2_with fail
            refine (P1 _).mono ?_
            rintro e w3 ⟨rfl, qw3⟩
            go_wp2_with fail
            refine (P2 _).mono ?_
            rintro e w4 ⟨rfl, qw4⟩
            go_wp2_with fail
            go_ret2
            exact ⟨_, rfl, StrSl_lit w4 [[78, 65, 77, 69], [40], [65, 82, 71], [77, 79, 82, 69], [41]] 9 (by simp), (bel2 (bel2 (bel2 qw1 qw2) qw3) qw4).alloc (bel2 (bel2 (bel2 qw1 qw2) qw3) qw4).size _⟩
          | false =>
            cases tw with
            | true =>
              go_enter Tryd.func37, Tryd.ntmps37
              go_wp2_with fail
              refine (A _).mono ?_
              rintro e w1 ⟨rfl, qw1⟩
              go_wp2_with fail
              refine (N _).mono ?_
              rintro e w2 ⟨rfl, qw2⟩
              go_wp2_with fail
              refine (P1 _).mono ?_
              rintro e w3 ⟨rfl, qw3⟩
              go_wp2_with fail
              refine (P2 _).mono ?_
              rintro e w4 ⟨rfl, qw4⟩
              go_wp2_with fail
              refine (P3 _).mono ?_
              rintro e w5 ⟨rfl, qw5⟩
              go_wp2_with fail
              go_ret2
              exact ⟨_, rfl, StrSl_lit w5 [[78, 65, 77, 69], [40], [65, 82, 71], [77, 79, 82, 69], [41]] 9 (by simp), (bel2 (bel2 (bel2 (bel2 qw1 qw2) qw3) qw4) qw5).alloc (bel2 (bel2 (bel2 (bel2 qw1 qw2) qw3) qw4) qw5).size _⟩
            | false =>
              go_enter Tryd.func37, Tryd.ntmps37
              go_wp2_with fail
              refine (A _).mono ?_
              rintro e w1 ⟨rfl, qw1⟩
              go_wp2_with fail
              refine (N _).mono ?_
              rintro e w2 ⟨rfl, qw2⟩
              go_wp2_with fail
              refine (P1 _).mono ?_
              rintro e w3 ⟨rfl, qw3⟩
              go_wp2_with fail
              refine (P2 _).mono ?_
              rintro e w4 ⟨rfl, qw4⟩
              go_wp2_with fail
              refine (P3 _).mono ?_
              rintro e w5 ⟨rfl, qw5⟩
              go_wp2_with fail
              go_ret2
              exact ⟨_, rfl, StrSl_lit w5 [[78, 65, 77, 69], [40], [65, 82, 71], [77, 79, 82, 69], [41]] 9 (by simp), (bel2 (bel2 (bel2 (bel2 qw1 qw2) qw3) qw4) qw5).alloc (bel2 (bel2 (bel2 (bel2 qw1 qw2) qw3) qw4) qw5).size _⟩
    | false =>
      rw [if_neg (by simp)]
      cases ex with
      | true =>
        go_enter Tryd.func37, Tryd.ntmps37
        go_wp2_with fail
        refine (A _).mono ?_
        rintro e w1 ⟨rfl, qw1⟩
        go_wp2_with fail
        refine (N _).mono ?_
        rintro e w2 ⟨rfl, qw2⟩
        go_wp2_with fail
        refine (B (by omega) _).mono ?_
        rintro e wb ⟨v, rfl, hv, qwb⟩
        go_wp2_with fail
        go_ret2
        exact ⟨_, rfl, hv, bel2 (bel2 qw1 qw2) qwb⟩
      | false =>
        cases pl with
        | true =>
          go_enter Tryd.func37, Tryd.ntmps37
          go_wp2_with fail
          refine (A _).mono ?_
          rintro e w1 ⟨rfl, qw1⟩
          go_wp2_with fail
          refine (N _).mono ?_
          rintro e w2 ⟨rfl, qw2⟩
          go_wp2_with fail
          refine (P1 _).mono ?_
          rintro e w3 ⟨rfl, qw3⟩
          go_wp2_with fail
          refine (B (by omega) _).mono ?_
          rintro e wb ⟨v, rfl, hv, qwb⟩
          go_wp2_with fail
          go_ret2
          exact ⟨_, rfl, hv, bel2 (bel2 (bel2 qw1 qw2) qw3) qwb⟩
        | false =>
          cases on with
          | true =>
            go_enter Tryd.func37, Tryd.ntmps37
            go_wp2_with fail
            refine (A _).mono ?_
            rintro e w1 ⟨rfl, qw1⟩
            go_wp2_with fail
            refine (N _).mono ?_
            rintro e w2 ⟨rfl, qw2⟩
            go_wp2_with fail
            refine (P1 _).mono ?_
            rintro e w3 ⟨rfl, qw3⟩
            go_wp2_with fail
            refine (P2 _).mono ?_
            rintro e w4 ⟨rfl, qw4⟩
            go_wp2_with fail
            refine (B (by omega) _).mono ?_
            rintro e wb ⟨v, rfl, hv, qwb⟩
            go_wp2_with fail
            go_ret2
            exact ⟨_, rfl, hv, bel2 (bel2 (bel2 (bel2 qw1 qw2) qw3) qw4) qwb⟩
          | false =>
            cases tw with
            | true =>
              go_enter Tryd.func37, Tryd.ntmps37
              go_wp2_with fail
              refine (A _).mono ?_
              rintro e w1 ⟨rfl, qw1⟩
              go_wp2_with fail
              refine (N _).mono ?_
              rintro e w2 ⟨rfl, qw2⟩
              go_wp2_with fail
              refine (P1 _).mono ?_
              rintro e w3 ⟨rfl, qw3⟩
              go_wp2_with fail
              refine (P2 _).mono ?_
              rintro e w4 ⟨rfl, qw4⟩
              go_wp2_with fail
              refine (P3 _).mono ?_
              rintro e w5 ⟨rfl, qw5⟩
              go_wp2_with fail
              refine (B (by omega) _).mono ?_
              rintro e wb ⟨v, rfl, hv, qwb⟩
              go_wp2_with fail
              go_ret2
              exact ⟨_, rfl, hv, bel2 (bel2 (bel2 (bel2 (bel2 qw1 qw2) qw3) qw4) qw5) qwb⟩
            | false =>
              go_enter Tryd.func37, Tryd.ntmps37
              go_wp2_with fail
              refine (A _).mono ?_
              rintro e w1 ⟨rfl, qw1⟩
              go_wp2_with fail
              refine (N _).mono ?_
              rintro e w2 ⟨rfl, qw2⟩
              go_wp2_with fail
              refine (P1 _).mono ?_
              rintro e w3 ⟨rfl, qw3⟩
              go_wp2_with fail
              refine (P2 _).mono ?_
              rintro e w4 ⟨rfl, qw4⟩
              go_wp2_with fail
              refine (P3 _).mono ?_
              rintro e w5 ⟨rfl, qw5⟩
              go_wp2_with fail
              go_ret2
              exact ⟨_, rfl, StrSl_lit w5 [[116, 114, 117, 101]] 9 (by simp), (bel2 (bel2 (bel2 (bel2 qw1 qw2) qw3) qw4) qw5).alloc (bel2 (bel2 (bel2 (bel2 qw1 qw2) qw3) qw4) qw5).size _⟩

theorem becomes_f (t : List UInt8) (d : Nat) (hd1 : 1 ≤ d) (hd9 : d ≤ 9) (w : World) :
    Calls Tryd.prog 37 #[bs (fSym d), bs t] w fun e w' => ∃ v, e = .returned (.tuple #[v, .bool true]) ∧ StrSl w' v (fNext t d) ∧ Below w.heap.size w w' := by
  have hx : (ByteArray.mk #[70, UInt8.ofNat (48 + d)]).extract 1 2 = ByteArray.mk #[UInt8.ofNat (48 + d)] := by
    apply ByteArray.ext
    simp
  have hdg : digs [UInt8.ofNat (48 + d)] = true ∧ numV [UInt8.ofNat (48 + d)] = d := by
    rcases (by omega : d = 1 ∨ d = 2 ∨ d = 3 ∨ d = 4 ∨ d = 5 ∨ d = 6 ∨ d = 7 ∨ d = 8 ∨ d = 9) with rfl | rfl | rfl | rfl | rfl | rfl | rfl | rfl | rfl <;> decide
  refine becomes_core t (UInt8.ofNat (48 + d)) d hd1 hd9 _ _ _ _ _ (fun w => ?_) (ref_isName t) rfl (ref_isPlain t) (ref_isOne t) (ref_isTwo t) (fun h => ref_body t d (by omega)) w
  rw [hx]
  have := ref_atoi [UInt8.ofNat (48 + d)] (by simp) (by simp) hdg.1 w
  rw [hdg.2] at this
  exact this

def fitsB (sym t : List UInt8) : Bool := match t with
  | [] => false
  | c :: _ => if sym == [78, 85, 77] then digB (c.toNat : Int) else if sym == [86, 65, 82] then (t == [120] || t == [121]) else if sym == [78, 65, 77, 69] then isNameB t else sym == t
theorem fitsB_cons (sym : List UInt8) (c : UInt8) (r : List UInt8) : fitsB sym (c :: r) = if sym == [78, 85, 77] then digB (c.toNat : Int) else if sym == [86, 65, 82] then (c :: r == [120] || c :: r == [121]) else if sym == [78, 65, 77, 69] then isNameB (c :: r) else sym == c :: r := rfl
set_option maxHeartbeats 800000 in
theorem ref_fits (sym t : List UInt8) (w : World) :
    Calls Tryd.prog 38 #[bs sym, bs t] w fun e w' => e = .returned (.bool (fitsB sym t)) ∧ Below w.heap.size w w' := by
  cases t with
  | nil =>
    go_enter Tryd.func38, Tryd.ntmps38
    go_wp2_with fail
    go_ret
    exact ⟨rfl, Below.refl _ _⟩
  | cons c r =>
    have N := ref_isName (c :: r)
    have D := ref_isDigit (c.toNat : Int)
    rw [fitsB_cons]
    generalize isNameB (c :: r) = nm at *
    generalize digB (c.toNat : Int) = dg at *
    generalize h1 : (sym == [78, 85, 77]) = s1
    generalize h2 : (sym == [86, 65, 82]) = s2
    generalize h3 : (sym == [78, 65, 77, 69]) = s3
    have e0 : ((ByteArray.mk (c :: r).toArray)[0]'(by exact Nat.succ_pos _)) = c := rfl
    cases s1 with
    | true =>
      go_enter Tryd.func38, Tryd.ntmps38
      go_wp2_with fail
      refine (D _).mono ?_
      rintro e w1 ⟨rfl, rfl⟩
      go_wp2_with fail
      go_ret
      exact ⟨rfl, Below.refl _ _⟩
    | false =>
      cases s2 with
      | true =>
        generalize h4 : (c :: r == [120]) = x1
        generalize h5 : (c :: r == [121]) = x2
        cases x1
        all_goals
          go_enter Tryd.func38, Tryd.ntmps38
          go_wp2_with fail
          go_ret
          exact ⟨rfl, Below.refl _ _⟩
      | false =>
        cases s3 with
        | true =>
          go_enter Tryd.func38, Tryd.ntmps38
          go_wp2_with fail
          refine (N _).mono ?_
          rintro e w1 ⟨rfl, hb⟩
          go_wp2_with fail
          go_ret
          exact ⟨rfl, hb⟩
        | false =>
          generalize h6 : (sym == c :: r) = x1
          go_enter Tryd.func38, Tryd.ntmps38
          go_wp2_with fail
          go_ret
          exact ⟨rfl, Below.refl _ _⟩
end Go.Proofs.YtiamjjonoeaggaaDoor
