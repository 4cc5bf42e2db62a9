import Derived.Test.YtiamjjonoeaggaaDoorLex
import Derived.Test.YtiamjjonoeaggaaDoorMem
import Derived.Deep.QuietTactic
import Derived.BigQuiet
namespace Go.Proofs.YtiamjjonoeaggaaDoor
open Go.RowKit

theorem in_w6sign (t : List UInt8) (w : World) :
    Calls Tryd.prog 42 #[bs t, .slice (some ⟨w.heap.size, 0, none⟩) 6 6] (w.alloc (.cells #[bs [40], bs [41], bs [44], bs [91], bs [93], bs [42]] 9)) fun e w' => e = .returned (.bool (inB t w6sign)) ∧ w' = w.alloc (.cells #[bs [40], bs [41], bs [44], bs [91], bs [93], bs [42]] 9) :=
  ref_in t _ w6sign _ (StrSl_lit w w6sign 9 (by decide))

theorem blank_cases (c : UInt8) : (isBlank c = true ∧ (c = 32 ∨ c = 10)) ∨ (isBlank c = false ∧ ((c.toNat : Int) == 32) = false ∧ ((c.toNat : Int) == 10) = false) := by
  by_cases h1 : c = 32
  · subst h1; exact .inl ⟨rfl, .inl rfl⟩
  · by_cases h2 : c = 10
    · subst h2; exact .inl ⟨rfl, .inr rfl⟩
    · refine .inr ⟨by simp [isBlank, h1, h2], beq_eq_false_iff_ne.2 fun e => h1 (UInt8.toNat_inj.1 (by show c.toNat = 32; omega)), beq_eq_false_iff_ne.2 fun e => h2 (UInt8.toNat_inj.1 (by show c.toNat = 10; omega))⟩

theorem at_mk (s : List UInt8) (i : Nat) (h : i < s.length) : ((ByteArray.mk s.toArray)[i]'(by exact h)) = s.getD i 0 := by
  show s[i] = _
  simp [List.getD, h]

def boolN : Value → Nat
  | .bool true => 1
  | _ => 0
theorem owns_drewN {w : World} {base : Nat} {e : TypeId} {size : Nat} {v : Value} {n : Nat} {xs : List Value} (m : Nat) (h : w.ownsRow base e size v n xs) : (w.drewN m).ownsRow base e size v n xs := by
  induction m generalizing w with
  | zero => exact h
  | succ m ih => exact ih h.drew
theorem bel_drewN {B : Nat} {a w : World} (m : Nat) (h : Below B a w) : Below B a (w.drewN m) := below_drewN h m

theorem tok_rel {s : List UInt8} {R : List Tok × Int} {w w' : World} {v' : Value} {acc : List Tok} {t : List UInt8} {i k : Nat} {ok b : Bool} (hG : Hid (b = ok)) (hT : Hid (ok = true → lexF s (s.length - k) k (acc ++ [⟨t, i⟩]) = R))
    (hown : w'.ownsRow w.heap.size 73 2 v' (acc.length + 1) (tokCells acc ++ [bs t, .int .i64 i])) (hb : Below w.heap.size w w') (hk : k ≤ s.length) (hl : acc.length + 1 ≤ k) (hbt : b = true) :
    ∃ (i' : Nat) (acc' : List Tok), i' ≤ s.length ∧ (.int .i64 (k : Int) : Value) = .int .i64 i' ∧ acc'.length ≤ i' ∧ w'.ownsRow w.heap.size 73 2 v' acc'.length (tokCells acc') ∧ Hid (lexF s (s.length - i') i' acc' = R) ∧ Below w.heap.size w w' := by
  refine ⟨k, acc ++ [Tok.mk t i], hk, rfl, by simpa using hl, ?_, hT.out (hG.out.symm.trans hbt), hb⟩
  rw [tokCells_snoc]
  simpa using hown
theorem tok_done {R : List Tok × Int} {w w' : World} {acc : List Tok} {v : Value} (hR : Hid (R = (acc, -1))) (hown : w'.ownsRow w.heap.size 73 2 v acc.length (tokCells acc)) (hb : Below w.heap.size w w') :
    ∃ v', Ending.returned (.tuple #[v, .int .i64 (-1)]) = .returned (.tuple #[v', .int .i64 R.2]) ∧ w'.ownsRow w.heap.size 73 2 v' R.1.length (tokCells R.1) ∧ Below w.heap.size w w' := by
  have := hR.out
  subst this
  exact ⟨_, rfl, hown, hb⟩
theorem l8t {n : Nat} (h : (!decide ((n : Int) ≤ 8)) = true) : decide (n ≤ 8) = false := by simp at *; omega
theorem l8f {n : Nat} (h : (!decide ((n : Int) ≤ 8)) = false) : decide (n ≤ 8) = true := by simp at *; omega
theorem l3t {n : Nat} (h : (!decide ((n : Int) ≤ 3)) = true) : decide (n ≤ 3) = false := by simp at *; omega
theorem l3f {n : Nat} (h : (!decide ((n : Int) ≤ 3)) = false) : decide (n ≤ 3) = true := by simp at *; omega
theorem l38t {n : Nat} (h : (!decide ((n : Int) ≤ 3)) = true ∧ (!decide ((n : Int) ≤ 8)) = true) : decide (n ≤ 3) = false ∧ decide (n ≤ 8) = false := ⟨l3t h.1, l8t h.2⟩
theorem l38f {n : Nat} (h : (!decide ((n : Int) ≤ 3)) = false ∨ (!decide ((n : Int) ≤ 8)) = false) : (decide (n ≤ 3) || decide (n ≤ 8)) = true := by
  rcases h with h | h
  · rw [l3f h]; rfl
  · rw [l8f h]; simp
theorem l3t' {n : Nat} (h : 3 < (n : Int)) : decide (n ≤ 3) = false := by simp; omega
theorem l3f' {n : Nat} (h : (n : Int) ≤ 3) : decide (n ≤ 3) = true := by simp; omega
theorem l3g {n : Nat} (h : ¬ 3 < (n : Int)) : decide (n ≤ 3) = true := by simp; omega
theorem tok_bad {R : List Tok × Int} {w w' : World} {i : Nat} {ok b : Bool} {e : Ending} (hG : Hid (b = ok)) (hB : Hid (ok = false → R = ([], (i : Int)))) (hb : Below w.heap.size w w') (hbf : b = false) (he : e = .returned (.tuple #[.slice none 0 0, .int .i64 (i : Int)])) :
    ∃ v, e = .returned (.tuple #[v, .int .i64 R.2]) ∧ w'.ownsRow w.heap.size 73 2 v R.1.length (tokCells R.1) ∧ Below w.heap.size w w' := by
  have := hB.out (hG.out.symm.trans hbf)
  subst this
  exact ⟨_, he, World.ownsRow_nil _ _ _ _, hb⟩

set_option maxRecDepth 100000 in
set_option maxHeartbeats 4000000 in
theorem ref_Tokens (s : List UInt8) (hs : s.length ≤ 240) (w : World) :
    Calls Tryd.prog 36 #[bs s] w fun e w' => ∃ v, e = .returned (.tuple #[v, .int .i64 (lexR s).2]) ∧ w'.ownsRow w.heap.size 73 2 v (lexR s).1.length (tokCells (lexR s).1) ∧ Below w.heap.size w w' := by
  have hR : lexF s (s.length - 0) 0 [] = lexR s := rfl
  generalize lexR s = R at *
  have HR := hide hR
  clear hR
  have hext := ext_mk s
  obtain ⟨i0, hi0, hz0, hz1, hz2⟩ := info_parts info_tok
  go_enter Tryd.func36, Tryd.ntmps36
  go_wp2_with fail
  go_loopw [4, 5] (fun l vi wr => ∃ (i : Nat) (acc : List Tok), i ≤ s.length ∧ vi = .int .i64 i ∧ acc.length ≤ i ∧ wr.ownsRow w.heap.size 73 2 l acc.length (tokCells acc) ∧ Hid (lexF s (s.length - i) i acc = R) ∧ Below w.heap.size w wr) (fun _ vi _ => s.length - (intOf vi).toNat)
  case atStart => exact ⟨0, [], Nat.zero_le _, rfl, Nat.le_refl _, World.ownsRow_nil _ _ _ _, HR, Below.refl _ _⟩
  case round =>
    obtain ⟨i, acc, hi, rfl, hai, hown, HL, hbel⟩ := hrel
    clear HR
    by_cases hlt : i < s.length
    · have hat := at_mk s i hlt
      have HBl := hide (fun hb => lex_blank HL.out hlt hb)
      have HTk := hide (fun hb ho => lex_tok HL.out hlt hb ho)
      have HBd := hide (fun hb ho => lex_bad HL.out hlt hb ho)
      have HE : Hid (tokEnd s i = i + 1 + spanLen (s.getD i 0) (s.drop (i + 1))) := rfl
      have hte := tokEnd_le s i hlt
      generalize hcd : s.getD i 0 = c at *
      have HC := hide hcd
      clear hcd HL
      rcases blank_cases c with ⟨hb, hc⟩ | ⟨hb, hc1, hc2⟩
      · have HB := hide (HBl.out hb)
        clear hb HBl HTk HBd
        rcases hc with rfl | rfl
        all_goals
          go_wp2_with fail
          go_roundw
          case rel => exact ⟨i + 1, acc, by omega, by go_num, by omega, hown, HB, hbel⟩
          case measure => simp [intOf]; omega
      · have HTk := hide (HTk.out hb)
        have HBd := hide (HBd.out hb)
        clear hb HBl
        generalize tokEnd s i = te at *
        go_wp2_with fail
        go_loopw [6, 7] (fun vk vm wr' => wr'.ownsRow w.heap.size 73 2 u4 acc.length (tokCells acc) ∧ Below w.heap.size w wr' ∧ ∃ (k : Nat) (more : Bool), i + 1 ≤ k ∧ k ≤ s.length ∧ vk = .int .i64 k ∧ vm = .bool more ∧ Hid (k + (if more then spanLen (s.getD (k - 1) 0) (s.drop k) else 0) = te)) (fun vk vm _ => 2 * (s.length - (intOf vk).toNat) + boolN vm)
        case atStart => exact ⟨hown, hbel, i + 1, true, by omega, by omega, by go_num, rfl, by unfold Hid; rw [HE.out]; simp [← HC.out]⟩
        case round =>
          clear hown hbel
          obtain ⟨hown, hbel, k, more, hk1, hk2, rfl, rfl, HK⟩ := hrel
          by_cases hgo : k < s.length ∧ more = true
          · obtain ⟨hkl, rfl⟩ := hgo
            have hr := ref_row ((s.getD (k - 1) 0).toNat : Int) ((s.getD k 0).toNat : Int)
            have hat1 := at_mk s (k - 1) (by omega)
            have hat2 := at_mk s k hkl
            have HS := hide (span_step s k hkl (s.getD (k - 1) 0))
            generalize h1 : s.getD (k - 1) 0 = c1 at *
            generalize h2 : s.getD k 0 = c2 at *
            generalize hrb : rowB (c1.toNat : Int) (c2.toNat : Int) = rb at *
            have H2 := hide h2
            clear h1 h2 hrb
            cases rb with
            | true =>
              go_wp2_with fail
              go_quiet ((go_at_call 57; exact Calls.quiet_of_same (hr _)))
              go_wp2_with fail
              go_roundw
              case rel =>
                refine ⟨owns_drewN _ hown, bel_drewN _ hbel, k + 1, true, by omega, by omega, by go_num, rfl, ?_⟩
                have h1 := HK.out
                have h2 := HS.out
                have h3 := H2.out
                simp at h1 h2
                unfold Hid
                simp only [if_true, Nat.add_sub_cancel]
                rw [h3]
                omega
              case measure => simp [intOf, boolN]; omega
            | false =>
              go_wp2_with fail
              go_quiet ((go_at_call 57; exact Calls.quiet_of_same (hr _)))
              go_wp2_with fail
              go_roundw
              case rel =>
                refine ⟨owns_drewN _ hown, bel_drewN _ hbel, k, false, by omega, by omega, by go_num, rfl, ?_⟩
                have h1 := HK.out
                have h2 := HS.out
                simp at h1 h2
                unfold Hid
                simp
                omega
              case measure => simp [intOf, boolN]
          · have hkt : k = te := by
              have h1 := HK.out
              cases more with
              | true =>
                have : s.drop k = [] := List.drop_of_length_le (by
                  rcases Nat.lt_or_ge k s.length with h | h
                  · exact absurd ⟨h, rfl⟩ hgo
                  · exact h)
                rw [this] at h1
                simpa [spanLen] using h1
              | false => simpa using h1
            subst hkt
            clear HK HE
            have HT := hide (in_w6sign (cut s i k))
            have hD := ref_isDigit (c.toNat : Int)
            have hL := ref_isLetter (c.toNat : Int)
            have hlen : (cut s i k).length = k - i := by unfold cut; simp; omega
            have hx := hext i k
            clear hext
            generalize htx : cut s i k = t at *
            have hlen' : t.length = k - i := hlen
            generalize hg : okTok c t = ok at *
            unfold okTok at hg
            generalize hg1 : inB t w6sign = sg at *
            generalize hg2 : digB (c.toNat : Int) = dg at *
            generalize hg3 : letB (c.toNat : Int) = lt at *
            have HLn := hide hlen
            have HG := hide hg
            clear hg1 hg2 hg3 htx hg hlen' hlen
            have htl : t.length ≤ 240 := by rw [HLn.out]; omega
            have hcs : (k < s.length ∧ more = false) ∨ (¬ k < s.length ∧ more = true) ∨ (¬ k < s.length ∧ more = false) := by
              by_cases hkl : k < s.length
              · cases more with
                | true => exact absurd ⟨hkl, rfl⟩ hgo
                | false => exact .inl ⟨hkl, rfl⟩
              · cases more with
                | true => exact .inr (.inl ⟨hkl, rfl⟩)
                | false => exact .inr (.inr ⟨hkl, rfl⟩)
            clear hgo
            rcases hcs with ⟨hkl, rfl⟩ | ⟨hkl, rfl⟩ | ⟨hkl, rfl⟩
            · cases sg <;> cases dg <;> cases lt
              all_goals
                go_wp2_with fail
                refine (HT.out _).mono ?_
                rintro e w1 ⟨rfl, rfl⟩
                go_wp2_with fail
                refine (hD _).mono ?_
                rintro e w1 ⟨rfl, rfl⟩
                go_wp2_with fail
                refine (hL _).mono ?_
                rintro e w1 ⟨rfl, rfl⟩
                go_wp2_with (at_builtin; refine wp_app1 rfl _ _ 47 73 rfl Tryd.underlying47 hi0 hz0 hz1 hz2 rfl (by decide) w w.heap.size _ _ _ [bs t, .int .i64 i] (wr.alloc (.cells #[bs [40], bs [41], bs [44], bs [91], bs [93], bs [42]] 9)) rfl (hown.alloc _) (by simp [Act.eval]) rfl (by simp [Value.oneCell']) (by omega) (by decide) (hbel.alloc hbel.size _) (by have := hbel.size; simp; omega) ?_; intro v' w' hown' hbel' hne)
              all_goals first
                | (go_ret2; refine tok_bad HG HBd (hbel.alloc hbel.size _) ?_ rfl; first | rfl | (rw [l8t (by assumption)]; rfl) | (rw [l3t (by assumption)]; rfl) | (rw [(l38t (by assumption)).1, (l38t (by assumption)).2]; rfl) | (rw [l8f (by assumption)]; rfl) | (rw [l8f (by assumption)]; simp; done) | (rw [l3f (by assumption)]; rfl) | (rw [l3f (by assumption)]; simp; done) | (rw [Bool.false_or, Bool.true_and, Bool.true_and]; exact l38f (by assumption)) | (rw [l3t' (by assumption)]; rfl) | (rw [l3f' (by assumption)]; rfl) | (rw [l3g (by assumption)]; rfl))
                | (go_roundw
                   case rel => refine tok_rel HG HTk hown' hbel' (by omega) (by omega) ?_; first | rfl | (rw [l8t (by assumption)]; rfl) | (rw [l3t (by assumption)]; rfl) | (rw [(l38t (by assumption)).1, (l38t (by assumption)).2]; rfl) | (rw [l8f (by assumption)]; rfl) | (rw [l8f (by assumption)]; simp; done) | (rw [l3f (by assumption)]; rfl) | (rw [l3f (by assumption)]; simp; done) | (rw [Bool.false_or, Bool.true_and, Bool.true_and]; exact l38f (by assumption)) | (rw [l3t' (by assumption)]; rfl) | (rw [l3f' (by assumption)]; rfl) | (rw [l3g (by assumption)]; rfl)
                   case measure => simp [intOf]; omega)
            · cases sg <;> cases dg <;> cases lt
              all_goals
                go_wp2_with fail
                refine (HT.out _).mono ?_
                rintro e w1 ⟨rfl, rfl⟩
                go_wp2_with fail
                refine (hD _).mono ?_
                rintro e w1 ⟨rfl, rfl⟩
                go_wp2_with fail
                refine (hL _).mono ?_
                rintro e w1 ⟨rfl, rfl⟩
                go_wp2_with (at_builtin; refine wp_app1 rfl _ _ 47 73 rfl Tryd.underlying47 hi0 hz0 hz1 hz2 rfl (by decide) w w.heap.size _ _ _ [bs t, .int .i64 i] (wr.alloc (.cells #[bs [40], bs [41], bs [44], bs [91], bs [93], bs [42]] 9)) rfl (hown.alloc _) (by simp [Act.eval]) rfl (by simp [Value.oneCell']) (by omega) (by decide) (hbel.alloc hbel.size _) (by have := hbel.size; simp; omega) ?_; intro v' w' hown' hbel' hne)
              all_goals first
                | (go_ret2; refine tok_bad HG HBd (hbel.alloc hbel.size _) ?_ rfl; first | rfl | (rw [l8t (by assumption)]; rfl) | (rw [l3t (by assumption)]; rfl) | (rw [(l38t (by assumption)).1, (l38t (by assumption)).2]; rfl) | (rw [l8f (by assumption)]; rfl) | (rw [l8f (by assumption)]; simp; done) | (rw [l3f (by assumption)]; rfl) | (rw [l3f (by assumption)]; simp; done) | (rw [Bool.false_or, Bool.true_and, Bool.true_and]; exact l38f (by assumption)) | (rw [l3t' (by assumption)]; rfl) | (rw [l3f' (by assumption)]; rfl) | (rw [l3g (by assumption)]; rfl))
                | (go_roundw
                   case rel => refine tok_rel HG HTk hown' hbel' (by omega) (by omega) ?_; first | rfl | (rw [l8t (by assumption)]; rfl) | (rw [l3t (by assumption)]; rfl) | (rw [(l38t (by assumption)).1, (l38t (by assumption)).2]; rfl) | (rw [l8f (by assumption)]; rfl) | (rw [l8f (by assumption)]; simp; done) | (rw [l3f (by assumption)]; rfl) | (rw [l3f (by assumption)]; simp; done) | (rw [Bool.false_or, Bool.true_and, Bool.true_and]; exact l38f (by assumption)) | (rw [l3t' (by assumption)]; rfl) | (rw [l3f' (by assumption)]; rfl) | (rw [l3g (by assumption)]; rfl)
                   case measure => simp [intOf]; omega)
            · cases sg <;> cases dg <;> cases lt
              all_goals
                go_wp2_with fail
                refine (HT.out _).mono ?_
                rintro e w1 ⟨rfl, rfl⟩
                go_wp2_with fail
                refine (hD _).mono ?_
                rintro e w1 ⟨rfl, rfl⟩
                go_wp2_with fail
                refine (hL _).mono ?_
                rintro e w1 ⟨rfl, rfl⟩
                go_wp2_with (at_builtin; refine wp_app1 rfl _ _ 47 73 rfl Tryd.underlying47 hi0 hz0 hz1 hz2 rfl (by decide) w w.heap.size _ _ _ [bs t, .int .i64 i] (wr.alloc (.cells #[bs [40], bs [41], bs [44], bs [91], bs [93], bs [42]] 9)) rfl (hown.alloc _) (by simp [Act.eval]) rfl (by simp [Value.oneCell']) (by omega) (by decide) (hbel.alloc hbel.size _) (by have := hbel.size; simp; omega) ?_; intro v' w' hown' hbel' hne)
              all_goals first
                | (go_ret2; refine tok_bad HG HBd (hbel.alloc hbel.size _) ?_ rfl; first | rfl | (rw [l8t (by assumption)]; rfl) | (rw [l3t (by assumption)]; rfl) | (rw [(l38t (by assumption)).1, (l38t (by assumption)).2]; rfl) | (rw [l8f (by assumption)]; rfl) | (rw [l8f (by assumption)]; simp; done) | (rw [l3f (by assumption)]; rfl) | (rw [l3f (by assumption)]; simp; done) | (rw [Bool.false_or, Bool.true_and, Bool.true_and]; exact l38f (by assumption)) | (rw [l3t' (by assumption)]; rfl) | (rw [l3f' (by assumption)]; rfl) | (rw [l3g (by assumption)]; rfl))
                | (go_roundw
                   case rel => refine tok_rel HG HTk hown' hbel' (by omega) (by omega) ?_; first | rfl | (rw [l8t (by assumption)]; rfl) | (rw [l3t (by assumption)]; rfl) | (rw [(l38t (by assumption)).1, (l38t (by assumption)).2]; rfl) | (rw [l8f (by assumption)]; rfl) | (rw [l8f (by assumption)]; simp; done) | (rw [l3f (by assumption)]; rfl) | (rw [l3f (by assumption)]; simp; done) | (rw [Bool.false_or, Bool.true_and, Bool.true_and]; exact l38f (by assumption)) | (rw [l3t' (by assumption)]; rfl) | (rw [l3f' (by assumption)]; rfl) | (rw [l3g (by assumption)]; rfl)
                   case measure => simp [intOf]; omega)
    · have HD := hide (lex_done HL.out (by omega))
      clear HL
      go_wp2_with fail
      go_ret2
      exact tok_done HD hown hbel
end Go.Proofs.YtiamjjonoeaggaaDoor
