import Derived.Test.YtiamjjonoeaggaaDoorRefK
import Derived.Deep.RegionWith
import Derived.Deep.CutRange
namespace Go.Proofs.YtiamjjonoeaggaaDoor
open Go.RowKit

def badV (word : List UInt8) (a c : Bool) : Bool := (word == [111, 114] && (a != c)) || (word == [98, 117, 116] && c && !a) || (isTwoB word && a && !c)
/-- May its own variables not be free as they are? -/
def wrongB : Form → Bool
  | .nil => false
  | .node p sp y l r => if y.word == [101, 120, 105, 115, 116, 115] then !(freeB l (y.args.headD [])) else if (kids (.node p sp y l r)).length < 2 || y.word == [97, 110, 100] then false else badV y.word (freeB l [120]) (freeB r [120]) || badV y.word (freeB l [121]) (freeB r [121])

theorem exists_kids {p sp : Nat} {y : Pay} {l r : Form} {u : List Tok} (h : Reads (.node p sp y l r) u) (hw : y.word = [101, 120, 105, 115, 116, 115]) : kids (.node p sp y l r) = [l] := by
  rcases h with ⟨hn, _⟩ | ⟨hn, _, _, _, rfl, v, q1, q2, q3, ul, hv, ha, hl, rfl⟩ | ⟨hn, hw', _⟩ | ⟨hn, hw', _⟩ | ⟨hn, hw', _⟩ | ⟨_, hw', _⟩
  · rw [hw] at hn; exact absurd hn (by decide)
  · exact kids_one hl
  · rw [hw] at hw'; exact absurd hw' (by decide)
  · rw [hw] at hw'; exact absurd hw' (by decide)
  · rw [hw] at hw'; exact absurd hw' (by decide)
  · rw [hw] at hw'; exact absurd hw' (by decide)
theorem two_kids {p sp : Nat} {y : Pay} {l r F : Form} {ks : List (Form × List Tok)} (hF : (Go.Deep.BT.node p sp y l r : Form) = F) (hk : ks.map Prod.fst = kids F) (h2 : 2 ≤ ks.length) : ∃ (h : ks.length = 2), (ks[0]).1 = l ∧ (ks[1]).1 = r := by
  subst hF
  have hk' : kids (Go.Deep.BT.node p sp y l r) = [l, r] := by
    have hl := congrArg List.length hk
    rw [List.length_map] at hl
    cases l with
    | nil => simp [kids] at hl; subst hl; simp at h2
    | node =>
      cases r with
      | nil => simp [kids] at hl; omega
      | node => rfl
  rw [hk'] at hk
  match ks, hk with
  | [a, c], hk =>
    simp at hk
    exact ⟨rfl, hk.1, hk.2⟩
theorem kid_lt {w : World} {g o n c : Nat} {us : List (List Tok)} (h : KidSl w (.slice (some ⟨g, o, none⟩) n c) us) : g < w.heap.size := by
  rcases h with ⟨h, _⟩ | ⟨g', o', c', e, h1, h2, h3, h4⟩
  · simp at h
  · simp at e
    obtain ⟨⟨rfl, rfl⟩, rfl, rfl⟩ := e
    exact h3
def nm2 : List (List UInt8) := [[120], [121]]
def WRel (w1 w3 : World) (word : List UInt8) (fl fr : List UInt8 → Bool) (g : Nat) (vi : Value) (wr : World) : Prop := ∃ k : Nat, k ≤ 2 ∧ g + k = 2 ∧ vi = .int .i64 k ∧ NoneBelow nm2 (fun x => badV word (fl x) (fr x)) 0 k ∧ Below w1.heap.size w1 wr ∧ Below (w3.heap.size + 1) (w3.alloc (.cells #[bs [120], bs [121]] 9)) wr
theorem two_word {p sp : Nat} {y : Pay} {l r : Form} {u : List Tok} (h : Reads (.node p sp y l r) u) (h2 : (kids (.node p sp y l r)).length = 2) (ha : (y.word == [97, 110, 100]) = false) :
    ((y.word == [111, 114]) = true ∧ (y.word == [98, 117, 116]) = false ∧ isTwoB y.word = false) ∨ ((y.word == [111, 114]) = false ∧ (y.word == [98, 117, 116]) = true ∧ isTwoB y.word = false) ∨ ((y.word == [111, 114]) = false ∧ (y.word == [98, 117, 116]) = false ∧ isTwoB y.word = true) := by
  rcases h with ⟨hn, _, _, rfl, rfl, _⟩ | ⟨hn, hw, _, _, rfl, v, q1, q2, q3, ul, hv, _, hl, rfl⟩ | ⟨hn, hw, _, _, _, q1, q2, q3, ul, ur, hl, hr, rfl⟩ | ⟨hn, hw, _, rfl, hlo, hhi, q1, q2, q3, q4, q5, q6, ul, hl, rfl⟩ | ⟨hn, hw, _, hlo, hhi, q1, q2, q3, q4, q5, q6, q7, ul, ur, hl, hr, rfl⟩ | ⟨_, hw, _, _, _, rfl, rfl, rfl⟩
  · simp [kids] at h2
  · rw [kids_one hl] at h2; simp at h2
  · have hc : y.word = [97, 110, 100] ∨ y.word = [98, 117, 116] ∨ y.word = [111, 114] := by
      unfold isPlainB inB w3plain at hw
      simp [List.any] at hw
      rcases hw with h | h | h <;> simp [h]
    rcases hc with h | h | h
    · rw [h] at ha; exact absurd ha (by decide)
    · rw [h]; exact .inr (.inl ⟨by decide, by decide, by decide⟩)
    · rw [h]; exact .inl ⟨by decide, by decide, by decide⟩
  · rw [kids_one hl] at h2; simp at h2
  · have hc : y.word = [115, 105, 110, 99, 101] ∨ y.word = [117, 110, 115, 105, 110, 99, 101] ∨ y.word = [117, 110, 116, 105, 108] ∨ y.word = [117, 110, 117, 110, 116, 105, 108] := by
      unfold isTwoB inB w4two at hw
      simp [List.any] at hw
      rcases hw with h | h | h | h <;> simp [h]
    rcases hc with h | h | h | h <;> rw [h] <;> exact .inr (.inr ⟨by decide, by decide, by decide⟩)
  · simp [kids] at h2
set_option maxRecDepth 100000 in
set_option maxHeartbeats 4000000 in
theorem ref_wrong (p sp : Nat) (y : Pay) (l r : Form) (u : List Tok) (v : Value) (w : World) (hR : Reads (.node p sp y l r) u) (hF : FrmV w v u) :
    Calls Tryd.prog 23 #[v] w fun e w' => e = .returned (.bool (wrongB (.node p sp y l r))) ∧ Below w.heap.size w w' := by
  have HP := hide (fun w1 (hb : Below w.heap.size w w1) => ref_parts _ u v w1 hR (hF.below hb))
  have HW := hide (fun w1 (hb : Below w.heap.size w w1) => ref_word v u w1 (hF.below hb))
  have HX := hide (fun h => exists_args hR h)
  have HWd : Hid (hd u = y.word) := reads_word hR
  have HWr : Hid (wrongB (.node p sp y l r) = if y.word == [101, 120, 105, 115, 116, 115] then !(freeB l (y.args.headD [])) else if (kids (.node p sp y l r)).length < 2 || y.word == [97, 110, 100] then false else badV y.word (freeB l [120]) (freeB r [120]) || badV y.word (freeB l [121]) (freeB r [121])) := rfl
  have HKl := hide (exists_kids hR)
  have HTW := hide (fun h2 ha => two_word hR h2 ha)
  clear hR
  generalize hFF : (Go.Deep.BT.node p sp y l r : Form) = F at *
  have HFF := hide hFF
  clear hFF
  generalize wrongB F = wF at *
  obtain ⟨b, o, cap, rfl, h1, h2, h3, h4, h5, h6⟩ := frm_open hF
  have H6 := hide h6
  clear h6 hF
  unfold maxLen at h2
  go_enter Tryd.func23, Tryd.ntmps23
  go_wp2_with fail
  refine (HP.out _ ((Below.refl _ _).alloc (Nat.le_refl _) _)).mono ?_
  rintro e w1 ⟨vk, ks, rfl, hk1, hk2, hk3, hb1⟩
  have r1 := hb1.mono (B' := w.heap.size + 1) (by simp)
  have q1 := ((Below.refl w.heap.size w).alloc (Nat.le_refl _) _).trans (hb1.mono (by simp))
  have hs1 := r1.size
  simp at hs1
  have hc1 := bcell r1 w.heap.size 0 (by simp)
  clear hb1
  obtain ⟨av, nv, cv, rfl, hnv, hcv⟩ := kid_shape hk3
  have hnv' : ks.length = nv := by simpa using hnv.symm
  have HK2 := hide hk2
  have HK1 := hide hk1
  have HK3 := hide hk3
  have HNV := hide hnv'
  unfold maxLen at hcv
  clear hk1 hk2 hk3 hnv hnv'
  cases hex : (y.word == [101, 120, 105, 115, 116, 115]) with
  | true =>
    have hyw : y.word = [101, 120, 105, 115, 116, 115] := by simpa using hex
    obtain ⟨hu1, hya, hvar⟩ := HX.out hyw
    have hkl := HKl.out hyw
    have hk0 : 0 < ks.length := by
      have := congrArg List.length HK1.out
      rw [hkl] at this
      simp at this
      omega
    have hk0f : (ks[0]).1 = l := by
      have : (ks.map Prod.fst)[0]? = (kids F)[0]? := by rw [HK1.out]
      rw [hkl] at this
      simpa [hk0] using this
    have hm : wF = !(freeB l (u[1]).text) := by have := HWr.out; rw [hex, if_pos rfl, hya] at this; exact this
    have HM := hide hm
    have HC : Hid (∀ v' w', FrmV w' v' (ks[0]).2 → Calls Tryd.prog 13 #[v', bs (u[1]).text] w' fun e w'' => e = .returned (.bool (freeB l (u[1]).text)) ∧ Below w'.heap.size w' w'') := by
      intro v' w' h
      have := ref_free (ks[0]).1 (ks[0]).2 v' w' (u[1]).text (HK2.out _ (List.getElem_mem hk0)).1 h hvar
      rw [hk0f] at this
      exact this
    have hct := fun w2 (hb2 : Below w1.heap.size w1 w2) => (bcell hb2 b (o + 1 * 2) (by omega)).trans ((bcell r1 b (o + 1 * 2) (by omega)).trans ((World.cell?_alloc_lt _ _ _ h3).trans (H6.out 1 hu1).1))
    have HCT := hide hct
    have hnv0 : 0 < nv := by rw [← HNV.out]; exact hk0
    clear hct hm hya hvar hyw hkl hk0f
    generalize (u[1]).text = t1 at *
    go_wp2_with fail
    refine (HW.out _ q1).mono ?_
    rintro e w2 ⟨rfl, hb2⟩
    rw [HWd.out]
    have hc2 := (bcell hb2 w.heap.size 0 (by omega)).trans hc1
    have hct2 := HCT.out w2 hb2
    simp only [Nat.one_mul] at hct2
    obtain ⟨gk, ok, xk, rfl, hxk, hfk⟩ := kid_get (HK3.out.below hb2) hk0
    simp only [Nat.add_zero] at hxk
    have hqb := q1.trans (hb2.mono q1.size)
    have HFK := hide hfk
    clear hfk
    generalize freeB l t1 = fb at *
    go_wp2_with fail
    go_region_with (go_at_call 13; refine (HC.out _ _ (HFK.out.below (by exact (Below.refl _ _).drew))).mono ?_; rintro e w3 ⟨rfl, hb3⟩)
    all_goals
      go_wp2_with fail
      go_ret
      exact ⟨ret_bool HM.out.symm, hqb.trans ((show Below w2.heap.size w2 w3 from (Below.refl _ _).drew.trans hb3).mono hqb.size)⟩
  | false =>
    have hm : wF = if nv < 2 || y.word == [97, 110, 100] then false else badV y.word (freeB l [120]) (freeB r [120]) || badV y.word (freeB l [121]) (freeB r [121]) := by
      have := HWr.out
      rw [hex] at this
      simp only [Bool.false_eq_true, if_false] at this
      rw [this, ← HK1.out, List.length_map, HNV.out]
    have HM := hide hm
    clear hm HWr HX HKl
    by_cases hn2 : nv < 2
    · have hwf : wF = false := by rw [HM.out]; simp [hn2]
      have HWF := hide hwf
      clear hwf
      go_wp2_with fail
      refine (HW.out _ q1).mono ?_
      rintro e w2 ⟨rfl, hb2⟩
      rw [HWd.out]
      go_wp2_with fail
      go_ret
      exact ⟨ret_bool HWF.out.symm, q1.trans (hb2.mono q1.size)⟩
    · have hn2' : decide (nv < 2) = false := by simp; omega
      cases hand : (y.word == [97, 110, 100]) with
      | true =>
        have hwf : wF = false := by rw [HM.out, hand]; simp
        have HWF := hide hwf
        clear hwf
        go_wp2_with fail
        refine (HW.out _ q1).mono ?_
        rintro e w2 ⟨rfl, hb2⟩
        rw [HWd.out]
        have q2 := q1.trans (hb2.mono q1.size)
        have hc2 := (bcell hb2 w.heap.size 0 (by omega)).trans hc1
        go_wp2_with fail
        refine (HW.out _ q2).mono ?_
        rintro e w3 ⟨rfl, hb3⟩
        rw [HWd.out]
        go_wp2_with fail
        go_ret
        exact ⟨ret_bool HWF.out.symm, q2.trans (hb3.mono q2.size)⟩
      | false =>
        obtain ⟨hk2, hkl, hkr⟩ := two_kids HFF.out HK1.out (by rw [HNV.out]; omega)
        have hnv2 : nv = 2 := by rw [← HNV.out]; exact hk2
        subst hnv2
        have hm : wF = (badV y.word (freeB l [120]) (freeB r [120]) || badV y.word (freeB l [121]) (freeB r [121])) := by
          have := HM.out
          rw [hand] at this
          simpa using this
        clear HM
        have hm' : wF = nm2.any (fun x => badV y.word (freeB l x) (freeB r x)) := by rw [hm]; simp [nm2]
        have HM := hide hm'
        clear hm hm'
        have hkk : (kids F).length = 2 := by rw [← HK1.out, List.length_map]; exact hk2
        have hwc := HTW.out hkk hand
        clear hkk HTW
        have HT2 := hide (ref_isTwo y.word)
        have hk0 : 0 < ks.length := by omega
        have hk1 : 1 < ks.length := by omega
        have HCl : Hid (∀ v' w' x, isVarB x = true → FrmV w' v' (ks[0]).2 → Calls Tryd.prog 13 #[v', bs x] w' fun e w'' => e = .returned (.bool (freeB l x)) ∧ Below w'.heap.size w' w'') := by
          intro v' w' x hx h
          have := ref_free (ks[0]).1 (ks[0]).2 v' w' x (HK2.out _ (List.getElem_mem _)).1 h hx
          rw [hkl] at this
          exact this
        have HCr : Hid (∀ v' w' x, isVarB x = true → FrmV w' v' (ks[1]).2 → Calls Tryd.prog 13 #[v', bs x] w' fun e w'' => e = .returned (.bool (freeB r x)) ∧ Below w'.heap.size w' w'') := by
          intro v' w' x hx h
          have := ref_free (ks[1]).1 (ks[1]).2 v' w' x (HK2.out _ (List.getElem_mem _)).1 h hx
          rw [hkr] at this
          exact this
        clear hkl hkr
        go_wp2_with fail
        refine (HW.out _ q1).mono ?_
        rintro e w2 ⟨rfl, hb2⟩
        rw [HWd.out]
        have q2 := q1.trans (hb2.mono q1.size)
        have hc2 := (bcell hb2 w.heap.size 0 (by omega)).trans hc1
        go_wp2_with fail
        refine (HW.out _ q2).mono ?_
        rintro e w3 ⟨rfl, hb3⟩
        rw [HWd.out]
        have b13 := hb2.trans (hb3.mono hb2.size)
        go_wp2_with fail
        go_loopg [6] 2 (fun g vi wr => WRel w1 w3 y.word (freeB l) (freeB r) g vi wr)
        case atStart => exact ⟨0, by omega, rfl, rfl, (fun j hj h1 h2 => absurd h2 (by omega)), b13.alloc b13.size _, (Below.refl _ _)⟩
        case round =>
          obtain ⟨k, hk, hgk2, rfl, hno, hbel, hbe3⟩ := hrel
          obtain ⟨gg, hgg⟩ : ∃ gg, gg = gk := ⟨_, rfl⟩
          have HGK : Hid (gk + k = 2) := hgk2
          clear hgk2 hgg gg
          have HNo := hide hno
          clear hno
          have q4 := q1.trans (hbel.mono q1.size)
          have hs3 := hbe3.size
          simp at hs3
          have hcb := (bcell hbel w.heap.size 0 (by omega)).trans hc1
          by_cases hlt : k < 2
          · have hx := bcell hbe3 w3.heap.size k (by omega)
            have hxn : ∃ x, nm2[k]? = some x ∧ isVarB x = true ∧ wr.cell? ⟨w3.heap.size, k, none⟩ = some (bs x) := by
              rcases (by omega : k = 0 ∨ k = 1) with rfl | rfl
              · exact ⟨[120], rfl, rfl, by rw [hx]; simp⟩
              · exact ⟨[121], rfl, rfl, by rw [hx]; simp⟩
            obtain ⟨x, hxk, hvar, hxc⟩ := hxn
            have hkn : k < nm2.length := hlt
            have hnx : nm2[k] = x := by rw [List.getElem?_eq_getElem hkn] at hxk; exact Option.some.inj hxk
            have HNx : Hid (badV y.word (freeB l x) (freeB r x) = false → NoneBelow nm2 (fun x => badV y.word (freeB l x) (freeB r x)) 0 (k + 1)) := fun h => none_next HNo.out hkn (by rw [hnx]; exact h)
            have HHt : Hid (badV y.word (freeB l x) (freeB r x) = true → wF = true) := fun h => by
              rw [HM.out]
              have := some_hit (a := 0) (f := fun x => badV y.word (freeB l x) (freeB r x)) (Nat.zero_le k) hkn (by rw [hnx]; exact h)
              rwa [List.drop_zero] at this
            have HL := hide (fun v' w' h => HCl.out v' w' x hvar h)
            have HRr := hide (fun v' w' h => HCr.out v' w' x hvar h)
            clear hx hxk hnx hkn HNo
            generalize freeB l x = fa at *
            generalize freeB r x = fc at *
            obtain ⟨gx, ok, xl, rfl, hxl, hfl⟩ := kid_get (HK3.out.below hbel) hk0
            obtain ⟨gx', ok', xr, e', hxr, hfr⟩ := kid_get (HK3.out.below hbel) hk1
            simp only [Option.some.injEq, Addr.mk.injEq, and_true] at e'
            obtain ⟨rfl, rfl⟩ := e'
            simp only [Nat.add_zero] at hxl
            have HFl := hide hfl
            have HFr := hide hfr
            have hgx : gx < w1.heap.size := kid_lt HK3.out
            clear hfl hfr
            go_wp2_with fail
            go_cut [7] from 34 to 86 (fun va wx => va = .bool fa ∧ Below wr.heap.size wr wx)
            case first =>
              go_region_with (go_at_call 13; refine (HL.out _ _ (HFl.out.below (by exact (Below.refl _ _).drew))).mono ?_; rintro e w4 ⟨rfl, hb4⟩)
              all_goals
                have b4 : Below wr.heap.size wr w4 := (Below.refl _ _).drew.trans hb4
                go_wp2_with fail
                go_meet
                case rel => exact ⟨rfl, b4⟩
            case rest =>
              obtain ⟨rfl, b4⟩ := hcut
              have hxr4 := (bcell b4 gx (ok + 1) (by have := hbel.size; omega)).trans hxr
              have hxc4 := (bcell b4 w3.heap.size k (by omega)).trans hxc
              go_wp2_with fail
              go_cut [8] from 34 to 86 (fun va wx => va = .bool fc ∧ Below wr.heap.size wr wx)
              case first =>
                go_region_with (go_at_call 13; refine (HRr.out _ _ (HFr.out.below (by exact b4.drew))).mono ?_; rintro e w5 ⟨rfl, hb5⟩)
                all_goals
                  have b5 : Below wr.heap.size wr w5 := b4.drew.trans (hb5.mono b4.size)
                  go_wp2_with fail
                  go_meet
                  case rel => exact ⟨rfl, b5⟩
              case rest =>
                clear hxr4 hxc4 b4
                obtain ⟨rfl, b5⟩ := hcut
                have q5 := q4.trans (b5.mono q4.size)
                have hcb5 := (bcell b5 w.heap.size 0 (by have := hbel.size; omega)).trans hcb
                have e5 := hbe3.trans (b5.mono (by omega))
                have d5 := hbel.trans (b5.mono hbel.size)
                clear b5 hcb q4 hxl hxr HFl HFr hbel hbe3
                rcases hwc with ⟨g1, g2, g3⟩ | ⟨g1, g2, g3⟩ | ⟨g1, g2, g3⟩
                all_goals
                  have HT3 := hide (calls_to_bool HT2.out g3)
                  have hbv : badV y.word fa fc = badV y.word fa fc := rfl
                  conv at hbv => rhs; unfold badV; rw [g1, g2, g3]
                  have HB := hide hbv
                  clear g3 hbv
                  cases fa <;> cases fc
                  all_goals
                    go_wp2_with fail
                    refine (HW.out _ q5).mono ?_
                    rintro e w6 ⟨rfl, b6⟩
                    rw [HWd.out]
                    have q6 := q5.trans (b6.mono q5.size)
                    have hcb6 := (bcell b6 w.heap.size 0 (by have := d5.size; omega)).trans hcb5
                    have e6 := e5.trans (b6.mono (by have := e5.size; simp at this; omega))
                    have d6 := d5.trans (b6.mono d5.size)
                    go_wp2_with fail
                  all_goals first
                    | (go_ret; exact ⟨ret_bool (HHt.out (HB.out.trans rfl)).symm, q6⟩)
                    | (refine (HW.out _ q6).mono ?_
                       rintro e w7 ⟨rfl, b7⟩
                       rw [HWd.out]
                       have q7 := q6.trans (b7.mono q6.size)
                       have hcb7 := (bcell b7 w.heap.size 0 (by have := d6.size; omega)).trans hcb6
                       have e7 := e6.trans (b7.mono (by have := e6.size; simp at this; omega))
                       have d7 := d6.trans (b7.mono d6.size)
                       clear hcb6 e6 d6 q6 b6
                       go_wp2_with fail
                       first
                         | (go_ret; exact ⟨ret_bool (HHt.out (HB.out.trans rfl)).symm, q7⟩)
                         | (refine (HW.out _ q7).mono ?_
                            rintro e w8 ⟨rfl, b8⟩
                            rw [HWd.out]
                            have q8 := q7.trans (b8.mono q7.size)
                            have e8 := e7.trans (b8.mono (by have := e7.size; simp at this; omega))
                            have d8 := d7.trans (b8.mono d7.size)
                            clear hcb7 e7 d7 q7 b7
                            go_wp2_with fail
                            refine (HT3.out _).mono ?_
                            rintro e w9 ⟨rfl, b9⟩
                            have q9 := q8.trans (b9.mono q8.size)
                            have e9 := e8.trans (b9.mono (by have := e8.size; simp at this; omega))
                            have d9 := d8.trans (b9.mono d8.size)
                            clear e8 d8 q8 b8
                            go_wp2_with fail
                            first
                              | (go_ret; exact ⟨ret_bool (HHt.out (HB.out.trans rfl)).symm, q9⟩)
                              | (have hg1 : 0 < gk := by have := HGK.out; omega
                                 go_roundg (gk - 1)
                                 case measure => omega
                                 case rel => exact ⟨k + 1, by omega, by have := HGK.out; omega, by go_num, HNx.out (HB.out.trans rfl), d9, e9⟩)))
          · have hwf : wF = false := by
              rw [HM.out]
              have := none_all HNo.out (show nm2.length ≤ k by simp [nm2]; omega)
              rwa [List.drop_zero] at this
            have HWF := hide hwf
            clear hwf
            go_wp2_with fail
            go_ret
            exact ⟨ret_bool HWF.out.symm, q4⟩
end Go.Proofs.YtiamjjonoeaggaaDoor
