import Derived.Test.YtiamjjonoeaggaaDoorRefI
namespace Go.Proofs.YtiamjjonoeaggaaDoor
open Go.RowKit

/-- Is the VAR free in it? -/
def freeB : Form → List UInt8 → Bool
  | .nil, _ => false
  | .node _ _ y l r, x => match l with
    | .nil => y.args.any fun a => a == x
    | _ => !(y.word == [101, 120, 105, 115, 116, 115] && y.args == [x]) && (freeB l x || freeB r x)
theorem kids_mem {p sp : Nat} {y : Pay} {l r k : Form} (h : k ∈ kids (.node p sp y l r)) : k = l ∨ k = r := by
  cases l with
  | nil => simp [kids] at h
  | node =>
    cases r with
    | nil => simp [kids] at h; exact .inl h
    | node => simp [kids] at h; exact h
theorem free_kids {p sp : Nat} {y : Pay} {l r : Form} (x : List UInt8) (h : kids (.node p sp y l r) ≠ []) : freeB (.node p sp y l r) x = (!(y.word == [101, 120, 105, 115, 116, 115] && y.args == [x]) && (kids (.node p sp y l r)).any fun k => freeB k x) := by
  cases l with
  | nil => simp [kids] at h
  | node =>
    cases r with
    | nil =>
      show (!(y.word == [101, 120, 105, 115, 116, 115] && y.args == [x]) && (freeB _ x || false)) = _
      simp [kids]
    | node =>
      show (!(y.word == [101, 120, 105, 115, 116, 115] && y.args == [x]) && (freeB _ x || freeB _ x)) = _
      simp [kids]
theorem free_leaf {F : Form} {u : List Tok} (h : Reads F u) (hlf : leafW (hd u) = true) (x : List UInt8) (hx : isVarB x = true) : freeB F x = (u.drop 1).any fun t => t.text == x := by
  have hx' : x = [120] ∨ x = [121] := by simpa [isVarB] using hx
  have n1 : (([40] : List UInt8) == x) = false := by rcases hx' with rfl | rfl <;> rfl
  have n2 : (([41] : List UInt8) == x) = false := by rcases hx' with rfl | rfl <;> rfl
  have n3 : (([44] : List UInt8) == x) = false := by rcases hx' with rfl | rfl <;> rfl
  have hk := leaf_kids h hlf
  cases F with
  | nil => exact h.elim
  | node p sp y l r =>
    rcases h with ⟨hn, _, _, rfl, rfl, q1, q2, q3, a, ha, hb⟩ | ⟨hn, hw, _, _, rfl, v, q1, q2, q3, ul, hv, _, hl, rfl⟩ | ⟨hn, hw, _, _, _, q1, q2, q3, ul, ur, hl, hr, rfl⟩ | ⟨hn, hw, _, rfl, hlo, hhi, q1, q2, q3, q4, q5, q6, ul, hl, rfl⟩ | ⟨hn, hw, _, hlo, hhi, q1, q2, q3, q4, q5, q6, q7, ul, ur, hl, hr, rfl⟩ | ⟨_, hw, hy, _, _, rfl, rfl, rfl⟩
    · rcases hb with ⟨hy, rfl⟩ | ⟨z, q4, q5, hz, hy, rfl⟩
      · simp [freeB, hy, n1, n2, -List.any_eq_true]
      · simp [freeB, hy, n1, n2, n3, -List.any_eq_true]
    · rw [kids_one hl] at hk; simp at hk
    · rw [kids_two hl hr] at hk; simp at hk
    · rw [kids_one hl] at hk; simp at hk
    · rw [kids_two hl hr] at hk; simp at hk
    · simp [freeB, hy]
theorem exists_args {p sp : Nat} {y : Pay} {l r : Form} {u : List Tok} (h : Reads (.node p sp y l r) u) (hw : y.word = [101, 120, 105, 115, 116, 115]) : ∃ (h1 : 1 < u.length), y.args = [(u[1]).text] ∧ isVarB (u[1]).text = true := by
  rcases h with ⟨hn, _⟩ | ⟨hn, _, _, _, rfl, v, q1, q2, q3, ul, hv, ha, hl, rfl⟩ | ⟨hn, hw', _⟩ | ⟨hn, hw', _⟩ | ⟨hn, hw', _⟩ | ⟨_, hw', _⟩
  · rw [hw] at hn; exact absurd hn (by decide)
  · exact ⟨by simp, ha, hv⟩
  · rw [hw] at hw'; exact absurd hw' (by decide)
  · rw [hw] at hw'; exact absurd hw' (by decide)
  · rw [hw] at hw'; exact absurd hw' (by decide)
  · rw [hw] at hw'; exact absurd hw' (by decide)
theorem kid_at {w : World} {v : Value} {us : List (List Tok)} (h : KidSl w v us) (hne : us ≠ []) : ∃ g o cap, v = .slice (some ⟨g, o, none⟩) us.length cap ∧ us.length ≤ cap ∧ cap ≤ maxLen ∧ g < w.heap.size ∧ ∀ j (h : j < us.length), ∃ x, w.cell? ⟨g, o + j, none⟩ = some x ∧ FrmV w (.agg #[x]) us[j] := by
  rcases h with ⟨_, h⟩ | h
  · exact absurd h hne
  · exact h
theorem any_take {α : Type} (f : α → Bool) (l : List α) (k : Nat) (h : k < l.length) (h1 : (l.take k).any f = false) (h2 : f l[k] = false) : (l.take (k + 1)).any f = false := by
  rw [List.take_succ_eq_append_getElem h, List.any_append, h1]
  simp [h2]
theorem any_hit {α : Type} (f : α → Bool) (l : List α) (k : Nat) (h : k < l.length) (h2 : f l[k] = true) : l.any f = true := by
  rw [List.any_eq_true]
  exact ⟨_, List.getElem_mem h, h2⟩

theorem kid_nth {w : World} {g o c : Nat} {k0 : Form × List Tok} {kt : List (Form × List Tok)} {k : Nat} (h : KidSl w (.slice (some ⟨g, o, none⟩) ((k0 :: kt).map Prod.snd).length c) ((k0 :: kt).map Prod.snd)) (hk : k < (k0 :: kt).length) : ∃ x, w.cell? ⟨g, o + k, none⟩ = some x ∧ FrmV w (.agg #[x]) ((k0 :: kt)[k]).2 := by
  rcases h with ⟨h, _⟩ | ⟨g', o', c', e, h1, h2, h3, h4⟩
  · simp at h
  · simp at e
    obtain ⟨⟨rfl, rfl⟩, rfl⟩ := e
    obtain ⟨x, hx, hf⟩ := h4 k (by simpa using hk)
    refine ⟨x, hx, ?_⟩
    rw [List.getElem_map] at hf
    exact hf
def NoneBelow {α : Type} (l : List α) (f : α → Bool) (a k : Nat) : Prop := ∀ j (h : j < l.length), a ≤ j → j < k → f l[j] = false
theorem none_next {α : Type} {l : List α} {f : α → Bool} {a k : Nat} (h : NoneBelow l f a k) (hk : k < l.length) (hf : f l[k] = false) : NoneBelow l f a (k + 1) := by
  intro j hj ha hjk
  rcases Nat.lt_or_ge j k with g | g
  · exact h j hj ha g
  · have : j = k := by omega
    subst this
    exact hf
theorem none_all {α : Type} {l : List α} {f : α → Bool} {a k : Nat} (h : NoneBelow l f a k) (hk : l.length ≤ k) : (l.drop a).any f = false := by
  rw [List.any_eq_false]
  intro x hx
  obtain ⟨j, hj, rfl⟩ := List.mem_iff_getElem.1 hx
  simp at hj
  rw [List.getElem_drop]
  rw [h (a + j) (by omega) (by omega) (by omega)]
  simp
theorem some_hit {α : Type} {l : List α} {f : α → Bool} {a k : Nat} (ha : a ≤ k) (hk : k < l.length) (hf : f l[k] = true) : (l.drop a).any f = true := by
  rw [List.any_eq_true]
  refine ⟨l[k], ?_, hf⟩
  rw [List.mem_iff_getElem]
  exact ⟨k - a, by simp; omega, by rw [List.getElem_drop]; congr 1; omega⟩
def FRel (B : Nat) (W0 : World) (n : Nat) (bad : Nat → Prop) (vi : Value) (wr : World) : Prop := ∃ k : Nat, k ≤ n ∧ vi = .int .i64 k ∧ bad k ∧ Below B W0 wr
set_option maxRecDepth 100000 in
set_option maxHeartbeats 4000000 in
theorem ref_free : ∀ (F : Form) (u : List Tok) (v : Value) (w : World) (x : List UInt8), Reads F u → FrmV w v u → isVarB x = true →
    Calls Tryd.prog 13 #[v, bs x] w fun e w' => e = .returned (.bool (freeB F x)) ∧ Below w.heap.size w w' := by
  intro F
  induction F with
  | nil => intro u v w x h; exact h.elim
  | node p sp y l r ihl ihr =>
    intro u v w x hR hF hx
    have HP := hide (fun w1 (hb : Below w.heap.size w w1) => ref_parts _ u v w1 hR (hF.below hb))
    have HW := hide (fun w1 (hb : Below w.heap.size w w1) => ref_word v u w1 (hF.below hb))
    have HI : Hid (∀ k ∈ kids (.node p sp y l r), ∀ (u' : List Tok) (v' : Value) (w' : World), Reads k u' → FrmV w' v' u' → Calls Tryd.prog 13 #[v', bs x] w' fun e w'' => e = .returned (.bool (freeB k x)) ∧ Below w'.heap.size w' w'') := by
      intro k hk u' v' w' h1 h2
      rcases kids_mem hk with rfl | rfl
      · exact ihl u' v' w' x h1 h2 hx
      · exact ihr u' v' w' x h1 h2 hx
    clear ihl ihr
    have HL := hide (fun h => free_leaf hR h x hx)
    have HK := hide (fun h => free_kids (p := p) (sp := sp) (y := y) (l := l) (r := r) x h)
    have HX := hide (fun h => exists_args hR h)
    have HLK := hide (fun h => leaf_kids hR h)
    have HWd : Hid (hd u = y.word) := reads_word hR
    have HNL := hide (fun h => kids_reads hR h)
    clear hR
    generalize hFF : (Go.Deep.BT.node p sp y l r : Form) = F at *
    clear hFF
    obtain ⟨b, o, cap, rfl, h1, h2, h3, h4, h5, h6⟩ := frm_open hF
    have H6 := hide h6
    clear h6 hF
    unfold maxLen at h2
    go_enter Tryd.func13, Tryd.ntmps13
    go_wp2_with fail
    refine (HP.out _ ((Below.refl _ _).alloc (Nat.le_refl _) _)).mono ?_
    rintro e w1 ⟨vk, ks, rfl, hk1, hk2, hk3, hb1⟩
    have r1 := hb1.mono (B' := w.heap.size + 1) (by simp)
    have q1 := ((Below.refl w.heap.size w).alloc (Nat.le_refl _) _).trans (hb1.mono (by simp))
    have hc1 := bcell r1 w.heap.size 0 (by simp)
    clear hb1
    cases ks with
    | nil =>
      simp at hk1
      have hlf : leafW (hd u) = true := by
        cases hh : leafW (hd u) with
        | true => rfl
        | false =>
          rcases HNL.out hh with ⟨_, _, _, e, _⟩ | ⟨_, _, _, _, _, _, e, _⟩ <;> rw [hk1] at e <;> simp at e
      have HE := hide (HL.out hlf)
      rcases hk3 with ⟨rfl, _⟩ | ⟨_, _, _, rfl, _⟩
      all_goals
        clear hk1 hk2 hlf HL HLK HNL HK HX
        try simp only [List.map_nil, List.length_nil]
        go_wp2_with fail
        go_loopw [6] (fun vi wr => FRel (w.heap.size + 1) (w.alloc (.cells #[.slice (some ⟨b, o, none⟩) u.length cap] 49)) u.length (fun k => 1 ≤ k ∧ NoneBelow u (fun t => t.text == x) 1 k) vi wr) (fun vi _ => u.length - (intOf vi).toNat)
        case atStart => exact ⟨1, by omega, rfl, ⟨Nat.le_refl _, fun j hj h1 h2 => absurd h2 (by omega)⟩, r1⟩
        case round =>
          obtain ⟨k, hk, rfl, ⟨hk1, hno⟩, hbel⟩ := hrel
          clear r1 q1 hc1
          have HN := hide hno
          clear hno
          have hcb := bcell hbel w.heap.size 0 (by simp)
          by_cases hlt : k < u.length
          · have hct := (bcell hbel b (o + k * 2) (by omega)).trans ((World.cell?_alloc_lt _ _ _ h3).trans (H6.out k hlt).1)
            cases he : ((u[k]).text == x) with
            | true =>
              have HH : Hid ((u.drop 1).any (fun t => t.text == x) = true) := some_hit hk1 hlt he
              generalize (u[k]).text = t at *
              go_wp2_with fail
              go_ret
              exact ⟨ret_bool (by rw [HE.out, HH.out]), ((Below.refl _ _).alloc (Nat.le_refl _) _).trans (hbel.mono (by omega))⟩
            | false =>
              have HH : Hid (NoneBelow u (fun t => t.text == x) 1 (k + 1)) := none_next HN.out hlt he
              generalize (u[k]).text = t at *
              go_wp2_with fail
              go_roundw
              case rel => exact ⟨k + 1, by omega, by go_num, ⟨by omega, HH.out⟩, hbel⟩
              case measure => simp [intOf]; omega
          · have HH : Hid ((u.drop 1).any (fun t => t.text == x) = false) := none_all HN.out (by omega)
            go_wp2_with fail
            go_ret
            exact ⟨ret_bool (by rw [HE.out, HH.out]), ((Below.refl _ _).alloc (Nat.le_refl _) _).trans (hbel.mono (by omega))⟩
    | cons k0 kt =>
      have hne : kids F ≠ [] := by rw [← hk1]; simp
      have HE := hide (HK.out hne)
      clear HK HL HLK HNL
      obtain ⟨gk, ok, ck, rfl, c1, c2, c3, c4⟩ := kid_at hk3 (by simp)
      have HK2 := hide hk2
      have HK1 := hide hk1
      have HK3 := hide hk3
      clear hk1 hk2 hk3 c4 hne
      have hlen : ((k0 :: kt).map Prod.snd).length = kt.length + 1 := by simp
      rw [hlen] at c1 ⊢
      clear hlen
      unfold maxLen at c2
      have hz : ((kt.length : Int) + 1 == 0) = false := by simp; omega
      cases hex : (hd u == [101, 120, 105, 115, 116, 115]) with
      | true =>
        have hyw : y.word = [101, 120, 105, 115, 116, 115] := by rw [← HWd.out]; simpa using hex
        obtain ⟨hu1, hya, _⟩ := HX.out hyw
        have hct := fun w2 (hb2 : Below w1.heap.size w1 w2) => (bcell hb2 b (o + 1 * 2) (by have := r1.size; simp at this; omega)).trans ((bcell r1 b (o + 1 * 2) (by omega)).trans ((World.cell?_alloc_lt _ _ _ h3).trans (H6.out 1 hu1).1))
        have HCT := hide hct
        clear hct
        generalize ht1 : (u[1]).text = t1 at *
        have HYA := hide hya
        have HYW := hide hyw
        clear hya hyw HX ht1
        go_wp2_with fail
        refine (HW.out _ q1).mono ?_
        rintro e w2 ⟨rfl, hb2⟩
        have hs1 := r1.size
        simp at hs1
        have hc2 := (bcell hb2 w.heap.size 0 (by omega)).trans hc1
        have hct2 := HCT.out w2 hb2
        simp only [Nat.one_mul] at hct2
        cases hx1 : (t1 == x) with
        | true =>
          have HEx : Hid ((!(y.word == [101, 120, 105, 115, 116, 115] && y.args == [x])) = false) := by
            unfold Hid
            rw [HYW.out, HYA.out]
            simp at hx1
            simp [hx1]
          go_wp2_with fail
          go_ret
          exact ⟨ret_bool (by rw [HE.out, HEx.out]; rfl), q1.trans (hb2.mono q1.size)⟩
        | false =>
          have HEx : Hid ((!(y.word == [101, 120, 105, 115, 116, 115] && y.args == [x])) = true) := by
            unfold Hid
            rw [HYW.out, HYA.out]
            simp at hx1
            simp [hx1]
          go_wp2_with fail
          go_loopw [7] (fun vi wr => FRel w1.heap.size w1 (kt.length + 1) (fun k => NoneBelow (k0 :: kt) (fun k => freeB k.1 x) 0 k) vi wr) (fun vi _ => kt.length + 1 - (intOf vi).toNat)
          case atStart => exact ⟨0, by omega, rfl, (fun j hj h1 h2 => absurd h2 (by omega)), hb2⟩
          case round =>
            obtain ⟨k, hk, rfl, hno, hbel⟩ := hrel
            have HN := hide hno
            clear hno
            have hbt := q1.trans (hbel.mono q1.size)
            by_cases hlt : k < kt.length + 1
            · have hlt' : k < (k0 :: kt).length := by simpa using hlt
              obtain ⟨xk, hxk, hfk⟩ := kid_nth (HK3.out.below hbel) hlt'
              have hmem : (k0 :: kt)[k] ∈ k0 :: kt := List.getElem_mem hlt'
              have hC := HI.out _ (by rw [← HK1.out]; exact List.mem_map_of_mem hmem) _ _ _ (HK2.out _ hmem).1 hfk
              have HNx := hide (fun h => none_next HN.out hlt' h)
              have HHt := hide (fun h => some_hit (f := fun k : Form × List Tok => freeB k.1 x) (Nat.zero_le k) hlt' h)
              clear hmem hfk HN
              generalize hfb : freeB ((k0 :: kt)[k]).1 x = fb at *
              have HFB := hide hfb
              clear hfb
              cases fb with
              | true =>
                have HH : Hid ((kids F).any (fun k => freeB k x) = true) := by
                  have := HHt.out rfl
                  rw [List.drop_zero] at this
                  unfold Hid
                  rw [← HK1.out, List.any_map]
                  exact this
                clear HNx HHt HFB
                go_wp2_with fail
                refine hC.mono ?_
                rintro e w3 ⟨rfl, hb3⟩
                go_wp2_with fail
                go_ret
                exact ⟨ret_bool (by rw [HE.out, HEx.out, HH.out]; rfl), hbt.trans (hb3.mono hbt.size)⟩
              | false =>
                have HH := hide (HNx.out rfl)
                clear HNx HHt HFB
                go_wp2_with fail
                refine hC.mono ?_
                rintro e w3 ⟨rfl, hb3⟩
                go_wp2_with fail
                go_roundw
                case rel => exact ⟨k + 1, by omega, by go_num, HH.out, hbel.trans (hb3.mono hbel.size)⟩
                case measure => simp [intOf]; omega
            · have HH : Hid ((kids F).any (fun k => freeB k x) = false) := by
                have := none_all HN.out (by simp; omega)
                rw [List.drop_zero] at this
                unfold Hid
                rw [← HK1.out, List.any_map]
                exact this
              go_wp2_with fail
              go_ret
              exact ⟨ret_bool (by rw [HE.out, HEx.out, HH.out]; rfl), hbt⟩

      | false =>
        have HEx : Hid ((!(y.word == [101, 120, 105, 115, 116, 115] && y.args == [x])) = true) := by
          unfold Hid
          rw [← HWd.out, hex]
          rfl
        go_wp2_with fail
        refine (HW.out _ q1).mono ?_
        rintro e w2 ⟨rfl, hb2⟩
        have hs1 := r1.size
        simp at hs1
        have hc2 := (bcell hb2 w.heap.size 0 (by omega)).trans hc1
        go_wp2_with fail
        go_loopw [7] (fun vi wr => FRel w1.heap.size w1 (kt.length + 1) (fun k => NoneBelow (k0 :: kt) (fun k => freeB k.1 x) 0 k) vi wr) (fun vi _ => kt.length + 1 - (intOf vi).toNat)
        case atStart => exact ⟨0, by omega, rfl, (fun j hj h1 h2 => absurd h2 (by omega)), hb2⟩
        case round =>
          obtain ⟨k, hk, rfl, hno, hbel⟩ := hrel
          have HN := hide hno
          clear hno
          have hbt := q1.trans (hbel.mono q1.size)
          by_cases hlt : k < kt.length + 1
          · have hlt' : k < (k0 :: kt).length := by simpa using hlt
            obtain ⟨xk, hxk, hfk⟩ := kid_nth (HK3.out.below hbel) hlt'
            have hmem : (k0 :: kt)[k] ∈ k0 :: kt := List.getElem_mem hlt'
            have hC := HI.out _ (by rw [← HK1.out]; exact List.mem_map_of_mem hmem) _ _ _ (HK2.out _ hmem).1 hfk
            have HNx := hide (fun h => none_next HN.out hlt' h)
            have HHt := hide (fun h => some_hit (f := fun k : Form × List Tok => freeB k.1 x) (Nat.zero_le k) hlt' h)
            clear hmem hfk HN
            generalize hfb : freeB ((k0 :: kt)[k]).1 x = fb at *
            have HFB := hide hfb
            clear hfb
            cases fb with
            | true =>
              have HH : Hid ((kids F).any (fun k => freeB k x) = true) := by
                have := HHt.out rfl
                rw [List.drop_zero] at this
                unfold Hid
                rw [← HK1.out, List.any_map]
                exact this
              clear HNx HHt HFB
              go_wp2_with fail
              refine hC.mono ?_
              rintro e w3 ⟨rfl, hb3⟩
              go_wp2_with fail
              go_ret
              exact ⟨ret_bool (by rw [HE.out, HEx.out, HH.out]; rfl), hbt.trans (hb3.mono hbt.size)⟩
            | false =>
              have HH := hide (HNx.out rfl)
              clear HNx HHt HFB
              go_wp2_with fail
              refine hC.mono ?_
              rintro e w3 ⟨rfl, hb3⟩
              go_wp2_with fail
              go_roundw
              case rel => exact ⟨k + 1, by omega, by go_num, HH.out, hbel.trans (hb3.mono hbel.size)⟩
              case measure => simp [intOf]; omega
          · have HH : Hid ((kids F).any (fun k => freeB k x) = false) := by
              have := none_all HN.out (by simp; omega)
              rw [List.drop_zero] at this
              unfold Hid
              rw [← HK1.out, List.any_map]
              exact this
            go_wp2_with fail
            go_ret
            exact ⟨ret_bool (by rw [HE.out, HEx.out, HH.out]; rfl), hbt⟩

end Go.Proofs.YtiamjjonoeaggaaDoor
