import Derived.Test.YtiamjjonoeaggaaDoorSynD
namespace Go.Proofs.YtiamjjonoeaggaaDoor
open Go.RowKit

def spanR (ts : List PTok) (nx : Nat) (nd : PNode) : Bool × Nat × PNode :=
  if (hereT ts nx).kind = 21 then
    if (hereT ts (nx + 1)).kind = 1 then
      if (hereT ts (nx + 2)).kind = 20 then
        if (hereT ts (nx + 3)).kind = 23 then
          if (hereT ts (nx + 4)).kind = 22 then (true, nx + 5, { nd with sat := (hereT ts nx).pos, slo := (hereT ts (nx + 1)).val, sop := true }) else (false, nx + 4, { nd with sat := (hereT ts nx).pos, slo := (hereT ts (nx + 1)).val, sop := true })
        else if (hereT ts (nx + 3)).kind = 1 then
          if (hereT ts (nx + 4)).kind = 22 then (true, nx + 5, { nd with sat := (hereT ts nx).pos, slo := (hereT ts (nx + 1)).val, shi := (hereT ts (nx + 3)).val }) else (false, nx + 4, { nd with sat := (hereT ts nx).pos, slo := (hereT ts (nx + 1)).val, shi := (hereT ts (nx + 3)).val })
        else (false, nx + 3, { nd with sat := (hereT ts nx).pos, slo := (hereT ts (nx + 1)).val, shi := (hereT ts (nx + 3)).val })
      else (false, nx + 2, { nd with sat := (hereT ts nx).pos, slo := (hereT ts (nx + 1)).val })
    else (false, nx + 1, { nd with sat := (hereT ts nx).pos, slo := (hereT ts (nx + 1)).val })
  else (false, nx, { nd with sat := (hereT ts nx).pos })
set_option maxRecDepth 100000 in
set_option maxHeartbeats 4000000 in
theorem syn_span (bp bt ct : Nat) (ts : List PTok) (nv : Value) (nx bn : Nat) (nd : PNode) (w : World) (h : Pars w bp bt ct ts nv nx) (hn : nx ≤ 10000) (hd : NodeAt w bn nd) (hne : bn ≠ bp ∧ bn ≠ bt) :
    Calls Tryd.prog 68 #[.pointer (some ⟨bp, 0, none⟩), .pointer (some ⟨bn, 0, none⟩)] w fun e w' => e = .returned (.bool (spanR ts nx nd).1) ∧ Pars w' bp bt ct ts nv (spanR ts nx nd).2.1 ∧ NodeAt w' bn (spanR ts nx nd).2.2 ∧ OnlyB [bp, bn] w w' := by
  obtain ⟨hne1, hne2⟩ := hne
  generalize hr : spanR ts nx nd = r
  have HT := hide hr
  clear hr
  have t0 := syn_here bp bt ct ts nv nx w h (by omega)
  have H := hide h
  have HD := hide hd
  clear h hd
  obtain ⟨tk, hk0⟩ : ∃ t, t = hereT ts nx := ⟨_, rfl⟩
  rw [← hk0] at t0
  have HK0 := hide hk0
  clear hk0
  obtain ⟨tk, tp, tz, tv, tnm⟩ := tk
  go_enter Tryd.func68, Tryd.ntmps68
  go_wp2_with fail
  refine t0.mono ?_
  rintro e w1 ⟨rfl, b1⟩
  have o1 : OnlyB [] w w1 := .of_below b1
  have D1 := HD.out.only o1 (by simp)
  have H1 := hide (H.out.only o1 (by simp) (by simp))
  have f16 := D1.free 16
  have d16 := D1.cells 16 (by omega)
  simp only [nodeCs, List.getElem?_cons_succ, List.getElem?_cons_zero] at d16
  have hl1 := D1.lt
  have HD1 := hide D1
  clear D1
  unfold ptV tokV
  have hfd := fld_pos tk tp tz tv (padC tnm 0) (padC tnm 1) (padC tnm 2) (padC tnm 3) (padC tnm 4) (padC tnm 5) (padC tnm 6) (padC tnm 7)
  go_wp2_with fail
  clear hfd t0 b1
  obtain ⟨w2, hW⟩ : ∃ W : World, W = w1.setCell ⟨bn, 16, none⟩ (.int .i64 tp) := ⟨_, rfl⟩
  rw [← hW]
  have q : OnlyB [bn] w1 w2 := by rw [hW]; exact (OnlyB.refl _ _).setCell (by simp) _
  have H2 := hide (H1.out.only q (by simp; omega) (by simp; omega))
  have HD2 : Hid (NodeAt w2 bn { nd with sat := tp }) := hide (by rw [hW]; exact HD1.out.set (n' := { nd with sat := tp }) 16 (by omega) (.int .i64 tp) rfl)
  have o2 : OnlyB [bp, bn] w w2 := (o1.wide (by simp)).trans (q.wide (by simp))
  clear hW q f16 d16
  by_cases a1 : (hereT ts nx).kind = 21
  · refine (syn_take_yes bp bt ct ts nv (nx) 21 _ H2.out (by omega) a1).mono ?_
    rintro e w3 ⟨rfl, P, o⟩
    have H3 := hide P
    have HD3 := hide (HD2.out.only o (by simp; omega))
    have o3 : OnlyB [bp, bn] w w3 := (o2.wide (by simp)).trans (o.wide (by simp))
    clear P o
    go_wp2_with fail
    have t := syn_here bp bt ct ts nv (nx + 1) w3 H3.out (by omega)
    obtain ⟨tB, hk⟩ : ∃ t, t = hereT ts (nx + 1) := ⟨_, rfl⟩
    rw [← hk] at t
    have HKB := hide hk
    clear hk
    obtain ⟨kB, pB, zB, vB, mB⟩ := tB
    refine t.mono ?_
    rintro e w4 ⟨rfl, b⟩
    clear t
    have o : OnlyB [] _ _ := .of_below b
    have D := HD3.out.only o (by simp)
    have H4 := hide (H3.out.only o (by simp) (by simp))
    have f17 := D.free 17
    have d17 := D.cells 17 (by omega)
    simp only [nodeCs, List.getElem?_cons_succ, List.getElem?_cons_zero] at d17
    have hl4 := D.lt
    have HD4 := hide D
    have o4 : OnlyB [bp, bn] w w4 := o3.trans (o.wide (by simp))
    clear D o b
    unfold ptV tokV
    have hfd := fld_val kB pB zB vB (padC mB 0) (padC mB 1) (padC mB 2) (padC mB 3) (padC mB 4) (padC mB 5) (padC mB 6) (padC mB 7)
    go_wp2_with fail
    clear hfd
    obtain ⟨w5, hW⟩ : ∃ W : World, W = w4.setCell ⟨bn, 17, none⟩ (.int .i64 vB) := ⟨_, rfl⟩
    rw [← hW]
    have q : OnlyB [bn] w4 w5 := by rw [hW]; exact (OnlyB.refl _ _).setCell (by simp) _
    have H5 := hide (H4.out.only q (by simp; omega) (by simp; omega))
    have HD5 : Hid (NodeAt w5 bn { nd with sat := tp, slo := vB }) := hide (by rw [hW]; exact HD4.out.set (n' := { nd with sat := tp, slo := vB }) 17 (by omega) (.int .i64 vB) rfl)
    have o5 : OnlyB [bp, bn] w w5 := (o4.wide (by simp)).trans (q.wide (by simp))
    clear hW q f17 d17
    by_cases a2 : (hereT ts (nx + 1)).kind = 1
    · refine (syn_take_yes bp bt ct ts nv (nx + 1) 1 _ H5.out (by omega) a2).mono ?_
      rintro e w6 ⟨rfl, P, o⟩
      have H6 := hide P
      have HD6 := hide (HD5.out.only o (by simp; omega))
      have o6 : OnlyB [bp, bn] w w6 := (o5.wide (by simp)).trans (o.wide (by simp))
      clear P o
      go_wp2_with fail
      by_cases a3 : (hereT ts (nx + 2)).kind = 20
      · refine (syn_take_yes bp bt ct ts nv (nx + 2) 20 _ H6.out (by omega) a3).mono ?_
        rintro e w7 ⟨rfl, P, o⟩
        have H7 := hide P
        have HD7 := hide (HD6.out.only o (by simp; omega))
        have o7 : OnlyB [bp, bn] w w7 := (o6.wide (by simp)).trans (o.wide (by simp))
        clear P o
        go_wp2_with fail
        by_cases a4 : (hereT ts (nx + 3)).kind = 23
        · refine (syn_take_yes bp bt ct ts nv (nx + 3) 23 _ H7.out (by omega) a4).mono ?_
          rintro e w8 ⟨rfl, P, o⟩
          have H8 := hide P
          have HD8 := hide (HD7.out.only o (by simp; omega))
          have o8 : OnlyB [bp, bn] w w8 := (o7.wide (by simp)).trans (o.wide (by simp))
          clear P o
          have f19 := HD8.out.free 19
          have d19 := HD8.out.cells 19 (by omega)
          simp only [nodeCs, List.getElem?_cons_succ, List.getElem?_cons_zero] at d19
          go_wp2_with fail
          obtain ⟨w9, hW⟩ : ∃ W : World, W = w8.setCell ⟨bn, 19, none⟩ (.bool true) := ⟨_, rfl⟩
          rw [← hW]
          have q : OnlyB [bn] w8 w9 := by rw [hW]; exact (OnlyB.refl _ _).setCell (by simp) _
          have H9 := hide (H8.out.only q (by simp; omega) (by simp; omega))
          have HD9 : Hid (NodeAt w9 bn { nd with sat := tp, slo := vB, sop := true }) := hide (by rw [hW]; exact HD8.out.set (n' := { nd with sat := tp, slo := vB, sop := true }) 19 (by omega) (.bool true) rfl)
          have o9 : OnlyB [bp, bn] w w9 := (o8.wide (by simp)).trans (q.wide (by simp))
          clear hW q f19 d19
          by_cases a6 : (hereT ts (nx + 4)).kind = 22
          · have er := HT.out
            rw [spanR, if_pos a1, if_pos a2, if_pos a3, if_pos a4, if_pos a6, ← HK0.out, ← HKB.out] at er
            subst er
            refine (syn_take_yes bp bt ct ts nv (nx + 4) 22 _ H9.out (by omega) a6).mono ?_
            rintro e w10 ⟨rfl, P, o⟩
            have H10 := hide P
            have HD10 := hide (HD9.out.only o (by simp; omega))
            have o10 : OnlyB [bp, bn] w w10 := (o9.wide (by simp)).trans (o.wide (by simp))
            clear P o
            go_wp2_with fail
            go_ret
            exact ⟨rfl, H10.out, HD10.out, o10⟩
          · have er := HT.out
            rw [spanR, if_pos a1, if_pos a2, if_pos a3, if_pos a4, if_neg a6, ← HK0.out, ← HKB.out] at er
            subst er
            refine (syn_take_no bp bt ct ts nv (nx + 4) 22 _ H9.out (by omega) a6).mono ?_
            rintro e w10 ⟨rfl, P, o⟩
            have H10 := hide P
            have HD10 := hide (HD9.out.only o (by simp; omega))
            have o10 : OnlyB [bp, bn] w w10 := (o9.wide (by simp)).trans (o.wide (by simp))
            clear P o
            go_wp2_with fail
            go_ret
            exact ⟨rfl, H10.out, HD10.out, o10⟩
        · refine (syn_take_no bp bt ct ts nv (nx + 3) 23 _ H7.out (by omega) a4).mono ?_
          rintro e w8 ⟨rfl, P, o⟩
          have H8 := hide P
          have HD8 := hide (HD7.out.only o (by simp; omega))
          have o8 : OnlyB [bp, bn] w w8 := (o7.wide (by simp)).trans (o.wide (by simp))
          clear P o
          go_wp2_with fail
          have t := syn_here bp bt ct ts nv (nx + 3) w8 H8.out (by omega)
          obtain ⟨tC, hk⟩ : ∃ t, t = hereT ts (nx + 3) := ⟨_, rfl⟩
          rw [← hk] at t
          have HKC := hide hk
          clear hk
          obtain ⟨kC, pC, zC, vC, mC⟩ := tC
          refine t.mono ?_
          rintro e w9 ⟨rfl, b⟩
          clear t
          have o : OnlyB [] _ _ := .of_below b
          have D := HD8.out.only o (by simp)
          have H9 := hide (H8.out.only o (by simp) (by simp))
          have f18 := D.free 18
          have d18 := D.cells 18 (by omega)
          simp only [nodeCs, List.getElem?_cons_succ, List.getElem?_cons_zero] at d18
          have hl9 := D.lt
          have HD9 := hide D
          have o9 : OnlyB [bp, bn] w w9 := o8.trans (o.wide (by simp))
          clear D o b
          unfold ptV tokV
          have hfd := fld_val kC pC zC vC (padC mC 0) (padC mC 1) (padC mC 2) (padC mC 3) (padC mC 4) (padC mC 5) (padC mC 6) (padC mC 7)
          go_wp2_with fail
          clear hfd
          obtain ⟨w10, hW⟩ : ∃ W : World, W = w9.setCell ⟨bn, 18, none⟩ (.int .i64 vC) := ⟨_, rfl⟩
          rw [← hW]
          have q : OnlyB [bn] w9 w10 := by rw [hW]; exact (OnlyB.refl _ _).setCell (by simp) _
          have H10 := hide (H9.out.only q (by simp; omega) (by simp; omega))
          have HD10 : Hid (NodeAt w10 bn { nd with sat := tp, slo := vB, shi := vC }) := hide (by rw [hW]; exact HD9.out.set (n' := { nd with sat := tp, slo := vB, shi := vC }) 18 (by omega) (.int .i64 vC) rfl)
          have o10 : OnlyB [bp, bn] w w10 := (o9.wide (by simp)).trans (q.wide (by simp))
          clear hW q f18 d18
          by_cases a5 : (hereT ts (nx + 3)).kind = 1
          · refine (syn_take_yes bp bt ct ts nv (nx + 3) 1 _ H10.out (by omega) a5).mono ?_
            rintro e w11 ⟨rfl, P, o⟩
            have H11 := hide P
            have HD11 := hide (HD10.out.only o (by simp; omega))
            have o11 : OnlyB [bp, bn] w w11 := (o10.wide (by simp)).trans (o.wide (by simp))
            clear P o
            go_wp2_with fail
            by_cases a6 : (hereT ts (nx + 4)).kind = 22
            · have er := HT.out
              rw [spanR, if_pos a1, if_pos a2, if_pos a3, if_neg a4, if_pos a5, if_pos a6, ← HK0.out, ← HKB.out, ← HKC.out] at er
              subst er
              refine (syn_take_yes bp bt ct ts nv (nx + 4) 22 _ H11.out (by omega) a6).mono ?_
              rintro e w12 ⟨rfl, P, o⟩
              have H12 := hide P
              have HD12 := hide (HD11.out.only o (by simp; omega))
              have o12 : OnlyB [bp, bn] w w12 := (o11.wide (by simp)).trans (o.wide (by simp))
              clear P o
              go_wp2_with fail
              go_ret
              exact ⟨rfl, H12.out, HD12.out, o12⟩
            · have er := HT.out
              rw [spanR, if_pos a1, if_pos a2, if_pos a3, if_neg a4, if_pos a5, if_neg a6, ← HK0.out, ← HKB.out, ← HKC.out] at er
              subst er
              refine (syn_take_no bp bt ct ts nv (nx + 4) 22 _ H11.out (by omega) a6).mono ?_
              rintro e w12 ⟨rfl, P, o⟩
              have H12 := hide P
              have HD12 := hide (HD11.out.only o (by simp; omega))
              have o12 : OnlyB [bp, bn] w w12 := (o11.wide (by simp)).trans (o.wide (by simp))
              clear P o
              go_wp2_with fail
              go_ret
              exact ⟨rfl, H12.out, HD12.out, o12⟩
          · have er := HT.out
            rw [spanR, if_pos a1, if_pos a2, if_pos a3, if_neg a4, if_neg a5, ← HK0.out, ← HKB.out, ← HKC.out] at er
            subst er
            refine (syn_take_no bp bt ct ts nv (nx + 3) 1 _ H10.out (by omega) a5).mono ?_
            rintro e w11 ⟨rfl, P, o⟩
            have H11 := hide P
            have HD11 := hide (HD10.out.only o (by simp; omega))
            have o11 : OnlyB [bp, bn] w w11 := (o10.wide (by simp)).trans (o.wide (by simp))
            clear P o
            go_wp2_with fail
            go_ret
            exact ⟨rfl, H11.out, HD11.out, o11⟩
      · have er := HT.out
        rw [spanR, if_pos a1, if_pos a2, if_neg a3, ← HK0.out, ← HKB.out] at er
        subst er
        refine (syn_take_no bp bt ct ts nv (nx + 2) 20 _ H6.out (by omega) a3).mono ?_
        rintro e w7 ⟨rfl, P, o⟩
        have H7 := hide P
        have HD7 := hide (HD6.out.only o (by simp; omega))
        have o7 : OnlyB [bp, bn] w w7 := (o6.wide (by simp)).trans (o.wide (by simp))
        clear P o
        go_wp2_with fail
        go_ret
        exact ⟨rfl, H7.out, HD7.out, o7⟩
    · have er := HT.out
      rw [spanR, if_pos a1, if_neg a2, ← HK0.out, ← HKB.out] at er
      subst er
      refine (syn_take_no bp bt ct ts nv (nx + 1) 1 _ H5.out (by omega) a2).mono ?_
      rintro e w6 ⟨rfl, P, o⟩
      have H6 := hide P
      have HD6 := hide (HD5.out.only o (by simp; omega))
      have o6 : OnlyB [bp, bn] w w6 := (o5.wide (by simp)).trans (o.wide (by simp))
      clear P o
      go_wp2_with fail
      go_ret
      exact ⟨rfl, H6.out, HD6.out, o6⟩
  · have er := HT.out
    rw [spanR, if_neg a1, ← HK0.out] at er
    subst er
    refine (syn_take_no bp bt ct ts nv (nx) 21 _ H2.out (by omega) a1).mono ?_
    rintro e w3 ⟨rfl, P, o⟩
    have H3 := hide P
    have HD3 := hide (HD2.out.only o (by simp; omega))
    have o3 : OnlyB [bp, bn] w w3 := (o2.wide (by simp)).trans (o.wide (by simp))
    clear P o
    go_wp2_with fail
    go_ret
    exact ⟨rfl, H3.out, HD3.out, o3⟩
end Go.Proofs.YtiamjjonoeaggaaDoor
