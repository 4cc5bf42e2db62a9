import Derived.Test.YtiamjjonoeaggaaDoorSynA
namespace Go.Proofs.YtiamjjonoeaggaaDoor
open Go.RowKit

theorem OnlyB.drew {bl : List Nat} {a w : World} (h : OnlyB bl a w) : OnlyB bl a w.drew := h.trans (.of_below (Below.refl _ _).drew)
def argsT (ts : List PTok) (nx : Nat) (n1 : PNode) : Bool × Nat × PNode :=
  if (hereT ts (nx + 2)).kind = 20 then
    if okArg (hereT ts (nx + 3)) = true then
      if (hereT ts (nx + 4)).kind = 19 then (true, nx + 5, { n1 with k1 := (hereT ts (nx + 3)).kind, v1 := (hereT ts (nx + 3)).val, cnt := 2 }) else (false, nx + 4, { n1 with k1 := (hereT ts (nx + 3)).kind, v1 := (hereT ts (nx + 3)).val, cnt := 2 })
    else (false, nx + 3, n1)
  else if (hereT ts (nx + 2)).kind = 19 then (true, nx + 3, n1) else (false, nx + 2, n1)
def argsR (ts : List PTok) (nx : Nat) (nd : PNode) : Bool × Nat × PNode :=
  if (hereT ts nx).kind = 18 then
    if okArg (hereT ts (nx + 1)) = true then argsT ts nx { nd with k0 := (hereT ts (nx + 1)).kind, v0 := (hereT ts (nx + 1)).val, cnt := 1 }
    else (false, nx + 1, nd)
  else (false, nx, nd)
set_option maxRecDepth 100000 in
set_option maxHeartbeats 4000000 in
theorem syn_args (bp bt ct : Nat) (ts : List PTok) (nv : Value) (nx bn : Nat) (nd : PNode) (w : World) (h : Pars w bp bt ct ts nv nx) (hn : nx ≤ 10000) (hd : NodeAt w bn nd) (hne : bn ≠ bp ∧ bn ≠ bt) :
    Calls Tryd.prog 65 #[.pointer (some ⟨bp, 0, none⟩), .pointer (some ⟨bn, 0, none⟩)] w fun e w' => e = .returned (.bool (argsR ts nx nd).1) ∧ Pars w' bp bt ct ts nv (argsR ts nx nd).2.1 ∧ NodeAt w' bn (argsR ts nx nd).2.2 ∧ OnlyB [bp, bn] w w' := by
  obtain ⟨hne1, hne2⟩ := hne
  unfold argsR
  by_cases a1 : (hereT ts nx).kind = 18
  · rw [if_pos a1]
    by_cases a2 : okArg (hereT ts (nx + 1)) = true
    · rw [if_pos a2]
      have t1 := fun w h => syn_take_yes bp bt ct ts nv nx 18 w h (by omega) a1
      have t2 := fun w h => syn_arg_yes bp bt ct ts nv (nx + 1) w h (by omega) a2
      generalize (hereT ts (nx + 1)).kind = k0 at *
      generalize (hereT ts (nx + 1)).val = v0 at *
      obtain ⟨n1, hn1⟩ : ∃ n1 : PNode, n1 = { nd with k0 := k0, v0 := v0, cnt := 1 } := ⟨_, rfl⟩
      rw [← hn1]
      have HN := hide hn1
      generalize hr : argsT ts nx n1 = r
      have HT : Hid (argsT ts nx n1 = r) := hide hr
      have H := hide h
      have HD := hide hd
      clear h hd a1 a2 hr hn1
      go_enter Tryd.func65, Tryd.ntmps65
      go_wp2_with fail
      refine (t1 _ H.out).mono ?_
      rintro e w1 ⟨rfl, P1, o1⟩
      have H1 := hide P1
      clear P1
      go_wp2_with fail
      refine (t2 _ H1.out).mono ?_
      rintro e w2 ⟨rfl, P2, o2⟩
      have o12 := o1.trans o2
      have D2 := HD.out.only o12 (by simp; omega)
      have H2 := hide P2
      have f10 := D2.free 10
      have f11 := D2.free 11
      have f14 := D2.free 14
      have d10 := D2.cells 10 (by omega)
      have d11 := D2.cells 11 (by omega)
      have d14 := D2.cells 14 (by omega)
      simp only [nodeCs, List.getElem?_cons_succ, List.getElem?_cons_zero] at d10 d11 d14
      have hl2 := D2.lt
      have HD2 := hide D2
      clear P2 D2
      go_wp2_with fail
      go_region
      go_wp2_with fail
      obtain ⟨W3, hW⟩ : ∃ W : World, W = ((((w2.setCell ⟨bn, 10, none⟩ (.int .i64 k0)).setCell ⟨bn, 11, none⟩ (.int .i64 v0)).setCell ⟨bn, 14, none⟩ (.int .i64 1)).alloc (.cells #[.int .i64 k0, .int .i64 v0] 90)).drew := ⟨_, rfl⟩
      rw [← hW]
      have q3 : OnlyB [bn] w2 W3 := by rw [hW]; exact (((((OnlyB.refl _ _).setCell (by simp) _).setCell (by simp) _).setCell (by simp) _).alloc _).drew
      have P3 := H2.out.only q3 (by simp; omega) (by simp; omega)
      have D3 : NodeAt W3 bn n1 := by
        rw [hW, HN.out]
        exact (((HD2.out.set (n' := { nd with k0 := k0 }) 10 (by omega) (.int .i64 k0) rfl).set (n' := { nd with k0 := k0, v0 := v0 }) 11 (by omega) (.int .i64 v0) rfl).set (n' := { nd with k0 := k0, v0 := v0, cnt := 1 }) 14 (by omega) (.int .i64 1) rfl).only ((OnlyB.refl [] _).alloc _).drew (by simp)
      have o3 : OnlyB [bp, bn] w W3 := (o12.wide (by simp)).trans (q3.wide (by simp))
      clear hW f10 f11 f14 d10 d11 d14
      have H3 := hide P3
      have HD3 := hide D3
      clear P3 D3 q3
      by_cases b1 : (hereT ts (nx + 2)).kind = 20
      · refine (syn_take_yes bp bt ct ts nv (nx + 2) 20 _ H3.out (by omega) b1).mono ?_
        rintro e w4 ⟨rfl, P4, o4⟩
        have H4 := hide P4
        have HD4 := hide (HD3.out.only o4 (by simp; omega))
        have o4' := o3.trans (o4.wide (by simp))
        clear P4
        go_wp2_with fail
        by_cases b2 : okArg (hereT ts (nx + 3)) = true
        · have t4 := syn_arg_yes bp bt ct ts nv (nx + 3) w4 H4.out (by omega) b2
          generalize hk1 : (hereT ts (nx + 3)).kind = k1 at t4
          generalize hv1 : (hereT ts (nx + 3)).val = v1 at t4
          have HK := hide hk1
          have HV := hide hv1
          clear hk1 hv1
          refine t4.mono ?_
          rintro e w5 ⟨rfl, P5, o5⟩
          have D5 := HD4.out.only o5 (by simp; omega)
          have H5 := hide P5
          have f12 := D5.free 12
          have f13 := D5.free 13
          have f14 := D5.free 14
          have d12 := D5.cells 12 (by omega)
          have d13 := D5.cells 13 (by omega)
          have d14 := D5.cells 14 (by omega)
          simp only [nodeCs, List.getElem?_cons_succ, List.getElem?_cons_zero] at d12 d13 d14
          have hl5 := D5.lt
          have HD5 := hide D5
          clear P5 D5
          go_wp2_with fail
          go_region
          go_wp2_with fail
          obtain ⟨W6, hW⟩ : ∃ W : World, W = ((((w5.setCell ⟨bn, 12, none⟩ (.int .i64 k1)).setCell ⟨bn, 13, none⟩ (.int .i64 v1)).setCell ⟨bn, 14, none⟩ (.int .i64 2)).alloc (.cells #[.int .i64 k1, .int .i64 v1] 90)).drew := ⟨_, rfl⟩
          rw [← hW]
          have q6 : OnlyB [bn] w5 W6 := by rw [hW]; exact (((((OnlyB.refl _ _).setCell (by simp) _).setCell (by simp) _).setCell (by simp) _).alloc _).drew
          have P6 := H5.out.only q6 (by simp; omega) (by simp; omega)
          have D6 : NodeAt W6 bn { n1 with k1 := k1, v1 := v1, cnt := 2 } := by
            rw [hW]
            exact (((HD5.out.set (n' := { n1 with k1 := k1 }) 12 (by omega) (.int .i64 k1) rfl).set (n' := { n1 with k1 := k1, v1 := v1 }) 13 (by omega) (.int .i64 v1) rfl).set (n' := { n1 with k1 := k1, v1 := v1, cnt := 2 }) 14 (by omega) (.int .i64 2) rfl).only ((OnlyB.refl [] _).alloc _).drew (by simp)
          have o6 : OnlyB [bp, bn] w W6 := (o4'.trans (o5.wide (by simp))).trans (q6.wide (by simp))
          clear hW f12 f13 f14 d12 d13 d14
          have H6 := hide P6
          have HD6 := hide D6
          clear P6 D6 q6
          by_cases b3 : (hereT ts (nx + 4)).kind = 19
          · have er := HT.out
            rw [argsT, if_pos b1, if_pos b2, if_pos b3, HK.out, HV.out] at er
            subst er
            refine (syn_take_yes bp bt ct ts nv (nx + 4) 19 _ H6.out (by omega) b3).mono ?_
            rintro e w7 ⟨rfl, P7, o7⟩
            have D7 := HD6.out.only o7 (by simp; omega)
            go_wp2_with fail
            go_ret
            exact ⟨rfl, P7, D7, o6.trans (o7.wide (by simp))⟩
          · have er := HT.out
            rw [argsT, if_pos b1, if_pos b2, if_neg b3, HK.out, HV.out] at er
            subst er
            refine (syn_take_no bp bt ct ts nv (nx + 4) 19 _ H6.out (by omega) b3).mono ?_
            rintro e w7 ⟨rfl, P7, o7⟩
            have D7 := HD6.out.only o7 (by simp; omega)
            go_wp2_with fail
            go_ret
            exact ⟨rfl, P7, D7, o6.trans (o7.wide (by simp))⟩
        · have er := HT.out
          rw [argsT, if_pos b1, if_neg b2] at er
          subst er
          refine (syn_arg_no bp bt ct ts nv (nx + 3) w4 H4.out (by omega) (by simpa using b2)).mono ?_
          rintro e w5 ⟨rfl, P5, o5⟩
          have H5 := hide P5
          have D5 := HD4.out.only o5 (by simp; omega)
          have HD5 := hide D5
          clear P5 D5
          go_wp2_with fail
          go_ret
          exact ⟨rfl, H5.out.only (.nw [] _ _) (by simp) (by simp), HD5.out.only (.nw [] _ _) (by simp), (o4'.trans (o5.wide (by simp))).alloc _⟩
      · refine (syn_take_no bp bt ct ts nv (nx + 2) 20 _ H3.out (by omega) b1).mono ?_
        rintro e w4 ⟨rfl, P4, o4⟩
        have H4 := hide P4
        have HD4 := hide (HD3.out.only o4 (by simp; omega))
        have o4' := o3.trans (o4.wide (by simp))
        clear P4
        go_wp2_with fail
        by_cases b2 : (hereT ts (nx + 2)).kind = 19
        · have er := HT.out
          rw [argsT, if_neg b1, if_pos b2] at er
          subst er
          refine (syn_take_yes bp bt ct ts nv (nx + 2) 19 _ H4.out (by omega) b2).mono ?_
          rintro e w5 ⟨rfl, P5, o5⟩
          have D5 := HD4.out.only o5 (by simp; omega)
          go_wp2_with fail
          go_ret
          exact ⟨rfl, P5, D5, o4'.trans (o5.wide (by simp))⟩
        · have er := HT.out
          rw [argsT, if_neg b1, if_neg b2] at er
          subst er
          refine (syn_take_no bp bt ct ts nv (nx + 2) 19 _ H4.out (by omega) b2).mono ?_
          rintro e w5 ⟨rfl, P5, o5⟩
          have D5 := HD4.out.only o5 (by simp; omega)
          go_wp2_with fail
          go_ret
          exact ⟨rfl, P5, D5, o4'.trans (o5.wide (by simp))⟩
    · rw [if_neg a2]
      have t1 := fun w h => syn_take_yes bp bt ct ts nv nx 18 w h (by omega) a1
      have t2 := fun w h => syn_arg_no bp bt ct ts nv (nx + 1) w h (by omega) (by simpa using a2)
      have H := hide h
      have HD := hide hd
      clear h hd a1 a2
      go_enter Tryd.func65, Tryd.ntmps65
      go_wp2_with fail
      refine (t1 _ H.out).mono ?_
      rintro e w1 ⟨rfl, P1, o1⟩
      have H1 := hide P1
      clear P1
      go_wp2_with fail
      refine (t2 _ H1.out).mono ?_
      rintro e w2 ⟨rfl, P2, o2⟩
      have o12 := o1.trans o2
      have D2 := HD.out.only o12 (by simp; omega)
      have H2 := hide P2
      have HD2 := hide D2
      clear P2 D2
      go_wp2_with fail
      go_ret
      exact ⟨rfl, H2.out.only (.nw [] _ _) (by simp) (by simp), HD2.out.only (.nw [] _ _) (by simp), (o12.wide (by simp)).alloc _⟩
  · rw [if_neg a1]
    have t1 := fun w h => syn_take_no bp bt ct ts nv nx 18 w h (by omega) a1
    have H := hide h
    have HD := hide hd
    clear h hd a1
    go_enter Tryd.func65, Tryd.ntmps65
    go_wp2_with fail
    refine (t1 _ H.out).mono ?_
    rintro e w1 ⟨rfl, P1, o1⟩
    have H1 := hide P1
    clear P1
    go_wp2_with fail
    go_ret
    exact ⟨rfl, H1.out, HD.out.only o1 (by simp; omega), o1.wide (by simp)⟩
end Go.Proofs.YtiamjjonoeaggaaDoor
