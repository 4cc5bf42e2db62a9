import Derived.Test.YtiamjjonoeaggaaDoorRulD
import Derived.Test.YtiamjjonoeaggaaDoorRulE
namespace Go.Proofs.YtiamjjonoeaggaaDoor
open Go.RowKit

/-- The first that is so, from k on. -/
theorem find_step {α : Type} (l : List α) (p : α → Bool) (k : Nat) (x : α) (h : l[k]? = some x) : (l.drop k).find? p = if p x then some x else (l.drop (k + 1)).find? p := by
  obtain ⟨hlt, he⟩ := List.getElem?_eq_some_iff.1 h
  rw [List.drop_eq_getElem_cons hlt, he, List.find?_cons]
  cases p x <;> rfl
/-- What rules.Check says: x, y, the reach, the error, the place. -/
def rulesR (F : Form) : PInfo × Int × Int := if (faultF F).1 = 0 then (infoT F, 0, 0) else (⟨false, false, 0⟩, (faultF F).1, (faultF F).2)
def LRel (F : Form) (B : Nat) (bad : Form → Bool) (w0 : World) (g : Nat) (vi : Value) (wr : World) : Prop :=
  ∃ k : Nat, k ≤ sizeF F ∧ sizeF F - k ≤ g ∧ vi = .int .i64 k ∧ (subsF F).find? bad = ((subsF F).drop k).find? bad ∧ Below B w0 wr
theorem fault_range {F G : Form} (h : (subsF F).find? rangeBad = some G) : faultF F = (4, (spanOf G : Int)) := by unfold faultF; rw [h]
theorem fault_open {F G : Form} (h1 : (subsF F).find? rangeBad = none) (h : (subsF F).find? openBad = some G) : faultF F = (5, (spanOf G : Int)) := by unfold faultF; rw [h1, h]
theorem fault_free {F G : Form} (h1 : (subsF F).find? rangeBad = none) (h2 : (subsF F).find? openBad = none) (h : (subsF F).find? wrongB = some G) : faultF F = (6, (posOf G : Int)) := by unfold faultF; rw [h1, h2, h]
theorem fault_none {F : Form} (h1 : (subsF F).find? rangeBad = none) (h2 : (subsF F).find? openBad = none) (h : (subsF F).find? wrongB = none) : faultF F = (0, 0) := by unfold faultF; rw [h1, h2, h]
/-- The cells of the result. -/
structure ResAt (w : World) (rb : Nat) : Prop where
  row : w.heap[rb]? = some (.cells #[.bool false, .bool false, .int .i64 0] 34 (0, 0))
theorem ResAt.facts {w : World} {rb : Nat} (h : ResAt w rb) : w.cell? ⟨rb, 0, none⟩ = some (.bool false) ∧ w.cell? ⟨rb, 1, none⟩ = some (.bool false) ∧ w.cell? ⟨rb, 2, none⟩ = some (.int .i64 0) ∧ (∀ j, w.frozen? ⟨rb, j, none⟩ = false) ∧ rb < w.heap.size :=
  ⟨cell_of_row _ _ 0 _ _ _ h.row, cell_of_row _ _ 1 _ _ _ h.row, cell_of_row _ _ 2 _ _ _ h.row, fun j => frozen_of_row _ _ j _ _ h.row, (Array.getElem?_eq_some_iff.1 h.row).1⟩
theorem ResAt.below {w w' : World} {rb B : Nat} (h : ResAt w rb) (hb : Below B w w') (hB : rb < B) : ResAt w' rb := ⟨by rw [hb.block rb hB]; exact h.row⟩
set_option maxRecDepth 100000 in
set_option maxHeartbeats 4000000 in
theorem rul_Check (F : Form) (hF : FormOk F) (hS : SmallF F) (hN : sizeF F ≤ 255) (h0 : F ≠ .nil) (gn cn : Nat) (w : World) (h : NodesAt w gn cn (nodesOf F 0)) :
    Calls Tryd.prog 17 #[.slice (some ⟨gn, 0, none⟩) (sizeF F) cn] w fun e w' => e = .returned (.tuple #[infoV (rulesR F).1, .int .i64 (rulesR F).2.1, .int .i64 (rulesR F).2.2]) ∧ Below w.heap.size w w' := by
  have H := hide h
  have hlt := h.lt
  have HI := hide (rul_infosOf F hF hS hN)
  have HNF := hide (fun m hm k hk => node_facts F hF hS hN m hm k hk)
  have HLN := hide (fun k h => infosK_length F k h)
  have HZ := hide (infosK_zero F)
  have HSB := hide (subs_size F)
  have HR : Hid (rulesR F = if (faultF F).1 = 0 then (infoT F, 0, 0) else (⟨false, false, 0⟩, (faultF F).1, (faultF F).2)) := hide rfl
  have H0 := hide h0
  clear h h0 hF hS
  generalize rulesR F = r at *
  generalize hn : sizeF F = N at *
  have HSZ := hide hn
  clear hn
  obtain ⟨w0, hw0⟩ : ∃ W : World, W = w.alloc (.cells #[.bool false, .bool false, .int .i64 0] 34) := ⟨_, rfl⟩
  have HW0 : Hid (Below w.heap.size w w0 ∧ ResAt w0 w.heap.size ∧ w0.heap.size = w.heap.size + 1) := hide ⟨by rw [hw0]; exact (Below.refl _ _).alloc (Nat.le_refl _) _, ⟨by rw [hw0]; exact heap_alloc_new _ _⟩, by rw [hw0]; simp⟩
  have HWE := hide hw0
  clear hw0
  go_enter Tryd.func17, Tryd.ntmps17
  go_wp2_with fail
  rw [← HWE.out]
  go_loopg [5] N (fun g vi wr => LRel F (w.heap.size + 1) rangeBad w0 g vi wr)
  case atStart => exact ⟨0, Nat.zero_le _, by have := HSZ.out; omega, rfl, rfl, Below.refl _ _⟩
  case round =>
    obtain ⟨k, hk, hg, rfl, hfd, hbel⟩ := hrel
    rw [HSZ.out] at hk hg
    have HG := hide hg
    have HFD := hide hfd
    have hb1 : Below w.heap.size w wr := HW0.out.1.trans (hbel.mono (by omega))
    have hRs := HW0.out.2.1.below hbel (by omega)
    have HB := hide hb1
    have HBE := hide hbel
    have HRS := hide hRs
    have hNr := H.out.below hb1
    have hgl := hNr.lt
    obtain ⟨s0, s1, s2, s3, s4⟩ := hRs.facts
    clear hg hfd hb1 hbel hRs
    by_cases hkn : k < N
    · obtain ⟨nd, G, a, b, g1, g2, _, _, _, _, gb, _, gs, _, _, _, _, _, _, _, _, _⟩ := HNF.out k hkn 0 (Nat.zero_le _)
      have hr := hNr.cells k nd g2
      have c16 := hr 16 _ rfl
      have c17 := hr 17 _ rfl
      have c18 := hr 18 _ rfl
      have c19 := hr 19 _ rfl
      have hback := rul_isBackward nd
      have HFS := hide (find_step _ rangeBad k G g1)
      rw [gb] at hback
      rw [gs] at c16
      have HGS := hide gs
      clear hr g2 gb hNr g1
      obtain ⟨_, _, _, _, _, _, _, _, _, sat, slo, shi, sop, _, _⟩ := nd
      simp only [] at c16 c17 c18 c19 hback
      have es : sat = spanOf G := HGS.out
      subst es
      cases hbd : rangeBad G with
      | true =>
        have hflt := fault_range (F := F) (G := G) (by rw [HFD.out, HFS.out, hbd]; rfl)
        have er := HR.out
        rw [hflt] at er
        simp only [] at er
        rw [if_neg (by decide)] at er
        subst er
        have HER := hide hflt
        clear hflt
        rw [hbd] at hback
        go_wp2_with fail
        refine (hback _).mono ?_
        rintro e w2 ⟨rfl, b2⟩
        have hR2 := (HRS.out.below b2 s4).facts
        obtain ⟨t0, t1, t2, t3, t4⟩ := hR2
        have d16 : w2.cell? ⟨gn, k * 22 + 16, none⟩ = some (.int .i64 (spanOf G : Int)) := by rw [World.cell?_of_block (w := wr) (b2.block gn hgl)]; exact c16
        have hgn2 : gn < w2.heap.size := Nat.lt_of_lt_of_le hgl b2.size
        have hne : gn ≠ w.heap.size := by omega
        have B2 : Below w.heap.size w w2 := HB.out.trans (b2.mono (by have := HB.out.size; omega))
        have HB2 := hide B2
        clear B2 b2 s0 s1 s2 s3
        go_wp2_with fail
        go_region
        all_goals
          go_wp2_with fail
          exact bodyPost_ret (v := .tuple #[infoV ⟨false, false, 0⟩, .int .i64 4, .int .i64 (spanOf G : Int)]) (by simp [results, Tryd.results17, go_sem, t0, t1, t2]) rfl ⟨rfl, (((HB2.out.setCell (Nat.le_refl _) _).setCell (Nat.le_refl _) _).setCell (Nat.le_refl _) _).drew⟩
      | false =>
        rw [hbd] at hback
        go_wp2_with fail
        refine (hback _).mono ?_
        rintro e w2 ⟨rfl, b2⟩
        go_wp2_with fail
        have hg1 : 0 < gk := by have := HG.out; omega
        go_roundg (gk - 1)
        case measure => omega
        case rel => exact ⟨k + 1, by have := HSZ.out; omega, by have := HSZ.out; have := HG.out; omega, by go_num, by rw [HFD.out, HFS.out, hbd]; rfl, HBE.out.trans (b2.mono (by have := HBE.out.size; have := HW0.out.2.2; omega))⟩
    · have hnone : (subsF F).find? rangeBad = none := by rw [HFD.out, List.drop_of_length_le (by rw [HSB.out]; omega)]; rfl
      have HN1 := hide hnone
      have HBE1 := HBE
      clear hnone HFD HG hNr HRS HB HBE s0 s1 s2 s3 s4 hgl
      go_wp2_with fail
      go_loopg [6] N (fun g vi wr => LRel F (w.heap.size + 1) openBad w0 g vi wr)
      case atStart => exact ⟨0, Nat.zero_le _, by have := HSZ.out; omega, rfl, rfl, HBE1.out⟩
      case round =>
        clear HBE1 hk hkn
        obtain ⟨k, hk, hg, rfl, hfd, hbel⟩ := hrel
        rw [HSZ.out] at hk hg
        have HG := hide hg
        have HFD := hide hfd
        have hb1 := HW0.out.1.trans (hbel.mono (B' := w.heap.size) (by omega))
        have hRs := HW0.out.2.1.below hbel (by omega)
        have HB := hide hb1
        have HBE := hide hbel
        have HRS := hide hRs
        have hNr := H.out.below hb1
        have hgl := hNr.lt
        obtain ⟨s0, s1, s2, s3, s4⟩ := hRs.facts
        clear hg hfd hb1 hbel hRs
        by_cases hkn : k < N
        · obtain ⟨nd, G, a, b, g1, g2, _, _, _, _, _, gb, gs, _, _, _, _, _, _, _, _, _⟩ := HNF.out k hkn 0 (Nat.zero_le _)
          have hr := hNr.cells k nd g2
          have c0 := hr 0 _ rfl
          have c16 := hr 16 _ rfl
          have c19 := hr 19 _ rfl
          have hla := rul_looksAhead nd.kind
          have HFS := hide (find_step _ openBad k G g1)
          rw [gs] at c16
          have HOP : Hid (openBad G = (nd.sop && aheadK nd.kind)) := hide gb.symm
          clear hr g2 gb hNr g1 gs
          rw [Nat.add_zero] at c0
          generalize nd.kind = kd at *
          generalize nd.sop = sop at *
          have hnext : ∀ w2, Below wr.heap.size wr w2 → openBad G = false → LRel F (w.heap.size + 1) openBad w0 (gk - 1) (.int .i64 ((k : Int) + 1)) w2 := fun w2 b2 hb => ⟨k + 1, by have := HSZ.out; omega, by have := HSZ.out; have := HG.out; omega, by simp, by rw [HFD.out, HFS.out, hb]; rfl, HBE.out.trans (b2.mono (by have := HBE.out.size; have := HW0.out.2.2; omega))⟩
          have HNX := hide hnext
          clear hnext
          cases sop with
          | false =>
            have ho : openBad G = false := by rw [HOP.out]; rfl
            go_wp2_with fail
            have hg1 : 0 < gk := by have := HG.out; omega
            go_roundg (gk - 1)
            case measure => omega
            case rel => exact HNX.out _ (Below.refl _ _) ho
          | true =>
            cases hah : aheadK kd with
            | false =>
              have ho : openBad G = false := by rw [HOP.out, hah]; rfl
              rw [hah] at hla
              go_wp2_with fail
              refine (hla _).mono ?_
              rintro e w2 ⟨rfl, hw⟩
              rw [hw]
              clear hw w2
              go_wp2_with fail
              have hg1 : 0 < gk := by have := HG.out; omega
              go_roundg (gk - 1)
              case measure => omega
              case rel => exact HNX.out _ (Below.refl _ _) ho
            | true =>
              have ho : openBad G = true := by rw [HOP.out, hah]; rfl
              rw [hah] at hla
              have hflt := fault_open (F := F) (G := G) HN1.out (by rw [HFD.out, HFS.out, ho]; rfl)
              have er := HR.out
              rw [hflt] at er
              simp only [] at er
              rw [if_neg (by decide)] at er
              subst er
              clear hflt
              go_wp2_with fail
              refine (hla _).mono ?_
              rintro e w2 ⟨rfl, hw⟩
              have b2 : Below wr.heap.size wr w2 := by rw [hw]; exact Below.refl _ _
              clear hw
              have hR2 := (HRS.out.below b2 s4).facts
              obtain ⟨t0, t1, t2, t3, t4⟩ := hR2
              have d16 : w2.cell? ⟨gn, k * 22 + 16, none⟩ = some (.int .i64 (spanOf G : Int)) := by rw [World.cell?_of_block (w := wr) (b2.block gn hgl)]; exact c16
              have hgn2 : gn < w2.heap.size := Nat.lt_of_lt_of_le hgl b2.size
              have hne : gn ≠ w.heap.size := by omega
              have B2 : Below w.heap.size w w2 := HB.out.trans (b2.mono (by have := HB.out.size; omega))
              have HB2 := hide B2
              clear B2 b2 s0 s1 s2 s3
              go_wp2_with fail
              go_region
              all_goals
                go_wp2_with fail
                exact bodyPost_ret (v := .tuple #[infoV ⟨false, false, 0⟩, .int .i64 5, .int .i64 (spanOf G : Int)]) (by simp [results, Tryd.results17, go_sem, t0, t1, t2]) rfl ⟨rfl, (((HB2.out.setCell (Nat.le_refl _) _).setCell (Nat.le_refl _) _).setCell (Nat.le_refl _) _).drew⟩
        · have hnone : (subsF F).find? openBad = none := by rw [HFD.out, List.drop_of_length_le (by rw [HSB.out]; omega)]; rfl
          have HN2 := hide hnone
          clear hnone HFD HG s0 s1 s2 s3 s4 hgl
          go_wp2_with fail
          refine (HI.out gn cn _ hNr).mono ?_
          rintro e wI ⟨gi, rfl, hown, bI⟩
          have HOW := hide hown
          have BI : Below w.heap.size w wI := HB.out.trans (bI.mono (by have := HB.out.size; omega))
          have hRI := HRS.out.below bI (HRS.out.facts.2.2.2.2)
          have HBI := hide BI
          have HRI := hide hRI
          have hNI := hNr.below bI
          have HNI := hide hNI
          clear hNr HB HBE HRS hown BI hRI hNI bI
          go_wp2_with fail
          go_loopg [8] N (fun g vi wr => LRel F wI.heap.size wrongB wI g vi wr)
          case atStart => exact ⟨0, Nat.zero_le _, by have := HSZ.out; omega, rfl, rfl, Below.refl _ _⟩
          case round =>
            clear hk hkn
            obtain ⟨k, hk, hg, rfl, hfd, hbel⟩ := hrel
            rw [HSZ.out] at hk hg
            have HG := hide hg
            have HFD := hide hfd
            have hlI : w.heap.size < wI.heap.size := HRI.out.facts.2.2.2.2
            have hb1 : Below w.heap.size w wr := HBI.out.trans (hbel.mono (by omega))
            have hRs := HRI.out.below hbel hlI
            have hO := ownsRow_below HOW.out hbel
            rw [← HZ.out] at hO
            have hln := HLN.out 0 (Nat.zero_le _)
            obtain ⟨base, hO'⟩ : ∃ base, wr.ownsRow base 34 3 (.slice (some ⟨gi, 0, none⟩) (infosK F 0).length N) (infosK F 0).length (inCells (infosK F 0)) := ⟨_, by rw [hln]; exact hO⟩
            have HB := hide hb1
            have HBE := hide hbel
            have HRS := hide hRs
            have HO := hide hO'
            have hNr := HNI.out.below hbel
            have hgl := hNr.lt
            obtain ⟨s0, s1, s2, s3, s4⟩ := hRs.facts
            clear hg hfd hb1 hbel hRs hO hO'
            by_cases hkn : k < N
            · obtain ⟨nd, G, a, b, g1, g2, g3, g4, _, gw, _, _, _, gp, f1, f2, _, _, _, _, _, _⟩ := HNF.out k hkn 0 (Nat.zero_le _)
              have hr := hNr.cells k nd g2
              have c1 := hr 1 _ rfl
              have hL := hNr.load g2
              obtain ⟨V, hV⟩ : ∃ V, V = nodeV nd := ⟨_, rfl⟩
              rw [← hV] at hL
              have hcall := rul_isFreeWrongly nd V hV (infosK F 0) _ gi N wr HO.out (by rw [hln]; omega) f1 f2 a b g3 g4
              rw [gw, hln] at hcall
              rw [gp] at c1
              have HFS := hide (find_step _ wrongB k G g1)
              have HCL := hide hcall
              clear hr g1 g2 g3 g4 gw gp f1 f2 hV hcall hNr
              cases hbd : wrongB G with
              | true =>
                have hflt := fault_free (F := F) (G := G) HN1.out HN2.out (by rw [HFD.out, HFS.out, hbd]; rfl)
                have er := HR.out
                rw [hflt] at er
                simp only [] at er
                rw [if_neg (by decide)] at er
                subst er
                clear hflt
                have hcall := HCL.out
                rw [hbd] at hcall
                have HCL := hide hcall
                clear hcall
                go_wp2_with (refine wp_load_from rfl 95 (.tmp 65) rfl ⟨gn, k * 22, none⟩ V rfl hL ?_)
                refine (HCL.out).mono ?_
                rintro e w2 ⟨rfl, b2⟩
                have hR2 := (HRS.out.below b2 s4).facts
                obtain ⟨t0, t1, t2, t3, t4⟩ := hR2
                have d16 : w2.cell? ⟨gn, k * 22 + 1, none⟩ = some (.int .i64 (posOf G : Int)) := by rw [World.cell?_of_block (w := wr) (b2.block gn hgl)]; exact c1
                have hgn2 : gn < w2.heap.size := Nat.lt_of_lt_of_le hgl b2.size
                have hne : gn ≠ w.heap.size := by omega
                have B2 : Below w.heap.size w w2 := HB.out.trans (b2.mono (by have := HB.out.size; omega))
                have HB2 := hide B2
                clear B2 b2 s0 s1 s2 s3
                go_wp2_with fail
                go_region
                all_goals
                  go_wp2_with fail
                  exact bodyPost_ret (v := .tuple #[infoV ⟨false, false, 0⟩, .int .i64 6, .int .i64 (posOf G : Int)]) (by simp [results, Tryd.results17, go_sem, t0, t1, t2]) rfl ⟨rfl, (((HB2.out.setCell (Nat.le_refl _) _).setCell (Nat.le_refl _) _).setCell (Nat.le_refl _) _).drew⟩
              | false =>
                have hcall := HCL.out
                rw [hbd] at hcall
                have HCL := hide hcall
                clear hcall
                go_wp2_with (refine wp_load_from rfl 95 (.tmp 65) rfl ⟨gn, k * 22, none⟩ V rfl hL ?_)
                refine (HCL.out).mono ?_
                rintro e w2 ⟨rfl, b2⟩
                go_wp2_with fail
                have hg1 : 0 < gk := by have := HG.out; omega
                go_roundg (gk - 1)
                case measure => omega
                case rel => exact ⟨k + 1, by have := HSZ.out; omega, by have := HSZ.out; have := HG.out; omega, by go_num, by rw [HFD.out, HFS.out, hbd]; rfl, HBE.out.trans (b2.mono HBE.out.size)⟩
            · have hnone : (subsF F).find? wrongB = none := by rw [HFD.out, List.drop_of_length_le (by rw [HSB.out]; omega)]; rfl
              have hflt := fault_none (F := F) HN1.out HN2.out hnone
              have er := HR.out
              rw [hflt] at er
              simp only [if_true] at er
              subst er
              have hat := rul_infoAt (infosK F 0) 0 _ gi N wr HO.out (by rw [hln]; omega) (by omega)
              have h00 := infosK_at F 0 0 (Nat.le_refl _) F (subs_head H0.out).1
              rw [show ((0 : Nat) : Int) = 0 from rfl] at h00
              rw [h00, hln] at hat
              obtain ⟨it, hit⟩ : ∃ i, i = infoT F := ⟨_, rfl⟩
              rw [← hit] at hat
              have HIT := hide hit
              have HAT := hide hat
              clear hnone hflt hat h00 hNr hit
              obtain ⟨ix, iy, ir⟩ := it
              go_wp2_with fail
              refine (HAT.out).mono ?_
              rintro e w2 ⟨rfl, b2⟩
              have hR2 := (HRS.out.below b2 s4).facts
              obtain ⟨t0, t1, t2, t3, t4⟩ := hR2
              have B2 : Below w.heap.size w w2 := HB.out.trans (b2.mono (by have := HB.out.size; omega))
              have HB2 := hide B2
              clear B2 b2 s0 s1 s2 s3
              go_wp2_with fail
              exact bodyPost_ret (v := .tuple #[infoV ⟨ix, iy, ir⟩, .int .i64 0, .int .i64 0]) (by simp [results, Tryd.results17, go_sem, t0, t1, t2]) rfl ⟨by rw [← HIT.out], ((HB2.out.setCell (Nat.le_refl _) _).setCell (Nat.le_refl _) _).setCell (Nat.le_refl _) _⟩
end Go.Proofs.YtiamjjonoeaggaaDoor
