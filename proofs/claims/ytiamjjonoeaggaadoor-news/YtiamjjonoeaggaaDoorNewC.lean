import Derived.Test.YtiamjjonoeaggaaDoorNewB
namespace Go.Proofs.YtiamjjonoeaggaaDoor
open Go.RowKit

def simpleS : List UInt8 := [115, 111, 111, 110, 91, 49, 44, 51, 93, 40, 115, 105, 110, 99, 101, 91, 48, 44, 42, 93, 40, 112, 40, 120, 41, 44, 113, 40, 120, 44, 121, 41, 41, 41]
def NRel (len : Nat) (w : World) (g : Nat) (vok vi : Value) (wr : World) : Prop := ∃ k : Nat, k ≤ len ∧ len - k ≤ g ∧ vok = .bool true ∧ vi = .int .i64 k ∧ (∃ n, n ≤ k + 1 ∧ WAt wr w.heap.size n) ∧ Below w.heap.size w wr
theorem wat_new (w : World) : WAt (w.alloc (.cells #[.slice none 0 0, .slice none 0 0, .slice none 0 0, .slice none 0 0, .int .i64 0] 32)) w.heap.size 0 := by
  have hg := heap_alloc_new w (.cells #[.slice none 0 0, .slice none 0 0, .slice none 0 0, .slice none 0 0, .int .i64 0] 32)
  refine ⟨.slice none 0 0, .slice none 0 0, [], [], ?_, ?_, fun o => frozen_of_row _ _ o _ _ hg, by simp, World.ownsRow_nil _ _ _ _, World.ownsRow_nil _ _ _ _⟩
  · rw [cell_of_row _ _ 0 _ _ _ hg]; rfl
  · rw [cell_of_row _ _ 1 _ _ _ hg]; rfl
set_option maxRecDepth 100000 in
set_option maxHeartbeats 2000000 in
theorem law_News (b off len cap : Nat) (K : Nat → Int) (S : Nat → List UInt8) (w : World) (h : ScrAt w b off len K S) (hlen : len ≤ 9000000000000) :
    Calls Tryd.prog 4 #[.slice (some ⟨b, off, none⟩) len cap] w fun e w' => e = .returned (.bool true) ∧ Below w.heap.size w w' := by
  have H := hide h
  have hlt := h.lt
  clear h
  have hm0 := law_made simpleS (by decide) w.heap.size 0 (by omega) _ (wat_new w)
  have HM0 := hide hm0
  clear hm0
  go_enter Tryd.func4, Tryd.ntmps4
  go_wp2_with fail
  refine (HM0.out).mono ?_
  rintro e w1 ⟨rfl, ⟨n1, hn1, hw1⟩, b1⟩
  have HW1 := hide hw1
  have HB1 : Hid (Below w.heap.size w w1) := hide (((Below.refl _ _).alloc (Nat.le_refl _) _).trans b1)
  clear hw1 b1 HM0
  go_wp2_with fail
  go_loopg [4, 5] len (fun g vok vi wr => NRel len w g vok vi wr)
  case atStart => exact ⟨0, Nat.zero_le _, by omega, rfl, rfl, ⟨n1, by omega, HW1.out⟩, HB1.out⟩
  case round =>
    obtain ⟨k, hk, hg, rfl, rfl, ⟨n, hn, hwt⟩, hbel⟩ := hrel
    have HG := hide hg
    have HB := hide hbel
    have HW := hide hwt
    have hr := H.out.below hbel
    clear hg hbel hwt
    by_cases hkn : k < len
    · obtain ⟨c0, c3, hs⟩ := hr.cells k hkn
      have hmd := law_made (S k) hs w.heap.size n (by omega) wr HW.out
      have HMD := hide hmd
      generalize S k = s at *
      have hbl := hr.lt
      clear hr hs hmd
      generalize K k = kd at *
      by_cases hk2 : kd = 2
      · subst hk2
        go_wp2_with fail
        refine (HMD.out).mono ?_
        rintro e w2 ⟨rfl, ⟨n2, hn2, hw2⟩, b2⟩
        have HW2 := hide hw2
        clear hw2
        go_wp2_with fail
        have hg1 : 0 < gk := by have := HG.out; omega
        go_roundg (gk - 1)
        case measure => omega
        case rel => exact ⟨k + 1, by omega, by have := HG.out; omega, rfl, by go_num, ⟨n2, by omega, HW2.out⟩, HB.out.trans b2⟩
      · by_cases hk1 : kd = 1
        · subst hk1
          go_wp2_with fail
          refine (HMD.out).mono ?_
          rintro e w2 ⟨rfl, ⟨n2, hn2, hw2⟩, b2⟩
          have HW2 := hide hw2
          clear hw2
          go_wp2_with fail
          have hg1 : 0 < gk := by have := HG.out; omega
          go_roundg (gk - 1)
          case measure => omega
          case rel => exact ⟨k + 1, by omega, by have := HG.out; omega, rfl, by go_num, ⟨n2, by omega, HW2.out⟩, HB.out.trans b2⟩
        · have e2 : (kd == 2) = false := by simpa using hk2
          have e1 : (kd == 1) = false := by simpa using hk1
          go_wp2_with fail
          have hg1 : 0 < gk := by have := HG.out; omega
          go_roundg (gk - 1)
          case measure => omega
          case rel => exact ⟨k + 1, by omega, by have := HG.out; omega, rfl, by go_num, ⟨n, by omega, HW.out⟩, HB.out⟩
    · clear hr
      go_wp2_with fail
      go_ret
      exact ⟨rfl, HB.out⟩
set_option maxRecDepth 100000 in
set_option maxHeartbeats 2000000 in
theorem law_News_nil (ao : Option Addr) (cap : Nat) (w : World) :
    Calls Tryd.prog 4 #[.slice ao 0 cap] w fun e w' => e = .returned (.bool true) ∧ Below w.heap.size w w' := by
  have hm0 := law_made simpleS (by decide) w.heap.size 0 (by omega) _ (wat_new w)
  have HM0 := hide hm0
  clear hm0
  go_enter Tryd.func4, Tryd.ntmps4
  go_wp2_with fail
  refine (HM0.out).mono ?_
  rintro e w1 ⟨rfl, ⟨n1, hn1, hw1⟩, b1⟩
  have HW1 := hide hw1
  have HB1 : Hid (Below w.heap.size w w1) := hide (((Below.refl _ _).alloc (Nat.le_refl _) _).trans b1)
  clear hw1 b1 HM0
  go_wp2_with fail
  go_loopg [4, 5] 0 (fun g vok vi wr => NRel 0 w g vok vi wr)
  case atStart => exact ⟨0, Nat.zero_le _, by omega, rfl, rfl, ⟨n1, by omega, HW1.out⟩, HB1.out⟩
  case round =>
    obtain ⟨k, hk, hg, rfl, rfl, _, hbel⟩ := hrel
    have hk0 : k = 0 := by omega
    subst hk0
    have HB := hide hbel
    clear hbel
    go_wp2_with fail
    go_ret
    exact ⟨rfl, HB.out⟩
end Go.Proofs.YtiamjjonoeaggaaDoor
