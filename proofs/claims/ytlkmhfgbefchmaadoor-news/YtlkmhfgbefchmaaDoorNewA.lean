import Derived.Test.YtlkmhfgbefchmaaDoorVigA
namespace Go.Proofs.YtlkmhfgbefchmaaDoor
open Go.RowKit

set_option maxRecDepth 100000 in
set_option maxHeartbeats 2000000 in
theorem vig_New (s : List UInt8) (hs64 : s.length ≤ maxLen) (w : World) :
    Calls Tryd.prog 9 #[bs s] w fun e w' => ∃ p, e = .returned (.tuple #[.pointer p, .int .i64 (checkR s).1, .int .i64 (checkR s).2]) ∧ (p = none ↔ (checkR s).1 ≠ 0) ∧ Below w.heap.size w w' := by
  have h1 := vig_Check s hs64
  have HP2 : Hid ((checkR s).1 = 0 → (checkR s).2 = 0) := fun h => check_place h
  generalize infoC s = ic at *
  obtain ⟨x, y, r⟩ := ic
  generalize checkR s = c at *
  obtain ⟨ce, cp⟩ := c
  simp only [] at h1
  by_cases hc : ce = 0
  · have hp : cp = 0 := HP2.out hc
    subst hc hp
    go_enter Tryd.func9, Tryd.ntmps9
    go_wp2_with fail
    refine (h1 _).mono ?_
    rintro e w1 ⟨rfl, b1⟩
    have HB := hide b1
    clear b1 h1
    go_wp2_with fail
    go_ret3
    exact ⟨_, rfl, by simp, (HB.out.alloc HB.out.size _).alloc (by have := HB.out.size; simp; omega) _⟩
  · have hne : (ce != 0) = true := by simpa using hc
    go_enter Tryd.func9, Tryd.ntmps9
    go_wp2_with fail
    refine (h1 _).mono ?_
    rintro e w1 ⟨rfl, b1⟩
    have HB := hide b1
    clear b1 h1
    go_wp2_with fail
    go_ret3
    exact ⟨none, rfl, by simp [hc], HB.out.alloc HB.out.size _⟩
set_option maxRecDepth 100000 in
set_option maxHeartbeats 2000000 in
theorem ref_New (s : List UInt8) (hs64 : s.length ≤ maxLen) (w : World) :
    Calls Tryd.prog 10 #[bs s] w fun e w' => ∃ p, e = .returned (.tuple #[.pointer p, .int .i64 (checkR s).1, .int .i64 (checkR s).2]) ∧ (p = none ↔ (checkR s).1 ≠ 0) ∧ Below w.heap.size w w' := by
  have h1 := ref_Check s hs64
  have HP2 : Hid ((checkR s).1 = 0 → (checkR s).2 = 0) := fun h => check_place h
  generalize checkR s = c at *
  obtain ⟨ce, cp⟩ := c
  simp only [] at h1
  by_cases hc : ce = 0
  · have hp : cp = 0 := HP2.out hc
    subst hc hp
    go_enter Tryd.func10, Tryd.ntmps10
    go_wp2_with fail
    refine (h1 _).mono ?_
    rintro e w1 ⟨a, n, k, rfl, _, b1⟩
    have HB := hide b1
    clear b1 h1
    go_wp2_with fail
    go_ret3
    exact ⟨_, rfl, by simp, (HB.out.alloc HB.out.size _).alloc (by have := HB.out.size; simp; omega) _⟩
  · have hne : (ce != 0) = true := by simpa using hc
    go_enter Tryd.func10, Tryd.ntmps10
    go_wp2_with fail
    refine (h1 _).mono ?_
    rintro e w1 ⟨a, n, k, rfl, _, b1⟩
    have HB := hide b1
    clear b1 h1
    go_wp2_with fail
    go_ret3
    exact ⟨none, rfl, by simp [hc], HB.out.alloc HB.out.size _⟩
end Go.Proofs.YtlkmhfgbefchmaaDoor
