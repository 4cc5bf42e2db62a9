import Derived.Test.YtiamjjonoeaggaaDoorVigA
namespace Go.Proofs.YtiamjjonoeaggaaDoor
open Go.RowKit

/-- The cells of a monitor of the program. -/
abbrev monCs (nv : Value) (x y : Bool) (r : Int) (vp : Value) (told : Int) (ended : Bool) : Array Value := #[nv, .bool x, .bool y, .int .i64 r, vp, .int .i64 told, .bool ended]
set_option maxRecDepth 100000 in
set_option maxHeartbeats 2000000 in
theorem vig_New2 (s : List UInt8) (hs64 : s.length ≤ maxLen) (w : World) :
    Calls Tryd.prog 9 #[bs s] w fun e w' => ∃ p, e = .returned (.tuple #[.pointer p, .int .i64 (checkR s).1, .int .i64 (checkR s).2]) ∧ (p = none ↔ (checkR s).1 ≠ 0) ∧
      ((checkR s).1 = 0 → ∃ b nv, p = some ⟨b, 0, none⟩ ∧ w.heap.size ≤ b ∧ w'.heap[b]? = some (.cells (monCs nv (infoC s).x (infoC s).y (infoC s).reach (.slice none 0 0) 0 false) 57 (0, 0)) ∧ w'.ownsRow w.heap.size 95 22 nv (sizeF (formOf s)) (ndCells (nodesOf (formOf s) 0))) ∧ Below w.heap.size w w' := by
  have h1 := vig_read s hs64
  have HP2 : Hid ((checkR s).1 = 0 → (checkR s).2 = 0) := fun h => check_place h
  generalize infoC s = ic at *
  obtain ⟨x, y, r⟩ := ic
  generalize checkR s = c at *
  obtain ⟨ce, cp⟩ := c
  simp only [] at h1
  by_cases hc : ce = 0
  · have hp : cp = 0 := HP2.out hc
    subst hc hp
    go_enter Tryd.func9, Tryd.ntmps9
    go_wp2_with fail
    refine (h1 _).mono ?_
    rintro e w1 ⟨nv, rfl, hown, b1⟩
    have hown := hown (by trivial)
    obtain ⟨na, nc, rfl⟩ := slice_form hown
    have HB := hide b1
    have HO := hide hown
    clear b1 h1 hown
    go_wp2_with fail
    go_ret3
    have B3 := (HB.out.alloc HB.out.size (.cells #[.bool x, .bool y, .int .i64 r] 34)).alloc (by have := HB.out.size; simp; omega) (.cells (monCs (.slice na (sizeF (formOf s)) nc) x y r (.slice none 0 0) 0 false) 57)
    refine ⟨_, rfl, by simp, fun _ => ⟨w1.heap.size + 1, _, rfl, by have := HB.out.size; omega, ?_, (HO.out.alloc _).alloc _⟩, B3⟩
    have := heap_alloc_new (w1.alloc (.cells #[.bool x, .bool y, .int .i64 r] 34)) (.cells (monCs (.slice na (sizeF (formOf s)) nc) x y r (.slice none 0 0) 0 false) 57)
    simpa using this
  · have hne : (ce != 0) = true := by simpa using hc
    go_enter Tryd.func9, Tryd.ntmps9
    go_wp2_with fail
    refine (h1 _).mono ?_
    rintro e w1 ⟨nv, rfl, _, b1⟩
    have HB := hide b1
    clear b1 h1
    go_wp2_with fail
    go_ret3
    exact ⟨none, rfl, by simp [hc], fun h => absurd h hc, HB.out.alloc HB.out.size _⟩
theorem vig_New (s : List UInt8) (hs64 : s.length ≤ maxLen) (w : World) :
    Calls Tryd.prog 9 #[bs s] w fun e w' => ∃ p, e = .returned (.tuple #[.pointer p, .int .i64 (checkR s).1, .int .i64 (checkR s).2]) ∧ (p = none ↔ (checkR s).1 ≠ 0) ∧ Below w.heap.size w w' := by
  refine (vig_New2 s hs64 w).mono ?_
  rintro e w1 ⟨p, h1, h2, _, h3⟩
  exact ⟨p, h1, h2, h3⟩
set_option maxRecDepth 100000 in
set_option maxHeartbeats 2000000 in
theorem ref_New (s : List UInt8) (hs64 : s.length ≤ maxLen) (w : World) :
    Calls Tryd.prog 10 #[bs s] w fun e w' => ∃ p, e = .returned (.tuple #[.pointer p, .int .i64 (checkR s).1, .int .i64 (checkR s).2]) ∧ (p = none ↔ (checkR s).1 ≠ 0) ∧ Below w.heap.size w w' := by
  have h1 := ref_Check s hs64
  have HP2 : Hid ((checkR s).1 = 0 → (checkR s).2 = 0) := fun h => check_place h
  generalize checkR s = c at *
  obtain ⟨ce, cp⟩ := c
  simp only [] at h1
  by_cases hc : ce = 0
  · have hp : cp = 0 := HP2.out hc
    subst hc hp
    go_enter Tryd.func10, Tryd.ntmps10
    go_wp2_with fail
    refine (h1 _).mono ?_
    rintro e w1 ⟨a, n, k, rfl, _, b1⟩
    have HB := hide b1
    clear b1 h1
    go_wp2_with fail
    go_ret3
    exact ⟨_, rfl, by simp, (HB.out.alloc HB.out.size _).alloc (by have := HB.out.size; simp; omega) _⟩
  · have hne : (ce != 0) = true := by simpa using hc
    go_enter Tryd.func10, Tryd.ntmps10
    go_wp2_with fail
    refine (h1 _).mono ?_
    rintro e w1 ⟨a, n, k, rfl, _, b1⟩
    have HB := hide b1
    clear b1 h1
    go_wp2_with fail
    go_ret3
    exact ⟨none, rfl, by simp [hc], HB.out.alloc HB.out.size _⟩
end Go.Proofs.YtiamjjonoeaggaaDoor
