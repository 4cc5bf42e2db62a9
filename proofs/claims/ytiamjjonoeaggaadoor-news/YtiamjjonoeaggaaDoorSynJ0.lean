import Derived.Test.YtiamjjonoeaggaaDoorSynI
namespace Go.Proofs.YtiamjjonoeaggaaDoor
open Go.RowKit

set_option maxRecDepth 100000 in
set_option maxHeartbeats 4000000 in
theorem form_succ_0 (bp bt ct : Nat) (ts : List PTok) (d : Nat) (hd8 : d < 8) (w : World) (nx : Nat) (ns : List PNode) (dp : Int) (hd : dp + (d + 1 : Nat) = 9) (hpn : PN w bp bt ct ts nx ns) (_hbt : bt < bp) (hn : nx + farN (d + 1) ≤ 4000) (hm : ns.length + manyN (d + 1) ≤ 1000) (hcase : (headR ts nx).1 = false) :
    Calls Tryd.prog 29 #[.pointer (some ⟨bp, 0, none⟩), .int .i64 dp] w fun e w' => e = .returned (.bool (formR ts (d + 1) nx ns.length).1) ∧ Outs w w' bp bt ct ts ns (formR ts (d + 1) nx ns.length) := by
  have HC := hide hcase
  clear hcase
  have hdp1 : 1 ≤ dp := by omega
  have hdp8 : dp ≤ 8 := by omega
  have HD : Hid (dp + 1 + d = 9) := hide (by omega)
  have hn6 : nx ≤ 4000 := by omega
  have HL := hide (head_le ts nx)
  obtain ⟨nv, hP, hown⟩ := hpn
  have HO := hide hown
  have hh := syn_head bp bt ct ts nv nx w hP (by omega)
  generalize hr : formR ts (d + 1) nx ns.length = r
  have HT := hide hr
  have HN : Hid (nx + 9 + 2 * farN d ≤ 4000 ∧ ns.length + 1 + 2 * manyN d ≤ 1000) := hide (by simp only [farN, manyN] at hn hm; omega)
  clear hr hown hn hm hd
  generalize hhd : headR ts nx = hr at *
  have HH := hide hhd
  clear hhd
  obtain ⟨ok, m, nd⟩ := hr
  obtain ⟨V, hV⟩ : ∃ V, V = nodeV nd := ⟨_, rfl⟩
  rw [← hV] at hh
  have HV := hide hV
  clear hV
  have H := hide hP
  have hlt := hP.lt.2
  clear hP
  go_enter Tryd.func29, Tryd.ntmps29
  go_wp2_with fail
  refine hh.mono ?_
  rintro e w1 ⟨rfl, hP1, ho1⟩
  have hown1 := ownsRow_only HO.out ho1 (by simp)
  obtain ⟨ao, cap, rfl⟩ := slice_form hown1
  have hrow := hown1.lt
  have hl1 := hP1.lt.2
  obtain ⟨w2, hst2, hB2, hb2, hs2⟩ := store_fresh (P := Tryd.prog) 95 w1 (nodeCs nodeZ).toArray (nodeCs nd).toArray (by kernel_rfl) rfl (by simp [nodeCs, Value.oneCell'])
  rw [show Value.agg (nodeCs nd).toArray = V from HV.out.symm] at hst2
  simp only [nodeCs] at hst2
  have HP1 := hide hP1
  have HO1 := hide hown1
  have HB2 := hide hB2
  have HS2 := hide hs2
  clear hh hP1 hown1 hB2 hs2
  simp only [] at *
  have hok : ok = false := by have := HC.out; simpa using this
  subst hok
  have er := HT.out
  rw [formR, HH.out] at er
  simp only [Bool.false_eq_true, if_false] at er
  subst er
  go_wp2_with (refine wp_store_to rfl 95 (.tmp 5) (.tmp 13) rfl ⟨w1.heap.size, 0, none⟩ _ rfl rfl w2 hst2 ?_)
  go_ret
  exact ⟨rfl, ⟨_, HP1.out.only (bl := []) (.of_below hb2) (by simp) (by simp), fun h => absurd h (by simp)⟩, (ho1.below (B := bp) (by omega) (by simp)).trans (hb2.mono (by omega))⟩
end Go.Proofs.YtiamjjonoeaggaaDoor
