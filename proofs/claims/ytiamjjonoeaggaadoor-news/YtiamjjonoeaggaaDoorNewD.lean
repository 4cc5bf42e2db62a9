import Derived.Test.YtiamjjonoeaggaaDoorNewC
import Derived.Test.YtiamjjonoeaggaaDoorRows
import Derived.Test.YtiamjjonoeaggaaDoorCards
import Derived.Test.YtiamjjonoeaggaaDoorTie
import Derived.SevenTiedAt
import Derived.SizedLaws
import Derived.ProofKit
import Derived.LaidMore
import Derived.OpenShut
import Derived.Stop.Joined
namespace Go.Proofs.YtiamjjonoeaggaaDoor
open Go.ChangeShapes Go.WideShapes Go.ChangeAt Go.WideElems Go.RowKit

theorem ownN : ownKnob Tryd.prog.godebug = none := by kernel_rfl
theorem laidOutN : laidOutB Tryd.prog = true := by kernel_rfl
theorem door_metN (os : Os) (args : Array Value) : laidMetH Tryd.prog Rows.newsRow.laid ((World.doorLaid Tryd.prog 400 os).forCall (fun _ _ => 0) ⟨#[], args, []⟩).memory :=
  laidMetH_of_parts3 (fuel := 8) (laidMet_of_run' 8 (by kernel_rfl) (by kernel_rfl)) (by kernel_rfl) (by kernel_rfl)
theorem bs_dataN (s : ByteArray) : bs s.data.toList = .string s := by
  cases s
  simp [bs]
set_option maxRecDepth 100000 in
/-- A script that came in, opened. -/
theorem open_scriptN {H : Type} {enc : TypeId × Value → H} {W : World} {base : Nat} {spare : Nat → Bool} {held : Bool} {fuel : Nat} {cs : List Value} {x : DataW H × List MemPlace} (h : DataW.trod enc Tryd.prog W base spare held fuel 22 cs = some x) :
    (cs = [.slice none 0 0]) ∨ ∃ (a : Addr) (len cap m : Nat), cs = [.slice (some a) len cap] ∧ (∃ es sp, x.1 = .slice es sp ∧ es.length = len) ∧ len ≤ cap ∧ cap ≤ maxLen ∧ len ≤ m ∧ (∀ y ∈ MemPlace.row a (m * 4), y ∈ x.2) ∧ ∀ i, i < len → ∃ (k : Int) (s : ByteArray), W.cell? (a.add (i * 4)) = some (.int .i64 k) ∧ W.cell? (a.add (i * 4 + 3)) = some (.string s) ∧ s.size ≤ maxLen := by
  have ce : Tryd.prog.cellsOf 24 = 4 := by kernel_rfl
  rcases Go.Deep.open_slice Tryd.underlying22 h with ⟨h0, _⟩ | ⟨a, len, cap, m, n, D, Pl, rfl, hb, hl, hm, hmm, rfl, hx⟩
  · exact .inl h0
  · have hlm : len ≤ m := by rw [hmm]; split <;> omega
    refine .inr ⟨a, len, cap, m, rfl, ⟨_, _, rfl, by simp⟩, hl, hm, hlm, fun y hy => by rw [ce]; exact List.mem_append_left _ hy, fun i hi => ?_⟩
    obtain ⟨cs', h1, h2⟩ := hx i (by omega)
    rw [ce] at h1
    obtain ⟨_, hlen, hcell⟩ := World.cells?_some h1
    obtain ⟨xs, k, hk, hxy, _, hxl, hf⟩ := DataW.trod_struct Tryd.underlying24 h2
    match xs, hxl, cs', hlen with
    | [y0, y1, y2, y3], _, [v0, v1, v2, v3], _ =>
      have g0 := hf 0 _ rfl
      have g3 := hf 3 _ rfl
      have c3 : Tryd.prog.cellsOf 3 = 1 := by kernel_rfl
      have c9 : Tryd.prog.cellsOf 9 = 1 := by kernel_rfl
      simp [c3] at g0
      simp [c9] at g3
      obtain ⟨kk, e1, _⟩ := DataW.trod_int Tryd.underlying3 g0
      obtain ⟨ss, e2, _, e3⟩ := DataW.trod_string Tryd.underlying9 g3
      have d0 := hcell 0 (by omega)
      have d3 := hcell 3 (by omega)
      rw [Go.Deep.add_add] at d0 d3
      simp at e1 e2
      subst e1 e2
      exact ⟨kk, ss, by simpa using d0, by simpa using d3, e3⟩
set_option maxRecDepth 100000 in
theorem news_lifted (os : Os) (started : os.Started) (H : Type) (enc : TypeId × Value → H) :
    ReturnsInHanded {} Tryd.checked os 4 .any (fun w args => (Rows.newsSpec.pre enc Tryd.prog Tryd.f4 [] false w args ∧ laidMetH Tryd.prog Rows.newsRow.laid w) ∧ sizedMet enc Tryd.prog Tryd.f4 (OpenSpec.ofChange Rows.newsSpec) false w args)
      (Rows.newsSpec.post enc Tryd.prog Tryd.f4 false true false false) := by
  refine returnsInHanded_of_change_and (C := Tryd.checked) (X := fun w _ => laidMetH Tryd.prog Rows.newsRow.laid w) (fun _ _ _ hh h => h.of_heap hh) ownN started (by kernel_rfl) Tryd.func4
    (ChangeSpec.witness_shaped (enc := enc) (C := Tryd.checked) (os := os) (X := fun w _ => laidMetH Tryd.prog Rows.newsRow.laid w) false (World.doorLaid Tryd.prog 400 os) #[.slice none 0 0] 8 rfl (World.shaped_of_RefB (by kernel_rfl) (by kernel_rfl)) (by kernel_rfl) (by kernel_rfl) (by kernel_rfl) (door_metN os _)) ?_
  intro W base args ds gs before hval0 hW _ hsz0 _ _
  have hsz : (DataW.weightsEach Tryd.prog (Tryd.f4.params.toList ++ Rows.newsSpec.plain.varTypes Tryd.prog) (ds ++ gs)).all (· ≤ reachBytes) = true := hsz0
  have hval : ∀ (j : Nat) t v, Tryd.f4.params[j]? = some t → args[j]? = some v → Value.okWide Tryd.prog W .any base t v := hval0
  have hW' := hW
  obtain ⟨p, q, hA0, hV, rfl, hfz, hnd⟩ := hW
  have hA : DataW.TrodAll enc Tryd.prog W 0 (fun _ => true) true Tryd.f4.params.toList args.toList ds p := hA0
  rw [Tryd.params4] at hA hval hsz
  obtain ⟨v0, d0, rfl, rfl, h0⟩ := trodAll_one hA
  obtain ⟨rfl, rfl⟩ := trodVars_none hV
  have h0k := h0
  obtain ⟨fuel, hf⟩ := h0
  clear hA0 hval0
  simp only [List.append_nil] at hW'
  have hlt : ∀ x ∈ p, x.block < W.heap.size := fun x hx => by simpa using hW'.lt x hx
  have hargs : ∀ (W' : World), Below W.heap.size W W' → DataW.Trod enc Tryd.prog W' 0 (fun b => decide (b < W.heap.size)) true 22 v0 d0 p :=
    fun W' hn => Below.trod laidOutN (by kernel_rfl) (of_decide_eq_true (by kernel_rfl)) h0k hn hlt
  have fin : ∀ W', Below W.heap.size W W' → Rows.newsSpec.post enc Tryd.prog Tryd.f4 false true false false W #[v0] (.bool true) W' := fun W' hn =>
    ⟨_, _, _, [], _, [], hW', trodAll_mk1 (shut_bool Tryd.underlying4 _), trodAll_mk1 (hargs _ hn), rfl, hn.frame _, fun h => by cases h⟩
  have key : Calls Tryd.prog 4 #[v0] W fun e w' => e = .returned (.bool true) ∧ Below W.heap.size W w' := by
    obtain ⟨a0, len0, cap0, rfl⟩ := okWide_slice Tryd.underlying22 (hval 0 22 v0 rfl rfl)
    rcases open_scriptN hf with h1 | ⟨a, len, cap, m, h1, ⟨es, sp, hdat, hes⟩, h2, h3, h4, h5, h6⟩
    · simp [Value.cells] at h1
      obtain ⟨rfl, rfl, rfl⟩ := h1
      exact law_News_nil none 0 W
    · simp [Value.cells] at h1
      obtain ⟨rfl, rfl, rfl⟩ := h1
      by_cases hz : len0 = 0
      · subst hz
        exact law_News_nil _ _ W
      · have hbound : len0 ≤ 9000000000000 := by
          simp only [] at hdat
          subst hdat
          have hw := sized_slice hsz (j := 0) (t := 22) (e := 24) rfl rfl Tryd.underlying22
          have hbo : Tryd.prog.bytesOf 24 = 40 := by kernel_rfl
          rw [hbo] at hw
          unfold reachBytes at hw
          omega
        obtain ⟨b, off, spot⟩ := a
        obtain ⟨k0, s0, c0, _⟩ := h6 0 (by omega)
        have hspot : spot = none := by simpa [Addr.add] using World.cell?_spot c0
        subst hspot
        have hb : b < W.heap.size := by have := World.block_lt_of_cell? W _ c0; simpa [Addr.add] using this
        have h7 : ∀ i, i < len0 → ∃ z : Int × List UInt8, W.cell? ⟨b, off + i * 4, none⟩ = some (.int .i64 z.1) ∧ W.cell? ⟨b, off + i * 4 + 3, none⟩ = some (bs z.2) ∧ z.2.length ≤ maxLen := by
          intro i hi
          obtain ⟨k, s, d1, d2, d3⟩ := h6 i hi
          rw [addr_add] at d1 d2
          exact ⟨(k, s.data.toList), d1, by rw [bs_dataN]; rw [Nat.add_assoc]; exact d2, by show s.data.toList.length ≤ maxLen; rw [Array.length_toList]; exact d3⟩
        obtain ⟨z, hz7⟩ := Go.Deep.choose_lt h7
        exact law_News b off len0 cap0 (fun i => (z i).1) (fun i => (z i).2) W ⟨hz7, hb, by omega⟩ hbound
  refine key.mono fun e W' ⟨he, hw⟩ => ?_
  subst he
  exact ⟨_, rfl, fin W' hw⟩
theorem news_holds : Rows.NewsSaid :=
  OpenClaim.holds_of_wide 4 Tryd.f4 rfl rfl rfl rfl rfl rfl rfl ⟨rfl, rfl, rfl, rfl, rfl⟩ rfl rfl rfl rfl rfl (by kernel_rfl) Tryd.func4 (by kernel_rfl)
    (of_decide_eq_true (by kernel_rfl)) (by unfold Func.isWrapper; first | (rw [if_pos (by decide +kernel)]; kernel_rfl) | (rw [if_neg (by decide +kernel)]; exact ⟨rfl, rfl⟩))
    (fun os started H enc _ => news_lifted os started H enc)
end Go.Proofs.YtiamjjonoeaggaaDoor

namespace Go.Proofs.YtiamjjonoeaggaaDoor
open Go

theorem news_card : Rows.NewsCardSaid :=
  Claim7.holds_tied_plain_at .later [] [.data, .data, .data, .sentinel, .sentinel] true _ true
    news_holds (fun _ h => by cases h) (by kernel_rfl) (fun _ h => by cases h) news_row_tie rfl ⟨rfl, rfl⟩ (by kernel_rfl) rfl
    (fun f fn hf hfn => by
      obtain rfl : f = 4 := Option.some.inj ((show Tryd.prog.funcNamed Rows.newsRow.func = some 4 by kernel_rfl).symm.trans hf) |>.symm
      obtain rfl : fn = Tryd.f4 := (Option.some.inj (Tryd.func4.symm.trans hfn)).symm
      exact ⟨by kernel_rfl, fun j t ht => by
        rw [Tryd.params4] at ht
        have h3 : t = 22 := by
          rcases j with _ | j
          · simpa using ht.symm
          · simp at ht
        subst h3
        exact (show Tryd.prog.wantsStandIn 22 = false by kernel_rfl)⟩)
    (by kernel_rfl)
#print axioms news_card
end Go.Proofs.YtiamjjonoeaggaaDoor
