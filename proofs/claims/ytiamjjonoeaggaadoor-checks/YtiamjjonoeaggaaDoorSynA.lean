import Derived.Test.YtiamjjonoeaggaaDoorTokA
namespace Go.Proofs.YtiamjjonoeaggaaDoor
open Go.RowKit

/-- Only these blocks have turned, of those that were there. -/
structure OnlyB (bl : List Nat) (w w' : World) : Prop where
  os : w'.os = w.os
  tape : w'.tape = w.tape
  output : w'.output = w.output
  size : w.heap.size ≤ w'.heap.size
  block : ∀ k, k < w.heap.size → k ∉ bl → w'.heap[k]? = w.heap[k]?
theorem OnlyB.refl (bl : List Nat) (w : World) : OnlyB bl w w := ⟨rfl, rfl, rfl, Nat.le_refl _, fun _ _ _ => rfl⟩
theorem OnlyB.trans {bl : List Nat} {a c d : World} (h : OnlyB bl a c) (k : OnlyB bl c d) : OnlyB bl a d :=
  ⟨k.os.trans h.os, k.tape.trans h.tape, k.output.trans h.output, Nat.le_trans h.size k.size, fun i hi hn => (k.block i (Nat.lt_of_lt_of_le hi h.size) hn).trans (h.block i hi hn)⟩
theorem OnlyB.of_below {bl : List Nat} {a c : World} (h : Below a.heap.size a c) : OnlyB bl a c := ⟨h.os, h.tape, h.output, h.size, fun k hk _ => h.block k hk⟩
theorem OnlyB.cell {bl : List Nat} {w w' : World} (h : OnlyB bl w w') {b o : Nat} (hb : b < w.heap.size) (hn : b ∉ bl) : w'.cell? ⟨b, o, none⟩ = w.cell? ⟨b, o, none⟩ := World.cell?_of_block (w := w) (h.block b hb hn)
theorem OnlyB.frozen {bl : List Nat} {w w' : World} (h : OnlyB bl w w') {b o : Nat} (hb : b < w.heap.size) (hn : b ∉ bl) : w'.frozen? ⟨b, o, none⟩ = w.frozen? ⟨b, o, none⟩ := World.frozen?_of_block (w := w) (h.block b hb hn)
theorem OnlyB.setCell {bl : List Nat} {a w : World} (h : OnlyB bl a w) {b o : Nat} (hb : b ∈ bl) (u : Value) : OnlyB bl a (w.setCell ⟨b, o, none⟩ u) := by
  refine ⟨h.os, h.tape, h.output, by simpa using h.size, fun k hk hn => ?_⟩
  rw [Below.heap_setCell w _ u k (by intro e; subst e; exact hn hb)]
  exact h.block k hk hn
theorem OnlyB.below {bl : List Nat} {w w' : World} {B : Nat} (h : OnlyB bl w w') (hB : B ≤ w.heap.size) (hb : ∀ k ∈ bl, B ≤ k) : Below B w w' :=
  ⟨h.os, h.tape, h.output, h.size, fun k hk => h.block k (by omega) (fun hm => by have := hb k hm; omega)⟩

/-- A token as the program keeps it. -/
structure PTok where
  kind : Int
  pos : Int
  size : Int
  val : Int
  name : List UInt8
def ptOf (t : Tok) : PTok := ⟨kindP t.text, t.pos, t.text.length, valP t.text, padP t.text⟩
def ptV (t : PTok) : Value := tokV t.kind t.pos t.size t.val t.name
def ptEnd : PTok := ⟨0, 0, 0, 0, []⟩
/-- The parser stands ahead of token nx; its tokens lie in block bt. -/
structure Pars (w : World) (bp bt ct : Nat) (ts : List PTok) (nv : Value) (nx : Nat) : Prop where
  toks : w.cell? ⟨bp, 0, none⟩ = some (.slice (some ⟨bt, 0, none⟩) ts.length ct)
  next : w.cell? ⟨bp, 1, none⟩ = some (.int .i64 nx)
  nodes : w.cell? ⟨bp, 2, none⟩ = some nv
  free : ∀ o, w.frozen? ⟨bp, o, none⟩ = false
  cap : ts.length ≤ ct ∧ ct ≤ maxLen ∧ ts.length ≤ 1000
  ne : bt ≠ bp
  lt : bt < w.heap.size ∧ bp < w.heap.size
  cells : ∀ i (h : i < ts.length), (∀ j, j < 12 → w.cell? ⟨bt, i * 12 + j, none⟩ = (tokCs (ts[i]).kind (ts[i]).pos (ts[i]).size (ts[i]).val (ts[i]).name)[j]?)
theorem Pars.only {w w' : World} {bl : List Nat} {bp bt ct : Nat} {ts : List PTok} {nv : Value} {nx : Nat} (h : Pars w bp bt ct ts nv nx) (ho : OnlyB bl w w') (h1 : bp ∉ bl) (h2 : bt ∉ bl) : Pars w' bp bt ct ts nv nx :=
  ⟨by rw [ho.cell h.lt.2 h1]; exact h.toks, by rw [ho.cell h.lt.2 h1]; exact h.next, by rw [ho.cell h.lt.2 h1]; exact h.nodes, fun o => by rw [ho.frozen h.lt.2 h1]; exact h.free o, h.cap, h.ne, ⟨Nat.lt_of_lt_of_le h.lt.1 ho.size, Nat.lt_of_lt_of_le h.lt.2 ho.size⟩, fun i hi j hj => by rw [ho.cell h.lt.1 h2]; exact h.cells i hi j hj⟩
theorem Pars.step {w : World} {bp bt ct : Nat} {ts : List PTok} {nv : Value} {nx : Nat} (h : Pars w bp bt ct ts nv nx) (n : Nat) : Pars (w.setCell ⟨bp, 1, none⟩ (.int .i64 n)) bp bt ct ts nv n := by
  refine ⟨?_, World.cell?_setCell_same w _ _ h.next, ?_, fun o => by rw [World.frozen?_setCell]; exact h.free o, h.cap, h.ne, by simpa using h.lt, fun i hi j hj => ?_⟩
  · rw [World.cell?_setCell_other w _ _ _ (by intro e; injection e with e1 e2; simp at e2)]; exact h.toks
  · rw [World.cell?_setCell_other w _ _ _ (by intro e; injection e with e1 e2; simp at e2)]; exact h.nodes
  · rw [World.cell?_setCell_other w _ _ _ (by intro e; injection e with e1 e2; exact h.ne e1.symm)]; exact h.cells i hi j hj
def hereT (ts : List PTok) (nx : Nat) : PTok := ts.getD nx ptEnd
set_option maxRecDepth 100000 in
set_option maxHeartbeats 2000000 in
theorem syn_here (bp bt ct : Nat) (ts : List PTok) (nv : Value) (nx : Nat) (w : World) (h : Pars w bp bt ct ts nv nx) (hn : nx ≤ 100000) :
    Calls Tryd.prog 30 #[.pointer (some ⟨bp, 0, none⟩)] w fun e w' => e = .returned (ptV (hereT ts nx)) ∧ Below w.heap.size w w' := by
  have c0 := h.toks
  have c1 := h.next
  have hlt := h.lt.2
  have hcp := h.cap
  obtain ⟨k1, k2, k3⟩ := hcp
  unfold maxLen at k2
  by_cases hx : nx < ts.length
  · have HC := hide (h.cells nx hx)
    have hb := h.lt.1
    have e : hereT ts nx = ts[nx] := by unfold hereT; simp [List.getD, hx]
    rw [e]
    clear e
    generalize ts[nx] = t at *
    obtain ⟨tk, tp, tz, tv, tn⟩ := t
    have d0 := HC.out 0 (by omega)
    have d1 := HC.out 1 (by omega)
    have d2 := HC.out 2 (by omega)
    have d3 := HC.out 3 (by omega)
    have d4 := HC.out 4 (by omega)
    have d5 := HC.out 5 (by omega)
    have d6 := HC.out 6 (by omega)
    have d7 := HC.out 7 (by omega)
    have d8 := HC.out 8 (by omega)
    have d9 := HC.out 9 (by omega)
    have d10 := HC.out 10 (by omega)
    have d11 := HC.out 11 (by omega)
    simp only [tokCs, Nat.add_zero, List.getElem?_cons_zero, List.getElem?_cons_succ] at d0 d1 d2 d3 d4 d5 d6 d7 d8 d9 d10 d11
    clear HC h
    go_enter Tryd.func30, Tryd.ntmps30
    go_wp2_with fail
    go_quiet (fail)
    go_wp2_with fail
    go_region
    go_wp2_with fail
    exact bodyPost_ret (v := ptV ⟨tk, tp, tz, tv, tn⟩) (by simp [results, Tryd.results30, go_sem, ptV, tokV]) rfl ⟨rfl, (((((((((((((bel_drewN _ ((Below.refl _ _).alloc (Nat.le_refl _) _)).setCell (by simp) _).setCell (by simp) _).setCell (by simp) _).setCell (by simp) _).setCell (by simp) _).setCell (by simp) _).setCell (by simp) _).setCell (by simp) _).setCell (by simp) _).setCell (by simp) _).setCell (by simp) _).setCell (by simp) _)⟩
  · have e : hereT ts nx = ptEnd := by unfold hereT; simp [List.getD, List.getElem?_eq_none (show ts.length ≤ nx by omega)]
    rw [e]
    clear e h
    go_enter Tryd.func30, Tryd.ntmps30
    go_wp2_with fail
    go_quiet (fail)
    go_wp2_with fail
    exact bodyPost_ret (v := ptV ptEnd) (by simp [results, Tryd.results30, go_sem, ptV, ptEnd, tokV, padC]) rfl ⟨rfl, (((((((((((((bel_drewN _ ((Below.refl _ _).alloc (Nat.le_refl _) _)).setCell (by simp) _).setCell (by simp) _).setCell (by simp) _).setCell (by simp) _).setCell (by simp) _).setCell (by simp) _).setCell (by simp) _).setCell (by simp) _).setCell (by simp) _).setCell (by simp) _).setCell (by simp) _).setCell (by simp) _)⟩

theorem fld_kind (a b c d x0 x1 x2 x3 x4 x5 x6 x7 : Int) (w : World) : (Instr.field 82 (.agg #[.int .i64 a, .int .i64 b, .int .i64 c, .int .i64 d, .int .u8 x0, .int .u8 x1, .int .u8 x2, .int .u8 x3, .int .u8 x4, .int .u8 x5, .int .u8 x6, .int .u8 x7]) 0).run Tryd.prog w = .ok (.int .i64 a) w := by kernel_rfl
theorem fld_pos (a b c d x0 x1 x2 x3 x4 x5 x6 x7 : Int) (w : World) : (Instr.field 82 (.agg #[.int .i64 a, .int .i64 b, .int .i64 c, .int .i64 d, .int .u8 x0, .int .u8 x1, .int .u8 x2, .int .u8 x3, .int .u8 x4, .int .u8 x5, .int .u8 x6, .int .u8 x7]) 1).run Tryd.prog w = .ok (.int .i64 b) w := by kernel_rfl
theorem fld_size (a b c d x0 x1 x2 x3 x4 x5 x6 x7 : Int) (w : World) : (Instr.field 82 (.agg #[.int .i64 a, .int .i64 b, .int .i64 c, .int .i64 d, .int .u8 x0, .int .u8 x1, .int .u8 x2, .int .u8 x3, .int .u8 x4, .int .u8 x5, .int .u8 x6, .int .u8 x7]) 2).run Tryd.prog w = .ok (.int .i64 c) w := by kernel_rfl
theorem fld_val (a b c d x0 x1 x2 x3 x4 x5 x6 x7 : Int) (w : World) : (Instr.field 82 (.agg #[.int .i64 a, .int .i64 b, .int .i64 c, .int .i64 d, .int .u8 x0, .int .u8 x1, .int .u8 x2, .int .u8 x3, .int .u8 x4, .int .u8 x5, .int .u8 x6, .int .u8 x7]) 3).run Tryd.prog w = .ok (.int .i64 d) w := by kernel_rfl
def takeN (ts : List PTok) (nx : Nat) (kd : Int) : Nat := if (hereT ts nx).kind = kd then nx + 1 else nx
set_option maxRecDepth 100000 in
set_option maxHeartbeats 2000000 in
theorem syn_take (bp bt ct : Nat) (ts : List PTok) (nv : Value) (nx : Nat) (kd : Int) (w : World) (h : Pars w bp bt ct ts nv nx) (hn : nx ≤ 100000) :
    Calls Tryd.prog 69 #[.pointer (some ⟨bp, 0, none⟩), .int .i64 kd] w fun e w' => e = .returned (.bool (decide ((hereT ts nx).kind = kd))) ∧ Pars w' bp bt ct ts nv (takeN ts nx kd) ∧ OnlyB [bp] w w' := by
  have hh := syn_here bp bt ct ts nv nx w h hn
  have HT : Hid (takeN ts nx kd = if (hereT ts nx).kind = kd then nx + 1 else nx) := hide rfl
  generalize takeN ts nx kd = tn at *
  generalize hereT ts nx = t at *
  obtain ⟨tk, tp, tz, tv, tnm⟩ := t
  have H := hide h
  clear h
  by_cases hk : tk = kd
  · subst hk
    have et := HT.out
    simp only [if_true] at et
    subst et
    clear HT
    go_enter Tryd.func69, Tryd.ntmps69
    go_wp2_with fail
    refine hh.mono ?_
    rintro e w1 ⟨rfl, hb1⟩
    have ho1 : OnlyB [] w w1 := .of_below hb1
    have P1 := H.out.only ho1 (by simp) (by simp)
    have c1 := P1.next
    have f1 := P1.free 1
    have H1 := hide P1
    clear P1
    unfold ptV tokV
    have hfd := fld_kind tk tp tz tv (padC tnm 0) (padC tnm 1) (padC tnm 2) (padC tnm 3) (padC tnm 4) (padC tnm 5) (padC tnm 6) (padC tnm 7)
    go_wp2_with fail
    go_ret
    exact ⟨by simp, by simpa using H1.out.step (nx + 1), (OnlyB.of_below hb1).setCell (by simp) _⟩
  · have et := HT.out
    simp only [if_neg hk] at et
    subst et
    clear HT
    go_enter Tryd.func69, Tryd.ntmps69
    go_wp2_with fail
    refine hh.mono ?_
    rintro e w1 ⟨rfl, hb1⟩
    have ho1 : OnlyB [] w w1 := .of_below hb1
    have H1 := hide (H.out.only ho1 (by simp) (by simp))
    unfold ptV tokV
    have hfd := fld_kind tk tp tz tv (padC tnm 0) (padC tnm 1) (padC tnm 2) (padC tnm 3) (padC tnm 4) (padC tnm 5) (padC tnm 6) (padC tnm 7)
    go_wp2_with fail
    go_ret
    exact ⟨by simp [hk], H1.out, .of_below hb1⟩
end Go.Proofs.YtiamjjonoeaggaaDoor

namespace Go.Proofs.YtiamjjonoeaggaaDoor
open Go.RowKit

theorem OnlyB.nw (bl : List Nat) (w : World) (o : Obj) : OnlyB bl w (w.alloc o) := .of_below ((Below.refl _ _).alloc (Nat.le_refl _) _)
theorem OnlyB.wide {bl bl' : List Nat} {w w' : World} (h : OnlyB bl w w') (hs : ∀ k ∈ bl, k ∈ bl') : OnlyB bl' w w' := ⟨h.os, h.tape, h.output, h.size, fun k hk hn => h.block k hk (fun hm => hn (hs k hm))⟩
theorem OnlyB.alloc {bl : List Nat} {a w : World} (h : OnlyB bl a w) (o : Obj) : OnlyB bl a (w.alloc o) := h.trans (.nw bl w o)
theorem OnlyB.setNew {bl : List Nat} {a w : World} (h : OnlyB bl a w) {b o : Nat} (hb : a.heap.size ≤ b) (u : Value) : OnlyB bl a (w.setCell ⟨b, o, none⟩ u) := by
  refine ⟨h.os, h.tape, h.output, by simpa using h.size, fun k hk hn => ?_⟩
  rw [Below.heap_setCell w _ u k (by intro e; subst e; omega)]
  exact h.block k hk hn
def varK (k : Int) : Bool := k == 3 || k == 4
theorem varK_3 : varK 3 = true := rfl
theorem varK_4 : varK 4 = true := rfl
def twoK (k : Int) : Bool := k == 6 || k == 7 || k == 8 || k == 14 || k == 15 || k == 16 || k == 17
def spanK (k : Int) : Bool := k == 10 || k == 11 || k == 12 || k == 13 || k == 14 || k == 15 || k == 16 || k == 17
def beginK (k : Int) : Bool := k == 5 || k == 2 || k == 9 || twoK k || spanK k
theorem syn_isVar (n : Int) (w : World) :
    Calls Tryd.prog 80 #[.int .i64 n] w fun e w' => e = .returned (.bool (varK n)) ∧ w' = w := by
  unfold varK
  go_enter Tryd.func80, Tryd.ntmps80
  go_wp2
  all_goals
    go_ret
    exact ⟨by simp [*], rfl⟩
theorem syn_hasTwoParts (n : Int) (w : World) :
    Calls Tryd.prog 70 #[.int .i64 n] w fun e w' => e = .returned (.bool (twoK n)) ∧ w' = w := by
  unfold twoK
  go_enter Tryd.func70, Tryd.ntmps70
  go_wp2
  all_goals
    go_ret
    exact ⟨by simp_all, rfl⟩
theorem syn_hasSpan (n : Int) (w : World) :
    Calls Tryd.prog 67 #[.int .i64 n] w fun e w' => e = .returned (.bool (spanK n)) ∧ w' = w := by
  unfold spanK
  go_enter Tryd.func67, Tryd.ntmps67
  go_wp2
  all_goals
    go_ret
    exact ⟨by simp_all, rfl⟩
theorem syn_beginsFormula (n : Int) (w : World) :
    Calls Tryd.prog 64 #[.int .i64 n] w fun e w' => e = .returned (.bool (beginK n)) ∧ w' = w := by
  unfold beginK
  have h2 := syn_hasTwoParts n
  have h3 := syn_hasSpan n
  go_enter Tryd.func64, Tryd.ntmps64
  go_wp2
  all_goals
    go_ret
    exact ⟨by simp_all [twoK, spanK], rfl⟩
theorem syn_take_yes (bp bt ct : Nat) (ts : List PTok) (nv : Value) (nx : Nat) (kd : Int) (w : World) (h : Pars w bp bt ct ts nv nx) (hn : nx ≤ 100000) (hk : (hereT ts nx).kind = kd) :
    Calls Tryd.prog 69 #[.pointer (some ⟨bp, 0, none⟩), .int .i64 kd] w fun e w' => e = .returned (.bool true) ∧ Pars w' bp bt ct ts nv (nx + 1) ∧ OnlyB [bp] w w' := by
  have hh := syn_take bp bt ct ts nv nx kd w h hn
  simp only [takeN, hk, if_true, decide_true] at hh
  exact hh
theorem syn_take_no (bp bt ct : Nat) (ts : List PTok) (nv : Value) (nx : Nat) (kd : Int) (w : World) (h : Pars w bp bt ct ts nv nx) (hn : nx ≤ 100000) (hk : ¬ (hereT ts nx).kind = kd) :
    Calls Tryd.prog 69 #[.pointer (some ⟨bp, 0, none⟩), .int .i64 kd] w fun e w' => e = .returned (.bool false) ∧ Pars w' bp bt ct ts nv nx ∧ OnlyB [bp] w w' := by
  have hh := syn_take bp bt ct ts nv nx kd w h hn
  simp only [takeN, if_neg hk, decide_eq_false hk] at hh
  exact hh
def okArg (t : PTok) : Bool := (t.kind == 1 && t.size == 1) || varK t.kind
set_option maxRecDepth 100000 in
set_option maxHeartbeats 2000000 in
theorem syn_arg_yes (bp bt ct : Nat) (ts : List PTok) (nv : Value) (nx : Nat) (w : World) (h : Pars w bp bt ct ts nv nx) (hn : nx ≤ 100000) (hk : okArg (hereT ts nx) = true) :
    Calls Tryd.prog 79 #[.pointer (some ⟨bp, 0, none⟩)] w fun e w' => e = .returned (.tuple #[.agg #[.int .i64 (hereT ts nx).kind, .int .i64 (hereT ts nx).val], .bool true]) ∧ Pars w' bp bt ct ts nv (nx + 1) ∧ OnlyB [bp] w w' := by
  have hh := fun w h => syn_here bp bt ct ts nv nx w h hn
  generalize hereT ts nx = t at *
  obtain ⟨tk, tp, tz, tv, tnm⟩ := t
  have hk' : (tk = 1 ∧ tz = 1) ∨ tk = 3 ∨ tk = 4 := by simpa [okArg, varK] using hk
  have H := hide h
  have hl0 := h.lt.2
  have hm0 := h.lt.1
  clear h hk
  rcases hk' with ⟨rfl, rfl⟩ | rfl | rfl
  · go_enter Tryd.func79, Tryd.ntmps79
    go_wp2_with fail
    refine (hh _ (H.out.only (.nw [] _ _) (by simp) (by simp))).mono ?_
    rintro e w1 ⟨rfl, hb1⟩
    have ho1 : OnlyB [] w w1 := (OnlyB.nw [] _ _).trans (.of_below hb1)
    have P1 := H.out.only ho1 (by simp) (by simp)
    have hz : w.heap.size < w1.heap.size := by have := hb1.size; simp at this; omega
    have r0 : w1.cell? ⟨w.heap.size, 0, none⟩ = some (.int .i64 0) := by rw [World.cell?_of_block (hb1.block w.heap.size (by simp))]; simp
    have r1 : w1.cell? ⟨w.heap.size, 1, none⟩ = some (.int .i64 0) := by rw [World.cell?_of_block (hb1.block w.heap.size (by simp))]; simp
    have rf0 : w1.frozen? ⟨w.heap.size, 0, none⟩ = false := by rw [World.frozen?_of_block (hb1.block w.heap.size (by simp))]; simp
    have rf1 : w1.frozen? ⟨w.heap.size, 1, none⟩ = false := by rw [World.frozen?_of_block (hb1.block w.heap.size (by simp))]; simp
    have c1 := P1.next
    have f1 := P1.free 1
    have hl1 := P1.lt.2
    have H1 := hide P1
    clear P1
    unfold ptV tokV
    go_wp2_with fail
    exact bodyPost_ret (v := .tuple #[.agg #[.int .i64 1, .int .i64 tv], .bool true]) (by simp [results, Tryd.results79, go_sem, hz, r0, r1]) rfl
      ⟨rfl, by simpa using (H1.out.step (nx + 1)).only (bl := [w.heap.size]) ((((OnlyB.refl _ _).setCell (by simp) _).setCell (by simp) _).alloc _) (by simp; omega) (by simp; omega),
        ((((ho1.wide (by simp)).setCell (by simp) _).setNew (Nat.le_refl _) _).setNew (Nat.le_refl _) _).alloc _⟩
  · go_enter Tryd.func79, Tryd.ntmps79
    go_wp2_with fail
    refine (hh _ (H.out.only (.nw [] _ _) (by simp) (by simp))).mono ?_
    rintro e w1 ⟨rfl, hb1⟩
    have ho1 : OnlyB [] w w1 := (OnlyB.nw [] _ _).trans (.of_below hb1)
    have P1 := H.out.only ho1 (by simp) (by simp)
    have hz : w.heap.size < w1.heap.size := by have := hb1.size; simp at this; omega
    have r0 : w1.cell? ⟨w.heap.size, 0, none⟩ = some (.int .i64 0) := by rw [World.cell?_of_block (hb1.block w.heap.size (by simp))]; simp
    have r1 : w1.cell? ⟨w.heap.size, 1, none⟩ = some (.int .i64 0) := by rw [World.cell?_of_block (hb1.block w.heap.size (by simp))]; simp
    have rf0 : w1.frozen? ⟨w.heap.size, 0, none⟩ = false := by rw [World.frozen?_of_block (hb1.block w.heap.size (by simp))]; simp
    have rf1 : w1.frozen? ⟨w.heap.size, 1, none⟩ = false := by rw [World.frozen?_of_block (hb1.block w.heap.size (by simp))]; simp
    have c1 := P1.next
    have f1 := P1.free 1
    have hl1 := P1.lt.2
    have H1 := hide P1
    clear P1
    unfold ptV tokV
    go_wp2_with fail
    refine (syn_isVar _ _).mono ?_
    rintro e w2 ⟨rfl, rfl⟩
    simp only [varK_3]
    go_wp2_with fail
    exact bodyPost_ret (v := .tuple #[.agg #[.int .i64 3, .int .i64 tv], .bool true]) (by simp [results, Tryd.results79, go_sem, hz, r0, r1]) rfl
      ⟨rfl, by simpa using (H1.out.step (nx + 1)).only (bl := [w.heap.size]) ((((OnlyB.refl _ _).setCell (by simp) _).setCell (by simp) _).alloc _) (by simp; omega) (by simp; omega),
        ((((ho1.wide (by simp)).setCell (by simp) _).setNew (Nat.le_refl _) _).setNew (Nat.le_refl _) _).alloc _⟩
  · go_enter Tryd.func79, Tryd.ntmps79
    go_wp2_with fail
    refine (hh _ (H.out.only (.nw [] _ _) (by simp) (by simp))).mono ?_
    rintro e w1 ⟨rfl, hb1⟩
    have ho1 : OnlyB [] w w1 := (OnlyB.nw [] _ _).trans (.of_below hb1)
    have P1 := H.out.only ho1 (by simp) (by simp)
    have hz : w.heap.size < w1.heap.size := by have := hb1.size; simp at this; omega
    have r0 : w1.cell? ⟨w.heap.size, 0, none⟩ = some (.int .i64 0) := by rw [World.cell?_of_block (hb1.block w.heap.size (by simp))]; simp
    have r1 : w1.cell? ⟨w.heap.size, 1, none⟩ = some (.int .i64 0) := by rw [World.cell?_of_block (hb1.block w.heap.size (by simp))]; simp
    have rf0 : w1.frozen? ⟨w.heap.size, 0, none⟩ = false := by rw [World.frozen?_of_block (hb1.block w.heap.size (by simp))]; simp
    have rf1 : w1.frozen? ⟨w.heap.size, 1, none⟩ = false := by rw [World.frozen?_of_block (hb1.block w.heap.size (by simp))]; simp
    have c1 := P1.next
    have f1 := P1.free 1
    have hl1 := P1.lt.2
    have H1 := hide P1
    clear P1
    unfold ptV tokV
    go_wp2_with fail
    refine (syn_isVar _ _).mono ?_
    rintro e w2 ⟨rfl, rfl⟩
    simp only [varK_4]
    go_wp2_with fail
    exact bodyPost_ret (v := .tuple #[.agg #[.int .i64 4, .int .i64 tv], .bool true]) (by simp [results, Tryd.results79, go_sem, hz, r0, r1]) rfl
      ⟨rfl, by simpa using (H1.out.step (nx + 1)).only (bl := [w.heap.size]) ((((OnlyB.refl _ _).setCell (by simp) _).setCell (by simp) _).alloc _) (by simp; omega) (by simp; omega),
        ((((ho1.wide (by simp)).setCell (by simp) _).setNew (Nat.le_refl _) _).setNew (Nat.le_refl _) _).alloc _⟩
set_option maxRecDepth 100000 in
set_option maxHeartbeats 2000000 in
theorem syn_arg_no (bp bt ct : Nat) (ts : List PTok) (nv : Value) (nx : Nat) (w : World) (h : Pars w bp bt ct ts nv nx) (hn : nx ≤ 100000) (hk : okArg (hereT ts nx) = false) :
    Calls Tryd.prog 79 #[.pointer (some ⟨bp, 0, none⟩)] w fun e w' => e = .returned (.tuple #[.agg #[.int .i64 0, .int .i64 0], .bool false]) ∧ Pars w' bp bt ct ts nv nx ∧ OnlyB [bp] w w' := by
  have hh := fun w h => syn_here bp bt ct ts nv nx w h hn
  generalize hereT ts nx = t at *
  obtain ⟨tk, tp, tz, tv, tnm⟩ := t
  have hv : varK tk = false := by cases hq : varK tk <;> simp_all [okArg]
  have hk' : (tk == 1) = false ∨ (tk = 1 ∧ (tz == 1) = false) := by by_cases hq : tk = 1 <;> simp_all [okArg]
  have H := hide h
  have hl0 := h.lt.2
  have hm0 := h.lt.1
  clear h hk
  go_enter Tryd.func79, Tryd.ntmps79
  go_wp2_with fail
  refine (hh _ (H.out.only (.nw [] _ _) (by simp) (by simp))).mono ?_
  rintro e w1 ⟨rfl, hb1⟩
  have ho1 : OnlyB [] w w1 := (OnlyB.nw [] _ _).trans (.of_below hb1)
  have P1 := H.out.only ho1 (by simp) (by simp)
  have hz : w.heap.size < w1.heap.size := by have := hb1.size; simp at this; omega
  have r0 : w1.cell? ⟨w.heap.size, 0, none⟩ = some (.int .i64 0) := by rw [World.cell?_of_block (hb1.block w.heap.size (by simp))]; simp
  have r1 : w1.cell? ⟨w.heap.size, 1, none⟩ = some (.int .i64 0) := by rw [World.cell?_of_block (hb1.block w.heap.size (by simp))]; simp
  have rf0 : w1.frozen? ⟨w.heap.size, 0, none⟩ = false := by rw [World.frozen?_of_block (hb1.block w.heap.size (by simp))]; simp
  have rf1 : w1.frozen? ⟨w.heap.size, 1, none⟩ = false := by rw [World.frozen?_of_block (hb1.block w.heap.size (by simp))]; simp
  have c1 := P1.next
  have f1 := P1.free 1
  have hl1 := P1.lt.2
  have H1 := hide P1
  clear P1
  unfold ptV tokV
  rcases hk' with hk1 | ⟨rfl, hk1⟩
  all_goals
    go_wp2_with fail
    all_goals
      refine (syn_isVar _ _).mono ?_
      rintro e w2 ⟨rfl, rfl⟩
      simp only [hv]
      go_wp2_with fail
      exact bodyPost_ret (v := .tuple #[.agg #[.int .i64 0, .int .i64 0], .bool false]) (by simp [results, Tryd.results79, go_sem, hz, r0, r1]) rfl
        ⟨rfl, H1.out.only (bl := [w.heap.size]) ((((OnlyB.refl _ _).setCell (by simp) _).setCell (by simp) _).alloc _) (by simp; omega) (by simp; omega),
          (((ho1.wide (by simp)).setNew (Nat.le_refl _) _).setNew (Nat.le_refl _) _).alloc _⟩
end Go.Proofs.YtiamjjonoeaggaaDoor

namespace Go.Proofs.YtiamjjonoeaggaaDoor
open Go.RowKit

/-- A node as the program keeps it. -/
structure PNode where
  kind : Int
  pos : Int
  name : List UInt8
  k0 : Int
  v0 : Int
  k1 : Int
  v1 : Int
  cnt : Int
  var : Int
  sat : Int
  slo : Int
  shi : Int
  sop : Bool
  fst : Int
  snd : Int
def nodeCs (n : PNode) : List Value := [.int .i64 n.kind, .int .i64 n.pos, .int .u8 (padC n.name 0), .int .u8 (padC n.name 1), .int .u8 (padC n.name 2), .int .u8 (padC n.name 3), .int .u8 (padC n.name 4), .int .u8 (padC n.name 5), .int .u8 (padC n.name 6), .int .u8 (padC n.name 7), .int .i64 n.k0, .int .i64 n.v0, .int .i64 n.k1, .int .i64 n.v1, .int .i64 n.cnt, .int .i64 n.var, .int .i64 n.sat, .int .i64 n.slo, .int .i64 n.shi, .bool n.sop, .int .i64 n.fst, .int .i64 n.snd]
structure NodeAt (w : World) (bn : Nat) (n : PNode) : Prop where
  cells : ∀ j, j < 22 → w.cell? ⟨bn, j, none⟩ = (nodeCs n)[j]?
  free : ∀ o, w.frozen? ⟨bn, o, none⟩ = false
  lt : bn < w.heap.size
theorem NodeAt.only {w w' : World} {bl : List Nat} {bn : Nat} {n : PNode} (h : NodeAt w bn n) (ho : OnlyB bl w w') (hn : bn ∉ bl) : NodeAt w' bn n :=
  ⟨fun j hj => by rw [ho.cell h.lt hn]; exact h.cells j hj, fun o => by rw [ho.frozen h.lt hn]; exact h.free o, Nat.lt_of_lt_of_le h.lt ho.size⟩
/-- One cell of a node set anew. -/
theorem NodeAt.set {w : World} {bn : Nat} {n n' : PNode} (h : NodeAt w bn n) (o : Nat) (ho : o < 22) (u : Value) (he : nodeCs n' = (nodeCs n).set o u) : NodeAt (w.setCell ⟨bn, o, none⟩ u) bn n' := by
  have hlen : (nodeCs n).length = 22 := rfl
  refine ⟨fun j hj => ?_, fun q => by rw [World.frozen?_setCell]; exact h.free q, by simpa using h.lt⟩
  rw [he]
  by_cases e : j = o
  · subst e
    have hc := h.cells j ho
    rw [List.getElem?_eq_getElem (by omega)] at hc
    rw [World.cell?_setCell_same w _ _ hc, List.getElem?_set_self (by omega)]
  · rw [World.cell?_setCell_other w _ _ _ (by intro q; injection q with q1 q2; exact e q2.symm), List.getElem?_set_ne (by omega)]
    exact h.cells j hj
set_option maxRecDepth 100000 in
set_option maxHeartbeats 2000000 in
theorem syn_variable_yes (bp bt ct : Nat) (ts : List PTok) (nv : Value) (nx bn : Nat) (nd : PNode) (w : World) (h : Pars w bp bt ct ts nv nx) (hn : nx ≤ 100000) (hd : NodeAt w bn nd) (hne : bn ≠ bp ∧ bn ≠ bt) (hk : varK (hereT ts nx).kind = true) :
    Calls Tryd.prog 66 #[.pointer (some ⟨bp, 0, none⟩), .pointer (some ⟨bn, 0, none⟩)] w fun e w' => e = .returned (.bool true) ∧ Pars w' bp bt ct ts nv (nx + 1) ∧ NodeAt w' bn { nd with var := (hereT ts nx).kind } ∧ OnlyB [bp, bn] w w' := by
  have hh := syn_here bp bt ct ts nv nx w h hn
  generalize hereT ts nx = t at *
  obtain ⟨tk, tp, tz, tv, tnm⟩ := t
  have H := hide h
  have HD := hide hd
  have hl0 := h.lt.2
  have hm0 := h.lt.1
  have hv : varK tk = true := hk
  clear h hk hd
  go_enter Tryd.func66, Tryd.ntmps66
  go_wp2_with fail
  refine hh.mono ?_
  rintro e w1 ⟨rfl, hb1⟩
  have ho1 : OnlyB [] w w1 := .of_below hb1
  have P1 := H.out.only ho1 (by simp) (by simp)
  have D1 := HD.out.only ho1 (by simp)
  have c1 := P1.next
  have f1 := P1.free 1
  have hl1 := P1.lt.2
  have g1 := D1.free 15
  have hl2 := D1.lt
  have d15 := D1.cells 15 (by omega)
  simp only [nodeCs, List.getElem?_cons_succ, List.getElem?_cons_zero] at d15
  have H1 := hide P1
  have HD1 := hide D1
  clear P1 D1
  unfold ptV tokV
  go_wp2_with fail
  refine (syn_isVar _ _).mono ?_
  rintro e w2 ⟨rfl, rfl⟩
  simp only [hv]
  obtain ⟨hne1, hne2⟩ := hne
  go_wp2_with fail
  go_ret
  have s1 : OnlyB [bp] w1 (w1.setCell ⟨bp, 1, none⟩ (.int .i64 ((nx : Int) + 1))) := (OnlyB.refl _ _).setCell (by simp) _
  exact ⟨rfl, by simpa using (H1.out.step (nx + 1)).only (bl := [bn]) (((OnlyB.refl _ _).setCell (by simp) _).alloc _) (by simp; omega) (by simp; omega),
    ((HD1.out.only s1 (by simp; omega)).set (n' := { nd with var := tk }) 15 (by omega) (.int .i64 tk) rfl).only (.nw [] _ _) (by simp), ((((ho1.wide (by simp)).setCell (by simp) _).setCell (by simp) _).alloc _)⟩
set_option maxRecDepth 100000 in
set_option maxHeartbeats 2000000 in
theorem syn_variable_no (bp bt ct : Nat) (ts : List PTok) (nv : Value) (nx bn : Nat) (w : World) (h : Pars w bp bt ct ts nv nx) (hn : nx ≤ 100000) (hk : varK (hereT ts nx).kind = false) :
    Calls Tryd.prog 66 #[.pointer (some ⟨bp, 0, none⟩), .pointer (some ⟨bn, 0, none⟩)] w fun e w' => e = .returned (.bool false) ∧ OnlyB [] w w' := by
  have hh := syn_here bp bt ct ts nv nx w h hn
  generalize hereT ts nx = t at *
  obtain ⟨tk, tp, tz, tv, tnm⟩ := t
  have hv : varK tk = false := hk
  clear h hk
  go_enter Tryd.func66, Tryd.ntmps66
  go_wp2_with fail
  refine hh.mono ?_
  rintro e w1 ⟨rfl, hb1⟩
  have ho1 : OnlyB [] w w1 := .of_below hb1
  unfold ptV tokV
  go_wp2_with fail
  refine (syn_isVar _ _).mono ?_
  rintro e w2 ⟨rfl, rfl⟩
  simp only [hv]
  go_wp2_with fail
  go_ret
  exact ⟨rfl, ho1.alloc _⟩
end Go.Proofs.YtiamjjonoeaggaaDoor
