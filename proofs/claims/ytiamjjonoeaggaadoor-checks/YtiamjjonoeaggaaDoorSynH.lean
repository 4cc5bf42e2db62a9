import Derived.Test.YtiamjjonoeaggaaDoorSynG
import Derived.Test.YtiamjjonoeaggaaDoorBrid
import Derived.Deep.RegionLaw
import Derived.Laws.OwnMore
import Derived.Deep.RegionHeld
import Derived.Lib.SmallJoins
namespace Go.Proofs.YtiamjjonoeaggaaDoor
open Go.RowKit

/-- append to a row of the call's own, as one step of a region that draws. -/
theorem step_append_own {P : Program} {ops : Array Oper} {o : Oper} {a : Act} {w : World} {K : Act → World → Prop} {Q : Exit → Act → World → Prop} {E : Prop}
    (hg : o.guard = none) (s x : Operand) (t : TypeId) (hop : o.op = Op.call { callee := Callee.builtin Builtin.append, args := #[s, x], argTypes := #[t, t] })
    (base : Nat) (e : TypeId) {i : TypeInfo} {z : Value} {size bytes : Nat} (ht : P.underlying t = some (.slice e)) (hi : P.info? e = some i) (hz : i.zero = some z) (hsize : i.size = size) (hby : i.bytes = bytes) (hzs : z.cells.size = size) (hsz : 0 < size)
    (v : Value) (n : Nat) (xs : List Value) (hs : a.eval s = v) (hown : w.ownsRow base e size v n xs)
    (ad : Addr) (m c : Nat) (news : List Value) (hx : a.eval x = .slice (some ad) m c) (hl : news.length = m * size) (hnews : ∀ j u, news[j]? = some u → w.cell? (ad.add j) = some u) (h1 : ∀ u ∈ news, u.oneCell' = true)
    (h63 : n + m ≤ maxLen) (hbytes : (n + m) * bytes ≤ 140737488355328) (hbase : base ≤ w.heap.size)
    (hK : ∀ v' w', w'.ownsRow base e size v' (n + m) (xs ++ news) → w.grownBy w' v.ownBlock → K (a.put o.dst v') w') :
    if Region.wanted o (yielded ops a.tmps) = true then Oper.wp P o a w K Q else E := by
  have hw : Region.wanted o (yielded ops a.tmps) = true := by simp [Region.wanted, hg]
  rw [if_pos hw]
  exact wp_append_own w s x t hop base e i z size bytes ht hi hz hsize hby hzs hsz v n xs hs hown ad m c news hx hl hnews h1 h63 hbytes hbase (fun v' w' a b _ => hK v' w' a b)

/-- The cells of nodes. -/
def ndCells (l : List PNode) : List Value := l.flatMap nodeCs
theorem ndCells_length (l : List PNode) : (ndCells l).length = l.length * 22 := by
  induction l with
  | nil => rfl
  | cons n r ih =>
    have e : ndCells (n :: r) = nodeCs n ++ ndCells r := by simp [ndCells]
    have e2 : (nodeCs n).length = 22 := rfl
    rw [e, List.length_append, ih, e2, List.length_cons]
    omega
theorem ndCells_append (l r : List PNode) : ndCells (l ++ r) = ndCells l ++ ndCells r := by simp [ndCells]
theorem ndCells_one (n : PNode) : ndCells [n] = nodeCs n := by simp [ndCells]
theorem ndCells_at (l r : List PNode) (n : PNode) (j : Nat) (hj : j < 22) : (ndCells (l ++ n :: r))[l.length * 22 + j]? = (nodeCs n)[j]? := by
  have e : ndCells (l ++ n :: r) = ndCells l ++ (nodeCs n ++ ndCells r) := by simp [ndCells]
  have e2 : (nodeCs n).length = 22 := rfl
  rw [e, List.getElem?_append_right (by rw [ndCells_length]; omega), ndCells_length, List.getElem?_append_left (by omega)]
  congr 1
  omega
theorem ndCells_set (l r : List PNode) (n n' : PNode) (j : Nat) (hj : j < 22) (u : Value) (he : nodeCs n' = (nodeCs n).set j u) : (ndCells (l ++ n :: r)).set (l.length * 22 + j) u = ndCells (l ++ n' :: r) := by
  have e : ∀ n, ndCells (l ++ n :: r) = ndCells l ++ (nodeCs n ++ ndCells r) := by intro n; simp [ndCells]
  have e2 : (nodeCs n).length = 22 := rfl
  rw [e, e, List.set_append_right _ _ (by rw [ndCells_length]; omega), ndCells_length, show l.length * 22 + j - l.length * 22 = j by omega, List.set_append_left _ _ (by omega), he]
theorem info_node : (Tryd.prog.info? 95).map (fun i => (i.zero, i.size)) = some (some (nodeV nodeZ), 22) := by kernel_rfl

theorem args_le (ts : List PTok) (nx : Nat) (nd : PNode) : (argsR ts nx nd).2.1 ≤ nx + 5 := by
  unfold argsR argsT
  repeat' split
  all_goals (simp only []; omega)
theorem span_le (ts : List PTok) (nx : Nat) (nd : PNode) : (spanR ts nx nd).2.1 ≤ nx + 5 := by
  unfold spanR
  repeat' split
  all_goals (simp only []; omega)
theorem head_le (ts : List PTok) (nx : Nat) : (headR ts nx).2.1 ≤ nx + 6 := by
  unfold headR
  have a := args_le ts (nx + 1) (node0 (hereT ts nx))
  have b := span_le ts (nx + 1) (node0 (hereT ts nx))
  repeat' split
  all_goals first | omega | (simp only []; omega)
theorem parts_le (ts : List PTok) (F : Nat → Nat → Bool × Nat × List PNode) (c : Nat) (hF : ∀ nx base, (F nx base).2.1 ≤ nx + c) (m base : Nat) (nd : PNode) : (partsR ts F m base nd).2.1 ≤ m + 3 + 2 * c := by
  unfold partsR
  have a := hF (m + 1) (base + 1)
  have b := hF ((F (m + 1) (base + 1)).2.1 + 1) (base + 1 + (F (m + 1) (base + 1)).2.2.length)
  repeat' split
  all_goals (simp only []; omega)
/-- How far a FORMULA may come. -/
def farN : Nat → Nat
  | 0 => 0
  | d + 1 => 9 + 2 * farN d
theorem form_le (ts : List PTok) : ∀ d nx base, (formR ts d nx base).2.1 ≤ nx + farN d := by
  intro d
  induction d with
  | zero => intro nx base; simp [formR, farN]
  | succ d ih =>
    intro nx base
    have h := head_le ts nx
    have p := parts_le ts (formR ts d) (farN d) ih (headR ts nx).2.1 base (headR ts nx).2.2
    rw [formR]
    repeat' split
    all_goals (simp only [farN]; omega)
def manyN : Nat → Nat
  | 0 => 0
  | d + 1 => 1 + 2 * manyN d
theorem parts_many (ts : List PTok) (F : Nat → Nat → Bool × Nat × List PNode) (c : Nat) (hF : ∀ nx base, (F nx base).2.2.length ≤ c) (m base : Nat) (nd : PNode) : (partsR ts F m base nd).2.2.length ≤ 1 + 2 * c := by
  unfold partsR
  have a := hF (m + 1) (base + 1)
  have b := hF ((F (m + 1) (base + 1)).2.1 + 1) (base + 1 + (F (m + 1) (base + 1)).2.2.length)
  repeat' split
  all_goals (simp only [List.length_cons, List.length_append, List.length_nil]; omega)
theorem form_many (ts : List PTok) : ∀ d nx base, (formR ts d nx base).2.2.length ≤ manyN d := by
  intro d
  induction d with
  | zero => intro nx base; simp [formR, manyN]
  | succ d ih =>
    intro nx base
    have p := parts_many ts (formR ts d) (manyN d) ih (headR ts nx).2.1 base (headR ts nx).2.2
    rw [formR]
    repeat' split
    all_goals (simp only [manyN, List.length_cons, List.length_nil]; omega)
/-- The parser, and the nodes that it has. -/
def PN (w : World) (bp bt ct : Nat) (ts : List PTok) (nx : Nat) (ns : List PNode) : Prop := ∃ nv, Pars w bp bt ct ts nv nx ∧ w.ownsRow (bp + 1) 95 22 nv ns.length (ndCells ns)
theorem ownsRow_only {w w' : World} {bl : List Nat} {base : Nat} {e : TypeId} {size : Nat} {v : Value} {n : Nat} {xs : List Value} (h : w.ownsRow base e size v n xs) (ho : OnlyB bl w w') (hb : ∀ k ∈ bl, k < base) : w'.ownsRow base e size v n xs := by
  refine ⟨h.1, ?_⟩
  rcases h.2 with hn | ⟨g, cap, cur, rfl, hb', hgg, rest⟩
  · exact .inl hn
  · refine .inr ⟨g, cap, cur, rfl, hb', ?_, rest⟩
    rw [ho.block g (Array.getElem?_eq_some_iff.1 hgg).1 (fun hm => by have := hb g hm; omega)]
    exact hgg
theorem PN.only {w w' : World} {bp bt ct : Nat} {ts : List PTok} {nx : Nat} {ns : List PNode} (h : PN w bp bt ct ts nx ns) (ho : OnlyB [] w w') : PN w' bp bt ct ts nx ns := by
  obtain ⟨nv, h1, h2⟩ := h
  exact ⟨nv, h1.only ho (by simp) (by simp), ownsRow_only h2 ho (by simp)⟩
/-- What formula and parts answer. -/
def Outs (w w' : World) (bp bt ct : Nat) (ts : List PTok) (ns : List PNode) (o : Bool × Nat × List PNode) : Prop :=
  (∃ nv, Pars w' bp bt ct ts nv o.2.1 ∧ (o.1 = true → w'.ownsRow (bp + 1) 95 22 nv (ns ++ o.2.2).length (ndCells (ns ++ o.2.2)))) ∧ Below bp w w'
end Go.Proofs.YtiamjjonoeaggaaDoor
