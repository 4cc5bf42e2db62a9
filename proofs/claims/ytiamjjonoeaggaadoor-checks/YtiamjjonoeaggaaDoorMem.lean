import Derived.WalkKit
import Derived.WalkSpells
import Derived.WalkSmall
namespace Go.Proofs.YtiamjjonoeaggaaDoor
open Go.RowKit

theorem wp_app1 {P : Program} {ops : Array Oper} {rest : List Oper} {o : Oper} {a : Act} {Q : Exit → Act → World → Prop} (hgd : o.guard = none) (x y : Operand) (t e : TypeId)
    (ho : o.op = .call { callee := .builtin .append, args := #[x, y], argTypes := #[t, t] }) {i : TypeInfo} {z : Value} {size bytes : Nat} (ht : P.underlying t = some (.slice e)) (hi : P.info? e = some i) (hz : i.zero = some z)
    (hsize : i.size = size) (hby : i.bytes = bytes) (hzs : z.cells.size = size) (hsz : 0 < size) (w0 : World) (base : Nat) (v : Value) (n : Nat) (xs news : List Value) (W : World) (hx : a.eval x = v)
    (hown : W.ownsRow base e size v n xs) (hy : a.eval y = .slice (some ⟨W.heap.size, 0, none⟩) 1 1) (hl : news.length = size) (h1 : ∀ u ∈ news, u.oneCell' = true) (hn : n ≤ 100000) (hbb : bytes ≤ 1000)
    (hbel : Below base w0 W) (hbase : base ≤ W.heap.size)
    (h : ∀ v' w', w'.ownsRow base e size v' (n + 1) (xs ++ news) → Below base w0 w' → v' ≠ .slice none 0 0 → wpList P ops Q rest (a.put o.dst v') w') : wpList P ops Q (o :: rest) a (W.alloc (.cells news.toArray e)) := by
  refine wpList_append_own _ hgd x y t ho base e i z size bytes ht hi hz hsize hby hzs hsz v n xs hx (hown.alloc _) ⟨W.heap.size, 0, none⟩ 1 1 news hy (by omega) ?_ h1 ?_ ?_ ?_ ?_
  · intro j u hj
    have hlt : j < news.length := by
      rcases Nat.lt_or_ge j news.length with g | g
      · exact g
      · rw [List.getElem?_eq_none g] at hj; exact absurd hj (by simp)
    have e : (⟨W.heap.size, 0, none⟩ : Addr).add j = ⟨W.heap.size, j, none⟩ := by
      simp only [Addr.add]
      split
      · rename_i h0; simp_all
      · simp
    rw [e]
    simpa using hj
  · unfold maxLen; omega
  · have : (n + 1) * bytes ≤ 100001 * 1000 := Nat.mul_le_mul (by omega) hbb
    omega
  · simp; omega
  · intro v' w' ho' hg hnil
    refine h v' w' ho' ?_ (fun e => ?_)
    · refine (hbel.alloc hbase _).grown hg (by simp; omega) ?_
      intro k hk
      exact (hown.lt k hk).1
    · have := hnil.1 e
      omega
theorem addr_add (b o j : Nat) : (⟨b, o, none⟩ : Addr).add j = ⟨b, o + j, none⟩ := by
  simp only [Addr.add]
  split
  · rename_i h0; simp_all
  · simp
theorem wp_appS {P : Program} {ops : Array Oper} {rest : List Oper} {o : Oper} {a : Act} {Q : Exit → Act → World → Prop} (hgd : o.guard = none) (x y : Operand) (t e : TypeId)
    (ho : o.op = .call { callee := .builtin .append, args := #[x, y], argTypes := #[t, t] }) {i : TypeInfo} {z : Value} {size bytes : Nat} (ht : P.underlying t = some (.slice e)) (hi : P.info? e = some i) (hz : i.zero = some z)
    (hsize : i.size = size) (hby : i.bytes = bytes) (hzs : z.cells.size = size) (hsz : 0 < size) (w0 : World) (base : Nat) (v : Value) (n : Nat) (xs news : List Value) (W : World) (hx : a.eval x = v)
    (hown : W.ownsRow base e size v n xs) (b off m c : Nat) (hy : a.eval y = .slice (some ⟨b, off, none⟩) m c) (hl : news.length = m * size) (hc : ∀ j u, news[j]? = some u → W.cell? ⟨b, off + j, none⟩ = some u) (h1 : ∀ u ∈ news, u.oneCell' = true) (hn : n + m ≤ 100000) (hbb : bytes ≤ 1000)
    (hbel : Below base w0 W) (hbase : base ≤ W.heap.size)
    (h : ∀ v' w', w'.ownsRow base e size v' (n + m) (xs ++ news) → Below base w0 w' → (v' = .slice none 0 0 ↔ v = .slice none 0 0 ∧ m = 0) → wpList P ops Q rest (a.put o.dst v') w') : wpList P ops Q (o :: rest) a W := by
  refine wpList_append_own _ hgd x y t ho base e i z size bytes ht hi hz hsize hby hzs hsz v n xs hx hown ⟨b, off, none⟩ m c news hy hl ?_ h1 ?_ ?_ hbase ?_
  · intro j u hj
    rw [addr_add]
    exact hc j u hj
  · unfold maxLen; omega
  · have : (n + m) * bytes ≤ 100000 * 1000 := Nat.mul_le_mul hn hbb
    omega
  · intro v' w' ho' hg hnil
    refine h v' w' ho' ?_ hnil
    refine hbel.grown hg hbase ?_
    intro k hk
    exact (hown.lt k hk).1
end Go.Proofs.YtiamjjonoeaggaaDoor
