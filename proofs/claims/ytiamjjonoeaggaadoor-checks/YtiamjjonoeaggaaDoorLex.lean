import Derived.Test.YtiamjjonoeaggaaDoorRefD
namespace Go.Proofs.YtiamjjonoeaggaaDoor
open Go.RowKit

structure Tok where
  text : List UInt8
  pos : Nat

/-- How many bytes behind c go on its row. -/
def spanLen (c : UInt8) : List UInt8 → Nat
  | [] => 0
  | d :: r => if rowB (c.toNat : Int) (d.toNat : Int) then spanLen d r + 1 else 0
def tokEnd (s : List UInt8) (i : Nat) : Nat := i + 1 + spanLen (s.getD i 0) (s.drop (i + 1))
def cut (s : List UInt8) (i k : Nat) : List UInt8 := (s.drop i).take (k - i)
def isBlank (c : UInt8) : Bool := c == 32 || c == 10
def okTok (c : UInt8) (t : List UInt8) : Bool := inB t w6sign || (digB (c.toNat : Int) && decide (t.length ≤ 3)) || (letB (c.toNat : Int) && decide (t.length ≤ 8))
/-- The tokens from i on, behind those that are known; and -1, or the place at which none begins. -/
def lexF (s : List UInt8) : Nat → Nat → List Tok → List Tok × Int
  | 0, _, acc => (acc, -1)
  | f + 1, i, acc =>
    if s.length ≤ i then (acc, -1)
    else if isBlank (s.getD i 0) then lexF s f (i + 1) acc
    else if okTok (s.getD i 0) (cut s i (tokEnd s i)) then lexF s f (tokEnd s i) (acc ++ [⟨cut s i (tokEnd s i), i⟩])
    else ([], (i : Int))
theorem lexF_fuel (s : List UInt8) : ∀ (f g i : Nat) (acc : List Tok), s.length - i ≤ f → s.length - i ≤ g → lexF s f i acc = lexF s g i acc := by
  intro f
  induction f with
  | zero =>
    intro g i acc hf hg
    cases g with
    | zero => rfl
    | succ g => rw [lexF, lexF, if_pos (by omega)]
  | succ f ih =>
    intro g i acc hf hg
    cases g with
    | zero => rw [lexF, lexF, if_pos (by omega)]
    | succ g =>
      rw [lexF, lexF]
      by_cases h1 : s.length ≤ i
      · rw [if_pos h1, if_pos h1]
      · rw [if_neg h1, if_neg h1]
        by_cases h2 : isBlank (s.getD i 0) = true
        · rw [if_pos h2, if_pos h2]; exact ih g (i + 1) acc (by omega) (by omega)
        · rw [if_neg h2, if_neg h2]
          by_cases h3 : okTok (s.getD i 0) (cut s i (tokEnd s i)) = true
          · rw [if_pos h3, if_pos h3]
            have : i + 1 ≤ tokEnd s i := by unfold tokEnd; omega
            exact ih g _ _ (by omega) (by omega)
          · rw [if_neg h3, if_neg h3]
def lexR (s : List UInt8) : List Tok × Int := lexF s s.length 0 []
theorem spanLen_le (c : UInt8) (l : List UInt8) : spanLen c l ≤ l.length := by
  induction l generalizing c with
  | nil => simp [spanLen]
  | cons d r ih =>
    rw [spanLen]
    have := ih d
    split
    · simp; omega
    · simp
theorem tokEnd_le (s : List UInt8) (i : Nat) (h : i < s.length) : tokEnd s i ≤ s.length := by
  unfold tokEnd
  have := spanLen_le (s.getD i 0) (s.drop (i + 1))
  rw [List.length_drop] at this
  omega
theorem span_step (s : List UInt8) (k : Nat) (h : k < s.length) (c : UInt8) : spanLen c (s.drop k) = if rowB (c.toNat : Int) ((s.getD k 0).toNat : Int) then spanLen (s.getD k 0) (s.drop (k + 1)) + 1 else 0 := by
  rw [List.drop_eq_getElem_cons h, spanLen]
  simp [List.getD, h]
theorem ext_mk (s : List UInt8) (i k : Nat) : (ByteArray.mk s.toArray).extract i k = ByteArray.mk (cut s i k).toArray := by
  apply ByteArray.ext
  unfold cut
  simp
theorem lex_done {s : List UInt8} {i : Nat} {acc : List Tok} {R : List Tok × Int} (h : lexF s (s.length - i) i acc = R) (hi : s.length ≤ i) : R = (acc, -1) := by
  rw [← h, lexF_fuel s (s.length - i) 1 i acc (by omega) (by omega), lexF, if_pos hi]
theorem lex_blank {s : List UInt8} {i : Nat} {acc : List Tok} {R : List Tok × Int} (h : lexF s (s.length - i) i acc = R) (hi : i < s.length) (hb : isBlank (s.getD i 0) = true) : lexF s (s.length - (i + 1)) (i + 1) acc = R := by
  rw [← h, lexF_fuel s (s.length - i) (s.length - (i + 1) + 1) i acc (by omega) (by omega), lexF, if_neg (by omega), if_pos hb]
theorem lex_tok {s : List UInt8} {i : Nat} {acc : List Tok} {R : List Tok × Int} (h : lexF s (s.length - i) i acc = R) (hi : i < s.length) (hb : isBlank (s.getD i 0) = false)
    (ho : okTok (s.getD i 0) (cut s i (tokEnd s i)) = true) : lexF s (s.length - tokEnd s i) (tokEnd s i) (acc ++ [⟨cut s i (tokEnd s i), i⟩]) = R := by
  have : i + 1 ≤ tokEnd s i := by unfold tokEnd; omega
  rw [← h, lexF_fuel s (s.length - i) (s.length - (i + 1) + 1) i acc (by omega) (by omega), lexF, if_neg (by omega), if_neg (by rw [hb]; simp), if_pos ho]
  exact lexF_fuel s _ _ _ _ (by omega) (by omega)
theorem lex_bad {s : List UInt8} {i : Nat} {acc : List Tok} {R : List Tok × Int} (h : lexF s (s.length - i) i acc = R) (hi : i < s.length) (hb : isBlank (s.getD i 0) = false)
    (ho : okTok (s.getD i 0) (cut s i (tokEnd s i)) = false) : R = ([], (i : Int)) := by
  rw [← h, lexF_fuel s (s.length - i) (s.length - (i + 1) + 1) i acc (by omega) (by omega), lexF, if_neg (by omega), if_neg (by rw [hb]; simp), if_neg (by rw [ho]; simp)]

/-- The cells of a list of tokens. -/
def tokCells (l : List Tok) : List Value := l.flatMap fun t => [bs t.text, .int .i64 t.pos]
theorem tokCells_length (l : List Tok) : (tokCells l).length = l.length * 2 := by
  induction l with
  | nil => rfl
  | cons t l ih => simp [tokCells] at ih ⊢; omega
theorem tokCells_snoc (l : List Tok) (t : Tok) : tokCells (l ++ [t]) = tokCells l ++ [bs t.text, .int .i64 t.pos] := by
  simp [tokCells]
theorem tokCells_at (l : List Tok) : ∀ (j : Nat) (h : j < l.length), (tokCells l)[2 * j]? = some (bs (l[j]).text) ∧ (tokCells l)[2 * j + 1]? = some (.int .i64 (l[j]).pos) := by
  induction l with
  | nil => intro j h; simp at h
  | cons t l ih =>
    intro j h
    cases j with
    | zero => simp [tokCells]
    | succ j =>
      have := ih j (by simpa using h)
      have e : tokCells (t :: l) = bs t.text :: .int .i64 t.pos :: tokCells l := by simp [tokCells]
      rw [e]
      have e1 : 2 * (j + 1) = 2 * j + 1 + 1 := by omega
      rw [e1]
      simpa using this

theorem ownsRow_below {w w' : World} {base : Nat} {e : TypeId} {size : Nat} {v : Value} {n : Nat} {xs : List Value} (h : w.ownsRow base e size v n xs) (hb : Below w.heap.size w w') : w'.ownsRow base e size v n xs := by
  obtain ⟨h1, h2⟩ := h
  refine ⟨h1, ?_⟩
  rcases h2 with h2 | ⟨g, cap, cur, e1, e2, e3, e4⟩
  · exact .inl h2
  · refine .inr ⟨g, cap, cur, e1, e2, ?_, e4⟩
    have hg : g < w.heap.size := by
      rcases Nat.lt_or_ge g w.heap.size with h' | h'
      · exact h'
      · simp [Array.getElem?_eq_none h'] at e3
    rw [hb.block g hg]
    exact e3
theorem info_tok : (Tryd.prog.info? 73).map (fun i => (i.zero, i.size, i.bytes)) = some (some (.agg #[.string ByteArray.empty, .int .i64 0]), 2, 24) := by kernel_rfl

end Go.Proofs.YtiamjjonoeaggaaDoor
