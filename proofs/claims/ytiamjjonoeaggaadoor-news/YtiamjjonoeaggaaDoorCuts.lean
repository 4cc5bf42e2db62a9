import Derived.Test.YtiamjjonoeaggaaDoorReads
namespace Go.Proofs.YtiamjjonoeaggaaDoor
open Go.RowKit

def isOpn (t : List UInt8) : Bool := t == [40] || t == [91]
def isCls (t : List UInt8) : Bool := t == [41] || t == [93]
def isSep (t : List UInt8) : Bool := t == [44] || t == [41]
def depth (t : List UInt8) (d : Int) : Int := (if isOpn t then d + 1 else d) - (if isCls t then 1 else 0)
/-- Where a list of tokens, whose first stands at i, is cut, the part at hand being begun at a. -/
def cuts : List Tok → Nat → Nat → Int → List (Nat × Nat)
  | [], _, _, _ => []
  | t :: r, i, a, d => if d == 0 && isSep t.text then (a, i) :: cuts r (i + 1) (i + 1) (depth t.text d) else cuts r (i + 1) a (depth t.text d)
def plain (t : List UInt8) : Bool := !(isOpn t || isCls t || isSep t)
theorem cuts_plain {t : Tok} (h : plain t.text = true) (r : List Tok) (i a : Nat) (d : Int) : cuts (t :: r) i a d = cuts r (i + 1) a d := by
  unfold plain at h
  simp only [Bool.not_eq_true', Bool.or_eq_false_iff] at h
  rw [cuts, h.2, Bool.and_false, if_neg (by simp)]
  unfold depth
  rw [h.1.1, h.1.2]
  simp
theorem cuts_opn {t : Tok} (h : isOpn t.text = true) (r : List Tok) (i a : Nat) (d : Int) : cuts (t :: r) i a d = cuts r (i + 1) a (d + 1) := by
  have : t.text = [40] ∨ t.text = [91] := by simpa [isOpn] using h
  rw [cuts]
  rcases this with h | h <;> rw [h] <;> simp [isSep, depth, isOpn, isCls]
theorem cuts_cls {t : Tok} (h : isCls t.text = true) (r : List Tok) (i a : Nat) (d : Int) (hd : 0 ≤ d) : cuts (t :: r) i a (d + 1) = cuts r (i + 1) a d := by
  have : t.text = [41] ∨ t.text = [93] := by simpa [isCls] using h
  have hz : (d + 1 == 0) = false := by simp; omega
  rw [cuts, hz, Bool.false_and, if_neg (by simp)]
  unfold depth
  rcases this with h | h <;> rw [h] <;> simp [isOpn, isCls]
theorem cuts_sep {t : Tok} (h : t.text = [44]) (r : List Tok) (i a : Nat) (d : Int) (hd : 0 ≤ d) : cuts (t :: r) i a (d + 1) = cuts r (i + 1) a (d + 1) := by
  have hz : (d + 1 == 0) = false := by simp; omega
  rw [cuts, hz, Bool.false_and, if_neg (by simp), h]
  simp [depth, isOpn, isCls]
theorem plain_of_head {c : UInt8} {r : List UInt8} (h : c.toNat ≠ 40 ∧ c.toNat ≠ 41 ∧ c.toNat ≠ 44 ∧ c.toNat ≠ 91 ∧ c.toNat ≠ 93) : plain (c :: r) = true := by
  have n : ∀ k : UInt8, c.toNat ≠ k.toNat → (c :: r == [k]) = false := fun k hk => by
    rw [beq_eq_false_iff_ne]
    intro e
    simp at e
    exact hk (by rw [e.1])
  unfold plain isOpn isCls isSep
  rw [n 40 h.1, n 41 h.2.1, n 44 h.2.2.1, n 91 h.2.2.2.1, n 93 h.2.2.2.2]
  rfl
theorem plain_name {t : List UInt8} (h : isNameB t = true) : plain t = true := by
  cases t with
  | nil => simp [isNameB] at h
  | cons c r =>
    simp [isNameB, letB] at h
    exact plain_of_head (by omega)
theorem plain_num {t : List UInt8} (h : numB t = true) : plain t = true := by
  cases t with
  | nil => simp [numB] at h
  | cons c r =>
    simp [numB, digB] at h
    exact plain_of_head (by omega)
theorem plain_var {t : List UInt8} (h : isVarB t = true) : plain t = true := by
  have : t = [120] ∨ t = [121] := by simpa [isVarB] using h
  rcases this with rfl | rfl <;> decide
theorem plain_arg {t : List UInt8} (h : argB t = true) : plain t = true := by
  unfold argB at h
  rw [Bool.or_eq_true] at h
  rcases h with h | h
  · obtain ⟨c, rfl, h1, h2⟩ := one_digit h
    exact plain_of_head (by omega)
  · exact plain_var h
theorem plain_end {t : List UInt8} (h : endB t = true) : plain t = true := by
  unfold endB at h
  rw [Bool.or_eq_true] at h
  rcases h with h | h
  · have : t = [42] := by simpa using h
    subst this
    decide
  · exact plain_num h
theorem plain_op {t : List UInt8} (h : opWord t = true) : plain t = true := by
  have hc := op_cases h
  simp only [List.mem_cons, List.not_mem_nil, or_false] at hc
  rcases hc with rfl | rfl | rfl | rfl | rfl | rfl | rfl | rfl | rfl | rfl | rfl | rfl <;> decide
theorem op_plain {t : List UInt8} (h : isPlainB t = true) : opWord t = true := by unfold opWord; rw [h]; simp
theorem op_one {t : List UInt8} (h : isOneB t = true) : opWord t = true := by unfold opWord; rw [h]; simp
theorem op_two {t : List UInt8} (h : isTwoB t = true) : opWord t = true := by unfold opWord; rw [h]; simp
/-- Inside a formula nothing is cut. -/
theorem cuts_reads : ∀ (F : Form) (u : List Tok), Reads F u → ∀ (rest : List Tok) (i a : Nat) (d : Int), 0 ≤ d → cuts (u ++ rest) i a d = cuts rest (i + u.length) a d := by
  intro F
  induction F with
  | nil => intro u h; exact h.elim
  | node p sp y l r ihl ihr =>
    intro u h rest i a d hd
    have hd1 : 0 ≤ d + 1 := by omega
    rcases h with ⟨hn, _, _, _, _, q1, q2, q3, x, hx, hb⟩ | ⟨_, hw, _, _, _, v, q1, q2, q3, ul, hv, _, hl, rfl⟩ | ⟨_, hw, _, _, _, q1, q2, q3, ul, ur, hl, hr, rfl⟩ | ⟨_, hw, _, _, hlo, hhi, q1, q2, q3, q4, q5, q6, ul, hl, rfl⟩ | ⟨_, hw, _, hlo, hhi, q1, q2, q3, q4, q5, q6, q7, ul, ur, hl, hr, rfl⟩ | ⟨_, hw, _, _, _, _, _, rfl⟩
    · rcases hb with ⟨_, rfl⟩ | ⟨z, q4, q5, hz, _, rfl⟩
      · simp only [List.cons_append, List.nil_append]
        rw [cuts_plain (plain_name hn), cuts_opn rfl, cuts_plain (plain_arg hx), cuts_cls rfl _ _ _ _ hd]
        simp
      · simp only [List.cons_append, List.nil_append]
        rw [cuts_plain (plain_name hn), cuts_opn rfl, cuts_plain (plain_arg hx), cuts_sep rfl _ _ _ _ hd, cuts_plain (plain_arg hz), cuts_cls rfl _ _ _ _ hd]
        simp
    · simp only [List.cons_append, List.append_assoc, List.nil_append]
      rw [cuts_plain (by show plain y.word = true; rw [hw]; decide), cuts_plain (plain_var hv), cuts_opn rfl, ihl ul hl _ _ _ _ hd1, cuts_cls rfl _ _ _ _ hd]
      simp only [List.length_cons, List.length_append, List.length_nil]
      congr 1
      omega
    · simp only [List.cons_append, List.append_assoc, List.nil_append]
      rw [cuts_plain (plain_op (op_plain hw)), cuts_opn rfl, ihl ul hl _ _ _ _ hd1, cuts_sep rfl _ _ _ _ hd, ihr ur hr _ _ _ _ hd1, cuts_cls rfl _ _ _ _ hd]
      simp only [List.length_cons, List.length_append, List.length_nil]
      congr 1
      omega
    · simp only [List.cons_append, List.append_assoc, List.nil_append]
      rw [cuts_plain (plain_op (op_one hw)), cuts_opn rfl, cuts_plain (plain_num hlo), cuts_sep rfl _ _ _ _ hd, cuts_plain (plain_end hhi), cuts_cls rfl _ _ _ _ hd, cuts_opn rfl, ihl ul hl _ _ _ _ hd1, cuts_cls rfl _ _ _ _ hd]
      simp only [List.length_cons, List.length_append, List.length_nil]
      congr 1
      omega
    · simp only [List.cons_append, List.append_assoc, List.nil_append]
      rw [cuts_plain (plain_op (op_two hw)), cuts_opn rfl, cuts_plain (plain_num hlo), cuts_sep rfl _ _ _ _ hd, cuts_plain (plain_end hhi), cuts_cls rfl _ _ _ _ hd, cuts_opn rfl, ihl ul hl _ _ _ _ hd1, cuts_sep rfl _ _ _ _ hd, ihr ur hr _ _ _ _ hd1, cuts_cls rfl _ _ _ _ hd]
      simp only [List.length_cons, List.length_append, List.length_nil]
      congr 1
      omega
    · simp only [List.cons_append, List.nil_append]
      rw [cuts_plain (by show plain y.word = true; rw [hw]; decide)]
      simp

/-- Where the first bracket opens. -/
def openI (u : List Tok) : Nat := u.findIdx fun t => t.text == [40]
/-- A node's FORMULAs. -/
def kids : Form → List Form
  | .nil => []
  | .node _ _ _ .nil _ => []
  | .node _ _ _ l .nil => [l]
  | .node _ _ _ l r => [l, r]
theorem openI_step {t : Tok} {r : List Tok} (h : (t.text == [40]) = false) : openI (t :: r) = openI r + 1 := by
  unfold openI
  rw [List.findIdx_cons, h]
  rfl
theorem openI_here {t : Tok} {r : List Tok} (h : t.text = [40]) : openI (t :: r) = 0 := by
  unfold openI
  rw [List.findIdx_cons, h]
  rfl
theorem plain_ne {t : List UInt8} (h : plain t = true) : (t == [40]) = false := by
  cases g : (t == [40]) with
  | false => rfl
  | true =>
    have : t = [40] := by simpa using g
    subst this
    exact absurd h (by decide)
theorem kids_one {p sp : Nat} {y : Pay} {l : Form} {ul : List Tok} (h : Reads l ul) : kids (.node p sp y l .nil) = [l] := by
  cases l with
  | nil => exact h.elim
  | node => rfl
theorem kids_two {p sp : Nat} {y : Pay} {l r : Form} {ul ur : List Tok} (h : Reads l ul) (h' : Reads r ur) : kids (.node p sp y l r) = [l, r] := by
  cases l with
  | nil => exact h.elim
  | node =>
    cases r with
    | nil => exact h'.elim
    | node => rfl
theorem cut1 {F : Form} {ul : List Tok} (h : Reads F ul) (q a : Nat) : cuts (ul ++ [⟨[41], q⟩]) a a 0 = [(a, a + ul.length)] := by
  rw [cuts_reads F ul h _ _ _ _ (Int.le_refl _), cuts]
  rfl
theorem cut2 {F G : Form} {ul ur : List Tok} (h : Reads F ul) (h' : Reads G ur) (q q' a : Nat) : cuts (ul ++ ⟨[44], q⟩ :: (ur ++ [⟨[41], q'⟩])) a a 0 = [(a, a + ul.length), (a + ul.length + 1, a + ul.length + 1 + ur.length)] := by
  rw [cuts_reads F ul h _ _ _ _ (Int.le_refl _), cuts, if_pos (show ((0 : Int) == 0 && isSep (Tok.mk [44] q).text) = true from rfl)]
  have e : depth (Tok.mk [44] q).text 0 = 0 := rfl
  rw [e, cut1 h']
theorem drop_two (pre ul : List Tok) (t : Tok) (ur z : List Tok) (n : Nat) (hn : n = pre.length + ul.length + 1) : ((pre ++ (ul ++ t :: (ur ++ z))).drop n).take ur.length = ur := by
  have e : pre ++ (ul ++ t :: (ur ++ z)) = (pre ++ ul ++ [t]) ++ (ur ++ z) := by simp
  rw [e, List.drop_left' (by simp; omega), List.take_left' rfl]
def leafW (t : List UInt8) : Bool := t == [116, 114, 117, 101] || isNameB t
/-- The parts of a formula's tokens, as cut, and whose they are. -/
theorem kids_reads {F : Form} {u : List Tok} (h : Reads F u) (hlf : leafW (hd u) = false) :
    (∃ l ul a, kids F = [l] ∧ Reads l ul ∧ cuts (u.drop (openI u + 1)) (openI u + 1) (openI u + 1) 0 = [(a, a + ul.length)] ∧ (u.drop a).take ul.length = ul ∧ a + ul.length < u.length ∧ 0 < a) ∨
    (∃ l r ul ur a a', kids F = [l, r] ∧ Reads l ul ∧ Reads r ur ∧ cuts (u.drop (openI u + 1)) (openI u + 1) (openI u + 1) 0 = [(a, a + ul.length), (a', a' + ur.length)] ∧ (u.drop a).take ul.length = ul ∧ (u.drop a').take ur.length = ur ∧ a + ul.length < a' ∧ a' + ur.length < u.length ∧ 0 < a) := by
  cases F with
  | nil => exact h.elim
  | node p sp y l r =>
    rcases h with ⟨hn, _, _, _, _, q1, q2, q3, x, hx, hb⟩ | ⟨_, hw, _, _, hrn, v, q1, q2, q3, ul, hv, _, hl, rfl⟩ | ⟨_, hw, _, _, _, q1, q2, q3, ul, ur, hl, hr, rfl⟩ | ⟨_, hw, _, hrn, hlo, hhi, q1, q2, q3, q4, q5, q6, ul, hl, rfl⟩ | ⟨_, hw, _, hlo, hhi, q1, q2, q3, q4, q5, q6, q7, ul, ur, hl, hr, rfl⟩ | ⟨_, hw, _, _, _, _, _, rfl⟩
    · exfalso
      rcases hb with ⟨_, rfl⟩ | ⟨z, q4, q5, hz, _, rfl⟩ <;> simp [hd, leafW, hn] at hlf
    · subst hrn
      refine .inl ⟨l, ul, 3, kids_one hl, hl, ?_, ?_, ?_, by omega⟩
      · rw [openI_step (plain_ne (by show plain y.word = true; rw [hw]; decide)), openI_step (plain_ne (plain_var hv)), openI_here rfl]
        exact cut1 hl _ _
      · simp
      · simp; omega
    · refine .inr ⟨l, r, ul, ur, 2, 2 + ul.length + 1, kids_two hl hr, hl, hr, ?_, ?_, ?_, by omega, ?_, by omega⟩
      · rw [openI_step (plain_ne (plain_op (op_plain hw))), openI_here rfl]
        exact cut2 hl hr _ _ _
      · simp
      · exact drop_two [_, _] ul _ ur _ _ (by simp)
      · simp; omega
    · subst hrn
      refine .inl ⟨l, ul, 7, kids_one hl, hl, ?_, ?_, ?_, by omega⟩
      · rw [openI_step (plain_ne (plain_op (op_one hw))), openI_step rfl, openI_step (plain_ne (plain_num hlo)), openI_step rfl, openI_step (plain_ne (plain_end hhi)), openI_step rfl, openI_here rfl]
        exact cut1 hl _ _
      · simp
      · simp; omega
    · refine .inr ⟨l, r, ul, ur, 7, 7 + ul.length + 1, kids_two hl hr, hl, hr, ?_, ?_, ?_, by omega, ?_, by omega⟩
      · rw [openI_step (plain_ne (plain_op (op_two hw))), openI_step rfl, openI_step (plain_ne (plain_num hlo)), openI_step rfl, openI_step (plain_ne (plain_end hhi)), openI_step rfl, openI_here rfl]
        exact cut2 hl hr _ _ _
      · simp
      · exact drop_two [_, _, _, _, _, _, _] ul _ ur _ _ (by simp)
      · simp; omega
    · exfalso
      simp [hd, leafW, hw] at hlf
end Go.Proofs.YtiamjjonoeaggaaDoor
