import Derived.Test.YtiamjjonoeaggaaDoorProg
import Derived.WalkKit
import Derived.WalkSpells
import Derived.WalkLawsBesides
import Derived.Below
namespace Go.Proofs.YtiamjjonoeaggaaDoor
open Go.RowKit

theorem hide {p : Prop} (h : p) : Hid p := h
theorem bcell {W w1 : World} {n : Nat} (hb : Below n W w1) : (∀ b o, b < n → w1.cell? ⟨b, o, none⟩ = W.cell? ⟨b, o, none⟩) :=
  fun b o h => hb.cell (p := ⟨b, o, none⟩) h

theorem ret_bool {a b : Bool} (h : a = b) : Ending.returned (.bool a) = .returned (.bool b) := by rw [h]
theorem ret_int {k : IntKind} {a b : Int} (h : a = b) : Ending.returned (.int k a) = .returned (.int k b) := by rw [h]
theorem calls_to {P : Program} {f : FuncId} {xs : Array Value} {w : World} {v v' : Value} {R : World → Prop} (h : Calls P f xs w fun e w' => e = .returned v ∧ R w') (hv : v = v') : Calls P f xs w fun e w' => e = .returned v' ∧ R w' := hv ▸ h
/-- A text as a value. -/
abbrev bs (l : List UInt8) : Value := .string (ByteArray.mk l.toArray)

def digB (n : Int) : Bool := decide (48 ≤ n) && decide (n ≤ 57)
def letB (n : Int) : Bool := decide (97 ≤ n) && decide (n ≤ 122)

theorem ref_isDigit (n : Int) (w : World) :
    Calls Tryd.prog 58 #[.int .u8 n] w fun e w' => e = .returned (.bool (digB n)) ∧ w' = w := by
  unfold digB
  go_enter Tryd.func58, Tryd.ntmps58
  go_wp2
  all_goals
    go_ret
    exact ⟨by simp [*]; try omega, rfl⟩
theorem ref_isLetter (n : Int) (w : World) :
    Calls Tryd.prog 59 #[.int .u8 n] w fun e w' => e = .returned (.bool (letB n)) ∧ w' = w := by
  unfold letB
  go_enter Tryd.func59, Tryd.ntmps59
  go_wp2
  all_goals
    go_ret
    exact ⟨by simp [*]; try omega, rfl⟩

/-- A slice of texts that lies in memory. -/
def StrSl (w : World) (v : Value) (l : List (List UInt8)) : Prop :=
  (v = .slice none 0 0 ∧ l = []) ∨ ∃ b o cap, v = .slice (some ⟨b, o, none⟩) l.length cap ∧ l.length ≤ cap ∧ cap ≤ maxLen ∧ b < w.heap.size ∧ ∀ i, i < l.length → w.cell? ⟨b, o + i, none⟩ = some (bs (l.getD i []))

def inB (t : List UInt8) (l : List (List UInt8)) : Bool := l.any fun x => x == t
theorem inB_take (t : List UInt8) (l : List (List UInt8)) (k : Nat) (h : k < l.length) : inB t (l.take (k + 1)) = (inB t (l.take k) || l.getD k [] == t) := by
  unfold inB
  rw [List.take_succ_eq_append_getElem h, List.any_append]
  simp [List.getD, h]

set_option maxHeartbeats 400000 in
theorem ref_in (t : List UInt8) (v : Value) (l : List (List UInt8)) (w : World) (h : StrSl w v l) :
    Calls Tryd.prog 42 #[bs t, v] w fun e w' => e = .returned (.bool (inB t l)) ∧ w' = w := by
  rcases h with ⟨rfl, rfl⟩ | ⟨b, o, cap, rfl, hlc, hcap, hb, hc⟩
  · go_enter Tryd.func42, Tryd.ntmps42
    go_wp2
    go_loop [5] (fun i => i = .int .i64 0) (fun _ => 0)
    case atStart => rfl
    case round =>
      subst hrel
      go_wp2
      go_ret
      exact ⟨rfl, rfl⟩
  · unfold maxLen at hcap
    go_enter Tryd.func42, Tryd.ntmps42
    go_wp2
    go_loop [5] (fun i => ∃ k : Nat, k ≤ l.length ∧ i = .int .i64 k ∧ inB t (l.take k) = false) (fun i => l.length - (intOf i).toNat)
    case atStart => exact ⟨0, Nat.zero_le _, rfl, rfl⟩
    case round =>
      obtain ⟨k, hk, rfl, hf⟩ := hrel
      have HF := hide hf
      clear hf
      by_cases hlt : k < l.length
      · have hck := hc k hlt
        go_wp2
        · have he : (l[k] == t) = true := by assumption
          have hin : inB t l = true := by
            unfold inB
            rw [List.any_eq_true]
            exact ⟨l[k], List.getElem_mem hlt, he⟩
          go_ret
          exact ⟨ret_bool hin.symm, rfl⟩
        · have he : (l[k] == t) = false := by assumption
          go_round
          case rel => exact ⟨k + 1, by omega, by go_num, by rw [inB_take t l k hlt, HF.out]; simp [List.getD, hlt, he]⟩
          case measure => simp [intOf]; omega
      · have e : l.take k = l := List.take_of_length_le (by omega)
        have HF2 : Hid (inB t l = false) := by have := HF.out; rw [e] at this; exact this
        clear e HF
        go_wp2
        go_ret
        exact ⟨ret_bool HF2.out.symm, rfl⟩

theorem StrSl_lit (w : World) (l : List (List UInt8)) (T : TypeId) (hl : l.length ≤ 1000000) : StrSl (w.alloc (.cells (l.map bs).toArray T)) (.slice (some ⟨w.heap.size, 0, none⟩) l.length l.length) l := by
  refine .inr ⟨w.heap.size, 0, l.length, rfl, Nat.le_refl _, by unfold maxLen; omega, by simp, fun i hi => ?_⟩
  rw [Nat.zero_add]
  simp [hi]
theorem StrSl.below {w w' : World} {v : Value} {l : List (List UInt8)} (h : StrSl w v l) (hb : Below w.heap.size w w') : StrSl w' v l := by
  rcases h with h | ⟨b, o, cap, rfl, hlc, hcap, hlt, hc⟩
  · exact .inl h
  · exact .inr ⟨b, o, cap, rfl, hlc, hcap, Nat.lt_of_lt_of_le hlt hb.size, fun i hi => by rw [bcell hb b (o + i) hlt]; exact hc i hi⟩

def w15 : List (List UInt8) := [[120], [121], [116, 114, 117, 101], [97, 110, 100], [98, 117, 116], [111, 114], [101, 120, 105, 115, 116, 115], [112, 114, 101, 118], [110, 101, 120, 116], [111, 110, 99, 101], [115, 111, 111, 110], [115, 105, 110, 99, 101], [117, 110, 115, 105, 110, 99, 101], [117, 110, 116, 105, 108], [117, 110, 117, 110, 116, 105, 108]]
def w4one : List (List UInt8) := [[112, 114, 101, 118], [110, 101, 120, 116], [111, 110, 99, 101], [115, 111, 111, 110]]
def w4two : List (List UInt8) := [[115, 105, 110, 99, 101], [117, 110, 115, 105, 110, 99, 101], [117, 110, 116, 105, 108], [117, 110, 117, 110, 116, 105, 108]]
def w3plain : List (List UInt8) := [[97, 110, 100], [98, 117, 116], [111, 114]]
def w4ahead : List (List UInt8) := [[110, 101, 120, 116], [115, 111, 111, 110], [117, 110, 116, 105, 108], [117, 110, 117, 110, 116, 105, 108]]
def w6sign : List (List UInt8) := [[40], [41], [44], [91], [93], [42]]
def isNameB (t : List UInt8) : Bool := match t with
  | [] => false
  | c :: _ => letB (c.toNat : Int) && !inB t w15
def isOneB (t : List UInt8) : Bool := inB t w4one
def isTwoB (t : List UInt8) : Bool := inB t w4two
def isPlainB (t : List UInt8) : Bool := inB t w3plain

theorem in_w4one (t : List UInt8) (w : World) :
    Calls Tryd.prog 42 #[bs t, .slice (some ⟨w.heap.size, 0, none⟩) 4 4] (w.alloc (.cells #[bs [112, 114, 101, 118], bs [110, 101, 120, 116], bs [111, 110, 99, 101], bs [115, 111, 111, 110]] 9)) fun e w' => e = .returned (.bool (inB t w4one)) ∧ w' = w.alloc (.cells #[bs [112, 114, 101, 118], bs [110, 101, 120, 116], bs [111, 110, 99, 101], bs [115, 111, 111, 110]] 9) :=
  ref_in t _ w4one _ (StrSl_lit w w4one 9 (by decide))
theorem ref_isOne (t : List UInt8) (w : World) :
    Calls Tryd.prog 39 #[bs t] w fun e w' => e = .returned (.bool (isOneB t)) ∧ Below w.heap.size w w' := by
  go_enter Tryd.func39, Tryd.ntmps39
  go_wp2_with fail
  refine (in_w4one t _).mono ?_
  rintro e w1 ⟨rfl, rfl⟩
  go_wp2
  go_ret
  exact ⟨rfl, (Below.refl _ _).alloc (Nat.le_refl _) _⟩

theorem in_w4two (t : List UInt8) (w : World) :
    Calls Tryd.prog 42 #[bs t, .slice (some ⟨w.heap.size, 0, none⟩) 4 4] (w.alloc (.cells #[bs [115, 105, 110, 99, 101], bs [117, 110, 115, 105, 110, 99, 101], bs [117, 110, 116, 105, 108], bs [117, 110, 117, 110, 116, 105, 108]] 9)) fun e w' => e = .returned (.bool (inB t w4two)) ∧ w' = w.alloc (.cells #[bs [115, 105, 110, 99, 101], bs [117, 110, 115, 105, 110, 99, 101], bs [117, 110, 116, 105, 108], bs [117, 110, 117, 110, 116, 105, 108]] 9) :=
  ref_in t _ w4two _ (StrSl_lit w w4two 9 (by decide))
theorem ref_isTwo (t : List UInt8) (w : World) :
    Calls Tryd.prog 40 #[bs t] w fun e w' => e = .returned (.bool (isTwoB t)) ∧ Below w.heap.size w w' := by
  go_enter Tryd.func40, Tryd.ntmps40
  go_wp2_with fail
  refine (in_w4two t _).mono ?_
  rintro e w1 ⟨rfl, rfl⟩
  go_wp2
  go_ret
  exact ⟨rfl, (Below.refl _ _).alloc (Nat.le_refl _) _⟩

theorem in_w3plain (t : List UInt8) (w : World) :
    Calls Tryd.prog 42 #[bs t, .slice (some ⟨w.heap.size, 0, none⟩) 3 3] (w.alloc (.cells #[bs [97, 110, 100], bs [98, 117, 116], bs [111, 114]] 9)) fun e w' => e = .returned (.bool (inB t w3plain)) ∧ w' = w.alloc (.cells #[bs [97, 110, 100], bs [98, 117, 116], bs [111, 114]] 9) :=
  ref_in t _ w3plain _ (StrSl_lit w w3plain 9 (by decide))
theorem ref_isPlain (t : List UInt8) (w : World) :
    Calls Tryd.prog 60 #[bs t] w fun e w' => e = .returned (.bool (isPlainB t)) ∧ Below w.heap.size w w' := by
  go_enter Tryd.func60, Tryd.ntmps60
  go_wp2_with fail
  refine (in_w3plain t _).mono ?_
  rintro e w1 ⟨rfl, rfl⟩
  go_wp2
  go_ret
  exact ⟨rfl, (Below.refl _ _).alloc (Nat.le_refl _) _⟩

theorem in_w15 (t : List UInt8) (w : World) :
    Calls Tryd.prog 42 #[bs t, .slice (some ⟨w.heap.size, 0, none⟩) 15 15] (w.alloc (.cells #[bs [120], bs [121], bs [116, 114, 117, 101], bs [97, 110, 100], bs [98, 117, 116], bs [111, 114], bs [101, 120, 105, 115, 116, 115], bs [112, 114, 101, 118], bs [110, 101, 120, 116], bs [111, 110, 99, 101], bs [115, 111, 111, 110], bs [115, 105, 110, 99, 101], bs [117, 110, 115, 105, 110, 99, 101], bs [117, 110, 116, 105, 108], bs [117, 110, 117, 110, 116, 105, 108]] 9)) fun e w' => e = .returned (.bool (inB t w15)) ∧ w' = w.alloc (.cells #[bs [120], bs [121], bs [116, 114, 117, 101], bs [97, 110, 100], bs [98, 117, 116], bs [111, 114], bs [101, 120, 105, 115, 116, 115], bs [112, 114, 101, 118], bs [110, 101, 120, 116], bs [111, 110, 99, 101], bs [115, 111, 111, 110], bs [115, 105, 110, 99, 101], bs [117, 110, 115, 105, 110, 99, 101], bs [117, 110, 116, 105, 108], bs [117, 110, 117, 110, 116, 105, 108]] 9) :=
  ref_in t _ w15 _ (StrSl_lit w w15 9 (by decide))
set_option maxHeartbeats 400000 in
theorem ref_isName (t : List UInt8) (w : World) :
    Calls Tryd.prog 43 #[bs t] w fun e w' => e = .returned (.bool (isNameB t)) ∧ Below w.heap.size w w' := by
  cases t with
  | nil =>
    go_enter Tryd.func43, Tryd.ntmps43
    go_wp2_with fail
    go_ret
    exact ⟨rfl, Below.refl _ _⟩
  | cons c r =>
    go_enter Tryd.func43, Tryd.ntmps43
    go_wp2_with fail
    cases hl : letB (c.toNat : Int) with
    | false =>
      refine (calls_to (ref_isLetter _ _) (congrArg Value.bool hl)).mono ?_
      rintro e w1 ⟨rfl, rfl⟩
      have Hl := hide hl
      clear hl
      go_wp2_with fail
      go_ret
      exact ⟨ret_bool (by unfold isNameB; simp [Hl.out]), Below.refl _ _⟩
    | true =>
      refine (calls_to (ref_isLetter _ _) (congrArg Value.bool hl)).mono ?_
      rintro e w1 ⟨rfl, rfl⟩
      have Hl := hide hl
      clear hl
      go_wp2_with fail
      refine (in_w15 _ _).mono ?_
      rintro e w1 ⟨rfl, rfl⟩
      go_wp2_with fail
      go_ret
      exact ⟨ret_bool (by unfold isNameB; simp [Hl.out]), (Below.refl _ _).alloc (Nat.le_refl _) _⟩
end Go.Proofs.YtiamjjonoeaggaaDoor
