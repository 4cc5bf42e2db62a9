/-
  DERIVED. GIVEN WITH THE SEED: THE CARDS: each row of YtiamjjonoeaggaaGreatDoorRows.lean that lists a variable, with what it lists TIED to the program's text (the seventh form; the later family's looks); each row that meets fmt, with fmt's text TOLD by the authors' own Lean function (tested against real Go, not proved from fmt's source: count such statements apart). THE CARD IS WHAT COUNTS. Prove the row's statement (the work); the ties are given (YtiamjjonoeaggaaGreatDoorTie.lean); close each card by the builder's one call (the guide's Derived/Test/ToyasCard.lean, 'card_holds'). Laid BY PROGRAM, IN A SANDBOX (cutbox-door.mjs). By AI agents, Wed Nov 11 2026. No macro, syntax, notation, axiom, sorry.
-/
import Derived.Test.YtiamjjonoeaggaaGreatDoorRows
import GoSem.ClaimSeven
namespace Go.Proofs.YtiamjjonoeaggaaGreatDoor
namespace Rows

/-- THE TIED CARD OF 'vigilkeep.Told'. -/
def toldCard : Claim7 := { stood := { row := toldRow, standIns := [], harness := (true, "6a0cdad0e0b7225b14053dc2b6837d55e58f2507dd5edebfb122654e374170b6"), looks := true }, kinds := [], alts := [], laidByText := true, laidKinds := [.data, .data, .data], laidTests := true, laidLooks := .later }
def ToldCardSaid : Prop := Claim7.holds Tryz.pinned (.plain (OpenSpec.ofChange toldSpec)) toldCard

/-- THE TIED CARD OF 'vigilkeep.Known'. -/
def knownCard : Claim7 := { stood := { row := knownRow, standIns := [], harness := (true, "6a0cdad0e0b7225b14053dc2b6837d55e58f2507dd5edebfb122654e374170b6"), looks := true }, kinds := [], alts := [], laidByText := true, laidKinds := [.data, .data, .data], laidTests := true, laidLooks := .later }
def KnownCardSaid : Prop := Claim7.holds Tryz.pinned (.plain (OpenSpec.ofChange knownSpec)) knownCard

/-- THE TIED CARD OF 'vigillaw.Feeds'. -/
def feedsCard : Claim7 := { stood := { row := feedsRow, standIns := [], harness := (true, "6a0cdad0e0b7225b14053dc2b6837d55e58f2507dd5edebfb122654e374170b6"), looks := true }, kinds := [], alts := [], laidByText := true, laidKinds := [.data, .data, .data, .sentinel, .sentinel], laidTests := true, laidLooks := .later }
def FeedsCardSaid : Prop := Claim7.holds Tryz.pinned (.plain (OpenSpec.ofChange feedsSpec)) feedsCard

/-- THE TIED CARD OF 'vigillaw.Ends'. -/
def endsCard : Claim7 := { stood := { row := endsRow, standIns := [], harness := (true, "6a0cdad0e0b7225b14053dc2b6837d55e58f2507dd5edebfb122654e374170b6"), looks := true }, kinds := [], alts := [], laidByText := true, laidKinds := [.data, .data, .data, .sentinel, .sentinel], laidTests := true, laidLooks := .later }
def EndsCardSaid : Prop := Claim7.holds Tryz.pinned (.plain (OpenSpec.ofChange endsSpec)) endsCard

/-- THE TIED CARD OF 'vigillaw.Counts'. -/
def countsCard : Claim7 := { stood := { row := countsRow, standIns := [], harness := (true, "6a0cdad0e0b7225b14053dc2b6837d55e58f2507dd5edebfb122654e374170b6"), looks := true }, kinds := [], alts := [], laidByText := true, laidKinds := [.data, .data, .data, .sentinel, .sentinel], laidTests := true, laidLooks := .later }
def CountsCardSaid : Prop := Claim7.holds Tryz.pinned (.plain (OpenSpec.ofChange countsSpec)) countsCard

/-- THE TIED CARD OF 'vigilkeep.Shifted'. -/
def shiftedCard : Claim7 := { stood := { row := shiftedRow, standIns := [], harness := (true, "6a0cdad0e0b7225b14053dc2b6837d55e58f2507dd5edebfb122654e374170b6"), looks := true }, kinds := [], alts := [], laidByText := true, laidKinds := [.data, .data, .data], laidTests := true, laidLooks := .later }
def ShiftedCardSaid : Prop := Claim7.holds Tryz.pinned (.plain (OpenSpec.ofChange shiftedSpec)) shiftedCard

/-- THE TIED CARD OF 'vigilkeep.Late'. -/
def lateCard : Claim7 := { stood := { row := lateRow, standIns := [], harness := (true, "6a0cdad0e0b7225b14053dc2b6837d55e58f2507dd5edebfb122654e374170b6"), looks := true }, kinds := [], alts := [], laidByText := true, laidKinds := [.data, .data, .data], laidTests := true, laidLooks := .later }
def LateCardSaid : Prop := Claim7.holds Tryz.pinned (.plain (OpenSpec.ofChange lateSpec)) lateCard

/-- THE TIED CARD OF 'vigilkeep.Swapped'. -/
def swappedCard : Claim7 := { stood := { row := swappedRow, standIns := [], harness := (true, "6a0cdad0e0b7225b14053dc2b6837d55e58f2507dd5edebfb122654e374170b6"), looks := true }, kinds := [], alts := [], laidByText := true, laidKinds := [.data, .data, .data], laidTests := true, laidLooks := .later }
def SwappedCardSaid : Prop := Claim7.holds Tryz.pinned (.plain (OpenSpec.ofChange swappedSpec)) swappedCard

/-- THE TIED CARD OF 'vigilkeep.Equal'. -/
def equalCard : Claim7 := { stood := { row := equalRow, standIns := [], harness := (true, "6a0cdad0e0b7225b14053dc2b6837d55e58f2507dd5edebfb122654e374170b6"), looks := true }, kinds := [], alts := [], laidByText := true, laidKinds := [.data, .data, .data], laidTests := true, laidLooks := .later }
def EqualCardSaid : Prop := Claim7.holds Tryz.pinned (.plain (OpenSpec.ofChange equalSpec)) equalCard

/-- THE SECOND FORM's CARD OF 'vigilkeep.Told'. -/
def toldUptoCard : Claim7 := { stood := { row := toldUptoRow, standIns := [], harness := (true, "6a0cdad0e0b7225b14053dc2b6837d55e58f2507dd5edebfb122654e374170b6"), looks := true }, kinds := [], alts := [], laidByText := true, laidKinds := [.data, .data, .data], laidTests := true, laidLooks := .later }
def ToldUptoCardSaid : Prop := Claim7.holds Tryz.pinned (.plain (OpenSpec.upto toldSpec)) toldUptoCard

/-- THE SECOND FORM's CARD OF 'vigilkeep.Known'. -/
def knownUptoCard : Claim7 := { stood := { row := knownUptoRow, standIns := [], harness := (true, "6a0cdad0e0b7225b14053dc2b6837d55e58f2507dd5edebfb122654e374170b6"), looks := true }, kinds := [], alts := [], laidByText := true, laidKinds := [.data, .data, .data], laidTests := true, laidLooks := .later }
def KnownUptoCardSaid : Prop := Claim7.holds Tryz.pinned (.plain (OpenSpec.upto knownSpec)) knownUptoCard

/-- THE SECOND FORM's CARD OF 'vigillaw.Feeds'. -/
def feedsUptoCard : Claim7 := { stood := { row := feedsUptoRow, standIns := [], harness := (true, "6a0cdad0e0b7225b14053dc2b6837d55e58f2507dd5edebfb122654e374170b6"), looks := true }, kinds := [], alts := [], laidByText := true, laidKinds := [.data, .data, .data, .sentinel, .sentinel], laidTests := true, laidLooks := .later }
def FeedsUptoCardSaid : Prop := Claim7.holds Tryz.pinned (.plain (OpenSpec.upto feedsSpec)) feedsUptoCard

/-- THE SECOND FORM's CARD OF 'vigillaw.Ends'. -/
def endsUptoCard : Claim7 := { stood := { row := endsUptoRow, standIns := [], harness := (true, "6a0cdad0e0b7225b14053dc2b6837d55e58f2507dd5edebfb122654e374170b6"), looks := true }, kinds := [], alts := [], laidByText := true, laidKinds := [.data, .data, .data, .sentinel, .sentinel], laidTests := true, laidLooks := .later }
def EndsUptoCardSaid : Prop := Claim7.holds Tryz.pinned (.plain (OpenSpec.upto endsSpec)) endsUptoCard

/-- THE SECOND FORM's CARD OF 'vigillaw.Counts'. -/
def countsUptoCard : Claim7 := { stood := { row := countsUptoRow, standIns := [], harness := (true, "6a0cdad0e0b7225b14053dc2b6837d55e58f2507dd5edebfb122654e374170b6"), looks := true }, kinds := [], alts := [], laidByText := true, laidKinds := [.data, .data, .data, .sentinel, .sentinel], laidTests := true, laidLooks := .later }
def CountsUptoCardSaid : Prop := Claim7.holds Tryz.pinned (.plain (OpenSpec.upto countsSpec)) countsUptoCard

/-- THE SECOND FORM's CARD OF 'vigilkeep.Shifted'. -/
def shiftedUptoCard : Claim7 := { stood := { row := shiftedUptoRow, standIns := [], harness := (true, "6a0cdad0e0b7225b14053dc2b6837d55e58f2507dd5edebfb122654e374170b6"), looks := true }, kinds := [], alts := [], laidByText := true, laidKinds := [.data, .data, .data], laidTests := true, laidLooks := .later }
def ShiftedUptoCardSaid : Prop := Claim7.holds Tryz.pinned (.plain (OpenSpec.upto shiftedSpec)) shiftedUptoCard

/-- THE SECOND FORM's CARD OF 'vigilkeep.Late'. -/
def lateUptoCard : Claim7 := { stood := { row := lateUptoRow, standIns := [], harness := (true, "6a0cdad0e0b7225b14053dc2b6837d55e58f2507dd5edebfb122654e374170b6"), looks := true }, kinds := [], alts := [], laidByText := true, laidKinds := [.data, .data, .data], laidTests := true, laidLooks := .later }
def LateUptoCardSaid : Prop := Claim7.holds Tryz.pinned (.plain (OpenSpec.upto lateSpec)) lateUptoCard

/-- THE SECOND FORM's CARD OF 'vigilkeep.Swapped'. -/
def swappedUptoCard : Claim7 := { stood := { row := swappedUptoRow, standIns := [], harness := (true, "6a0cdad0e0b7225b14053dc2b6837d55e58f2507dd5edebfb122654e374170b6"), looks := true }, kinds := [], alts := [], laidByText := true, laidKinds := [.data, .data, .data], laidTests := true, laidLooks := .later }
def SwappedUptoCardSaid : Prop := Claim7.holds Tryz.pinned (.plain (OpenSpec.upto swappedSpec)) swappedUptoCard

/-- THE SECOND FORM's CARD OF 'vigilkeep.Equal'. -/
def equalUptoCard : Claim7 := { stood := { row := equalUptoRow, standIns := [], harness := (true, "6a0cdad0e0b7225b14053dc2b6837d55e58f2507dd5edebfb122654e374170b6"), looks := true }, kinds := [], alts := [], laidByText := true, laidKinds := [.data, .data, .data], laidTests := true, laidLooks := .later }
def EqualUptoCardSaid : Prop := Claim7.holds Tryz.pinned (.plain (OpenSpec.upto equalSpec)) equalUptoCard
end Rows
end Go.Proofs.YtiamjjonoeaggaaGreatDoor
