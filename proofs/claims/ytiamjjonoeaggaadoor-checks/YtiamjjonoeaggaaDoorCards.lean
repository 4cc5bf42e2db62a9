/-
  DERIVED. GIVEN WITH THE SEED: THE CARDS: each row of YtiamjjonoeaggaaDoorRows.lean that lists a variable, with what it lists TIED to the program's text (the seventh form; the later family's looks); each row that meets fmt, with fmt's text TOLD by the authors' own Lean function (tested against real Go, not proved from fmt's source: count such statements apart). THE CARD IS WHAT COUNTS. Prove the row's statement (the work); the ties are given (YtiamjjonoeaggaaDoorTie.lean); close each card by the builder's one call (the guide's Derived/Test/ToyasCard.lean, 'card_holds'). Laid BY PROGRAM, IN A SANDBOX (cutbox-door.mjs). By AI agents, Wed Nov 11 2026. No macro, syntax, notation, axiom, sorry.
-/
import Derived.Test.YtiamjjonoeaggaaDoorRows
import GoSem.ClaimSeven
namespace Go.Proofs.YtiamjjonoeaggaaDoor
namespace Rows

/-- THE TIED CARD OF 'vigillaw.Checks'. -/
def checksCard : Claim7 := { stood := { row := checksRow, standIns := [], harness := (true, "e4111ab2fa75c968710be24f41e6de26850d2d762402eadc04cab12e12da6fe9"), looks := true }, kinds := [], alts := [], laidByText := true, laidKinds := [.data, .data, .data, .sentinel, .sentinel], laidTests := true, laidLooks := .later }
def ChecksCardSaid : Prop := Claim7.holds Tryd.pinned (.plain (OpenSpec.ofChange checksSpec)) checksCard

/-- THE TIED CARD OF 'vigillaw.News'. -/
def newsCard : Claim7 := { stood := { row := newsRow, standIns := [], harness := (true, "e4111ab2fa75c968710be24f41e6de26850d2d762402eadc04cab12e12da6fe9"), looks := true }, kinds := [], alts := [], laidByText := true, laidKinds := [.data, .data, .data, .sentinel, .sentinel], laidTests := true, laidLooks := .later }
def NewsCardSaid : Prop := Claim7.holds Tryd.pinned (.plain (OpenSpec.ofChange newsSpec)) newsCard

/-- THE SECOND FORM's CARD OF 'vigillaw.Checks'. -/
def checksUptoCard : Claim7 := { stood := { row := checksUptoRow, standIns := [], harness := (true, "e4111ab2fa75c968710be24f41e6de26850d2d762402eadc04cab12e12da6fe9"), looks := true }, kinds := [], alts := [], laidByText := true, laidKinds := [.data, .data, .data, .sentinel, .sentinel], laidTests := true, laidLooks := .later }
def ChecksUptoCardSaid : Prop := Claim7.holds Tryd.pinned (.plain (OpenSpec.upto checksSpec)) checksUptoCard

/-- THE SECOND FORM's CARD OF 'vigillaw.News'. -/
def newsUptoCard : Claim7 := { stood := { row := newsUptoRow, standIns := [], harness := (true, "e4111ab2fa75c968710be24f41e6de26850d2d762402eadc04cab12e12da6fe9"), looks := true }, kinds := [], alts := [], laidByText := true, laidKinds := [.data, .data, .data, .sentinel, .sentinel], laidTests := true, laidLooks := .later }
def NewsUptoCardSaid : Prop := Claim7.holds Tryd.pinned (.plain (OpenSpec.upto newsSpec)) newsUptoCard
end Rows
end Go.Proofs.YtiamjjonoeaggaaDoor
