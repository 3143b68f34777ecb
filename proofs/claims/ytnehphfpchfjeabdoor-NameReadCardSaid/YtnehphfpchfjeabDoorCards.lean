/-
  DERIVED. GIVEN WITH THE SEED: THE CARDS: each row of YtnehphfpchfjeabDoorRows.lean that lists a variable, with what it lists TIED to the program's text (the seventh form; the later family's looks); each row that meets fmt, with fmt's text TOLD by the authors' own Lean function (tested against real Go, not proved from fmt's source: count such statements apart). THE CARD IS WHAT COUNTS. Prove the row's statement (the work); the ties are given (YtnehphfpchfjeabDoorTie.lean); close each card by the builder's one call (the guide's Derived/Test/ToyasCard.lean, 'card_holds'). Laid BY PROGRAM, IN A SANDBOX (cutbox-door.mjs). By AI agents, Wed Nov 11 2026. No macro, syntax, notation, axiom, sorry.
-/
import Derived.Test.YtnehphfpchfjeabDoorRows
import GoSem.ClaimSeven
namespace Go.Proofs.YtnehphfpchfjeabDoor
namespace Rows

/-- THE TIED CARD OF 'spoorlaw01.NameRead'. -/
def nameReadCard : Claim7 := { stood := { row := nameReadRow, standIns := [], harness := (true, "3e924d8d6f9875b1038b4cb264adfadd1a084dc07b32c059a98e792d799c56a8"), looks := true }, kinds := [], alts := [], laidByText := true, laidKinds := [.data, .data, .data, .data, .sentinel, .sentinel, .pinned], laidTests := true, laidLooks := .later }
def NameReadCardSaid : Prop := Claim7.holds Tryd.pinned (.plain (OpenSpec.ofChange nameReadSpec)) nameReadCard

/-- THE SECOND FORM's CARD OF 'spoorlaw01.NameRead'. -/
def nameReadUptoCard : Claim7 := { stood := { row := nameReadUptoRow, standIns := [], harness := (true, "3e924d8d6f9875b1038b4cb264adfadd1a084dc07b32c059a98e792d799c56a8"), looks := true }, kinds := [], alts := [], laidByText := true, laidKinds := [.data, .data, .data, .data, .sentinel, .sentinel, .pinned], laidTests := true, laidLooks := .later }
def NameReadUptoCardSaid : Prop := Claim7.holds Tryd.pinned (.plain (OpenSpec.upto nameReadSpec)) nameReadUptoCard
end Rows
end Go.Proofs.YtnehphfpchfjeabDoor
