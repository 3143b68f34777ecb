/-
  DERIVED. GIVEN WITH THE SEED: THE CARDS: each row of YtbmafogjmdilkaaGreatDoorRows.lean that lists a variable, with what it lists TIED to the program's text (the seventh form; the later family's looks); each row that meets fmt, with fmt's text TOLD by the authors' own Lean function (tested against real Go, not proved from fmt's source: count such statements apart). THE CARD IS WHAT COUNTS. Prove the row's statement (the work); the ties are given (YtbmafogjmdilkaaGreatDoorTie.lean); close each card by the builder's one call (the guide's Derived/Test/ToyasCard.lean, 'card_holds'). Laid BY PROGRAM, IN A SANDBOX (cutbox-door.mjs). By AI agents, Wed Nov 11 2026. No macro, syntax, notation, axiom, sorry.
-/
import Derived.Test.YtbmafogjmdilkaaGreatDoorRows
import GoSem.ClaimSeven
namespace Go.Proofs.YtbmafogjmdilkaaGreatDoor
namespace Rows

/-- THE TIED CARD OF 'spoorlaw09.MsgPrints'. -/
def msgPrintsCard : Claim7 := { stood := { row := msgPrintsRow, standIns := [], harness := (true, "ac9ce396d01cd77762784998cd587b98e73bfaae08fb04d51bcaf89e2754dde3"), looks := true }, kinds := [], alts := [], laidByText := true, laidKinds := [.data, .data, .data, .sentinel, .sentinel], laidTests := true, laidLooks := .later }
def MsgPrintsCardSaid : Prop := Claim7.holds Tryz.pinned (.plain (OpenSpec.ofChange msgPrintsSpec)) msgPrintsCard

/-- THE TIED CARD OF 'spoorlaw09.MsgSums'. -/
def msgSumsCard : Claim7 := { stood := { row := msgSumsRow, standIns := [], harness := (true, "ac9ce396d01cd77762784998cd587b98e73bfaae08fb04d51bcaf89e2754dde3"), looks := true }, kinds := [], alts := [], laidByText := true, laidKinds := [.data, .data, .data, .sentinel, .sentinel], laidTests := true, laidLooks := .later }
def MsgSumsCardSaid : Prop := Claim7.holds Tryz.pinned (.plain (OpenSpec.ofChange msgSumsSpec)) msgSumsCard

/-- THE TIED CARD OF 'spoorlaw09.MsgOne'. -/
def msgOneCard : Claim7 := { stood := { row := msgOneRow, standIns := [], harness := (true, "ac9ce396d01cd77762784998cd587b98e73bfaae08fb04d51bcaf89e2754dde3"), looks := true }, kinds := [], alts := [], laidByText := true, laidKinds := [.data, .data, .data, .sentinel, .sentinel], laidTests := true, laidLooks := .later }
def MsgOneCardSaid : Prop := Claim7.holds Tryz.pinned (.plain (OpenSpec.ofChange msgOneSpec)) msgOneCard

/-- THE SECOND FORM's CARD OF 'spoorlaw09.MsgPrints'. -/
def msgPrintsUptoCard : Claim7 := { stood := { row := msgPrintsUptoRow, standIns := [], harness := (true, "ac9ce396d01cd77762784998cd587b98e73bfaae08fb04d51bcaf89e2754dde3"), looks := true }, kinds := [], alts := [], laidByText := true, laidKinds := [.data, .data, .data, .sentinel, .sentinel], laidTests := true, laidLooks := .later }
def MsgPrintsUptoCardSaid : Prop := Claim7.holds Tryz.pinned (.plain (OpenSpec.upto msgPrintsSpec)) msgPrintsUptoCard

/-- THE SECOND FORM's CARD OF 'spoorlaw09.MsgSums'. -/
def msgSumsUptoCard : Claim7 := { stood := { row := msgSumsUptoRow, standIns := [], harness := (true, "ac9ce396d01cd77762784998cd587b98e73bfaae08fb04d51bcaf89e2754dde3"), looks := true }, kinds := [], alts := [], laidByText := true, laidKinds := [.data, .data, .data, .sentinel, .sentinel], laidTests := true, laidLooks := .later }
def MsgSumsUptoCardSaid : Prop := Claim7.holds Tryz.pinned (.plain (OpenSpec.upto msgSumsSpec)) msgSumsUptoCard

/-- THE SECOND FORM's CARD OF 'spoorlaw09.MsgOne'. -/
def msgOneUptoCard : Claim7 := { stood := { row := msgOneUptoRow, standIns := [], harness := (true, "ac9ce396d01cd77762784998cd587b98e73bfaae08fb04d51bcaf89e2754dde3"), looks := true }, kinds := [], alts := [], laidByText := true, laidKinds := [.data, .data, .data, .sentinel, .sentinel], laidTests := true, laidLooks := .later }
def MsgOneUptoCardSaid : Prop := Claim7.holds Tryz.pinned (.plain (OpenSpec.upto msgOneSpec)) msgOneUptoCard
end Rows
end Go.Proofs.YtbmafogjmdilkaaGreatDoor
