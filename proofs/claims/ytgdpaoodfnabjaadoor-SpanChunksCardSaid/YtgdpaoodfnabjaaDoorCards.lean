/-
  DERIVED. GIVEN WITH THE SEED: THE CARDS: each row of YtgdpaoodfnabjaaDoorRows.lean that lists a variable, with what it lists TIED to the program's text (the seventh form; the later family's looks); each row that meets fmt, with fmt's text TOLD by the authors' own Lean function (tested against real Go, not proved from fmt's source: count such statements apart). THE CARD IS WHAT COUNTS. Prove the row's statement (the work); the ties are given (YtgdpaoodfnabjaaDoorTie.lean); close each card by the builder's one call (the guide's Derived/Test/ToyasCard.lean, 'card_holds'). Laid BY PROGRAM, IN A SANDBOX (cutbox-door.mjs). By AI agents, Wed Nov 11 2026. No macro, syntax, notation, axiom, sorry.
-/
import Derived.Test.YtgdpaoodfnabjaaDoorRows
import GoSem.ClaimSeven
namespace Go.Proofs.YtgdpaoodfnabjaaDoor
namespace Rows

/-- THE TIED CARD OF 'spoorlaw05.SpanPrints'. -/
def spanPrintsCard : Claim7 := { stood := { row := spanPrintsRow, standIns := [], harness := (true, "8a94b2de46b990ceef9c69e4ef0a796f19fc90634e58cc912fc01ed51e0255ab"), looks := true }, kinds := [], alts := [], laidByText := true, laidKinds := [.data, .data, .data, .sentinel, .sentinel], laidTests := true, laidLooks := .later }
def SpanPrintsCardSaid : Prop := Claim7.holds Tryd.pinned (.plain (OpenSpec.ofChange spanPrintsSpec)) spanPrintsCard

/-- THE TIED CARD OF 'spoorlaw05.SpanChunks'. -/
def spanChunksCard : Claim7 := { stood := { row := spanChunksRow, standIns := [], harness := (true, "8a94b2de46b990ceef9c69e4ef0a796f19fc90634e58cc912fc01ed51e0255ab"), looks := true }, kinds := [], alts := [], laidByText := true, laidKinds := [.data, .data, .data, .sentinel, .sentinel], laidTests := true, laidLooks := .later }
def SpanChunksCardSaid : Prop := Claim7.holds Tryd.pinned (.plain (OpenSpec.ofChange spanChunksSpec)) spanChunksCard

/-- THE TIED CARD OF 'spoorlaw05.SpanRows'. -/
def spanRowsCard : Claim7 := { stood := { row := spanRowsRow, standIns := [], harness := (true, "8a94b2de46b990ceef9c69e4ef0a796f19fc90634e58cc912fc01ed51e0255ab"), looks := true }, kinds := [], alts := [], laidByText := true, laidKinds := [.data, .data, .data, .sentinel, .sentinel], laidTests := true, laidLooks := .later }
def SpanRowsCardSaid : Prop := Claim7.holds Tryd.pinned (.plain (OpenSpec.ofChange spanRowsSpec)) spanRowsCard

/-- THE SECOND FORM's CARD OF 'spoorlaw05.SpanPrints'. -/
def spanPrintsUptoCard : Claim7 := { stood := { row := spanPrintsUptoRow, standIns := [], harness := (true, "8a94b2de46b990ceef9c69e4ef0a796f19fc90634e58cc912fc01ed51e0255ab"), looks := true }, kinds := [], alts := [], laidByText := true, laidKinds := [.data, .data, .data, .sentinel, .sentinel], laidTests := true, laidLooks := .later }
def SpanPrintsUptoCardSaid : Prop := Claim7.holds Tryd.pinned (.plain (OpenSpec.upto spanPrintsSpec)) spanPrintsUptoCard

/-- THE SECOND FORM's CARD OF 'spoorlaw05.SpanChunks'. -/
def spanChunksUptoCard : Claim7 := { stood := { row := spanChunksUptoRow, standIns := [], harness := (true, "8a94b2de46b990ceef9c69e4ef0a796f19fc90634e58cc912fc01ed51e0255ab"), looks := true }, kinds := [], alts := [], laidByText := true, laidKinds := [.data, .data, .data, .sentinel, .sentinel], laidTests := true, laidLooks := .later }
def SpanChunksUptoCardSaid : Prop := Claim7.holds Tryd.pinned (.plain (OpenSpec.upto spanChunksSpec)) spanChunksUptoCard

/-- THE SECOND FORM's CARD OF 'spoorlaw05.SpanRows'. -/
def spanRowsUptoCard : Claim7 := { stood := { row := spanRowsUptoRow, standIns := [], harness := (true, "8a94b2de46b990ceef9c69e4ef0a796f19fc90634e58cc912fc01ed51e0255ab"), looks := true }, kinds := [], alts := [], laidByText := true, laidKinds := [.data, .data, .data, .sentinel, .sentinel], laidTests := true, laidLooks := .later }
def SpanRowsUptoCardSaid : Prop := Claim7.holds Tryd.pinned (.plain (OpenSpec.upto spanRowsSpec)) spanRowsUptoCard
end Rows
end Go.Proofs.YtgdpaoodfnabjaaDoor
