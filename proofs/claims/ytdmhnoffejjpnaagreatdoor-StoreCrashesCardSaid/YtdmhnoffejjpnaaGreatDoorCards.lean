/-
  DERIVED. GIVEN WITH THE SEED: THE CARDS: each row of YtdmhnoffejjpnaaGreatDoorRows.lean that lists a variable, with what it lists TIED to the program's text (the seventh form; the later family's looks); each row that meets fmt, with fmt's text TOLD by the authors' own Lean function (tested against real Go, not proved from fmt's source: count such statements apart). THE CARD IS WHAT COUNTS. Prove the row's statement (the work); the ties are given (YtdmhnoffejjpnaaGreatDoorTie.lean); close each card by the builder's one call (the guide's Derived/Test/ToyasCard.lean, 'card_holds'). Laid BY PROGRAM, IN A SANDBOX (cutbox-door.mjs). By AI agents, Wed Nov 11 2026. No macro, syntax, notation, axiom, sorry.
-/
import Derived.Test.YtdmhnoffejjpnaaGreatDoorRows
import GoSem.ClaimSeven
namespace Go.Proofs.YtdmhnoffejjpnaaGreatDoor
namespace Rows

/-- THE TIED CARD OF 'spoorlaw18.StorePlays'. -/
def storePlaysCard : Claim7 := { stood := { row := storePlaysRow, standIns := [], harness := (true, "7bf86b5f53d9e563243d320b53774de87598b5c9b0c723a5c76ccb17b71d944e"), looks := true }, kinds := [], alts := [], laidByText := true, laidKinds := [.data, .data, .data, .sentinel, .sentinel], laidTests := true, laidLooks := .later }
def StorePlaysCardSaid : Prop := Claim7.holds Tryz.pinned (.plain (OpenSpec.ofChange storePlaysSpec)) storePlaysCard

/-- THE TIED CARD OF 'spoorlaw18.StoreCrashes'. -/
def storeCrashesCard : Claim7 := { stood := { row := storeCrashesRow, standIns := [], harness := (true, "7bf86b5f53d9e563243d320b53774de87598b5c9b0c723a5c76ccb17b71d944e"), looks := true }, kinds := [], alts := [], laidByText := true, laidKinds := [.data, .data, .data, .sentinel, .sentinel], laidTests := true, laidLooks := .later }
def StoreCrashesCardSaid : Prop := Claim7.holds Tryz.pinned (.plain (OpenSpec.ofChange storeCrashesSpec)) storeCrashesCard

/-- THE TIED CARD OF 'spoorlaw18.StoreQueries'. -/
def storeQueriesCard : Claim7 := { stood := { row := storeQueriesRow, standIns := [], harness := (true, "7bf86b5f53d9e563243d320b53774de87598b5c9b0c723a5c76ccb17b71d944e"), looks := true }, kinds := [], alts := [], laidByText := true, laidKinds := [.data, .data, .data, .sentinel, .sentinel], laidTests := true, laidLooks := .later }
def StoreQueriesCardSaid : Prop := Claim7.holds Tryz.pinned (.plain (OpenSpec.ofChange storeQueriesSpec)) storeQueriesCard

/-- THE SECOND FORM's CARD OF 'spoorlaw18.StorePlays'. -/
def storePlaysUptoCard : Claim7 := { stood := { row := storePlaysUptoRow, standIns := [], harness := (true, "7bf86b5f53d9e563243d320b53774de87598b5c9b0c723a5c76ccb17b71d944e"), looks := true }, kinds := [], alts := [], laidByText := true, laidKinds := [.data, .data, .data, .sentinel, .sentinel], laidTests := true, laidLooks := .later }
def StorePlaysUptoCardSaid : Prop := Claim7.holds Tryz.pinned (.plain (OpenSpec.upto storePlaysSpec)) storePlaysUptoCard

/-- THE SECOND FORM's CARD OF 'spoorlaw18.StoreCrashes'. -/
def storeCrashesUptoCard : Claim7 := { stood := { row := storeCrashesUptoRow, standIns := [], harness := (true, "7bf86b5f53d9e563243d320b53774de87598b5c9b0c723a5c76ccb17b71d944e"), looks := true }, kinds := [], alts := [], laidByText := true, laidKinds := [.data, .data, .data, .sentinel, .sentinel], laidTests := true, laidLooks := .later }
def StoreCrashesUptoCardSaid : Prop := Claim7.holds Tryz.pinned (.plain (OpenSpec.upto storeCrashesSpec)) storeCrashesUptoCard

/-- THE SECOND FORM's CARD OF 'spoorlaw18.StoreQueries'. -/
def storeQueriesUptoCard : Claim7 := { stood := { row := storeQueriesUptoRow, standIns := [], harness := (true, "7bf86b5f53d9e563243d320b53774de87598b5c9b0c723a5c76ccb17b71d944e"), looks := true }, kinds := [], alts := [], laidByText := true, laidKinds := [.data, .data, .data, .sentinel, .sentinel], laidTests := true, laidLooks := .later }
def StoreQueriesUptoCardSaid : Prop := Claim7.holds Tryz.pinned (.plain (OpenSpec.upto storeQueriesSpec)) storeQueriesUptoCard
end Rows
end Go.Proofs.YtdmhnoffejjpnaaGreatDoor
