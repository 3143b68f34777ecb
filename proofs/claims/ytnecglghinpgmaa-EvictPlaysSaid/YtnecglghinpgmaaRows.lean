/-
  No cell of these rows narrows 'for every input' (looked for: loops, veiled, ifaces, maps, wideKeys, modest, calm, conditions, laid).
  DERIVED. THE GIVEN ROWS OF THIS SEAT. 5 by the template 'for every input the law returns true; each argument reads behind the call as it read before'; 0 by the template 'total and deterministic' (their statements: YtnecglghinpgmaaTotals.lean).
  GIVEN WITH THE SEED: the statements are not yours to turn. If you find one false, say at which input.
  Laid BY PROGRAM, IN A SANDBOX (cutbox-rows.mjs): the forced cells as the released guide's own fill.sh prints them over the translation 6d3a9b2d927b4193… (all of the seat's roots in one cut). By AI agents, Wed Nov 11 2026. No macro, syntax, notation, axiom, sorry.
-/
import Derived.Test.YtnecglghinpgmaaChecked
import GoSem.Claim
import GoSem.ClaimJoined
import GoSem.ClaimMapViews
import Derived.JoinedTies
import Derived.KernelRfl
namespace Go.Proofs.Ytnecglghinpgmaa
/- THE CELL 'sum', in the pinned program and in every row, IS THE sha256 OF THE DUMP (.gsa) THAT YtnecglghinpgmaaProg.lean LOADS. Nothing in Lean hashes anything: it is a label: what it is worth is what the hold of that sum in a sandbox is worth. -/
noncomputable def Try.pinned : Pinned := { name := "ytnecglghinpgmaa", sum := "6d3a9b2d927b4193455f1c691c9ad67a202eb646943281d368a87637207cecb3", checked := Try.checked }
namespace Rows
def none {H : Type} : Left H := { results := [], args := [] }

/-- 'spoorlaw07.EvictPlays': WHATEVER THE INPUT: true; the input reads as it did. -/
def evictPlaysSpec : ChangeSpec := { name := "evictPlays", fn := fun _ => fun
  | [d1, d2, d3] => { results := [.lit (.bool true)], args := [d1, d2, d3] }
  | _ => none }
def evictPlaysRow : OpenClaim := { program := "ytnecglghinpgmaa", sum := "6d3a9b2d927b4193455f1c691c9ad67a202eb646943281d368a87637207cecb3", func := "spoor/spoorlaw07.EvictPlays", spec := "evictPlays", unfollowed := true, recurses := true, apart := false }
def EvictPlaysSaid : Prop := evictPlaysRow.holds Try.pinned (OpenSpec.ofChange evictPlaysSpec)

/-- ITS FALSE NEIGHBOUR: 'it returns false'. Refute it at one input. -/
def evictPlaysWrong : ChangeSpec := { name := "evictPlays", fn := fun _ => fun
  | [d1, d2, d3] => { results := [.lit (.bool false)], args := [d1, d2, d3] }
  | _ => none }
def EvictPlaysWrongFalsely : Prop := evictPlaysRow.holds Try.pinned (OpenSpec.ofChange evictPlaysWrong)

/-- 'spoorlaw07.EvictCoherent': WHATEVER THE INPUT: true; the input reads as it did. -/
def evictCoherentSpec : ChangeSpec := { name := "evictCoherent", fn := fun _ => fun
  | [d1, d2, d3] => { results := [.lit (.bool true)], args := [d1, d2, d3] }
  | _ => none }
def evictCoherentRow : OpenClaim := { program := "ytnecglghinpgmaa", sum := "6d3a9b2d927b4193455f1c691c9ad67a202eb646943281d368a87637207cecb3", func := "spoor/spoorlaw07.EvictCoherent", spec := "evictCoherent", unfollowed := true, recurses := true, apart := false }
def EvictCoherentSaid : Prop := evictCoherentRow.holds Try.pinned (OpenSpec.ofChange evictCoherentSpec)

/-- ITS FALSE NEIGHBOUR: 'it returns false'. Refute it at one input. -/
def evictCoherentWrong : ChangeSpec := { name := "evictCoherent", fn := fun _ => fun
  | [d1, d2, d3] => { results := [.lit (.bool false)], args := [d1, d2, d3] }
  | _ => none }
def EvictCoherentWrongFalsely : Prop := evictCoherentRow.holds Try.pinned (OpenSpec.ofChange evictCoherentWrong)

/-- 'spoorlaw07.EvictAll': WHATEVER THE INPUT: true; the input reads as it did. -/
def evictAllSpec : ChangeSpec := { name := "evictAll", fn := fun _ => fun
  | [d1, d2, d3] => { results := [.lit (.bool true)], args := [d1, d2, d3] }
  | _ => none }
def evictAllRow : OpenClaim := { program := "ytnecglghinpgmaa", sum := "6d3a9b2d927b4193455f1c691c9ad67a202eb646943281d368a87637207cecb3", func := "spoor/spoorlaw07.EvictAll", spec := "evictAll", unfollowed := true, recurses := true, apart := false }
def EvictAllSaid : Prop := evictAllRow.holds Try.pinned (OpenSpec.ofChange evictAllSpec)

/-- ITS FALSE NEIGHBOUR: 'it returns false'. Refute it at one input. -/
def evictAllWrong : ChangeSpec := { name := "evictAll", fn := fun _ => fun
  | [d1, d2, d3] => { results := [.lit (.bool false)], args := [d1, d2, d3] }
  | _ => none }
def EvictAllWrongFalsely : Prop := evictAllRow.holds Try.pinned (OpenSpec.ofChange evictAllWrong)

/-- 'spoorlaw07.EvictNil': WHATEVER THE INPUT: true; the input reads as it did. -/
def evictNilSpec : ChangeSpec := { name := "evictNil", fn := fun _ => fun
  | [d] => { results := [.lit (.bool true)], args := [d] }
  | _ => none }
def evictNilRow : OpenClaim := { program := "ytnecglghinpgmaa", sum := "6d3a9b2d927b4193455f1c691c9ad67a202eb646943281d368a87637207cecb3", func := "spoor/spoorlaw07.EvictNil", spec := "evictNil", unfollowed := true, recurses := true, apart := false }
def EvictNilSaid : Prop := evictNilRow.holds Try.pinned (OpenSpec.ofChange evictNilSpec)

/-- ITS FALSE NEIGHBOUR: 'it returns false'. Refute it at one input. -/
def evictNilWrong : ChangeSpec := { name := "evictNil", fn := fun _ => fun
  | [d] => { results := [.lit (.bool false)], args := [d] }
  | _ => none }
def EvictNilWrongFalsely : Prop := evictNilRow.holds Try.pinned (OpenSpec.ofChange evictNilWrong)

/-- 'spoorlaw07.EvictFull': WHATEVER THE INPUT: true; the input reads as it did. -/
def evictFullSpec : ChangeSpec := { name := "evictFull", fn := fun _ => fun
  | [d1, d2, d3] => { results := [.lit (.bool true)], args := [d1, d2, d3] }
  | _ => none }
def evictFullRow : OpenClaim := { program := "ytnecglghinpgmaa", sum := "6d3a9b2d927b4193455f1c691c9ad67a202eb646943281d368a87637207cecb3", func := "spoor/spoorlaw07.EvictFull", spec := "evictFull", unfollowed := true, recurses := true, apart := false }
def EvictFullSaid : Prop := evictFullRow.holds Try.pinned (OpenSpec.ofChange evictFullSpec)

/-- ITS FALSE NEIGHBOUR: 'it returns false'. Refute it at one input. -/
def evictFullWrong : ChangeSpec := { name := "evictFull", fn := fun _ => fun
  | [d1, d2, d3] => { results := [.lit (.bool false)], args := [d1, d2, d3] }
  | _ => none }
def EvictFullWrongFalsely : Prop := evictFullRow.holds Try.pinned (OpenSpec.ofChange evictFullWrong)

/- THE SECOND FORM. 'bulk': how many values and letters a reading holds, each counted each time it is reached (what is shared counts as often as it is met; a slice's spare places count too). A statement '..UptoSaid' is the law's where the arguments, and the package variables that the reading takes, are together of bulk at most 1048576: NARROWER than '..Said'. Prove '..Said' where nothing that the law and all that it calls make is longer than what came in: it says more and counts as full. Else prove '..UptoSaid'. A law counts once. -/
mutual
def uptoBulk {H : Type} : DataW H → Nat
  | .lit (.string bytes) => bytes.length + 1
  | .lit _ => 1
  | .nil => 1
  | .ptr d => uptoBulk d + 1
  | .slice elems spare => uptoBulkAll elems + uptoBulkAll spare + 1
  | .agg parts => uptoBulkAll parts + 1
  | .iface _ d => uptoBulk d + 1
  | .map entries => uptoBulkEntries entries + 1
  | .held _ => 1
def uptoBulkAll {H : Type} : List (DataW H) → Nat
  | [] => 0
  | d :: r => uptoBulk d + uptoBulkAll r
def uptoBulkEntries {H : Type} : List (Lit × DataW H) → Nat
  | [] => 0
  | x :: r => uptoBulkEntry x + uptoBulkEntries r
def uptoBulkEntry {H : Type} : Lit × DataW H → Nat
  | (.string bytes, d) => bytes.length + uptoBulk d + 1
  | (_, d) => uptoBulk d + 1
 end
def uptoSmall : (H : Type) → List (DataW H) → Bool := fun _ ds => decide (uptoBulkAll ds ≤ 1048576)
def OpenSpec.upto (s : _root_.Go.ChangeSpec) : _root_.Go.OpenSpec := { _root_.Go.OpenSpec.ofChange s with cond := some uptoSmall }

/-- 'spoorlaw07.EvictPlays', WHERE WHAT IT READS IS OF BULK AT MOST 1048576: true; the input reads as it did. -/
def evictPlaysUptoRow : OpenClaim := { program := "ytnecglghinpgmaa", sum := "6d3a9b2d927b4193455f1c691c9ad67a202eb646943281d368a87637207cecb3", func := "spoor/spoorlaw07.EvictPlays", spec := "evictPlays", unfollowed := true, recurses := true, apart := false, narrowed := true }
def EvictPlaysUptoSaid : Prop := evictPlaysUptoRow.holds Try.pinned (OpenSpec.upto evictPlaysSpec)

/-- 'spoorlaw07.EvictCoherent', WHERE WHAT IT READS IS OF BULK AT MOST 1048576: true; the input reads as it did. -/
def evictCoherentUptoRow : OpenClaim := { program := "ytnecglghinpgmaa", sum := "6d3a9b2d927b4193455f1c691c9ad67a202eb646943281d368a87637207cecb3", func := "spoor/spoorlaw07.EvictCoherent", spec := "evictCoherent", unfollowed := true, recurses := true, apart := false, narrowed := true }
def EvictCoherentUptoSaid : Prop := evictCoherentUptoRow.holds Try.pinned (OpenSpec.upto evictCoherentSpec)

/-- 'spoorlaw07.EvictAll', WHERE WHAT IT READS IS OF BULK AT MOST 1048576: true; the input reads as it did. -/
def evictAllUptoRow : OpenClaim := { program := "ytnecglghinpgmaa", sum := "6d3a9b2d927b4193455f1c691c9ad67a202eb646943281d368a87637207cecb3", func := "spoor/spoorlaw07.EvictAll", spec := "evictAll", unfollowed := true, recurses := true, apart := false, narrowed := true }
def EvictAllUptoSaid : Prop := evictAllUptoRow.holds Try.pinned (OpenSpec.upto evictAllSpec)

/-- 'spoorlaw07.EvictNil', WHERE WHAT IT READS IS OF BULK AT MOST 1048576: true; the input reads as it did. -/
def evictNilUptoRow : OpenClaim := { program := "ytnecglghinpgmaa", sum := "6d3a9b2d927b4193455f1c691c9ad67a202eb646943281d368a87637207cecb3", func := "spoor/spoorlaw07.EvictNil", spec := "evictNil", unfollowed := true, recurses := true, apart := false, narrowed := true }
def EvictNilUptoSaid : Prop := evictNilUptoRow.holds Try.pinned (OpenSpec.upto evictNilSpec)

/-- 'spoorlaw07.EvictFull', WHERE WHAT IT READS IS OF BULK AT MOST 1048576: true; the input reads as it did. -/
def evictFullUptoRow : OpenClaim := { program := "ytnecglghinpgmaa", sum := "6d3a9b2d927b4193455f1c691c9ad67a202eb646943281d368a87637207cecb3", func := "spoor/spoorlaw07.EvictFull", spec := "evictFull", unfollowed := true, recurses := true, apart := false, narrowed := true }
def EvictFullUptoSaid : Prop := evictFullUptoRow.holds Try.pinned (OpenSpec.upto evictFullSpec)

end Rows
end Go.Proofs.Ytnecglghinpgmaa
