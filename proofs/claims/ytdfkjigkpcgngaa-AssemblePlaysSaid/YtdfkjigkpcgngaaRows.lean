/-
  No cell of these rows narrows 'for every input' (looked for: loops, veiled, ifaces, maps, wideKeys, modest, calm, conditions, laid).
  DERIVED. THE GIVEN ROWS OF THIS SEAT. 3 by the template 'for every input the law returns true; each argument reads behind the call as it read before'; 0 by the template 'total and deterministic' (their statements: YtdfkjigkpcgngaaTotals.lean).
  GIVEN WITH THE SEED: the statements are not yours to turn. If you find one false, say at which input.
  Laid BY PROGRAM, IN A SANDBOX (cutbox-rows.mjs): the forced cells as the released guide's own fill.sh prints them over the translation 706fa0271965632b… (all of the seat's roots in one cut). By AI agents, Wed Nov 11 2026. No macro, syntax, notation, axiom, sorry.
-/
import Derived.Test.YtdfkjigkpcgngaaChecked
import GoSem.Claim
import GoSem.ClaimJoined
import GoSem.ClaimMapViews
import Derived.JoinedTies
import Derived.KernelRfl
namespace Go.Proofs.Ytdfkjigkpcgngaa
/- THE CELL 'sum', in the pinned program and in every row, IS THE sha256 OF THE DUMP (.gsa) THAT YtdfkjigkpcgngaaProg.lean LOADS. Nothing in Lean hashes anything: it is a label: what it is worth is what the hold of that sum in a sandbox is worth. -/
noncomputable def Try.pinned : Pinned := { name := "ytdfkjigkpcgngaa", sum := "706fa0271965632b819ddc8da629c0da18d5cd8f07d601894cc681bd58e8a9e5", checked := Try.checked }
namespace Rows
def none {H : Type} : Left H := { results := [], args := [] }

/-- 'spoorlaw17.AssemblePlays': WHATEVER THE INPUT: true; the input reads as it did. -/
def assemblePlaysSpec : ChangeSpec := { name := "assemblePlays", fn := fun _ => fun
  | [d1, d2, d3] => { results := [.lit (.bool true)], args := [d1, d2, d3] }
  | _ => none }
def assemblePlaysRow : OpenClaim := { program := "ytdfkjigkpcgngaa", sum := "706fa0271965632b819ddc8da629c0da18d5cd8f07d601894cc681bd58e8a9e5", func := "spoor/spoorlaw17.AssemblePlays", spec := "assemblePlays", apart := false }
def AssemblePlaysSaid : Prop := assemblePlaysRow.holds Try.pinned (OpenSpec.ofChange assemblePlaysSpec)

/-- ITS FALSE NEIGHBOUR: 'it returns false'. Refute it at one input. -/
def assemblePlaysWrong : ChangeSpec := { name := "assemblePlays", fn := fun _ => fun
  | [d1, d2, d3] => { results := [.lit (.bool false)], args := [d1, d2, d3] }
  | _ => none }
def AssemblePlaysWrongFalsely : Prop := assemblePlaysRow.holds Try.pinned (OpenSpec.ofChange assemblePlaysWrong)

/-- 'spoorlaw17.AssembleAny': WHATEVER THE INPUT: true; the input reads as it did. -/
def assembleAnySpec : ChangeSpec := { name := "assembleAny", fn := fun _ => fun
  | [d1, d2] => { results := [.lit (.bool true)], args := [d1, d2] }
  | _ => none }
def assembleAnyRow : OpenClaim := { program := "ytdfkjigkpcgngaa", sum := "706fa0271965632b819ddc8da629c0da18d5cd8f07d601894cc681bd58e8a9e5", func := "spoor/spoorlaw17.AssembleAny", spec := "assembleAny", apart := false }
def AssembleAnySaid : Prop := assembleAnyRow.holds Try.pinned (OpenSpec.ofChange assembleAnySpec)

/-- ITS FALSE NEIGHBOUR: 'it returns false'. Refute it at one input. -/
def assembleAnyWrong : ChangeSpec := { name := "assembleAny", fn := fun _ => fun
  | [d1, d2] => { results := [.lit (.bool false)], args := [d1, d2] }
  | _ => none }
def AssembleAnyWrongFalsely : Prop := assembleAnyRow.holds Try.pinned (OpenSpec.ofChange assembleAnyWrong)

/-- 'spoorlaw17.AssembleNil': WHATEVER THE INPUT: true; the input reads as it did. -/
def assembleNilSpec : ChangeSpec := { name := "assembleNil", fn := fun _ => fun
  | [d] => { results := [.lit (.bool true)], args := [d] }
  | _ => none }
def assembleNilRow : OpenClaim := { program := "ytdfkjigkpcgngaa", sum := "706fa0271965632b819ddc8da629c0da18d5cd8f07d601894cc681bd58e8a9e5", func := "spoor/spoorlaw17.AssembleNil", spec := "assembleNil", apart := false }
def AssembleNilSaid : Prop := assembleNilRow.holds Try.pinned (OpenSpec.ofChange assembleNilSpec)

/-- ITS FALSE NEIGHBOUR: 'it returns false'. Refute it at one input. -/
def assembleNilWrong : ChangeSpec := { name := "assembleNil", fn := fun _ => fun
  | [d] => { results := [.lit (.bool false)], args := [d] }
  | _ => none }
def AssembleNilWrongFalsely : Prop := assembleNilRow.holds Try.pinned (OpenSpec.ofChange assembleNilWrong)

/- THE SECOND FORM. 'bulk': how many values and letters a reading holds, each counted each time it is reached (what is shared counts as often as it is met; a slice's spare places count too). A statement '..UptoSaid' is the law's where the arguments, and the package variables that the reading takes, are together of bulk at most 1048576: NARROWER than '..Said'. Prove '..Said' where nothing that the law and all that it calls make is longer than what came in: it says more and counts as full. Else prove '..UptoSaid'. A law counts once. -/
mutual
def uptoBulk {H : Type} : DataW H → Nat
  | .lit (.string bytes) => bytes.length + 1
  | .lit _ => 1
  | .nil => 1
  | .ptr d => uptoBulk d + 1
  | .slice elems spare => uptoBulkAll elems + uptoBulkAll spare + 1
  | .agg parts => uptoBulkAll parts + 1
  | .iface _ d => uptoBulk d + 1
  | .map entries => uptoBulkEntries entries + 1
  | .held _ => 1
def uptoBulkAll {H : Type} : List (DataW H) → Nat
  | [] => 0
  | d :: r => uptoBulk d + uptoBulkAll r
def uptoBulkEntries {H : Type} : List (Lit × DataW H) → Nat
  | [] => 0
  | x :: r => uptoBulkEntry x + uptoBulkEntries r
def uptoBulkEntry {H : Type} : Lit × DataW H → Nat
  | (.string bytes, d) => bytes.length + uptoBulk d + 1
  | (_, d) => uptoBulk d + 1
 end
def uptoSmall : (H : Type) → List (DataW H) → Bool := fun _ ds => decide (uptoBulkAll ds ≤ 1048576)
def OpenSpec.upto (s : _root_.Go.ChangeSpec) : _root_.Go.OpenSpec := { _root_.Go.OpenSpec.ofChange s with cond := some uptoSmall }

/-- 'spoorlaw17.AssemblePlays', WHERE WHAT IT READS IS OF BULK AT MOST 1048576: true; the input reads as it did. -/
def assemblePlaysUptoRow : OpenClaim := { program := "ytdfkjigkpcgngaa", sum := "706fa0271965632b819ddc8da629c0da18d5cd8f07d601894cc681bd58e8a9e5", func := "spoor/spoorlaw17.AssemblePlays", spec := "assemblePlays", apart := false, narrowed := true }
def AssemblePlaysUptoSaid : Prop := assemblePlaysUptoRow.holds Try.pinned (OpenSpec.upto assemblePlaysSpec)

/-- 'spoorlaw17.AssembleAny', WHERE WHAT IT READS IS OF BULK AT MOST 1048576: true; the input reads as it did. -/
def assembleAnyUptoRow : OpenClaim := { program := "ytdfkjigkpcgngaa", sum := "706fa0271965632b819ddc8da629c0da18d5cd8f07d601894cc681bd58e8a9e5", func := "spoor/spoorlaw17.AssembleAny", spec := "assembleAny", apart := false, narrowed := true }
def AssembleAnyUptoSaid : Prop := assembleAnyUptoRow.holds Try.pinned (OpenSpec.upto assembleAnySpec)

/-- 'spoorlaw17.AssembleNil', WHERE WHAT IT READS IS OF BULK AT MOST 1048576: true; the input reads as it did. -/
def assembleNilUptoRow : OpenClaim := { program := "ytdfkjigkpcgngaa", sum := "706fa0271965632b819ddc8da629c0da18d5cd8f07d601894cc681bd58e8a9e5", func := "spoor/spoorlaw17.AssembleNil", spec := "assembleNil", apart := false, narrowed := true }
def AssembleNilUptoSaid : Prop := assembleNilUptoRow.holds Try.pinned (OpenSpec.upto assembleNilSpec)

end Rows
end Go.Proofs.Ytdfkjigkpcgngaa
