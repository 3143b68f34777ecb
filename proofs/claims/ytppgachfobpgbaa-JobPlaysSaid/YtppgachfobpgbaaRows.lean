/-
  No cell of these rows narrows 'for every input' (looked for: loops, veiled, ifaces, maps, wideKeys, modest, calm, conditions, laid).
  DERIVED. THE GIVEN ROWS OF THIS SEAT. 5 by the template 'for every input the law returns true; each argument reads behind the call as it read before'; 0 by the template 'total and deterministic' (their statements: YtppgachfobpgbaaTotals.lean).
  GIVEN WITH THE SEED: the statements are not yours to turn. If you find one false, say at which input.
  Laid BY PROGRAM, IN A SANDBOX (cutbox-rows.mjs): the forced cells as the released guide's own fill.sh prints them over the translation 23e301cb1f9806b2… (all of the seat's roots in one cut). By AI agents, Wed Nov 11 2026. No macro, syntax, notation, axiom, sorry.
-/
import Derived.Test.YtppgachfobpgbaaChecked
import GoSem.Claim
import GoSem.ClaimJoined
import GoSem.ClaimMapViews
import Derived.JoinedTies
import Derived.KernelRfl
namespace Go.Proofs.Ytppgachfobpgbaa
/- THE CELL 'sum', in the pinned program and in every row, IS THE sha256 OF THE DUMP (.gsa) THAT YtppgachfobpgbaaProg.lean LOADS. Nothing in Lean hashes anything: it is a label: what it is worth is what the hold of that sum in a sandbox is worth. -/
noncomputable def Try.pinned : Pinned := { name := "ytppgachfobpgbaa", sum := "23e301cb1f9806b26ff6d9d0d4d60271c8bb53334ee2b8d3df193fbf6c7adfb2", checked := Try.checked }
namespace Rows
def none {H : Type} : Left H := { results := [], args := [] }

/-- 'spoorlaw13.JobPlays': WHATEVER THE INPUT: true; the input reads as it did. -/
def jobPlaysSpec : ChangeSpec := { name := "jobPlays", fn := fun _ => fun
  | [d1, d2, d3, d4] => { results := [.lit (.bool true)], args := [d1, d2, d3, d4] }
  | _ => none }
def jobPlaysRow : OpenClaim := { program := "ytppgachfobpgbaa", sum := "23e301cb1f9806b26ff6d9d0d4d60271c8bb53334ee2b8d3df193fbf6c7adfb2", func := "spoor/spoorlaw13.JobPlays", spec := "jobPlays", unfollowed := true, recurses := true, apart := false }
def JobPlaysSaid : Prop := jobPlaysRow.holds Try.pinned (OpenSpec.ofChange jobPlaysSpec)

/-- ITS FALSE NEIGHBOUR: 'it returns false'. Refute it at one input. -/
def jobPlaysWrong : ChangeSpec := { name := "jobPlays", fn := fun _ => fun
  | [d1, d2, d3, d4] => { results := [.lit (.bool false)], args := [d1, d2, d3, d4] }
  | _ => none }
def JobPlaysWrongFalsely : Prop := jobPlaysRow.holds Try.pinned (OpenSpec.ofChange jobPlaysWrong)

/-- 'spoorlaw13.JobReaches': WHATEVER THE INPUT: true; the input reads as it did. -/
def jobReachesSpec : ChangeSpec := { name := "jobReaches", fn := fun _ => fun
  | [d1, d2, d3] => { results := [.lit (.bool true)], args := [d1, d2, d3] }
  | _ => none }
def jobReachesRow : OpenClaim := { program := "ytppgachfobpgbaa", sum := "23e301cb1f9806b26ff6d9d0d4d60271c8bb53334ee2b8d3df193fbf6c7adfb2", func := "spoor/spoorlaw13.JobReaches", spec := "jobReaches", unfollowed := true, recurses := true, apart := false }
def JobReachesSaid : Prop := jobReachesRow.holds Try.pinned (OpenSpec.ofChange jobReachesSpec)

/-- ITS FALSE NEIGHBOUR: 'it returns false'. Refute it at one input. -/
def jobReachesWrong : ChangeSpec := { name := "jobReaches", fn := fun _ => fun
  | [d1, d2, d3] => { results := [.lit (.bool false)], args := [d1, d2, d3] }
  | _ => none }
def JobReachesWrongFalsely : Prop := jobReachesRow.holds Try.pinned (OpenSpec.ofChange jobReachesWrong)

/-- 'spoorlaw13.JobNil': WHATEVER THE INPUT: true; the input reads as it did. -/
def jobNilSpec : ChangeSpec := { name := "jobNil", fn := fun _ => fun
  | [d] => { results := [.lit (.bool true)], args := [d] }
  | _ => none }
def jobNilRow : OpenClaim := { program := "ytppgachfobpgbaa", sum := "23e301cb1f9806b26ff6d9d0d4d60271c8bb53334ee2b8d3df193fbf6c7adfb2", func := "spoor/spoorlaw13.JobNil", spec := "jobNil", unfollowed := true, recurses := true, apart := false }
def JobNilSaid : Prop := jobNilRow.holds Try.pinned (OpenSpec.ofChange jobNilSpec)

/-- ITS FALSE NEIGHBOUR: 'it returns false'. Refute it at one input. -/
def jobNilWrong : ChangeSpec := { name := "jobNil", fn := fun _ => fun
  | [d] => { results := [.lit (.bool false)], args := [d] }
  | _ => none }
def JobNilWrongFalsely : Prop := jobNilRow.holds Try.pinned (OpenSpec.ofChange jobNilWrong)

/-- 'spoorlaw13.JobEnds': WHATEVER THE INPUT: true; the input reads as it did. -/
def jobEndsSpec : ChangeSpec := { name := "jobEnds", fn := fun _ => fun
  | [d1, d2, d3] => { results := [.lit (.bool true)], args := [d1, d2, d3] }
  | _ => none }
def jobEndsRow : OpenClaim := { program := "ytppgachfobpgbaa", sum := "23e301cb1f9806b26ff6d9d0d4d60271c8bb53334ee2b8d3df193fbf6c7adfb2", func := "spoor/spoorlaw13.JobEnds", spec := "jobEnds", unfollowed := true, recurses := true, apart := false }
def JobEndsSaid : Prop := jobEndsRow.holds Try.pinned (OpenSpec.ofChange jobEndsSpec)

/-- ITS FALSE NEIGHBOUR: 'it returns false'. Refute it at one input. -/
def jobEndsWrong : ChangeSpec := { name := "jobEnds", fn := fun _ => fun
  | [d1, d2, d3] => { results := [.lit (.bool false)], args := [d1, d2, d3] }
  | _ => none }
def JobEndsWrongFalsely : Prop := jobEndsRow.holds Try.pinned (OpenSpec.ofChange jobEndsWrong)

/-- 'spoorlaw13.JobTwice': WHATEVER THE INPUT: true; the input reads as it did. -/
def jobTwiceSpec : ChangeSpec := { name := "jobTwice", fn := fun _ => fun
  | [d1, d2, d3, d4] => { results := [.lit (.bool true)], args := [d1, d2, d3, d4] }
  | _ => none }
def jobTwiceRow : OpenClaim := { program := "ytppgachfobpgbaa", sum := "23e301cb1f9806b26ff6d9d0d4d60271c8bb53334ee2b8d3df193fbf6c7adfb2", func := "spoor/spoorlaw13.JobTwice", spec := "jobTwice", unfollowed := true, recurses := true, apart := false }
def JobTwiceSaid : Prop := jobTwiceRow.holds Try.pinned (OpenSpec.ofChange jobTwiceSpec)

/-- ITS FALSE NEIGHBOUR: 'it returns false'. Refute it at one input. -/
def jobTwiceWrong : ChangeSpec := { name := "jobTwice", fn := fun _ => fun
  | [d1, d2, d3, d4] => { results := [.lit (.bool false)], args := [d1, d2, d3, d4] }
  | _ => none }
def JobTwiceWrongFalsely : Prop := jobTwiceRow.holds Try.pinned (OpenSpec.ofChange jobTwiceWrong)

/- THE SECOND FORM. 'bulk': how many values and letters a reading holds, each counted each time it is reached (what is shared counts as often as it is met; a slice's spare places count too). A statement '..UptoSaid' is the law's where the arguments, and the package variables that the reading takes, are together of bulk at most 1048576: NARROWER than '..Said'. Prove '..Said' where nothing that the law and all that it calls make is longer than what came in: it says more and counts as full. Else prove '..UptoSaid'. A law counts once. -/
mutual
def uptoBulk {H : Type} : DataW H → Nat
  | .lit (.string bytes) => bytes.length + 1
  | .lit _ => 1
  | .nil => 1
  | .ptr d => uptoBulk d + 1
  | .slice elems spare => uptoBulkAll elems + uptoBulkAll spare + 1
  | .agg parts => uptoBulkAll parts + 1
  | .iface _ d => uptoBulk d + 1
  | .map entries => uptoBulkEntries entries + 1
  | .held _ => 1
def uptoBulkAll {H : Type} : List (DataW H) → Nat
  | [] => 0
  | d :: r => uptoBulk d + uptoBulkAll r
def uptoBulkEntries {H : Type} : List (Lit × DataW H) → Nat
  | [] => 0
  | x :: r => uptoBulkEntry x + uptoBulkEntries r
def uptoBulkEntry {H : Type} : Lit × DataW H → Nat
  | (.string bytes, d) => bytes.length + uptoBulk d + 1
  | (_, d) => uptoBulk d + 1
 end
def uptoSmall : (H : Type) → List (DataW H) → Bool := fun _ ds => decide (uptoBulkAll ds ≤ 1048576)
def OpenSpec.upto (s : _root_.Go.ChangeSpec) : _root_.Go.OpenSpec := { _root_.Go.OpenSpec.ofChange s with cond := some uptoSmall }

/-- 'spoorlaw13.JobPlays', WHERE WHAT IT READS IS OF BULK AT MOST 1048576: true; the input reads as it did. -/
def jobPlaysUptoRow : OpenClaim := { program := "ytppgachfobpgbaa", sum := "23e301cb1f9806b26ff6d9d0d4d60271c8bb53334ee2b8d3df193fbf6c7adfb2", func := "spoor/spoorlaw13.JobPlays", spec := "jobPlays", unfollowed := true, recurses := true, apart := false, narrowed := true }
def JobPlaysUptoSaid : Prop := jobPlaysUptoRow.holds Try.pinned (OpenSpec.upto jobPlaysSpec)

/-- 'spoorlaw13.JobReaches', WHERE WHAT IT READS IS OF BULK AT MOST 1048576: true; the input reads as it did. -/
def jobReachesUptoRow : OpenClaim := { program := "ytppgachfobpgbaa", sum := "23e301cb1f9806b26ff6d9d0d4d60271c8bb53334ee2b8d3df193fbf6c7adfb2", func := "spoor/spoorlaw13.JobReaches", spec := "jobReaches", unfollowed := true, recurses := true, apart := false, narrowed := true }
def JobReachesUptoSaid : Prop := jobReachesUptoRow.holds Try.pinned (OpenSpec.upto jobReachesSpec)

/-- 'spoorlaw13.JobNil', WHERE WHAT IT READS IS OF BULK AT MOST 1048576: true; the input reads as it did. -/
def jobNilUptoRow : OpenClaim := { program := "ytppgachfobpgbaa", sum := "23e301cb1f9806b26ff6d9d0d4d60271c8bb53334ee2b8d3df193fbf6c7adfb2", func := "spoor/spoorlaw13.JobNil", spec := "jobNil", unfollowed := true, recurses := true, apart := false, narrowed := true }
def JobNilUptoSaid : Prop := jobNilUptoRow.holds Try.pinned (OpenSpec.upto jobNilSpec)

/-- 'spoorlaw13.JobEnds', WHERE WHAT IT READS IS OF BULK AT MOST 1048576: true; the input reads as it did. -/
def jobEndsUptoRow : OpenClaim := { program := "ytppgachfobpgbaa", sum := "23e301cb1f9806b26ff6d9d0d4d60271c8bb53334ee2b8d3df193fbf6c7adfb2", func := "spoor/spoorlaw13.JobEnds", spec := "jobEnds", unfollowed := true, recurses := true, apart := false, narrowed := true }
def JobEndsUptoSaid : Prop := jobEndsUptoRow.holds Try.pinned (OpenSpec.upto jobEndsSpec)

/-- 'spoorlaw13.JobTwice', WHERE WHAT IT READS IS OF BULK AT MOST 1048576: true; the input reads as it did. -/
def jobTwiceUptoRow : OpenClaim := { program := "ytppgachfobpgbaa", sum := "23e301cb1f9806b26ff6d9d0d4d60271c8bb53334ee2b8d3df193fbf6c7adfb2", func := "spoor/spoorlaw13.JobTwice", spec := "jobTwice", unfollowed := true, recurses := true, apart := false, narrowed := true }
def JobTwiceUptoSaid : Prop := jobTwiceUptoRow.holds Try.pinned (OpenSpec.upto jobTwiceSpec)

end Rows
end Go.Proofs.Ytppgachfobpgbaa
