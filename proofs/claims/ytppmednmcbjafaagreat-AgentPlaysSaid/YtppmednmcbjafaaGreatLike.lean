/-
  A message as the document has it: spoorlaw09.Like by kind.
-/
import Derived.Test.YtppmednmcbjafaaGreatMsg
import Derived.Handy
set_option linter.unusedVariables false
set_option linter.unusedSimpArgs false
set_option maxRecDepth 100000
namespace Go.Proofs.YtppmednmcbjafaaGreat
open Go.RowKit Go Go.Lib

/-- a message's fields, of all kinds -/
structure MR where
  k : Int := 0
  a : Int := 0
  t : Int := 0
  j : Int := 0
  c : Int := 0
  i : Int := 0
  n : Int := 0
  pa : Int := 0
  pt : Int := 0
  pj : Int := 0
  pc : Int := 0
  ua : Option Addr := none
  un : Nat := 0
  uc : Nat := 0
  lo : Bool := false
  qa : Option Addr := none
  qn : Nat := 0
  qc : Nat := 0
  sa : Option Addr := none
  sn : Nat := 0
  sc : Nat := 0
def mrC (m : MR) : List Value := [.int .i64 m.k, .int .i64 m.a, .int .i64 m.t, .int .i64 m.j, .int .i64 m.c, .int .i64 m.i, .int .i64 m.n, .int .i64 m.pa, .int .i64 m.pt, .int .i64 m.pj, .int .i64 m.pc, .slice m.ua m.un m.uc, .bool m.lo, .slice m.qa m.qn m.qc, .slice m.sa m.sn m.sc]
def mrV (m : MR) : Value := .agg (mrC m).toArray

theorem part_any (a t j c : Int) (ua : Option Addr) (un uc : Nat) (lo : Bool) (w : World) :
    Calls Tryz.prog 72 #[.agg #[.int .i64 a, .int .i64 t, .int .i64 j, .int .i64 c, .slice ua un uc, .bool lo]] w fun e w' => e = .returned (.agg #[.int .i64 a, .int .i64 t, .int .i64 j, .int .i64 c, .slice ua un uc, .bool lo]) ∧ Fr noB w w' := by
  have fX := ((Fr.refl noB w).alloc (.cells #[.int .i64 a, .int .i64 t, .int .i64 j, .int .i64 c, .slice ua un uc, .bool lo] 133)).alloc (.cells #[.int .i64 a, .int .i64 t, .int .i64 j, .int .i64 c, .slice ua un uc, .bool lo] 69)
  go_enter Tryz.func72, Tryz.ntmps72
  go_wp2_with fail
  go_returns
  exact ⟨rfl, fX⟩
set_option maxHeartbeats 1000000 in
set_option maxRecDepth 10000 in
theorem like_Trigger (a t c : Int) (w : World) :
    Calls Tryz.prog 25 #[mTrigger a t c] w fun e w' => e = .returned (mrV { k := 1, a := a, t := t, c := c }) ∧ Fr noB w w' := by
  unfold mTrigger mrV mrC
  have fX := ((Fr.refl noB w).alloc (.cells (mrC { k := 1, a := a, t := t, c := c }).toArray 73)).alloc (.cells #[.int .i64 a, .int .i64 t, .int .i64 c] 53)
  unfold mrC at fX
  have q0 := as_Trigger_Trigger
  go_enter Tryz.func25, Tryz.ntmps25
  go_wp2_with fail
  go_returns
  exact ⟨rfl, fX⟩
set_option maxHeartbeats 1000000 in
set_option maxRecDepth 10000 in
theorem like_Pin (t j : Int) (w : World) :
    Calls Tryz.prog 25 #[mPin t j] w fun e w' => e = .returned (mrV { k := 2, t := t, j := j }) ∧ Fr noB w w' := by
  unfold mPin mrV mrC
  have fX := ((Fr.refl noB w).alloc (.cells (mrC { k := 2, t := t, j := j }).toArray 73)).alloc (.cells #[.int .i64 t, .int .i64 j] 94)
  unfold mrC at fX
  have q0 := as_Pin_Trigger
  have q1 := as_Pin_Pin
  go_enter Tryz.func25, Tryz.ntmps25
  go_wp2_with fail
  go_returns
  exact ⟨rfl, fX⟩
set_option maxHeartbeats 1000000 in
set_option maxRecDepth 10000 in
theorem like_Gone (a t j : Int) (w : World) :
    Calls Tryz.prog 25 #[mGone a t j] w fun e w' => e = .returned (mrV { k := 4, a := a, t := t, j := j }) ∧ Fr noB w w' := by
  unfold mGone mrV mrC
  have fX := ((Fr.refl noB w).alloc (.cells (mrC { k := 4, a := a, t := t, j := j }).toArray 73)).alloc (.cells #[.int .i64 a, .int .i64 t, .int .i64 j] 136)
  unfold mrC at fX
  have q0 := as_Gone_Trigger
  have q1 := as_Gone_Pin
  have q2 := as_Gone_Pinned
  have q3 := as_Gone_Gone
  go_enter Tryz.func25, Tryz.ntmps25
  go_wp2_with fail
  go_returns
  exact ⟨rfl, fX⟩
set_option maxHeartbeats 1000000 in
set_option maxRecDepth 10000 in
theorem like_Collect (t j : Int) (w : World) :
    Calls Tryz.prog 25 #[mCollect t j] w fun e w' => e = .returned (mrV { k := 5, t := t, j := j }) ∧ Fr noB w w' := by
  unfold mCollect mrV mrC
  have fX := ((Fr.refl noB w).alloc (.cells (mrC { k := 5, t := t, j := j }).toArray 73)).alloc (.cells #[.int .i64 t, .int .i64 j] 99)
  unfold mrC at fX
  have q0 := as_Collect_Trigger
  have q1 := as_Collect_Pin
  have q2 := as_Collect_Pinned
  have q3 := as_Collect_Gone
  have q4 := as_Collect_Collect
  go_enter Tryz.func25, Tryz.ntmps25
  go_wp2_with fail
  go_returns
  exact ⟨rfl, fX⟩
set_option maxHeartbeats 1000000 in
set_option maxRecDepth 10000 in
theorem like_Chunk (a t j i n : Int) (sa : Option Addr) (sn sc : Nat) (w : World) :
    Calls Tryz.prog 25 #[mChunk a t j i n (.slice sa sn sc)] w fun e w' => e = .returned (mrV { k := 6, a := a, t := t, j := j, i := i, n := n, sa := sa, sn := sn, sc := sc }) ∧ Fr noB w w' := by
  unfold mChunk mrV mrC
  have fX := ((Fr.refl noB w).alloc (.cells (mrC { k := 6, a := a, t := t, j := j, i := i, n := n, sa := sa, sn := sn, sc := sc }).toArray 73)).alloc (.cells #[.int .i64 a, .int .i64 t, .int .i64 j, .int .i64 i, .int .i64 n, .slice sa sn sc] 138)
  unfold mrC at fX
  have q0 := as_Chunk_Trigger
  have q1 := as_Chunk_Pin
  have q2 := as_Chunk_Pinned
  have q3 := as_Chunk_Gone
  have q4 := as_Chunk_Collect
  have q5 := as_Chunk_Chunk
  go_enter Tryz.func25, Tryz.ntmps25
  go_wp2_with fail
  go_returns
  exact ⟨rfl, fX⟩
set_option maxHeartbeats 1000000 in
set_option maxRecDepth 10000 in
theorem like_Stored (t j : Int) (w : World) :
    Calls Tryz.prog 25 #[mStored t j] w fun e w' => e = .returned (mrV { k := 8, t := t, j := j }) ∧ Fr noB w w' := by
  unfold mStored mrV mrC
  have fX := ((Fr.refl noB w).alloc (.cells (mrC { k := 8, t := t, j := j }).toArray 73)).alloc (.cells #[.int .i64 t, .int .i64 j] 142)
  unfold mrC at fX
  have q0 := as_Stored_Trigger
  have q1 := as_Stored_Pin
  have q2 := as_Stored_Pinned
  have q3 := as_Stored_Gone
  have q4 := as_Stored_Collect
  have q5 := as_Stored_Chunk
  have q6 := as_Stored_Manifest
  have q7 := as_Stored_Stored
  go_enter Tryz.func25, Tryz.ntmps25
  go_wp2_with fail
  go_returns
  exact ⟨rfl, fX⟩
set_option maxHeartbeats 1000000 in
set_option maxRecDepth 10000 in
theorem like_Unpin (t j : Int) (w : World) :
    Calls Tryz.prog 25 #[mUnpin t j] w fun e w' => e = .returned (mrV { k := 9, t := t, j := j }) ∧ Fr noB w w' := by
  unfold mUnpin mrV mrC
  have fX := ((Fr.refl noB w).alloc (.cells (mrC { k := 9, t := t, j := j }).toArray 73)).alloc (.cells #[.int .i64 t, .int .i64 j] 95)
  unfold mrC at fX
  have q0 := as_Unpin_Trigger
  have q1 := as_Unpin_Pin
  have q2 := as_Unpin_Pinned
  have q3 := as_Unpin_Gone
  have q4 := as_Unpin_Collect
  have q5 := as_Unpin_Chunk
  have q6 := as_Unpin_Manifest
  have q7 := as_Unpin_Stored
  have q8 := as_Unpin_Unpin
  go_enter Tryz.func25, Tryz.ntmps25
  go_wp2_with fail
  go_returns
  exact ⟨rfl, fX⟩
set_option maxHeartbeats 1000000 in
set_option maxRecDepth 10000 in
theorem like_Unpinned (a t j : Int) (w : World) :
    Calls Tryz.prog 25 #[mUnpinned a t j] w fun e w' => e = .returned (mrV { k := 10, a := a, t := t, j := j }) ∧ Fr noB w w' := by
  unfold mUnpinned mrV mrC
  have fX := ((Fr.refl noB w).alloc (.cells (mrC { k := 10, a := a, t := t, j := j }).toArray 73)).alloc (.cells #[.int .i64 a, .int .i64 t, .int .i64 j] 143)
  unfold mrC at fX
  have q0 := as_Unpinned_Trigger
  have q1 := as_Unpinned_Pin
  have q2 := as_Unpinned_Pinned
  have q3 := as_Unpinned_Gone
  have q4 := as_Unpinned_Collect
  have q5 := as_Unpinned_Chunk
  have q6 := as_Unpinned_Manifest
  have q7 := as_Unpinned_Stored
  have q8 := as_Unpinned_Unpin
  have q9 := as_Unpinned_Unpinned
  go_enter Tryz.func25, Tryz.ntmps25
  go_wp2_with fail
  go_returns
  exact ⟨rfl, fX⟩
end Go.Proofs.YtppmednmcbjafaaGreat
