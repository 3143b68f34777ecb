/-
  How the law reads a message: a Pinned, and none.
-/
import Derived.Test.YtppmednmcbjafaaGreatLike
set_option linter.unusedVariables false
set_option linter.unusedSimpArgs false
set_option maxRecDepth 100000
namespace Go.Proofs.YtppmednmcbjafaaGreat
open Go.RowKit Go Go.Lib

def pnArr (a t j c : Int) (v : Value) (lo : Bool) : Array Value := #[.int .i64 a, .int .i64 t, .int .i64 j, .int .i64 c, v, .bool lo]
theorem part_is (a t j c : Int) (ua : Option Addr) (un uc : Nat) (lo : Bool) (w : World) :
    Calls Tryz.prog 72 #[.agg #[.int .i64 a, .int .i64 t, .int .i64 j, .int .i64 c, .slice ua un uc, .bool lo]] w fun e w' => e = .returned (.agg #[.int .i64 a, .int .i64 t, .int .i64 j, .int .i64 c, .slice ua un uc, .bool lo]) ∧ w' = (w.alloc (.cells #[.int .i64 a, .int .i64 t, .int .i64 j, .int .i64 c, .slice ua un uc, .bool lo] 133)).alloc (.cells #[.int .i64 a, .int .i64 t, .int .i64 j, .int .i64 c, .slice ua un uc, .bool lo] 69) := by
  go_enter Tryz.func72, Tryz.ntmps72
  go_wp2_with fail
  go_returns
  exact ⟨rfl, rfl⟩
set_option maxHeartbeats 1000000 in
set_option maxRecDepth 10000 in
theorem like_Pinned (a t j c : Int) (ua : Option Addr) (un uc : Nat) (lo : Bool) (w : World) :
    Calls Tryz.prog 25 #[mPinned a t j c (.slice ua un uc) lo] w fun e w' => e = .returned (mrV { k := 3, pa := a, pt := t, pj := j, pc := c, ua := ua, un := un, uc := uc, lo := lo }) ∧ Fr noB w w' := by
  unfold mPinned mrV mrC
  have fX := ((((Fr.refl noB w).alloc (.cells (mrC { k := 3, pa := a, pt := t, pj := j, pc := c, ua := ua, un := un, uc := uc, lo := lo }).toArray 73)).alloc (.cells #[.int .i64 a, .int .i64 t, .int .i64 j, .int .i64 c, .slice ua un uc, .bool lo] 133)).alloc (.cells #[.int .i64 a, .int .i64 t, .int .i64 j, .int .i64 c, .slice ua un uc, .bool lo] 133)).alloc (.cells #[.int .i64 a, .int .i64 t, .int .i64 j, .int .i64 c, .slice ua un uc, .bool lo] 69)
  unfold mrC at fX
  have q0 := as_Pinned_Trigger
  have q1 := as_Pinned_Pin
  have q2 := as_Pinned_Pinned
  have k := part_is a t j c ua un uc lo
  go_enter Tryz.func25, Tryz.ntmps25
  go_wp2_with fail
  refine (k _).mono ?_
  rintro e w1 ⟨rfl, rfl⟩
  clear k
  go_wp2_with fail
  go_returns
  exact ⟨rfl, fX⟩
end Go.Proofs.YtppmednmcbjafaaGreat
