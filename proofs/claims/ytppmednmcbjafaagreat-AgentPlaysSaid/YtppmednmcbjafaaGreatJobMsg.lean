/-
  A message of a call: spoorlaw09.Make by its kind, spoorlaw13.message; may calls be played?
-/
import Derived.Test.YtppmednmcbjafaaGreatMsg
import Derived.Test.YtppmednmcbjafaaGreatArgs
set_option linter.unusedVariables false
set_option linter.unusedSimpArgs false
set_option maxRecDepth 100000
namespace Go.Proofs.YtppmednmcbjafaaGreat
open Go.RowKit Go Go.Lib

set_option maxHeartbeats 1000000 in
set_option maxRecDepth 10000 in
theorem make_1 (a t j c n : Int) (ua : Option Addr) (un uc : Nat) (lo : Bool) (sa : Option Addr) (sn sc : Nat) (w : World) :
    Calls Tryz.prog 61 #[.int .i64 1, .int .i64 a, .int .i64 t, .int .i64 j, .int .i64 c, .int .i64 n, .slice ua un uc, .bool lo, .slice sa sn sc] w fun e w' => e = .returned (mTrigger a t c) ∧ Fr noB w w' := by
  unfold mTrigger
  have fX := (Fr.refl noB w).alloc (.cells #[.int .i64 a, .int .i64 t, .int .i64 j, .int .i64 n, .slice ua un uc, .bool lo] 133)
  go_enter Tryz.func61, Tryz.ntmps61
  go_wp2_with fail
  go_ret
  exact ⟨rfl, fX⟩
set_option maxHeartbeats 1000000 in
set_option maxRecDepth 10000 in
theorem make_2 (a t j c n : Int) (ua : Option Addr) (un uc : Nat) (lo : Bool) (sa : Option Addr) (sn sc : Nat) (w : World) :
    Calls Tryz.prog 61 #[.int .i64 2, .int .i64 a, .int .i64 t, .int .i64 j, .int .i64 c, .int .i64 n, .slice ua un uc, .bool lo, .slice sa sn sc] w fun e w' => e = .returned (mPin t j) ∧ Fr noB w w' := by
  unfold mPin
  have fX := (Fr.refl noB w).alloc (.cells #[.int .i64 a, .int .i64 t, .int .i64 j, .int .i64 n, .slice ua un uc, .bool lo] 133)
  go_enter Tryz.func61, Tryz.ntmps61
  go_wp2_with fail
  go_ret
  exact ⟨rfl, fX⟩
set_option maxHeartbeats 1000000 in
set_option maxRecDepth 10000 in
theorem make_3 (a t j c n : Int) (ua : Option Addr) (un uc : Nat) (lo : Bool) (sa : Option Addr) (sn sc : Nat) (w : World) :
    Calls Tryz.prog 61 #[.int .i64 3, .int .i64 a, .int .i64 t, .int .i64 j, .int .i64 c, .int .i64 n, .slice ua un uc, .bool lo, .slice sa sn sc] w fun e w' => e = .returned (mPinned a t j n (.slice ua un uc) lo) ∧ Fr noB w w' := by
  unfold mPinned
  have fX := (Fr.refl noB w).alloc (.cells #[.int .i64 a, .int .i64 t, .int .i64 j, .int .i64 n, .slice ua un uc, .bool lo] 133)
  go_enter Tryz.func61, Tryz.ntmps61
  go_wp2_with fail
  go_ret
  exact ⟨rfl, fX⟩
set_option maxHeartbeats 1000000 in
set_option maxRecDepth 10000 in
theorem make_4 (a t j c n : Int) (ua : Option Addr) (un uc : Nat) (lo : Bool) (sa : Option Addr) (sn sc : Nat) (w : World) :
    Calls Tryz.prog 61 #[.int .i64 4, .int .i64 a, .int .i64 t, .int .i64 j, .int .i64 c, .int .i64 n, .slice ua un uc, .bool lo, .slice sa sn sc] w fun e w' => e = .returned (mGone a t j) ∧ Fr noB w w' := by
  unfold mGone
  have fX := (Fr.refl noB w).alloc (.cells #[.int .i64 a, .int .i64 t, .int .i64 j, .int .i64 n, .slice ua un uc, .bool lo] 133)
  go_enter Tryz.func61, Tryz.ntmps61
  go_wp2_with fail
  go_ret
  exact ⟨rfl, fX⟩
set_option maxHeartbeats 1000000 in
set_option maxRecDepth 10000 in
theorem make_5 (a t j c n : Int) (ua : Option Addr) (un uc : Nat) (lo : Bool) (sa : Option Addr) (sn sc : Nat) (w : World) :
    Calls Tryz.prog 61 #[.int .i64 5, .int .i64 a, .int .i64 t, .int .i64 j, .int .i64 c, .int .i64 n, .slice ua un uc, .bool lo, .slice sa sn sc] w fun e w' => e = .returned (mCollect t j) ∧ Fr noB w w' := by
  unfold mCollect
  have fX := (Fr.refl noB w).alloc (.cells #[.int .i64 a, .int .i64 t, .int .i64 j, .int .i64 n, .slice ua un uc, .bool lo] 133)
  go_enter Tryz.func61, Tryz.ntmps61
  go_wp2_with fail
  go_ret
  exact ⟨rfl, fX⟩
set_option maxHeartbeats 1000000 in
set_option maxRecDepth 10000 in
theorem make_6 (a t j c n : Int) (ua : Option Addr) (un uc : Nat) (lo : Bool) (sa : Option Addr) (sn sc : Nat) (w : World) :
    Calls Tryz.prog 61 #[.int .i64 6, .int .i64 a, .int .i64 t, .int .i64 j, .int .i64 c, .int .i64 n, .slice ua un uc, .bool lo, .slice sa sn sc] w fun e w' => e = .returned (mChunk a t j c n (.slice sa sn sc)) ∧ Fr noB w w' := by
  unfold mChunk
  have fX := (Fr.refl noB w).alloc (.cells #[.int .i64 a, .int .i64 t, .int .i64 j, .int .i64 n, .slice ua un uc, .bool lo] 133)
  go_enter Tryz.func61, Tryz.ntmps61
  go_wp2_with fail
  go_ret
  exact ⟨rfl, fX⟩
set_option maxHeartbeats 1000000 in
set_option maxRecDepth 10000 in
theorem make_8 (a t j c n : Int) (ua : Option Addr) (un uc : Nat) (lo : Bool) (sa : Option Addr) (sn sc : Nat) (w : World) :
    Calls Tryz.prog 61 #[.int .i64 8, .int .i64 a, .int .i64 t, .int .i64 j, .int .i64 c, .int .i64 n, .slice ua un uc, .bool lo, .slice sa sn sc] w fun e w' => e = .returned (mStored t j) ∧ Fr noB w w' := by
  unfold mStored
  have fX := (Fr.refl noB w).alloc (.cells #[.int .i64 a, .int .i64 t, .int .i64 j, .int .i64 n, .slice ua un uc, .bool lo] 133)
  go_enter Tryz.func61, Tryz.ntmps61
  go_wp2_with fail
  go_ret
  exact ⟨rfl, fX⟩
set_option maxHeartbeats 1000000 in
set_option maxRecDepth 10000 in
theorem make_9 (a t j c n : Int) (ua : Option Addr) (un uc : Nat) (lo : Bool) (sa : Option Addr) (sn sc : Nat) (w : World) :
    Calls Tryz.prog 61 #[.int .i64 9, .int .i64 a, .int .i64 t, .int .i64 j, .int .i64 c, .int .i64 n, .slice ua un uc, .bool lo, .slice sa sn sc] w fun e w' => e = .returned (mUnpin t j) ∧ Fr noB w w' := by
  unfold mUnpin
  have fX := (Fr.refl noB w).alloc (.cells #[.int .i64 a, .int .i64 t, .int .i64 j, .int .i64 n, .slice ua un uc, .bool lo] 133)
  go_enter Tryz.func61, Tryz.ntmps61
  go_wp2_with fail
  go_ret
  exact ⟨rfl, fX⟩
set_option maxHeartbeats 1000000 in
set_option maxRecDepth 10000 in
theorem make_10 (a t j c n : Int) (ua : Option Addr) (un uc : Nat) (lo : Bool) (sa : Option Addr) (sn sc : Nat) (w : World) :
    Calls Tryz.prog 61 #[.int .i64 10, .int .i64 a, .int .i64 t, .int .i64 j, .int .i64 c, .int .i64 n, .slice ua un uc, .bool lo, .slice sa sn sc] w fun e w' => e = .returned (mUnpinned a t j) ∧ Fr noB w w' := by
  unfold mUnpinned
  have fX := (Fr.refl noB w).alloc (.cells #[.int .i64 a, .int .i64 t, .int .i64 j, .int .i64 n, .slice ua un uc, .bool lo] 133)
  go_enter Tryz.func61, Tryz.ntmps61
  go_wp2_with fail
  go_ret
  exact ⟨rfl, fX⟩
set_option maxHeartbeats 1000000 in
set_option maxRecDepth 10000 in
theorem make_0 (k a t j c n : Int) (ua : Option Addr) (un uc : Nat) (lo : Bool) (sa : Option Addr) (sn sc : Nat) (w : World) (h : k < 1 ∨ 10 < k) :
    Calls Tryz.prog 61 #[.int .i64 k, .int .i64 a, .int .i64 t, .int .i64 j, .int .i64 c, .int .i64 n, .slice ua un uc, .bool lo, .slice sa sn sc] w fun e w' => e = .returned .nilIface ∧ Fr noB w w' := by
  have h1 : (k == 1) = false := beq_eq_false_iff_ne.2 (by omega)
  have h2 : (k == 2) = false := beq_eq_false_iff_ne.2 (by omega)
  have h3 : (k == 3) = false := beq_eq_false_iff_ne.2 (by omega)
  have h4 : (k == 4) = false := beq_eq_false_iff_ne.2 (by omega)
  have h5 : (k == 5) = false := beq_eq_false_iff_ne.2 (by omega)
  have h6 : (k == 6) = false := beq_eq_false_iff_ne.2 (by omega)
  have h7 : (k == 7) = false := beq_eq_false_iff_ne.2 (by omega)
  have h8 : (k == 8) = false := beq_eq_false_iff_ne.2 (by omega)
  have h9 : (k == 9) = false := beq_eq_false_iff_ne.2 (by omega)
  have h10 : (k == 10) = false := beq_eq_false_iff_ne.2 (by omega)
  have fX := (Fr.refl noB w).alloc (.cells #[.int .i64 a, .int .i64 t, .int .i64 j, .int .i64 n, .slice ua un uc, .bool lo] 133)
  go_enter Tryz.func61, Tryz.ntmps61
  go_wp2_with fail
  go_ret
  exact ⟨rfl, fX⟩
set_option maxHeartbeats 1000000 in
set_option maxRecDepth 10000 in
theorem make_7 (a t j c n : Int) (ua : Option Addr) (un uc : Nat) (lo : Bool) (sa : Option Addr) (sn sc : Nat) (w : World) :
    Calls Tryz.prog 61 #[.int .i64 7, .int .i64 a, .int .i64 t, .int .i64 j, .int .i64 c, .int .i64 n, .slice ua un uc, .bool lo, .slice sa sn sc] w fun e w' => ∃ g, e = .returned (mManifest t j c (.slice (some ⟨g, 0, none⟩) 2 2)) ∧ w.heap.size ≤ g ∧
      Blk w' g 133 [.int .i64 a, .int .i64 t, .int .i64 j, .int .i64 n, .slice ua un uc, .bool lo, .int .i64 (wrap64 (a + 1)), .int .i64 t, .int .i64 j, .int .i64 n, .slice ua un uc, .bool lo] ∧ Fr noB w w' := by
  unfold mManifest
  have fX := (Fr.refl noB w).alloc (.cells #[.int .i64 a, .int .i64 t, .int .i64 j, .int .i64 n, .slice ua un uc, .bool lo] 133)
  go_enter Tryz.func61, Tryz.ntmps61
  go_wp2_with fail
  go_ret
  refine ⟨w.heap.size + 1 + 1, rfl, by omega, ?_, ((fX.alloc _).alloc _)⟩
  have hb := Blk.new ((w.alloc (.cells #[.int .i64 a, .int .i64 t, .int .i64 j, .int .i64 n, .slice ua un uc, .bool lo] 133)).alloc (.cells #[.int .i64 (wrap64 (a + 1)), .int .i64 t, .int .i64 j, .int .i64 n, .slice ua un uc, .bool lo] 133)) 133 [.int .i64 a, .int .i64 t, .int .i64 j, .int .i64 n, .slice ua un uc, .bool lo, .int .i64 (wrap64 (a + 1)), .int .i64 t, .int .i64 j, .int .i64 n, .slice ua un uc, .bool lo]
  simp at hb
  exact hb
end Go.Proofs.YtppmednmcbjafaaGreat
