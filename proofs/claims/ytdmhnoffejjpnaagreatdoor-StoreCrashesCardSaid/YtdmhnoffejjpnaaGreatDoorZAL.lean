/-
  Messages: may one be, and of which trace and job it is.
-/
import Derived.Test.YtdmhnoffejjpnaaGreatDoorZAA
import Derived.Test.YtdmhnoffejjpnaaGreatDoorZAK
import Derived.Deep.DeepMust
import Derived.BigQuiet
import Derived.OwnWalk
section
set_option linter.unusedVariables false
set_option linter.unusedSimpArgs false
set_option maxRecDepth 100000
namespace Go.Proofs.YtdmhnoffejjpnaaGreatDoor
open Go.RowKit Go Go.Lib

/-- from lo to hi -/
def inB (lo hi n : Int) : Bool := decide (lo ≤ n) && decide (n ≤ hi)
theorem isAgent_any (n : Int) (w : World) : Calls Tryz.prog 80 #[.int .i64 n] w fun e w' => e = .returned (.bool (inB 0 3 n)) ∧ w' = w := by
  unfold inB
  by_cases h1 : 0 ≤ n
  · have h1d : decide (0 ≤ n) = true := by simpa using h1
    by_cases h2 : n ≤ 3
    · have h2d : decide (n ≤ 3) = true := by simpa using h2
      have h3d : decide (n < 4) = true := by simp; omega
      rw [h1d, h2d]
      go_enter Tryz.func80, Tryz.ntmps80
      go_wp2_with fail
      go_ret
      exact ⟨rfl, rfl⟩
    · have h2d : decide (n ≤ 3) = false := by simpa using h2
      have h3d : decide (n < 4) = false := by simp; omega
      rw [h1d, h2d]
      go_enter Tryz.func80, Tryz.ntmps80
      go_wp2_with fail
      go_ret
      exact ⟨rfl, rfl⟩
  · have h1d : decide (0 ≤ n) = false := by simpa using h1
    rw [h1d, Bool.false_and]
    go_enter Tryz.func80, Tryz.ntmps80
    go_wp2_with fail
    go_ret
    exact ⟨rfl, rfl⟩
theorem isTrace_any (n : Int) (w : World) : Calls Tryz.prog 81 #[.int .i64 n] w fun e w' => e = .returned (.bool (inB 1 65535 n)) ∧ w' = w := by
  unfold inB
  by_cases h1 : 1 ≤ n
  · have h1d : decide (1 ≤ n) = true := by simpa using h1
    by_cases h2 : n ≤ 65535
    · have h2d : decide (n ≤ 65535) = true := by simpa using h2
      have h3d : decide (n < 65536) = true := by simp; omega
      rw [h1d, h2d]
      go_enter Tryz.func81, Tryz.ntmps81
      go_wp2_with fail
      go_ret
      exact ⟨rfl, rfl⟩
    · have h2d : decide (n ≤ 65535) = false := by simpa using h2
      have h3d : decide (n < 65536) = false := by simp; omega
      rw [h1d, h2d]
      go_enter Tryz.func81, Tryz.ntmps81
      go_wp2_with fail
      go_ret
      exact ⟨rfl, rfl⟩
  · have h1d : decide (1 ≤ n) = false := by simpa using h1
    rw [h1d, Bool.false_and]
    go_enter Tryz.func81, Tryz.ntmps81
    go_wp2_with fail
    go_ret
    exact ⟨rfl, rfl⟩
theorem isJob_any (n : Int) (w : World) : Calls Tryz.prog 83 #[.int .i64 n] w fun e w' => e = .returned (.bool (inB 1 1073741824 n)) ∧ w' = w := by
  unfold inB
  by_cases h1 : 1 ≤ n
  · have h1d : decide (1 ≤ n) = true := by simpa using h1
    by_cases h2 : n ≤ 1073741824
    · have h2d : decide (n ≤ 1073741824) = true := by simpa using h2
      have h3d : decide (n < 1073741825) = true := by simp; omega
      rw [h1d, h2d]
      go_enter Tryz.func83, Tryz.ntmps83
      go_wp2_with fail
      go_ret
      exact ⟨rfl, rfl⟩
    · have h2d : decide (n ≤ 1073741824) = false := by simpa using h2
      have h3d : decide (n < 1073741825) = false := by simp; omega
      rw [h1d, h2d]
      go_enter Tryz.func83, Tryz.ntmps83
      go_wp2_with fail
      go_ret
      exact ⟨rfl, rfl⟩
  · have h1d : decide (1 ≤ n) = false := by simpa using h1
    rw [h1d, Bool.false_and]
    go_enter Tryz.func83, Tryz.ntmps83
    go_wp2_with fail
    go_ret
    exact ⟨rfl, rfl⟩
theorem isClass_any (n : Int) (w : World) : Calls Tryz.prog 82 #[.int .i64 n] w fun e w' => e = .returned (.bool (inB 0 3 n)) ∧ w' = w := by
  unfold inB
  by_cases h1 : 0 ≤ n
  · have h1d : decide (0 ≤ n) = true := by simpa using h1
    by_cases h2 : n ≤ 3
    · have h2d : decide (n ≤ 3) = true := by simpa using h2
      have h3d : decide (n < 4) = true := by simp; omega
      rw [h1d, h2d]
      go_enter Tryz.func82, Tryz.ntmps82
      go_wp2_with fail
      go_ret
      exact ⟨rfl, rfl⟩
    · have h2d : decide (n ≤ 3) = false := by simpa using h2
      have h3d : decide (n < 4) = false := by simp; omega
      rw [h1d, h2d]
      go_enter Tryz.func82, Tryz.ntmps82
      go_wp2_with fail
      go_ret
      exact ⟨rfl, rfl⟩
  · have h1d : decide (0 ≤ n) = false := by simpa using h1
    rw [h1d, Bool.false_and]
    go_enter Tryz.func82, Tryz.ntmps82
    go_wp2_with fail
    go_ret
    exact ⟨rfl, rfl⟩

/-- rising agents, each greater than last -/
def risB (last : Int) : List Int → Bool
  | [] => true
  | x :: r => inB 0 3 x && decide (last < x) && risB x r
theorem rising_any (v : Value) (xs : List Int) (w : World) (hv : RdI w v xs) :
    Calls Tryz.prog 109 #[v] w fun e w' => e = .returned (.bool (risB (-1) xs)) ∧ ∃ q, w' = w.drewN q := by
  obtain ⟨a, c, rfl, h1, h2, h3⟩ := hv
  generalize hn : xs.length = n at *
  replace hn := Lib.hid hn
  replace h3 := Lib.hid h3
  go_enter Tryz.func109, Tryz.ntmps109
  go_wp2_with fail
  go_loopw [3, 8] (fun lv i wr => ∃ (k : Nat) (L : Int), k ≤ n ∧ i = .int .i64 k ∧ lv = .int .i64 L ∧ Hid (risB (-1) xs = risB L (xs.drop k)) ∧ wr = w) (fun _ i _ => n - (RowKit.intOf i).toNat)
  case atStart => exact ⟨0, -1, by omega, rfl, rfl, Lib.hid (by simp), rfl⟩
  case round =>
    obtain ⟨k, L, hk, rfl, rfl, hE, hwr⟩ := hrel
    obtain rfl := hwr.symm
    by_cases hlt : k < n
    · obtain ⟨g, o, rfl, hc⟩ := h3.out k hlt
      have hkx : k < xs.length := by rw [hn.out]; exact hlt
      have hd : xs.drop k = xs.getD k 0 :: xs.drop (k + 1) := by
        rw [List.drop_eq_getElem_cons hkx]; simp [List.getD, hkx]
      have hE2 : risB (-1) xs = (inB 0 3 (xs.getD k 0) && decide (L < xs.getD k 0) && risB (xs.getD k 0) (xs.drop (k + 1))) := by rw [hE.out, hd]; rfl
      generalize xs.getD k 0 = x at *
      clear hd hE hkx
      have hag := isAgent_any x w
      cases hb : inB 0 3 x with
      | false =>
        rw [hb] at hag
        have hres : risB (-1) xs = false := by rw [hE2, hb]; rfl
        replace hres := Lib.hid hres
        clear hE2 hb
        go_wp2_with fail
        refine hag.mono ?_
        rintro e w1 ⟨rfl, hw1⟩
        obtain rfl := hw1.symm
        go_wp2_with fail
        go_ret
        exact ⟨by rw [hres.out]; rfl, 0, rfl⟩
      | true =>
        rw [hb] at hag
        by_cases hx : L < x
        · have hxd : decide (x ≤ L) = false := by simp; omega
          have hE3 : Hid (risB (-1) xs = risB x (xs.drop (k + 1))) := Lib.hid (by rw [hE2, hb, decide_eq_true hx]; rfl)
          clear hE2 hb
          go_wp2_with fail
          refine hag.mono ?_
          rintro e w1 ⟨rfl, hw1⟩
          obtain rfl := hw1.symm
          go_wp2_with fail
          go_roundw
          case rel => exact ⟨k + 1, x, by omega, by go_num, rfl, hE3, by first | trivial | rfl⟩
          case measure => simp [RowKit.intOf]; omega
        · have hxd : decide (x ≤ L) = true := by simp; omega
          have hres : risB (-1) xs = false := by rw [hE2, decide_eq_false hx]; simp
          replace hres := Lib.hid hres
          clear hE2 hb
          go_wp2_with fail
          refine hag.mono ?_
          rintro e w1 ⟨rfl, hw1⟩
          obtain rfl := hw1.symm
          go_wp2_with fail
          go_ret
          exact ⟨by rw [hres.out]; rfl, 0, rfl⟩
    · obtain rfl : k = n := by omega
      have hres : risB (-1) xs = true := by rw [hE.out, List.drop_eq_nil_of_le (by rw [hn.out]; exact Nat.le_refl _)]; rfl
      replace hres := Lib.hid hres
      clear hE
      go_wp2_with fail
      go_ret
      exact ⟨by rw [hres.out]; rfl, 0, rfl⟩

/-- may a Pinned be? -/
def pinB (ag tr jb ct : Int) (xs : List Int) : Bool := inB 0 3 ag && (inB 1 65535 tr && (inB 1 1073741824 jb && (decide (0 ≤ ct) && (decide (ct ≤ 1000) && risB (-1) xs))))
theorem pinned_any (ag tr jb ct : Int) (v : Value) (lo : Bool) (xs : List Int) (w : World) (hv : RdI w v xs) :
    Calls Tryz.prog 84 #[.agg #[.int .i64 ag, .int .i64 tr, .int .i64 jb, .int .i64 ct, v, .bool lo]] w fun e w' => e = .returned (.bool (pinB ag tr jb ct xs)) ∧ Fr noB w w' := by
  obtain ⟨a, c, rfl, hh⟩ := id hv
  have fX := (Fr.refl noB w).alloc (.cells #[.int .i64 ag, .int .i64 tr, .int .i64 jb, .int .i64 ct, .slice a xs.length c, .bool lo] 70)
  have hr := rising_any _ xs _ (hv.fr fX (fun _ _ _ _ _ q => q))
  have bX := Blk.new w 70 [.int .i64 ag, .int .i64 tr, .int .i64 jb, .int .i64 ct, .slice a xs.length c, .bool lo]
  have h1 := isAgent_any ag
  have h2 := isTrace_any tr
  have h3 := isJob_any jb
  unfold pinB
  clear hv hh
  generalize xs.length = n at *
  generalize risB (-1) xs = rb at *
  obtain ⟨wx, hwx⟩ : ∃ wx, wx = w.alloc (.cells #[.int .i64 ag, .int .i64 tr, .int .i64 jb, .int .i64 ct, .slice a n c, .bool lo] 70) := ⟨_, rfl⟩
  go_enter Tryz.func84, Tryz.ntmps84
  go_wp2_with fail
  refine (h1 _).mono ?_
  rintro e w1 ⟨rfl, hw1⟩
  obtain rfl := hw1.symm
  cases hb1 : inB 0 3 ag with
  | false =>
    go_wp2_with fail
    go_ret
    exact ⟨by simp [*], fX⟩
  | true =>
    go_wp2_with fail
    refine (h2 _).mono ?_
    rintro e w1 ⟨rfl, hw1⟩
    obtain rfl := hw1.symm
    cases hb2 : inB 1 65535 tr with
    | false =>
      go_wp2_with fail
      go_ret
      exact ⟨by simp [*], fX⟩
    | true =>
      go_wp2_with fail
      refine (h3 _).mono ?_
      rintro e w1 ⟨rfl, hw1⟩
      obtain rfl := hw1.symm
      cases hb3 : inB 1 1073741824 jb with
      | false =>
        go_wp2_with fail
        go_ret
        exact ⟨by simp [*], fX⟩
      | true =>
        cases hc0 : decide (0 ≤ ct) with
        | false =>
          go_wp2_with fail
          go_ret
          exact ⟨by simp [*], fX⟩
        | true =>
          cases hc1 : decide (ct ≤ 1000) with
          | false =>
            go_wp2_with fail
            go_ret
            exact ⟨by simp [*], fX⟩
          | true =>
            go_wp2_with fail
            refine hr.mono ?_
            rintro e w1 ⟨rfl, q1, hw1⟩
            have f1 : Fr noB w w1 := by rw [hw1]; exact fX.drewN q1
            clear hw1 hr
            go_wp2_with fail
            go_ret
            exact ⟨by simp [*], f1⟩

/-- a message of a struct type, as an interface value -/
def mTrigger (a t c : Int) : Value := .iface 103 (.agg #[.int .i64 a, .int .i64 t, .int .i64 c])
def mPin (t j : Int) : Value := .iface 68 (.agg #[.int .i64 t, .int .i64 j])
def mPinned (a t j c : Int) (v : Value) (l : Bool) : Value := .iface 70 (.agg #[.int .i64 a, .int .i64 t, .int .i64 j, .int .i64 c, v, .bool l])
def mGone (a t j : Int) : Value := .iface 106 (.agg #[.int .i64 a, .int .i64 t, .int .i64 j])
def mCollect (t j : Int) : Value := .iface 107 (.agg #[.int .i64 t, .int .i64 j])
def mChunk (a t j i n : Int) (v : Value) : Value := .iface 75 (.agg #[.int .i64 a, .int .i64 t, .int .i64 j, .int .i64 i, .int .i64 n, v])
def mManifest (t j c : Int) (v : Value) : Value := .iface 73 (.agg #[.int .i64 t, .int .i64 j, .int .i64 c, v])
def mStored (t j : Int) : Value := .iface 76 (.agg #[.int .i64 t, .int .i64 j])
def mUnpin (t j : Int) : Value := .iface 108 (.agg #[.int .i64 t, .int .i64 j])
def mUnpinned (a t j : Int) : Value := .iface 109 (.agg #[.int .i64 a, .int .i64 t, .int .i64 j])

theorem as_Trigger_Trigger (v : Value) (w : World) : (Instr.typeAssert (.iface 103 v) 40 103 true).run Tryz.prog w = .ok (.tuple #[v, .bool true]) w := by kernel_rfl
theorem as_Trigger_Pin (v : Value) (w : World) : (Instr.typeAssert (.iface 103 v) 40 68 true).run Tryz.prog w = .ok (.tuple #[.agg #[.int .i64 0, .int .i64 0], .bool false]) w := by kernel_rfl
theorem as_Trigger_Pinned (v : Value) (w : World) : (Instr.typeAssert (.iface 103 v) 40 70 true).run Tryz.prog w = .ok (.tuple #[.agg #[.int .i64 0, .int .i64 0, .int .i64 0, .int .i64 0, .slice none 0 0, .bool false], .bool false]) w := by kernel_rfl
theorem as_Trigger_Gone (v : Value) (w : World) : (Instr.typeAssert (.iface 103 v) 40 106 true).run Tryz.prog w = .ok (.tuple #[.agg #[.int .i64 0, .int .i64 0, .int .i64 0], .bool false]) w := by kernel_rfl
theorem as_Trigger_Collect (v : Value) (w : World) : (Instr.typeAssert (.iface 103 v) 40 107 true).run Tryz.prog w = .ok (.tuple #[.agg #[.int .i64 0, .int .i64 0], .bool false]) w := by kernel_rfl
theorem as_Trigger_Chunk (v : Value) (w : World) : (Instr.typeAssert (.iface 103 v) 40 75 true).run Tryz.prog w = .ok (.tuple #[.agg #[.int .i64 0, .int .i64 0, .int .i64 0, .int .i64 0, .int .i64 0, .slice none 0 0], .bool false]) w := by kernel_rfl
theorem as_Trigger_Manifest (v : Value) (w : World) : (Instr.typeAssert (.iface 103 v) 40 73 true).run Tryz.prog w = .ok (.tuple #[.agg #[.int .i64 0, .int .i64 0, .int .i64 0, .slice none 0 0], .bool false]) w := by kernel_rfl
theorem as_Trigger_Stored (v : Value) (w : World) : (Instr.typeAssert (.iface 103 v) 40 76 true).run Tryz.prog w = .ok (.tuple #[.agg #[.int .i64 0, .int .i64 0], .bool false]) w := by kernel_rfl
theorem as_Trigger_Unpin (v : Value) (w : World) : (Instr.typeAssert (.iface 103 v) 40 108 true).run Tryz.prog w = .ok (.tuple #[.agg #[.int .i64 0, .int .i64 0], .bool false]) w := by kernel_rfl
theorem as_Trigger_Unpinned (v : Value) (w : World) : (Instr.typeAssert (.iface 103 v) 40 109 true).run Tryz.prog w = .ok (.tuple #[.agg #[.int .i64 0, .int .i64 0, .int .i64 0], .bool false]) w := by kernel_rfl
theorem as_Pin_Trigger (v : Value) (w : World) : (Instr.typeAssert (.iface 68 v) 40 103 true).run Tryz.prog w = .ok (.tuple #[.agg #[.int .i64 0, .int .i64 0, .int .i64 0], .bool false]) w := by kernel_rfl
theorem as_Pin_Pin (v : Value) (w : World) : (Instr.typeAssert (.iface 68 v) 40 68 true).run Tryz.prog w = .ok (.tuple #[v, .bool true]) w := by kernel_rfl
theorem as_Pin_Pinned (v : Value) (w : World) : (Instr.typeAssert (.iface 68 v) 40 70 true).run Tryz.prog w = .ok (.tuple #[.agg #[.int .i64 0, .int .i64 0, .int .i64 0, .int .i64 0, .slice none 0 0, .bool false], .bool false]) w := by kernel_rfl
theorem as_Pin_Gone (v : Value) (w : World) : (Instr.typeAssert (.iface 68 v) 40 106 true).run Tryz.prog w = .ok (.tuple #[.agg #[.int .i64 0, .int .i64 0, .int .i64 0], .bool false]) w := by kernel_rfl
theorem as_Pin_Collect (v : Value) (w : World) : (Instr.typeAssert (.iface 68 v) 40 107 true).run Tryz.prog w = .ok (.tuple #[.agg #[.int .i64 0, .int .i64 0], .bool false]) w := by kernel_rfl
theorem as_Pin_Chunk (v : Value) (w : World) : (Instr.typeAssert (.iface 68 v) 40 75 true).run Tryz.prog w = .ok (.tuple #[.agg #[.int .i64 0, .int .i64 0, .int .i64 0, .int .i64 0, .int .i64 0, .slice none 0 0], .bool false]) w := by kernel_rfl
theorem as_Pin_Manifest (v : Value) (w : World) : (Instr.typeAssert (.iface 68 v) 40 73 true).run Tryz.prog w = .ok (.tuple #[.agg #[.int .i64 0, .int .i64 0, .int .i64 0, .slice none 0 0], .bool false]) w := by kernel_rfl
theorem as_Pin_Stored (v : Value) (w : World) : (Instr.typeAssert (.iface 68 v) 40 76 true).run Tryz.prog w = .ok (.tuple #[.agg #[.int .i64 0, .int .i64 0], .bool false]) w := by kernel_rfl
theorem as_Pin_Unpin (v : Value) (w : World) : (Instr.typeAssert (.iface 68 v) 40 108 true).run Tryz.prog w = .ok (.tuple #[.agg #[.int .i64 0, .int .i64 0], .bool false]) w := by kernel_rfl
theorem as_Pin_Unpinned (v : Value) (w : World) : (Instr.typeAssert (.iface 68 v) 40 109 true).run Tryz.prog w = .ok (.tuple #[.agg #[.int .i64 0, .int .i64 0, .int .i64 0], .bool false]) w := by kernel_rfl
theorem as_Pinned_Trigger (v : Value) (w : World) : (Instr.typeAssert (.iface 70 v) 40 103 true).run Tryz.prog w = .ok (.tuple #[.agg #[.int .i64 0, .int .i64 0, .int .i64 0], .bool false]) w := by kernel_rfl
theorem as_Pinned_Pin (v : Value) (w : World) : (Instr.typeAssert (.iface 70 v) 40 68 true).run Tryz.prog w = .ok (.tuple #[.agg #[.int .i64 0, .int .i64 0], .bool false]) w := by kernel_rfl
theorem as_Pinned_Pinned (v : Value) (w : World) : (Instr.typeAssert (.iface 70 v) 40 70 true).run Tryz.prog w = .ok (.tuple #[v, .bool true]) w := by kernel_rfl
theorem as_Pinned_Gone (v : Value) (w : World) : (Instr.typeAssert (.iface 70 v) 40 106 true).run Tryz.prog w = .ok (.tuple #[.agg #[.int .i64 0, .int .i64 0, .int .i64 0], .bool false]) w := by kernel_rfl
theorem as_Pinned_Collect (v : Value) (w : World) : (Instr.typeAssert (.iface 70 v) 40 107 true).run Tryz.prog w = .ok (.tuple #[.agg #[.int .i64 0, .int .i64 0], .bool false]) w := by kernel_rfl
theorem as_Pinned_Chunk (v : Value) (w : World) : (Instr.typeAssert (.iface 70 v) 40 75 true).run Tryz.prog w = .ok (.tuple #[.agg #[.int .i64 0, .int .i64 0, .int .i64 0, .int .i64 0, .int .i64 0, .slice none 0 0], .bool false]) w := by kernel_rfl
theorem as_Pinned_Manifest (v : Value) (w : World) : (Instr.typeAssert (.iface 70 v) 40 73 true).run Tryz.prog w = .ok (.tuple #[.agg #[.int .i64 0, .int .i64 0, .int .i64 0, .slice none 0 0], .bool false]) w := by kernel_rfl
theorem as_Pinned_Stored (v : Value) (w : World) : (Instr.typeAssert (.iface 70 v) 40 76 true).run Tryz.prog w = .ok (.tuple #[.agg #[.int .i64 0, .int .i64 0], .bool false]) w := by kernel_rfl
theorem as_Pinned_Unpin (v : Value) (w : World) : (Instr.typeAssert (.iface 70 v) 40 108 true).run Tryz.prog w = .ok (.tuple #[.agg #[.int .i64 0, .int .i64 0], .bool false]) w := by kernel_rfl
theorem as_Pinned_Unpinned (v : Value) (w : World) : (Instr.typeAssert (.iface 70 v) 40 109 true).run Tryz.prog w = .ok (.tuple #[.agg #[.int .i64 0, .int .i64 0, .int .i64 0], .bool false]) w := by kernel_rfl
theorem as_Gone_Trigger (v : Value) (w : World) : (Instr.typeAssert (.iface 106 v) 40 103 true).run Tryz.prog w = .ok (.tuple #[.agg #[.int .i64 0, .int .i64 0, .int .i64 0], .bool false]) w := by kernel_rfl
theorem as_Gone_Pin (v : Value) (w : World) : (Instr.typeAssert (.iface 106 v) 40 68 true).run Tryz.prog w = .ok (.tuple #[.agg #[.int .i64 0, .int .i64 0], .bool false]) w := by kernel_rfl
theorem as_Gone_Pinned (v : Value) (w : World) : (Instr.typeAssert (.iface 106 v) 40 70 true).run Tryz.prog w = .ok (.tuple #[.agg #[.int .i64 0, .int .i64 0, .int .i64 0, .int .i64 0, .slice none 0 0, .bool false], .bool false]) w := by kernel_rfl
theorem as_Gone_Gone (v : Value) (w : World) : (Instr.typeAssert (.iface 106 v) 40 106 true).run Tryz.prog w = .ok (.tuple #[v, .bool true]) w := by kernel_rfl
theorem as_Gone_Collect (v : Value) (w : World) : (Instr.typeAssert (.iface 106 v) 40 107 true).run Tryz.prog w = .ok (.tuple #[.agg #[.int .i64 0, .int .i64 0], .bool false]) w := by kernel_rfl
theorem as_Gone_Chunk (v : Value) (w : World) : (Instr.typeAssert (.iface 106 v) 40 75 true).run Tryz.prog w = .ok (.tuple #[.agg #[.int .i64 0, .int .i64 0, .int .i64 0, .int .i64 0, .int .i64 0, .slice none 0 0], .bool false]) w := by kernel_rfl
theorem as_Gone_Manifest (v : Value) (w : World) : (Instr.typeAssert (.iface 106 v) 40 73 true).run Tryz.prog w = .ok (.tuple #[.agg #[.int .i64 0, .int .i64 0, .int .i64 0, .slice none 0 0], .bool false]) w := by kernel_rfl
theorem as_Gone_Stored (v : Value) (w : World) : (Instr.typeAssert (.iface 106 v) 40 76 true).run Tryz.prog w = .ok (.tuple #[.agg #[.int .i64 0, .int .i64 0], .bool false]) w := by kernel_rfl
theorem as_Gone_Unpin (v : Value) (w : World) : (Instr.typeAssert (.iface 106 v) 40 108 true).run Tryz.prog w = .ok (.tuple #[.agg #[.int .i64 0, .int .i64 0], .bool false]) w := by kernel_rfl
theorem as_Gone_Unpinned (v : Value) (w : World) : (Instr.typeAssert (.iface 106 v) 40 109 true).run Tryz.prog w = .ok (.tuple #[.agg #[.int .i64 0, .int .i64 0, .int .i64 0], .bool false]) w := by kernel_rfl
theorem as_Collect_Trigger (v : Value) (w : World) : (Instr.typeAssert (.iface 107 v) 40 103 true).run Tryz.prog w = .ok (.tuple #[.agg #[.int .i64 0, .int .i64 0, .int .i64 0], .bool false]) w := by kernel_rfl
theorem as_Collect_Pin (v : Value) (w : World) : (Instr.typeAssert (.iface 107 v) 40 68 true).run Tryz.prog w = .ok (.tuple #[.agg #[.int .i64 0, .int .i64 0], .bool false]) w := by kernel_rfl
theorem as_Collect_Pinned (v : Value) (w : World) : (Instr.typeAssert (.iface 107 v) 40 70 true).run Tryz.prog w = .ok (.tuple #[.agg #[.int .i64 0, .int .i64 0, .int .i64 0, .int .i64 0, .slice none 0 0, .bool false], .bool false]) w := by kernel_rfl
theorem as_Collect_Gone (v : Value) (w : World) : (Instr.typeAssert (.iface 107 v) 40 106 true).run Tryz.prog w = .ok (.tuple #[.agg #[.int .i64 0, .int .i64 0, .int .i64 0], .bool false]) w := by kernel_rfl
theorem as_Collect_Collect (v : Value) (w : World) : (Instr.typeAssert (.iface 107 v) 40 107 true).run Tryz.prog w = .ok (.tuple #[v, .bool true]) w := by kernel_rfl
theorem as_Collect_Chunk (v : Value) (w : World) : (Instr.typeAssert (.iface 107 v) 40 75 true).run Tryz.prog w = .ok (.tuple #[.agg #[.int .i64 0, .int .i64 0, .int .i64 0, .int .i64 0, .int .i64 0, .slice none 0 0], .bool false]) w := by kernel_rfl
theorem as_Collect_Manifest (v : Value) (w : World) : (Instr.typeAssert (.iface 107 v) 40 73 true).run Tryz.prog w = .ok (.tuple #[.agg #[.int .i64 0, .int .i64 0, .int .i64 0, .slice none 0 0], .bool false]) w := by kernel_rfl
theorem as_Collect_Stored (v : Value) (w : World) : (Instr.typeAssert (.iface 107 v) 40 76 true).run Tryz.prog w = .ok (.tuple #[.agg #[.int .i64 0, .int .i64 0], .bool false]) w := by kernel_rfl
theorem as_Collect_Unpin (v : Value) (w : World) : (Instr.typeAssert (.iface 107 v) 40 108 true).run Tryz.prog w = .ok (.tuple #[.agg #[.int .i64 0, .int .i64 0], .bool false]) w := by kernel_rfl
theorem as_Collect_Unpinned (v : Value) (w : World) : (Instr.typeAssert (.iface 107 v) 40 109 true).run Tryz.prog w = .ok (.tuple #[.agg #[.int .i64 0, .int .i64 0, .int .i64 0], .bool false]) w := by kernel_rfl
theorem as_Chunk_Trigger (v : Value) (w : World) : (Instr.typeAssert (.iface 75 v) 40 103 true).run Tryz.prog w = .ok (.tuple #[.agg #[.int .i64 0, .int .i64 0, .int .i64 0], .bool false]) w := by kernel_rfl
theorem as_Chunk_Pin (v : Value) (w : World) : (Instr.typeAssert (.iface 75 v) 40 68 true).run Tryz.prog w = .ok (.tuple #[.agg #[.int .i64 0, .int .i64 0], .bool false]) w := by kernel_rfl
theorem as_Chunk_Pinned (v : Value) (w : World) : (Instr.typeAssert (.iface 75 v) 40 70 true).run Tryz.prog w = .ok (.tuple #[.agg #[.int .i64 0, .int .i64 0, .int .i64 0, .int .i64 0, .slice none 0 0, .bool false], .bool false]) w := by kernel_rfl
theorem as_Chunk_Gone (v : Value) (w : World) : (Instr.typeAssert (.iface 75 v) 40 106 true).run Tryz.prog w = .ok (.tuple #[.agg #[.int .i64 0, .int .i64 0, .int .i64 0], .bool false]) w := by kernel_rfl
theorem as_Chunk_Collect (v : Value) (w : World) : (Instr.typeAssert (.iface 75 v) 40 107 true).run Tryz.prog w = .ok (.tuple #[.agg #[.int .i64 0, .int .i64 0], .bool false]) w := by kernel_rfl
theorem as_Chunk_Chunk (v : Value) (w : World) : (Instr.typeAssert (.iface 75 v) 40 75 true).run Tryz.prog w = .ok (.tuple #[v, .bool true]) w := by kernel_rfl
theorem as_Chunk_Manifest (v : Value) (w : World) : (Instr.typeAssert (.iface 75 v) 40 73 true).run Tryz.prog w = .ok (.tuple #[.agg #[.int .i64 0, .int .i64 0, .int .i64 0, .slice none 0 0], .bool false]) w := by kernel_rfl
theorem as_Chunk_Stored (v : Value) (w : World) : (Instr.typeAssert (.iface 75 v) 40 76 true).run Tryz.prog w = .ok (.tuple #[.agg #[.int .i64 0, .int .i64 0], .bool false]) w := by kernel_rfl
theorem as_Chunk_Unpin (v : Value) (w : World) : (Instr.typeAssert (.iface 75 v) 40 108 true).run Tryz.prog w = .ok (.tuple #[.agg #[.int .i64 0, .int .i64 0], .bool false]) w := by kernel_rfl
theorem as_Chunk_Unpinned (v : Value) (w : World) : (Instr.typeAssert (.iface 75 v) 40 109 true).run Tryz.prog w = .ok (.tuple #[.agg #[.int .i64 0, .int .i64 0, .int .i64 0], .bool false]) w := by kernel_rfl
theorem as_Manifest_Trigger (v : Value) (w : World) : (Instr.typeAssert (.iface 73 v) 40 103 true).run Tryz.prog w = .ok (.tuple #[.agg #[.int .i64 0, .int .i64 0, .int .i64 0], .bool false]) w := by kernel_rfl
theorem as_Manifest_Pin (v : Value) (w : World) : (Instr.typeAssert (.iface 73 v) 40 68 true).run Tryz.prog w = .ok (.tuple #[.agg #[.int .i64 0, .int .i64 0], .bool false]) w := by kernel_rfl
theorem as_Manifest_Pinned (v : Value) (w : World) : (Instr.typeAssert (.iface 73 v) 40 70 true).run Tryz.prog w = .ok (.tuple #[.agg #[.int .i64 0, .int .i64 0, .int .i64 0, .int .i64 0, .slice none 0 0, .bool false], .bool false]) w := by kernel_rfl
theorem as_Manifest_Gone (v : Value) (w : World) : (Instr.typeAssert (.iface 73 v) 40 106 true).run Tryz.prog w = .ok (.tuple #[.agg #[.int .i64 0, .int .i64 0, .int .i64 0], .bool false]) w := by kernel_rfl
theorem as_Manifest_Collect (v : Value) (w : World) : (Instr.typeAssert (.iface 73 v) 40 107 true).run Tryz.prog w = .ok (.tuple #[.agg #[.int .i64 0, .int .i64 0], .bool false]) w := by kernel_rfl
theorem as_Manifest_Chunk (v : Value) (w : World) : (Instr.typeAssert (.iface 73 v) 40 75 true).run Tryz.prog w = .ok (.tuple #[.agg #[.int .i64 0, .int .i64 0, .int .i64 0, .int .i64 0, .int .i64 0, .slice none 0 0], .bool false]) w := by kernel_rfl
theorem as_Manifest_Manifest (v : Value) (w : World) : (Instr.typeAssert (.iface 73 v) 40 73 true).run Tryz.prog w = .ok (.tuple #[v, .bool true]) w := by kernel_rfl
theorem as_Manifest_Stored (v : Value) (w : World) : (Instr.typeAssert (.iface 73 v) 40 76 true).run Tryz.prog w = .ok (.tuple #[.agg #[.int .i64 0, .int .i64 0], .bool false]) w := by kernel_rfl
theorem as_Manifest_Unpin (v : Value) (w : World) : (Instr.typeAssert (.iface 73 v) 40 108 true).run Tryz.prog w = .ok (.tuple #[.agg #[.int .i64 0, .int .i64 0], .bool false]) w := by kernel_rfl
theorem as_Manifest_Unpinned (v : Value) (w : World) : (Instr.typeAssert (.iface 73 v) 40 109 true).run Tryz.prog w = .ok (.tuple #[.agg #[.int .i64 0, .int .i64 0, .int .i64 0], .bool false]) w := by kernel_rfl
theorem as_Stored_Trigger (v : Value) (w : World) : (Instr.typeAssert (.iface 76 v) 40 103 true).run Tryz.prog w = .ok (.tuple #[.agg #[.int .i64 0, .int .i64 0, .int .i64 0], .bool false]) w := by kernel_rfl
theorem as_Stored_Pin (v : Value) (w : World) : (Instr.typeAssert (.iface 76 v) 40 68 true).run Tryz.prog w = .ok (.tuple #[.agg #[.int .i64 0, .int .i64 0], .bool false]) w := by kernel_rfl
theorem as_Stored_Pinned (v : Value) (w : World) : (Instr.typeAssert (.iface 76 v) 40 70 true).run Tryz.prog w = .ok (.tuple #[.agg #[.int .i64 0, .int .i64 0, .int .i64 0, .int .i64 0, .slice none 0 0, .bool false], .bool false]) w := by kernel_rfl
theorem as_Stored_Gone (v : Value) (w : World) : (Instr.typeAssert (.iface 76 v) 40 106 true).run Tryz.prog w = .ok (.tuple #[.agg #[.int .i64 0, .int .i64 0, .int .i64 0], .bool false]) w := by kernel_rfl
theorem as_Stored_Collect (v : Value) (w : World) : (Instr.typeAssert (.iface 76 v) 40 107 true).run Tryz.prog w = .ok (.tuple #[.agg #[.int .i64 0, .int .i64 0], .bool false]) w := by kernel_rfl
theorem as_Stored_Chunk (v : Value) (w : World) : (Instr.typeAssert (.iface 76 v) 40 75 true).run Tryz.prog w = .ok (.tuple #[.agg #[.int .i64 0, .int .i64 0, .int .i64 0, .int .i64 0, .int .i64 0, .slice none 0 0], .bool false]) w := by kernel_rfl
theorem as_Stored_Manifest (v : Value) (w : World) : (Instr.typeAssert (.iface 76 v) 40 73 true).run Tryz.prog w = .ok (.tuple #[.agg #[.int .i64 0, .int .i64 0, .int .i64 0, .slice none 0 0], .bool false]) w := by kernel_rfl
theorem as_Stored_Stored (v : Value) (w : World) : (Instr.typeAssert (.iface 76 v) 40 76 true).run Tryz.prog w = .ok (.tuple #[v, .bool true]) w := by kernel_rfl
theorem as_Stored_Unpin (v : Value) (w : World) : (Instr.typeAssert (.iface 76 v) 40 108 true).run Tryz.prog w = .ok (.tuple #[.agg #[.int .i64 0, .int .i64 0], .bool false]) w := by kernel_rfl
theorem as_Stored_Unpinned (v : Value) (w : World) : (Instr.typeAssert (.iface 76 v) 40 109 true).run Tryz.prog w = .ok (.tuple #[.agg #[.int .i64 0, .int .i64 0, .int .i64 0], .bool false]) w := by kernel_rfl
theorem as_Unpin_Trigger (v : Value) (w : World) : (Instr.typeAssert (.iface 108 v) 40 103 true).run Tryz.prog w = .ok (.tuple #[.agg #[.int .i64 0, .int .i64 0, .int .i64 0], .bool false]) w := by kernel_rfl
theorem as_Unpin_Pin (v : Value) (w : World) : (Instr.typeAssert (.iface 108 v) 40 68 true).run Tryz.prog w = .ok (.tuple #[.agg #[.int .i64 0, .int .i64 0], .bool false]) w := by kernel_rfl
theorem as_Unpin_Pinned (v : Value) (w : World) : (Instr.typeAssert (.iface 108 v) 40 70 true).run Tryz.prog w = .ok (.tuple #[.agg #[.int .i64 0, .int .i64 0, .int .i64 0, .int .i64 0, .slice none 0 0, .bool false], .bool false]) w := by kernel_rfl
theorem as_Unpin_Gone (v : Value) (w : World) : (Instr.typeAssert (.iface 108 v) 40 106 true).run Tryz.prog w = .ok (.tuple #[.agg #[.int .i64 0, .int .i64 0, .int .i64 0], .bool false]) w := by kernel_rfl
theorem as_Unpin_Collect (v : Value) (w : World) : (Instr.typeAssert (.iface 108 v) 40 107 true).run Tryz.prog w = .ok (.tuple #[.agg #[.int .i64 0, .int .i64 0], .bool false]) w := by kernel_rfl
theorem as_Unpin_Chunk (v : Value) (w : World) : (Instr.typeAssert (.iface 108 v) 40 75 true).run Tryz.prog w = .ok (.tuple #[.agg #[.int .i64 0, .int .i64 0, .int .i64 0, .int .i64 0, .int .i64 0, .slice none 0 0], .bool false]) w := by kernel_rfl
theorem as_Unpin_Manifest (v : Value) (w : World) : (Instr.typeAssert (.iface 108 v) 40 73 true).run Tryz.prog w = .ok (.tuple #[.agg #[.int .i64 0, .int .i64 0, .int .i64 0, .slice none 0 0], .bool false]) w := by kernel_rfl
theorem as_Unpin_Stored (v : Value) (w : World) : (Instr.typeAssert (.iface 108 v) 40 76 true).run Tryz.prog w = .ok (.tuple #[.agg #[.int .i64 0, .int .i64 0], .bool false]) w := by kernel_rfl
theorem as_Unpin_Unpin (v : Value) (w : World) : (Instr.typeAssert (.iface 108 v) 40 108 true).run Tryz.prog w = .ok (.tuple #[v, .bool true]) w := by kernel_rfl
theorem as_Unpin_Unpinned (v : Value) (w : World) : (Instr.typeAssert (.iface 108 v) 40 109 true).run Tryz.prog w = .ok (.tuple #[.agg #[.int .i64 0, .int .i64 0, .int .i64 0], .bool false]) w := by kernel_rfl
theorem as_Unpinned_Trigger (v : Value) (w : World) : (Instr.typeAssert (.iface 109 v) 40 103 true).run Tryz.prog w = .ok (.tuple #[.agg #[.int .i64 0, .int .i64 0, .int .i64 0], .bool false]) w := by kernel_rfl
theorem as_Unpinned_Pin (v : Value) (w : World) : (Instr.typeAssert (.iface 109 v) 40 68 true).run Tryz.prog w = .ok (.tuple #[.agg #[.int .i64 0, .int .i64 0], .bool false]) w := by kernel_rfl
theorem as_Unpinned_Pinned (v : Value) (w : World) : (Instr.typeAssert (.iface 109 v) 40 70 true).run Tryz.prog w = .ok (.tuple #[.agg #[.int .i64 0, .int .i64 0, .int .i64 0, .int .i64 0, .slice none 0 0, .bool false], .bool false]) w := by kernel_rfl
theorem as_Unpinned_Gone (v : Value) (w : World) : (Instr.typeAssert (.iface 109 v) 40 106 true).run Tryz.prog w = .ok (.tuple #[.agg #[.int .i64 0, .int .i64 0, .int .i64 0], .bool false]) w := by kernel_rfl
theorem as_Unpinned_Collect (v : Value) (w : World) : (Instr.typeAssert (.iface 109 v) 40 107 true).run Tryz.prog w = .ok (.tuple #[.agg #[.int .i64 0, .int .i64 0], .bool false]) w := by kernel_rfl
theorem as_Unpinned_Chunk (v : Value) (w : World) : (Instr.typeAssert (.iface 109 v) 40 75 true).run Tryz.prog w = .ok (.tuple #[.agg #[.int .i64 0, .int .i64 0, .int .i64 0, .int .i64 0, .int .i64 0, .slice none 0 0], .bool false]) w := by kernel_rfl
theorem as_Unpinned_Manifest (v : Value) (w : World) : (Instr.typeAssert (.iface 109 v) 40 73 true).run Tryz.prog w = .ok (.tuple #[.agg #[.int .i64 0, .int .i64 0, .int .i64 0, .slice none 0 0], .bool false]) w := by kernel_rfl
theorem as_Unpinned_Stored (v : Value) (w : World) : (Instr.typeAssert (.iface 109 v) 40 76 true).run Tryz.prog w = .ok (.tuple #[.agg #[.int .i64 0, .int .i64 0], .bool false]) w := by kernel_rfl
theorem as_Unpinned_Unpin (v : Value) (w : World) : (Instr.typeAssert (.iface 109 v) 40 108 true).run Tryz.prog w = .ok (.tuple #[.agg #[.int .i64 0, .int .i64 0], .bool false]) w := by kernel_rfl
theorem as_Unpinned_Unpinned (v : Value) (w : World) : (Instr.typeAssert (.iface 109 v) 40 109 true).run Tryz.prog w = .ok (.tuple #[v, .bool true]) w := by kernel_rfl
theorem as_nil_Trigger (w : World) : (Instr.typeAssert .nilIface 40 103 true).run Tryz.prog w = .ok (.tuple #[.agg #[.int .i64 0, .int .i64 0, .int .i64 0], .bool false]) w := by kernel_rfl
theorem as_nil_Pin (w : World) : (Instr.typeAssert .nilIface 40 68 true).run Tryz.prog w = .ok (.tuple #[.agg #[.int .i64 0, .int .i64 0], .bool false]) w := by kernel_rfl
theorem as_nil_Pinned (w : World) : (Instr.typeAssert .nilIface 40 70 true).run Tryz.prog w = .ok (.tuple #[.agg #[.int .i64 0, .int .i64 0, .int .i64 0, .int .i64 0, .slice none 0 0, .bool false], .bool false]) w := by kernel_rfl
theorem as_nil_Gone (w : World) : (Instr.typeAssert .nilIface 40 106 true).run Tryz.prog w = .ok (.tuple #[.agg #[.int .i64 0, .int .i64 0, .int .i64 0], .bool false]) w := by kernel_rfl
theorem as_nil_Collect (w : World) : (Instr.typeAssert .nilIface 40 107 true).run Tryz.prog w = .ok (.tuple #[.agg #[.int .i64 0, .int .i64 0], .bool false]) w := by kernel_rfl
theorem as_nil_Chunk (w : World) : (Instr.typeAssert .nilIface 40 75 true).run Tryz.prog w = .ok (.tuple #[.agg #[.int .i64 0, .int .i64 0, .int .i64 0, .int .i64 0, .int .i64 0, .slice none 0 0], .bool false]) w := by kernel_rfl
theorem as_nil_Manifest (w : World) : (Instr.typeAssert .nilIface 40 73 true).run Tryz.prog w = .ok (.tuple #[.agg #[.int .i64 0, .int .i64 0, .int .i64 0, .slice none 0 0], .bool false]) w := by kernel_rfl
theorem as_nil_Stored (w : World) : (Instr.typeAssert .nilIface 40 76 true).run Tryz.prog w = .ok (.tuple #[.agg #[.int .i64 0, .int .i64 0], .bool false]) w := by kernel_rfl
theorem as_nil_Unpin (w : World) : (Instr.typeAssert .nilIface 40 108 true).run Tryz.prog w = .ok (.tuple #[.agg #[.int .i64 0, .int .i64 0], .bool false]) w := by kernel_rfl
theorem as_nil_Unpinned (w : World) : (Instr.typeAssert .nilIface 40 109 true).run Tryz.prog w = .ok (.tuple #[.agg #[.int .i64 0, .int .i64 0, .int .i64 0], .bool false]) w := by kernel_rfl

set_option maxHeartbeats 1000000 in
set_option maxRecDepth 10000 in
theorem mayBe_Pinned (a t j c : Int) (v : Value) (l : Bool) (xs : List Int) (w : World) (hv : RdI w v xs) :
    Calls Tryz.prog 62 #[mPinned a t j c v l] w fun e w' => e = .returned (.bool (pinB a t j c xs)) ∧ Fr noB w w' := by
  obtain ⟨sa, sc, rfl, hh⟩ := id hv
  unfold mPinned
  have fX := (Fr.refl noB w).alloc (.cells #[.int .i64 a, .int .i64 t, .int .i64 j, .int .i64 c, .slice sa xs.length sc, .bool l] 70)
  have hp := pinned_any a t j c _ l xs _ (hv.fr fX (fun _ _ _ _ _ q => q))
  clear hv hh
  generalize xs.length = n at *
  generalize pinB a t j c xs = b at *
  have q0 := as_Pinned_Trigger
  have q1 := as_Pinned_Pin
  have q2 := as_Pinned_Pinned
  go_enter Tryz.func62, Tryz.ntmps62
  go_wp2_with fail
  refine hp.mono ?_
  rintro e w1 ⟨rfl, f1⟩
  have g1 := fX.seqN f1
  clear fX hp
  go_wp2_with fail
  go_ret
  exact ⟨rfl, g1⟩

def bTrigger (a t c : Int) : Bool := (inB 0 3 a && (inB 1 65535 t && inB 0 3 c))
set_option maxHeartbeats 1000000 in
set_option maxRecDepth 10000 in
theorem mayBe_Trigger (a t c : Int) (w : World) :
    Calls Tryz.prog 62 #[mTrigger a t c] w fun e w' => e = .returned (.bool (bTrigger a t c)) ∧ Fr noB w w' := by
  unfold mTrigger bTrigger
  have fX := (Fr.refl noB w).alloc (.cells #[.int .i64 a, .int .i64 t, .int .i64 c] 103)
  have h0 := isAgent_any a
  have h1 := isTrace_any t
  have h2 := isClass_any c
  have q0 := as_Trigger_Trigger
  go_enter Tryz.func62, Tryz.ntmps62
  go_wp2_with fail
  refine (h0 _).mono ?_
  rintro e w1 ⟨rfl, hw1⟩
  obtain rfl := hw1.symm
  cases hb0 : inB 0 3 a with
  | false =>
    go_wp2_with fail
    go_ret
    exact ⟨by simp [*], fX⟩
  | true =>
    go_wp2_with fail
    refine (h1 _).mono ?_
    rintro e w1 ⟨rfl, hw1⟩
    obtain rfl := hw1.symm
    cases hb1 : inB 1 65535 t with
    | false =>
      go_wp2_with fail
      go_ret
      exact ⟨by simp [*], fX⟩
    | true =>
      go_wp2_with fail
      refine (h2 _).mono ?_
      rintro e w1 ⟨rfl, hw1⟩
      obtain rfl := hw1.symm
      cases hb2 : inB 0 3 c with
      | false =>
        go_wp2_with fail
        go_ret
        exact ⟨by simp [*], fX⟩
      | true =>
        go_wp2_with fail
        go_ret
        exact ⟨by simp [*], fX⟩

def bPin (t j : Int) : Bool := (inB 1 65535 t && inB 1 1073741824 j)
set_option maxHeartbeats 1000000 in
set_option maxRecDepth 10000 in
theorem mayBe_Pin (t j : Int) (w : World) :
    Calls Tryz.prog 62 #[mPin t j] w fun e w' => e = .returned (.bool (bPin t j)) ∧ Fr noB w w' := by
  unfold mPin bPin
  have fX := (Fr.refl noB w).alloc (.cells #[.int .i64 t, .int .i64 j] 68)
  have h0 := isTrace_any t
  have h1 := isJob_any j
  have q0 := as_Pin_Trigger
  have q1 := as_Pin_Pin
  go_enter Tryz.func62, Tryz.ntmps62
  go_wp2_with fail
  refine (h0 _).mono ?_
  rintro e w1 ⟨rfl, hw1⟩
  obtain rfl := hw1.symm
  cases hb0 : inB 1 65535 t with
  | false =>
    go_wp2_with fail
    go_ret
    exact ⟨by simp [*], fX⟩
  | true =>
    go_wp2_with fail
    refine (h1 _).mono ?_
    rintro e w1 ⟨rfl, hw1⟩
    obtain rfl := hw1.symm
    cases hb1 : inB 1 1073741824 j with
    | false =>
      go_wp2_with fail
      go_ret
      exact ⟨by simp [*], fX⟩
    | true =>
      go_wp2_with fail
      go_ret
      exact ⟨by simp [*], fX⟩

def bGone (a t j : Int) : Bool := (inB 0 3 a && (inB 1 65535 t && inB 1 1073741824 j))
set_option maxHeartbeats 1000000 in
set_option maxRecDepth 10000 in
theorem mayBe_Gone (a t j : Int) (w : World) :
    Calls Tryz.prog 62 #[mGone a t j] w fun e w' => e = .returned (.bool (bGone a t j)) ∧ Fr noB w w' := by
  unfold mGone bGone
  have fX := (Fr.refl noB w).alloc (.cells #[.int .i64 a, .int .i64 t, .int .i64 j] 106)
  have h0 := isAgent_any a
  have h1 := isTrace_any t
  have h2 := isJob_any j
  have q0 := as_Gone_Trigger
  have q1 := as_Gone_Pin
  have q2 := as_Gone_Pinned
  have q3 := as_Gone_Gone
  go_enter Tryz.func62, Tryz.ntmps62
  go_wp2_with fail
  refine (h0 _).mono ?_
  rintro e w1 ⟨rfl, hw1⟩
  obtain rfl := hw1.symm
  cases hb0 : inB 0 3 a with
  | false =>
    go_wp2_with fail
    go_ret
    exact ⟨by simp [*], fX⟩
  | true =>
    go_wp2_with fail
    refine (h1 _).mono ?_
    rintro e w1 ⟨rfl, hw1⟩
    obtain rfl := hw1.symm
    cases hb1 : inB 1 65535 t with
    | false =>
      go_wp2_with fail
      go_ret
      exact ⟨by simp [*], fX⟩
    | true =>
      go_wp2_with fail
      refine (h2 _).mono ?_
      rintro e w1 ⟨rfl, hw1⟩
      obtain rfl := hw1.symm
      cases hb2 : inB 1 1073741824 j with
      | false =>
        go_wp2_with fail
        go_ret
        exact ⟨by simp [*], fX⟩
      | true =>
        go_wp2_with fail
        go_ret
        exact ⟨by simp [*], fX⟩

def bCollect (t j : Int) : Bool := (inB 1 65535 t && inB 1 1073741824 j)
set_option maxHeartbeats 1000000 in
set_option maxRecDepth 10000 in
theorem mayBe_Collect (t j : Int) (w : World) :
    Calls Tryz.prog 62 #[mCollect t j] w fun e w' => e = .returned (.bool (bCollect t j)) ∧ Fr noB w w' := by
  unfold mCollect bCollect
  have fX := (Fr.refl noB w).alloc (.cells #[.int .i64 t, .int .i64 j] 107)
  have h0 := isTrace_any t
  have h1 := isJob_any j
  have q0 := as_Collect_Trigger
  have q1 := as_Collect_Pin
  have q2 := as_Collect_Pinned
  have q3 := as_Collect_Gone
  have q4 := as_Collect_Collect
  go_enter Tryz.func62, Tryz.ntmps62
  go_wp2_with fail
  refine (h0 _).mono ?_
  rintro e w1 ⟨rfl, hw1⟩
  obtain rfl := hw1.symm
  cases hb0 : inB 1 65535 t with
  | false =>
    go_wp2_with fail
    go_ret
    exact ⟨by simp [*], fX⟩
  | true =>
    go_wp2_with fail
    refine (h1 _).mono ?_
    rintro e w1 ⟨rfl, hw1⟩
    obtain rfl := hw1.symm
    cases hb1 : inB 1 1073741824 j with
    | false =>
      go_wp2_with fail
      go_ret
      exact ⟨by simp [*], fX⟩
    | true =>
      go_wp2_with fail
      go_ret
      exact ⟨by simp [*], fX⟩

def bStored (t j : Int) : Bool := (inB 1 65535 t && inB 1 1073741824 j)
set_option maxHeartbeats 1000000 in
set_option maxRecDepth 10000 in
theorem mayBe_Stored (t j : Int) (w : World) :
    Calls Tryz.prog 62 #[mStored t j] w fun e w' => e = .returned (.bool (bStored t j)) ∧ Fr noB w w' := by
  unfold mStored bStored
  have fX := (Fr.refl noB w).alloc (.cells #[.int .i64 t, .int .i64 j] 76)
  have h0 := isTrace_any t
  have h1 := isJob_any j
  have q0 := as_Stored_Trigger
  have q1 := as_Stored_Pin
  have q2 := as_Stored_Pinned
  have q3 := as_Stored_Gone
  have q4 := as_Stored_Collect
  have q5 := as_Stored_Chunk
  have q6 := as_Stored_Manifest
  have q7 := as_Stored_Stored
  go_enter Tryz.func62, Tryz.ntmps62
  go_wp2_with fail
  refine (h0 _).mono ?_
  rintro e w1 ⟨rfl, hw1⟩
  obtain rfl := hw1.symm
  cases hb0 : inB 1 65535 t with
  | false =>
    go_wp2_with fail
    go_ret
    exact ⟨by simp [*], fX⟩
  | true =>
    go_wp2_with fail
    refine (h1 _).mono ?_
    rintro e w1 ⟨rfl, hw1⟩
    obtain rfl := hw1.symm
    cases hb1 : inB 1 1073741824 j with
    | false =>
      go_wp2_with fail
      go_ret
      exact ⟨by simp [*], fX⟩
    | true =>
      go_wp2_with fail
      go_ret
      exact ⟨by simp [*], fX⟩

def bUnpin (t j : Int) : Bool := (inB 1 65535 t && inB 1 1073741824 j)
set_option maxHeartbeats 1000000 in
set_option maxRecDepth 10000 in
theorem mayBe_Unpin (t j : Int) (w : World) :
    Calls Tryz.prog 62 #[mUnpin t j] w fun e w' => e = .returned (.bool (bUnpin t j)) ∧ Fr noB w w' := by
  unfold mUnpin bUnpin
  have fX := (Fr.refl noB w).alloc (.cells #[.int .i64 t, .int .i64 j] 108)
  have h0 := isTrace_any t
  have h1 := isJob_any j
  have q0 := as_Unpin_Trigger
  have q1 := as_Unpin_Pin
  have q2 := as_Unpin_Pinned
  have q3 := as_Unpin_Gone
  have q4 := as_Unpin_Collect
  have q5 := as_Unpin_Chunk
  have q6 := as_Unpin_Manifest
  have q7 := as_Unpin_Stored
  have q8 := as_Unpin_Unpin
  go_enter Tryz.func62, Tryz.ntmps62
  go_wp2_with fail
  refine (h0 _).mono ?_
  rintro e w1 ⟨rfl, hw1⟩
  obtain rfl := hw1.symm
  cases hb0 : inB 1 65535 t with
  | false =>
    go_wp2_with fail
    go_ret
    exact ⟨by simp [*], fX⟩
  | true =>
    go_wp2_with fail
    refine (h1 _).mono ?_
    rintro e w1 ⟨rfl, hw1⟩
    obtain rfl := hw1.symm
    cases hb1 : inB 1 1073741824 j with
    | false =>
      go_wp2_with fail
      go_ret
      exact ⟨by simp [*], fX⟩
    | true =>
      go_wp2_with fail
      go_ret
      exact ⟨by simp [*], fX⟩

def bUnpinned (a t j : Int) : Bool := (inB 0 3 a && (inB 1 65535 t && inB 1 1073741824 j))
set_option maxHeartbeats 1000000 in
set_option maxRecDepth 10000 in
theorem mayBe_Unpinned (a t j : Int) (w : World) :
    Calls Tryz.prog 62 #[mUnpinned a t j] w fun e w' => e = .returned (.bool (bUnpinned a t j)) ∧ Fr noB w w' := by
  unfold mUnpinned bUnpinned
  have fX := (Fr.refl noB w).alloc (.cells #[.int .i64 a, .int .i64 t, .int .i64 j] 109)
  have h0 := isAgent_any a
  have h1 := isTrace_any t
  have h2 := isJob_any j
  have q0 := as_Unpinned_Trigger
  have q1 := as_Unpinned_Pin
  have q2 := as_Unpinned_Pinned
  have q3 := as_Unpinned_Gone
  have q4 := as_Unpinned_Collect
  have q5 := as_Unpinned_Chunk
  have q6 := as_Unpinned_Manifest
  have q7 := as_Unpinned_Stored
  have q8 := as_Unpinned_Unpin
  have q9 := as_Unpinned_Unpinned
  go_enter Tryz.func62, Tryz.ntmps62
  go_wp2_with fail
  refine (h0 _).mono ?_
  rintro e w1 ⟨rfl, hw1⟩
  obtain rfl := hw1.symm
  cases hb0 : inB 0 3 a with
  | false =>
    go_wp2_with fail
    go_ret
    exact ⟨by simp [*], fX⟩
  | true =>
    go_wp2_with fail
    refine (h1 _).mono ?_
    rintro e w1 ⟨rfl, hw1⟩
    obtain rfl := hw1.symm
    cases hb1 : inB 1 65535 t with
    | false =>
      go_wp2_with fail
      go_ret
      exact ⟨by simp [*], fX⟩
    | true =>
      go_wp2_with fail
      refine (h2 _).mono ?_
      rintro e w1 ⟨rfl, hw1⟩
      obtain rfl := hw1.symm
      cases hb2 : inB 1 1073741824 j with
      | false =>
        go_wp2_with fail
        go_ret
        exact ⟨by simp [*], fX⟩
      | true =>
        go_wp2_with fail
        go_ret
        exact ⟨by simp [*], fX⟩

set_option maxHeartbeats 1000000 in
set_option maxRecDepth 10000 in
theorem mayBe_nil (w : World) : Calls Tryz.prog 62 #[.nilIface] w fun e w' => e = .returned (.bool false) ∧ w' = w := by
  have q0 := as_nil_Trigger
  have q1 := as_nil_Pin
  have q2 := as_nil_Pinned
  have q3 := as_nil_Gone
  have q4 := as_nil_Collect
  have q5 := as_nil_Chunk
  have q6 := as_nil_Manifest
  have q7 := as_nil_Stored
  have q8 := as_nil_Unpin
  have q9 := as_nil_Unpinned
  go_enter Tryz.func62, Tryz.ntmps62
  go_wp2_with fail
  go_ret
  exact ⟨rfl, rfl⟩

/-- Right is just that -/
theorem right_of {m : Value} {b : Bool} {w : World} (h : Calls Tryz.prog 62 #[m] w fun e w' => e = .returned (.bool b) ∧ Fr noB w w') :
    Calls Tryz.prog 40 #[m] w fun e w' => e = .returned (.bool b) ∧ Fr noB w w' := by
  go_enter Tryz.func40, Tryz.ntmps40
  go_wp2_with fail
  refine h.mono ?_
  rintro e w1 ⟨rfl, f1⟩
  clear h
  go_wp2_with fail
  go_ret
  exact ⟨rfl, f1⟩

set_option maxHeartbeats 1000000 in
set_option maxRecDepth 10000 in
theorem of_Trigger (a t c : Int) (w : World) :
    Calls Tryz.prog 54 #[mTrigger a t c] w fun e w' => e = .returned (.tuple #[.int .i64 t, .int .i64 0, .bool true]) ∧ Fr noB w w' := by
  unfold mTrigger
  have fX := (Fr.refl noB w).alloc (.cells #[.int .i64 a, .int .i64 t, .int .i64 c] 103)
  have q0 := as_Trigger_Trigger
  go_enter Tryz.func54, Tryz.ntmps54
  go_wp2_with fail
  first
    | (go_quiet (fail); go_wp2_with fail)
    | skip
  go_ret3
  first | exact ⟨rfl, fX⟩ | exact ⟨rfl, fY⟩ | exact ⟨rfl, fY.drewN _⟩

set_option maxHeartbeats 1000000 in
set_option maxRecDepth 10000 in
theorem of_Pin (t j : Int) (w : World) :
    Calls Tryz.prog 54 #[mPin t j] w fun e w' => e = .returned (.tuple #[.int .i64 t, .int .i64 j, .bool true]) ∧ Fr noB w w' := by
  unfold mPin
  have fX := (Fr.refl noB w).alloc (.cells #[.int .i64 t, .int .i64 j] 68)
  have fY := ((Fr.refl noB w).alloc (.cells #[.int .i64 0, .int .i64 0, .int .i64 0] 103)).alloc (.cells #[.int .i64 t, .int .i64 j] 68)
  have q0 := as_Pin_Trigger
  have q1 := as_Pin_Pin
  go_enter Tryz.func54, Tryz.ntmps54
  go_wp2_with fail
  first
    | (go_quiet (fail); go_wp2_with fail)
    | skip
  go_ret3
  first | exact ⟨rfl, fX⟩ | exact ⟨rfl, fY⟩ | exact ⟨rfl, fY.drewN _⟩

set_option maxHeartbeats 1000000 in
set_option maxRecDepth 10000 in
theorem of_Pinned (a t j c : Int) (sa : Option Addr) (sn sc : Nat) (l : Bool) (w : World) :
    Calls Tryz.prog 54 #[mPinned a t j c (.slice sa sn sc) l] w fun e w' => e = .returned (.tuple #[.int .i64 t, .int .i64 j, .bool true]) ∧ Fr noB w w' := by
  unfold mPinned
  have fX := (Fr.refl noB w).alloc (.cells #[.int .i64 a, .int .i64 t, .int .i64 j, .int .i64 c, .slice sa sn sc, .bool l] 70)
  have fY := ((Fr.refl noB w).alloc (.cells #[.int .i64 0, .int .i64 0, .int .i64 0] 103)).alloc (.cells #[.int .i64 a, .int .i64 t, .int .i64 j, .int .i64 c, .slice sa sn sc, .bool l] 70)
  have q0 := as_Pinned_Trigger
  have q1 := as_Pinned_Pin
  have q2 := as_Pinned_Pinned
  go_enter Tryz.func54, Tryz.ntmps54
  go_wp2_with fail
  first
    | (go_quiet (fail); go_wp2_with fail)
    | skip
  go_ret3
  first | exact ⟨rfl, fX⟩ | exact ⟨rfl, fY⟩ | exact ⟨rfl, fY.drewN _⟩

set_option maxHeartbeats 1000000 in
set_option maxRecDepth 10000 in
theorem of_Gone (a t j : Int) (w : World) :
    Calls Tryz.prog 54 #[mGone a t j] w fun e w' => e = .returned (.tuple #[.int .i64 t, .int .i64 j, .bool true]) ∧ Fr noB w w' := by
  unfold mGone
  have fX := (Fr.refl noB w).alloc (.cells #[.int .i64 a, .int .i64 t, .int .i64 j] 106)
  have fY := ((Fr.refl noB w).alloc (.cells #[.int .i64 0, .int .i64 0, .int .i64 0] 103)).alloc (.cells #[.int .i64 a, .int .i64 t, .int .i64 j] 106)
  have q0 := as_Gone_Trigger
  have q1 := as_Gone_Pin
  have q2 := as_Gone_Pinned
  have q3 := as_Gone_Gone
  go_enter Tryz.func54, Tryz.ntmps54
  go_wp2_with fail
  first
    | (go_quiet (fail); go_wp2_with fail)
    | skip
  go_ret3
  first | exact ⟨rfl, fX⟩ | exact ⟨rfl, fY⟩ | exact ⟨rfl, fY.drewN _⟩

set_option maxHeartbeats 1000000 in
set_option maxRecDepth 10000 in
theorem of_Collect (t j : Int) (w : World) :
    Calls Tryz.prog 54 #[mCollect t j] w fun e w' => e = .returned (.tuple #[.int .i64 t, .int .i64 j, .bool true]) ∧ Fr noB w w' := by
  unfold mCollect
  have fX := (Fr.refl noB w).alloc (.cells #[.int .i64 t, .int .i64 j] 107)
  have fY := ((Fr.refl noB w).alloc (.cells #[.int .i64 0, .int .i64 0, .int .i64 0] 103)).alloc (.cells #[.int .i64 t, .int .i64 j] 107)
  have q0 := as_Collect_Trigger
  have q1 := as_Collect_Pin
  have q2 := as_Collect_Pinned
  have q3 := as_Collect_Gone
  have q4 := as_Collect_Collect
  go_enter Tryz.func54, Tryz.ntmps54
  go_wp2_with fail
  first
    | (go_quiet (fail); go_wp2_with fail)
    | skip
  go_ret3
  first | exact ⟨rfl, fX⟩ | exact ⟨rfl, fY⟩ | exact ⟨rfl, fY.drewN _⟩

set_option maxHeartbeats 1000000 in
set_option maxRecDepth 10000 in
theorem of_Chunk (a t j i n : Int) (sa : Option Addr) (sn sc : Nat) (w : World) :
    Calls Tryz.prog 54 #[mChunk a t j i n (.slice sa sn sc)] w fun e w' => e = .returned (.tuple #[.int .i64 t, .int .i64 j, .bool true]) ∧ Fr noB w w' := by
  unfold mChunk
  have fX := (Fr.refl noB w).alloc (.cells #[.int .i64 a, .int .i64 t, .int .i64 j, .int .i64 i, .int .i64 n, .slice sa sn sc] 75)
  have fY := ((Fr.refl noB w).alloc (.cells #[.int .i64 0, .int .i64 0, .int .i64 0] 103)).alloc (.cells #[.int .i64 a, .int .i64 t, .int .i64 j, .int .i64 i, .int .i64 n, .slice sa sn sc] 75)
  have q0 := as_Chunk_Trigger
  have q1 := as_Chunk_Pin
  have q2 := as_Chunk_Pinned
  have q3 := as_Chunk_Gone
  have q4 := as_Chunk_Collect
  have q5 := as_Chunk_Chunk
  go_enter Tryz.func54, Tryz.ntmps54
  go_wp2_with fail
  first
    | (go_quiet (fail); go_wp2_with fail)
    | skip
  go_ret3
  first | exact ⟨rfl, fX⟩ | exact ⟨rfl, fY⟩ | exact ⟨rfl, fY.drewN _⟩

set_option maxHeartbeats 1000000 in
set_option maxRecDepth 10000 in
theorem of_Manifest (t j c : Int) (sa : Option Addr) (sn sc : Nat) (w : World) :
    Calls Tryz.prog 54 #[mManifest t j c (.slice sa sn sc)] w fun e w' => e = .returned (.tuple #[.int .i64 t, .int .i64 j, .bool true]) ∧ Fr noB w w' := by
  unfold mManifest
  have fX := (Fr.refl noB w).alloc (.cells #[.int .i64 t, .int .i64 j, .int .i64 c, .slice sa sn sc] 73)
  have fY := ((Fr.refl noB w).alloc (.cells #[.int .i64 0, .int .i64 0, .int .i64 0] 103)).alloc (.cells #[.int .i64 t, .int .i64 j, .int .i64 c, .slice sa sn sc] 73)
  have q0 := as_Manifest_Trigger
  have q1 := as_Manifest_Pin
  have q2 := as_Manifest_Pinned
  have q3 := as_Manifest_Gone
  have q4 := as_Manifest_Collect
  have q5 := as_Manifest_Chunk
  have q6 := as_Manifest_Manifest
  go_enter Tryz.func54, Tryz.ntmps54
  go_wp2_with fail
  first
    | (go_quiet (fail); go_wp2_with fail)
    | skip
  go_ret3
  first | exact ⟨rfl, fX⟩ | exact ⟨rfl, fY⟩ | exact ⟨rfl, fY.drewN _⟩

set_option maxHeartbeats 1000000 in
set_option maxRecDepth 10000 in
theorem of_Stored (t j : Int) (w : World) :
    Calls Tryz.prog 54 #[mStored t j] w fun e w' => e = .returned (.tuple #[.int .i64 t, .int .i64 j, .bool true]) ∧ Fr noB w w' := by
  unfold mStored
  have fX := (Fr.refl noB w).alloc (.cells #[.int .i64 t, .int .i64 j] 76)
  have fY := ((Fr.refl noB w).alloc (.cells #[.int .i64 0, .int .i64 0, .int .i64 0] 103)).alloc (.cells #[.int .i64 t, .int .i64 j] 76)
  have q0 := as_Stored_Trigger
  have q1 := as_Stored_Pin
  have q2 := as_Stored_Pinned
  have q3 := as_Stored_Gone
  have q4 := as_Stored_Collect
  have q5 := as_Stored_Chunk
  have q6 := as_Stored_Manifest
  have q7 := as_Stored_Stored
  go_enter Tryz.func54, Tryz.ntmps54
  go_wp2_with fail
  first
    | (go_quiet (fail); go_wp2_with fail)
    | skip
  go_ret3
  first | exact ⟨rfl, fX⟩ | exact ⟨rfl, fY⟩ | exact ⟨rfl, fY.drewN _⟩

set_option maxHeartbeats 1000000 in
set_option maxRecDepth 10000 in
theorem of_Unpin (t j : Int) (w : World) :
    Calls Tryz.prog 54 #[mUnpin t j] w fun e w' => e = .returned (.tuple #[.int .i64 t, .int .i64 j, .bool true]) ∧ Fr noB w w' := by
  unfold mUnpin
  have fX := (Fr.refl noB w).alloc (.cells #[.int .i64 t, .int .i64 j] 108)
  have fY := ((Fr.refl noB w).alloc (.cells #[.int .i64 0, .int .i64 0, .int .i64 0] 103)).alloc (.cells #[.int .i64 t, .int .i64 j] 108)
  have q0 := as_Unpin_Trigger
  have q1 := as_Unpin_Pin
  have q2 := as_Unpin_Pinned
  have q3 := as_Unpin_Gone
  have q4 := as_Unpin_Collect
  have q5 := as_Unpin_Chunk
  have q6 := as_Unpin_Manifest
  have q7 := as_Unpin_Stored
  have q8 := as_Unpin_Unpin
  go_enter Tryz.func54, Tryz.ntmps54
  go_wp2_with fail
  first
    | (go_quiet (fail); go_wp2_with fail)
    | skip
  go_ret3
  first | exact ⟨rfl, fX⟩ | exact ⟨rfl, fY⟩ | exact ⟨rfl, fY.drewN _⟩

set_option maxHeartbeats 1000000 in
set_option maxRecDepth 10000 in
theorem of_Unpinned (a t j : Int) (w : World) :
    Calls Tryz.prog 54 #[mUnpinned a t j] w fun e w' => e = .returned (.tuple #[.int .i64 t, .int .i64 j, .bool true]) ∧ Fr noB w w' := by
  unfold mUnpinned
  have fX := (Fr.refl noB w).alloc (.cells #[.int .i64 a, .int .i64 t, .int .i64 j] 109)
  have fY := ((Fr.refl noB w).alloc (.cells #[.int .i64 0, .int .i64 0, .int .i64 0] 103)).alloc (.cells #[.int .i64 a, .int .i64 t, .int .i64 j] 109)
  have q0 := as_Unpinned_Trigger
  have q1 := as_Unpinned_Pin
  have q2 := as_Unpinned_Pinned
  have q3 := as_Unpinned_Gone
  have q4 := as_Unpinned_Collect
  have q5 := as_Unpinned_Chunk
  have q6 := as_Unpinned_Manifest
  have q7 := as_Unpinned_Stored
  have q8 := as_Unpinned_Unpin
  have q9 := as_Unpinned_Unpinned
  go_enter Tryz.func54, Tryz.ntmps54
  go_wp2_with fail
  first
    | (go_quiet (fail); go_wp2_with fail)
    | skip
  go_ret3
  first | exact ⟨rfl, fX⟩ | exact ⟨rfl, fY⟩ | exact ⟨rfl, fY.drewN _⟩

theorem of_of {m : Value} {v : Value} {t j : Int} {w : World} (h : Calls Tryz.prog 54 #[m] w fun e w' => e = .returned (.tuple #[.int .i64 t, .int .i64 j, .bool true]) ∧ Fr noB w w') :
    Calls Tryz.prog 26 #[m] w fun e w' => e = .returned (.tuple #[.int .i64 t, .int .i64 j, .bool true]) ∧ Fr noB w w' := by
  go_enter Tryz.func26, Tryz.ntmps26
  go_wp2_with fail
  refine h.mono ?_
  rintro e w1 ⟨rfl, f1⟩
  clear h
  go_wp2_with fail
  go_ret3
  exact ⟨rfl, f1⟩
end Go.Proofs.YtdmhnoffejjpnaaGreatDoor
end
