/-
  Where there is no job: New refuses. The document's answers: within, part, Right of what a job is told.
-/
import Derived.Test.YtppgachfobpgbaaJobLaws

set_option linter.unusedVariables false
set_option linter.unusedSimpArgs false
set_option maxRecDepth 100000
namespace Go.Proofs.Ytppgachfobpgbaa
open Go.RowKit Go Go.Lib

set_option maxHeartbeats 1000000 in
set_option maxRecDepth 10000 in
theorem new_high (id ag a t c : Int) (w : World) (h : bTrigger a t c = true) (hid : 1 ≤ id) (hx : 1073741824 < id) :
    Calls Try.prog 10 #[.int .i64 id, .int .i64 ag, .agg #[.int .i64 a, .int .i64 t, .int .i64 c]] w fun e w' => e = .returned (.pointer none) ∧ Fr noB w w' := by
  have fX := (Fr.refl noB w).alloc (.cells #[.int .i64 a, .int .i64 t, .int .i64 c] 23)
  have bX := Blk.new w 23 [.int .i64 a, .int .i64 t, .int .i64 c]
  have hr := right_of (mayBe_Trigger a t c (w.alloc (.cells #[.int .i64 a, .int .i64 t, .int .i64 c] 23)))
  rw [h] at hr
  unfold mTrigger at hr
  have hd0 : decide (id < 1) = false := by simp; omega
  have hd1 : decide (1073741824 < id) = true := by simp; omega
  go_enter Try.func10, Try.ntmps10
  go_wp2_with fail
  refine hr.mono ?_
  rintro e w1 ⟨rfl, f1⟩
  have g1 := fX.seqN f1
  have c0 : w1.cell? ⟨w.heap.size, 0, none⟩ = some (.int .i64 a) := (f1.blk bX (fun q => q)).cell 0
  clear hr fX f1 bX
  go_wp2_with fail
  go_ret
  exact ⟨rfl, g1⟩
set_option maxHeartbeats 1000000 in
set_option maxRecDepth 10000 in
theorem new_none (id ag a t c : Int) (w : World) (h : bTrigger a t c = true) (hid : 1 ≤ id) (hid2 : id ≤ 1073741824) (hx : ag < 1) :
    Calls Try.prog 10 #[.int .i64 id, .int .i64 ag, .agg #[.int .i64 a, .int .i64 t, .int .i64 c]] w fun e w' => e = .returned (.pointer none) ∧ Fr noB w w' := by
  have fX := (Fr.refl noB w).alloc (.cells #[.int .i64 a, .int .i64 t, .int .i64 c] 23)
  have bX := Blk.new w 23 [.int .i64 a, .int .i64 t, .int .i64 c]
  have hr := right_of (mayBe_Trigger a t c (w.alloc (.cells #[.int .i64 a, .int .i64 t, .int .i64 c] 23)))
  rw [h] at hr
  unfold mTrigger at hr
  have hd0 : decide (id < 1) = false := by simp; omega
  have hd1 : decide (1073741824 < id) = false := by simp; omega
  have hd2 : decide (ag < 1) = true := by simp; omega
  go_enter Try.func10, Try.ntmps10
  go_wp2_with fail
  refine hr.mono ?_
  rintro e w1 ⟨rfl, f1⟩
  have g1 := fX.seqN f1
  have c0 : w1.cell? ⟨w.heap.size, 0, none⟩ = some (.int .i64 a) := (f1.blk bX (fun q => q)).cell 0
  clear hr fX f1 bX
  go_wp2_with fail
  go_ret
  exact ⟨rfl, g1⟩
set_option maxHeartbeats 1000000 in
set_option maxRecDepth 10000 in
theorem new_many (id ag a t c : Int) (w : World) (h : bTrigger a t c = true) (hid : 1 ≤ id) (hid2 : id ≤ 1073741824) (hg : 1 ≤ ag) (hx : 4 < ag) :
    Calls Try.prog 10 #[.int .i64 id, .int .i64 ag, .agg #[.int .i64 a, .int .i64 t, .int .i64 c]] w fun e w' => e = .returned (.pointer none) ∧ Fr noB w w' := by
  have fX := (Fr.refl noB w).alloc (.cells #[.int .i64 a, .int .i64 t, .int .i64 c] 23)
  have bX := Blk.new w 23 [.int .i64 a, .int .i64 t, .int .i64 c]
  have hr := right_of (mayBe_Trigger a t c (w.alloc (.cells #[.int .i64 a, .int .i64 t, .int .i64 c] 23)))
  rw [h] at hr
  unfold mTrigger at hr
  have hd0 : decide (id < 1) = false := by simp; omega
  have hd1 : decide (1073741824 < id) = false := by simp; omega
  have hd2 : decide (ag < 1) = false := by simp; omega
  have hd3 : decide (4 < ag) = true := by simp; omega
  go_enter Try.func10, Try.ntmps10
  go_wp2_with fail
  refine hr.mono ?_
  rintro e w1 ⟨rfl, f1⟩
  have g1 := fX.seqN f1
  have c0 : w1.cell? ⟨w.heap.size, 0, none⟩ = some (.int .i64 a) := (f1.blk bX (fun q => q)).cell 0
  clear hr fX f1 bX
  go_wp2_with fail
  go_ret
  exact ⟨rfl, g1⟩
set_option maxHeartbeats 1000000 in
set_option maxRecDepth 10000 in
theorem new_far (id ag a t c : Int) (w : World) (h : bTrigger a t c = true) (hid : 1 ≤ id) (hid2 : id ≤ 1073741824) (hg : 1 ≤ ag) (hg4 : ag ≤ 4) (hx : ag ≤ a) :
    Calls Try.prog 10 #[.int .i64 id, .int .i64 ag, .agg #[.int .i64 a, .int .i64 t, .int .i64 c]] w fun e w' => e = .returned (.pointer none) ∧ Fr noB w w' := by
  have fX := (Fr.refl noB w).alloc (.cells #[.int .i64 a, .int .i64 t, .int .i64 c] 23)
  have bX := Blk.new w 23 [.int .i64 a, .int .i64 t, .int .i64 c]
  have hr := right_of (mayBe_Trigger a t c (w.alloc (.cells #[.int .i64 a, .int .i64 t, .int .i64 c] 23)))
  rw [h] at hr
  unfold mTrigger at hr
  have hd0 : decide (id < 1) = false := by simp; omega
  have hd1 : decide (1073741824 < id) = false := by simp; omega
  have hd2 : decide (ag < 1) = false := by simp; omega
  have hd3 : decide (4 < ag) = false := by simp; omega
  have hd4 : decide (ag ≤ a) = true := by simp; omega
  go_enter Try.func10, Try.ntmps10
  go_wp2_with fail
  refine hr.mono ?_
  rintro e w1 ⟨rfl, f1⟩
  have g1 := fX.seqN f1
  have c0 : w1.cell? ⟨w.heap.size, 0, none⟩ = some (.int .i64 a) := (f1.blk bX (fun q => q)).cell 0
  clear hr fX f1 bX
  go_wp2_with fail
  go_ret
  exact ⟨rfl, g1⟩
/-- There is a job just if the trigger may be, and so on. -/
def mayNew (id ag a t c : Int) : Bool := bTrigger a t c && (inB 1 1073741824 id && (inB 1 4 ag && decide (a < ag)))
theorem new_nil (id ag a t c : Int) (w : World) (h : mayNew id ag a t c = false) :
    Calls Try.prog 10 #[.int .i64 id, .int .i64 ag, .agg #[.int .i64 a, .int .i64 t, .int .i64 c]] w fun e w' => e = .returned (.pointer none) ∧ Fr noB w w' := by
  cases hb : bTrigger a t c with
  | false => exact new_no id ag a t c w hb
  | true =>
    by_cases h1 : id < 1
    · exact new_low id ag a t c w hb h1
    by_cases h2 : 1073741824 < id
    · exact new_high id ag a t c w hb (by omega) h2
    by_cases h3 : ag < 1
    · exact new_none id ag a t c w hb (by omega) (by omega) h3
    by_cases h4 : 4 < ag
    · exact new_many id ag a t c w hb (by omega) (by omega) (by omega) h4
    by_cases h5 : ag ≤ a
    · exact new_far id ag a t c w hb (by omega) (by omega) (by omega) (by omega) h5
    · exfalso
      unfold mayNew inB at h
      rw [hb, decide_eq_true (show 1 ≤ id by omega), decide_eq_true (show id ≤ 1073741824 by omega), decide_eq_true (show 1 ≤ ag by omega), decide_eq_true (show ag ≤ 4 by omega), decide_eq_true (show a < ag by omega)] at h
      cases h
theorem within_any (n lo hi : Int) (w : World) : Calls Try.prog 46 #[.int .i64 n, .int .i64 lo, .int .i64 hi] w fun e w' => e = .returned (.bool (inB lo hi n)) ∧ w' = w := by
  unfold inB
  by_cases h1 : lo ≤ n
  · have d1 : decide (lo ≤ n) = true := by simpa using h1
    by_cases h2 : n ≤ hi
    · have d2 : decide (n ≤ hi) = true := by simpa using h2
      rw [d1, d2]
      go_enter Try.func46, Try.ntmps46
      go_wp2_with fail
      go_ret
      exact ⟨rfl, rfl⟩
    · have d2 : decide (n ≤ hi) = false := by simpa using h2
      rw [d1, d2]
      go_enter Try.func46, Try.ntmps46
      go_wp2_with fail
      go_ret
      exact ⟨rfl, rfl⟩
  · have d1 : decide (lo ≤ n) = false := by simpa using h1
    rw [d1]
    go_enter Try.func46, Try.ntmps46
    go_wp2_with fail
    go_ret
    exact ⟨rfl, rfl⟩
end Go.Proofs.Ytppgachfobpgbaa
