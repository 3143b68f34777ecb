/-
  The reference's within; rising agents.
-/
import Derived.Test.YtdfkjigkpcgngaaMsg
set_option linter.unusedVariables false
set_option linter.unusedSimpArgs false
set_option maxRecDepth 100000
namespace Go.Proofs.Ytdfkjigkpcgngaa
open Go.RowKit Go Go.Lib

theorem within_any (n lo hi : Int) (w : World) : Calls Try.prog 37 #[.int .i64 n, .int .i64 lo, .int .i64 hi] w fun e w' => e = .returned (.bool (inB lo hi n)) ∧ w' = w := by
  unfold inB
  by_cases h1 : lo ≤ n
  · have d1 : decide (lo ≤ n) = true := by simpa using h1
    by_cases h2 : n ≤ hi
    · have d2 : decide (n ≤ hi) = true := by simpa using h2
      rw [d1, d2]
      go_enter Try.func37, Try.ntmps37
      go_wp2_with fail
      go_ret
      exact ⟨rfl, rfl⟩
    · have d2 : decide (n ≤ hi) = false := by simpa using h2
      rw [d1, d2]
      go_enter Try.func37, Try.ntmps37
      go_wp2_with fail
      go_ret
      exact ⟨rfl, rfl⟩
  · have d1 : decide (lo ≤ n) = false := by simpa using h1
    rw [d1]
    go_enter Try.func37, Try.ntmps37
    go_wp2_with fail
    go_ret
    exact ⟨rfl, rfl⟩
theorem risB_len : ∀ (xs : List Int) (l : Int), -1 ≤ l → l ≤ 3 → risB l xs = true → (xs.length : Int) ≤ 3 - l
  | [], l, h0, h1, _ => by simp; omega
  | a :: r, l, h0, h1, h => by
    unfold risB inB at h
    simp only [Bool.and_eq_true, decide_eq_true_eq] at h
    have := risB_len r a (by omega) h.1.1.2 h.2
    simp only [List.length_cons]
    omega
end Go.Proofs.Ytdfkjigkpcgngaa
