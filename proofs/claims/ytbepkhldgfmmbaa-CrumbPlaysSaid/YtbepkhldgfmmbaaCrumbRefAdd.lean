/-
  The document's answer by definition: an agent is named: what is refused.
-/
import Derived.Test.YtbepkhldgfmmbaaCrumbRefDrop
set_option linter.unusedVariables false
set_option linter.unusedSimpArgs false
namespace Go.Proofs.Ytbepkhldgfmmbaa
open Go.RowKit Go Go.Maps Go.Lib

theorem radd_arg (r : Nat) (t a : Int) (w : World) (ht : t < 1 ∨ 65535 < t) :
    Calls Try.prog 10 #[.pointer (some ⟨r, 0, none⟩), .int .i64 t, .int .i64 a] w fun e w' => e = .returned (.int .i64 1) ∧ w' = w := by
  by_cases h1 : t < 1
  · have h2 : decide (t < 1) = true := by simpa using h1
    go_enter Try.func10, Try.ntmps10
    go_wp2_with fail
    go_ret
    exact ⟨rfl, rfl⟩
  · have h2 : decide (t < 1) = false := by simpa using h1
    have h3 : decide (65535 < t) = true := by simp; omega
    go_enter Try.func10, Try.ntmps10
    go_wp2_with fail
    go_ret
    exact ⟨rfl, rfl⟩

theorem radd_range (r B : Nat) (N t a : Int) (E : List (Int × List Int)) (aT : Option Addr) (cT : Nat) (aA : Option Addr) (cA : Nat) (VA : List Value) (w : World) (h : Rc w r B N E aT cT aA cA VA) (ht1 : 1 ≤ t) (ht2 : t ≤ 65535) (ha : a < 0 ∨ N ≤ a) :
    Calls Try.prog 10 #[.pointer (some ⟨r, 0, none⟩), .int .i64 t, .int .i64 a] w fun e w' => e = .returned (.int .i64 2) ∧ w' = w := by
  have c0 : w.cell? ⟨r, 0, none⟩ = some (.int .i64 N) := h.blk.cell 0
  have h2 : decide (t < 1) = false := by simp; omega
  have h3 : decide (65535 < t) = false := by simp; omega
  clear h
  by_cases h1 : a < 0
  · have h4 : decide (a < 0) = true := by simpa using h1
    go_enter Try.func10, Try.ntmps10
    go_wp2_with fail
    go_ret
    exact ⟨rfl, rfl⟩
  · have h4 : decide (a < 0) = false := by simpa using h1
    have h5 : decide (N ≤ a) = true := by simp; omega
    go_enter Try.func10, Try.ntmps10
    go_wp2_with fail
    go_ret
    exact ⟨rfl, rfl⟩

set_option maxHeartbeats 1000000 in
theorem radd_once (r B : Nat) (N t a : Int) (E : List (Int × List Int)) (aT : Option Addr) (cT : Nat) (aA : Option Addr) (cA : Nat) (VA : List Value) (w : World) (h : Rc w r B N E aT cT aA cA VA) (hE : E.length ≤ 1000000) (ht1 : 1 ≤ t) (ht2 : t ≤ 65535) (ha0 : 0 ≤ a) (ha1 : a < N) (hm : a ∈ (look E t).getD []) :
    Calls Try.prog 10 #[.pointer (some ⟨r, 0, none⟩), .int .i64 t, .int .i64 a] w fun e w' => e = .returned (.int .i64 8) ∧ Fr noB w w' := by
  have c0 : w.cell? ⟨r, 0, none⟩ = some (.int .i64 N) := h.blk.cell 0
  have h2 : decide (t < 1) = false := by simp; omega
  have h3 : decide (65535 < t) = false := by simp; omega
  have h4 : decide (a < 0) = false := by simp; omega
  have h5 : decide (N ≤ a) = false := by simp; omega
  have hof := rof_any r B N t E aT cT aA cA VA w h hE
  clear h
  have hd : decide (a ∈ (look E t).getD []) = true := by simpa using hm
  clear hm
  generalize (look E t).getD [] = X at *
  go_enter Try.func10, Try.ntmps10
  go_wp2_with fail
  refine hof.mono ?_
  rintro e w1 ⟨v, rfl, hr, q, hw1⟩
  have f1 : Fr noB w w1 := by rw [hw1]; exact (Fr.refl noB w).drewN q
  have hr1 : RdI w1 v X := by rw [hw1]; exact hr.drewN q
  clear hw1 hr hof c0
  go_wp2_with fail
  refine (rin_any v X a w1 hr1).mono ?_
  rintro e w2 ⟨rfl, q2, hw2⟩
  rw [hd]
  have f2 : Fr noB w w2 := f1.seqN (by rw [hw2]; exact (Fr.refl noB w1).drewN q2)
  clear hw2 f1 hr1
  go_wp2_with fail
  go_ret
  exact ⟨rfl, f2⟩
end Go.Proofs.Ytbepkhldgfmmbaa
