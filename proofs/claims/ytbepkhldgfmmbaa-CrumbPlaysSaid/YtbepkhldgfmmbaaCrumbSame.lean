/-
  Two ways to put a number in order are one.
-/
import Derived.Test.YtbepkhldgfmmbaaCrumbRef
import Derived.Test.YtbepkhldgfmmbaaCrumbAdd
set_option linter.unusedVariables false
set_option linter.unusedSimpArgs false
namespace Go.Proofs.Ytbepkhldgfmmbaa
open Go.RowKit Go Go.Maps Go.Lib

theorem placeI_zero {r : List Int} {x : Int} (h : ∀ y ∈ r, ¬ y < x) : placeI r x = 0 := by
  unfold placeI
  rw [List.countP_eq_zero]
  intro y hy; simpa using h y hy
theorem insG_insAt {l : List Int} {x : Int} (hl : l.Pairwise (· < ·)) (hx : x ∉ l) : insG l x = insAt l (placeI l x) x := by
  induction l with
  | nil => rfl
  | cons a r ih =>
    rw [List.pairwise_cons] at hl
    rw [List.mem_cons, not_or] at hx
    unfold insG
    by_cases h : x < a
    · rw [if_pos h, placeI_zero (fun y hy => by
        rcases List.mem_cons.1 hy with rfl | hy
        · omega
        · have := hl.1 y hy; omega)]
      rfl
    · have hp : placeI (a :: r) x = placeI r x + 1 := by
        unfold placeI
        rw [List.countP_cons_of_pos (by simp; omega)]
      rw [if_neg h, ih hl.2 hx.2, hp]
      rfl
end Go.Proofs.Ytbepkhldgfmmbaa
