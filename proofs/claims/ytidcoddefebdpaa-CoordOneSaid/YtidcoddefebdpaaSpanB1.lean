/-
  span: Right, Row, Print; the reference's Right, Few, Same, Print.
-/
import Derived.Test.YtidcoddefebdpaaSpanB
set_option linter.unusedVariables false
set_option linter.unusedSimpArgs false
set_option maxRecDepth 100000
namespace Go.Proofs.Ytidcoddefebdpaa
open Go.RowKit Go Go.Lib

theorem right_any (s : Sp) (w : World) : Calls Try.prog 56 #[.agg #[.int .i64 s.t, .int .i64 s.q, .string s.x]] w fun e w' => e = .returned (.bool (rightS s)) ∧ Fr noB w w' := by
  have key := right_iff s
  generalize rightS s = R at *
  have fX := (Fr.refl noB w).alloc (.cells #[.int .i64 s.t, .int .i64 s.q, .string s.x] 112)
  have fin : ∀ b, (b = true ↔ (1 ≤ s.t ∧ s.t ≤ 65535 ∧ 1 ≤ s.q ∧ s.q ≤ 2147483648 ∧ s.x.size ≤ 40)) → b = R := fun b h => by
    rw [Bool.eq_iff_iff, h, key]
  replace fin := Lib.hid fin
  clear key
  go_enter Try.func56, Try.ntmps56
  go_wp2
  all_goals go_ret
  all_goals exact ⟨ret_bool (fin.out _ (by simp; omega)), fX⟩
def fewS (L : List Sp) : Bool := L.all (fun s => decide (s.x.size ≤ 100)) && decide (L.length ≤ 100)
end Go.Proofs.Ytidcoddefebdpaa
