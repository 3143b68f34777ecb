/-
  The document's answer: may a message be? By kind, for the kinds without parts and spans.
-/
import Derived.Test.YtdfkjigkpcgngaaLike
import Derived.Test.YtdfkjigkpcgngaaRefPart
set_option linter.unusedVariables false
set_option linter.unusedSimpArgs false
namespace Go.Proofs.Ytdfkjigkpcgngaa
open Go.RowKit Go Go.Lib

set_option maxHeartbeats 1000000 in
set_option maxRecDepth 10000 in
theorem rr_1 (a t c : Int) (w : World) :
    Calls Try.prog 26 #[mrV { k := 1, a := a, t := t, c := c }] w fun e w' => e = .returned (.bool (inB 1 65535 t && (inB 0 3 a && (inB 0 3 c)))) ∧ Fr noB w w' := by
  unfold mrV mrC
  have fX := (Fr.refl noB w).alloc (.cells (mrC { k := 1, a := a, t := t, c := c }).toArray 34)
  unfold mrC at fX
  have k0 := within_any t 1 65535
  have k1 := within_any a 0 3
  have k2 := within_any c 0 3
  go_enter Try.func26, Try.ntmps26
  go_wp2_with fail
  refine (k0 _).mono ?_
  rintro e w1 ⟨rfl, hw1⟩
  obtain rfl := hw1.symm
  cases hb0 : inB 1 65535 t with
  | false =>
    go_wp2_with fail
    go_ret
    exact ⟨by simp [*], fX⟩
  | true =>
    go_wp2_with fail
    refine (k1 _).mono ?_
    rintro e w1 ⟨rfl, hw1⟩
    obtain rfl := hw1.symm
    cases hb1 : inB 0 3 a with
    | false =>
      go_wp2_with fail
      go_ret
      exact ⟨by simp [*], fX⟩
    | true =>
      go_wp2_with fail
      refine (k2 _).mono ?_
      rintro e w1 ⟨rfl, hw1⟩
      obtain rfl := hw1.symm
      cases hb2 : inB 0 3 c with
      | false =>
        go_wp2_with fail
        go_ret
        exact ⟨by simp [*], fX⟩
      | true =>
        go_wp2_with fail
        go_ret
        exact ⟨by simp [*], fX⟩

set_option maxHeartbeats 1000000 in
set_option maxRecDepth 10000 in
theorem rr_2 (t j : Int) (w : World) :
    Calls Try.prog 26 #[mrV { k := 2, t := t, j := j }] w fun e w' => e = .returned (.bool (inB 1 65535 t && (inB 1 1073741824 j))) ∧ Fr noB w w' := by
  unfold mrV mrC
  have fX := (Fr.refl noB w).alloc (.cells (mrC { k := 2, t := t, j := j }).toArray 34)
  unfold mrC at fX
  have k0 := within_any t 1 65535
  have k1 := within_any j 1 1073741824
  go_enter Try.func26, Try.ntmps26
  go_wp2_with fail
  refine (k0 _).mono ?_
  rintro e w1 ⟨rfl, hw1⟩
  obtain rfl := hw1.symm
  cases hb0 : inB 1 65535 t with
  | false =>
    go_wp2_with fail
    go_ret
    exact ⟨by simp [*], fX⟩
  | true =>
    go_wp2_with fail
    refine (k1 _).mono ?_
    rintro e w1 ⟨rfl, hw1⟩
    obtain rfl := hw1.symm
    cases hb1 : inB 1 1073741824 j with
    | false =>
      go_wp2_with fail
      go_ret
      exact ⟨by simp [*], fX⟩
    | true =>
      go_wp2_with fail
      go_ret
      exact ⟨by simp [*], fX⟩

set_option maxHeartbeats 1000000 in
set_option maxRecDepth 10000 in
theorem rr_5 (t j : Int) (w : World) :
    Calls Try.prog 26 #[mrV { k := 5, t := t, j := j }] w fun e w' => e = .returned (.bool (inB 1 65535 t && (inB 1 1073741824 j))) ∧ Fr noB w w' := by
  unfold mrV mrC
  have fX := (Fr.refl noB w).alloc (.cells (mrC { k := 5, t := t, j := j }).toArray 34)
  unfold mrC at fX
  have k0 := within_any t 1 65535
  have k1 := within_any j 1 1073741824
  go_enter Try.func26, Try.ntmps26
  go_wp2_with fail
  refine (k0 _).mono ?_
  rintro e w1 ⟨rfl, hw1⟩
  obtain rfl := hw1.symm
  cases hb0 : inB 1 65535 t with
  | false =>
    go_wp2_with fail
    go_ret
    exact ⟨by simp [*], fX⟩
  | true =>
    go_wp2_with fail
    refine (k1 _).mono ?_
    rintro e w1 ⟨rfl, hw1⟩
    obtain rfl := hw1.symm
    cases hb1 : inB 1 1073741824 j with
    | false =>
      go_wp2_with fail
      go_ret
      exact ⟨by simp [*], fX⟩
    | true =>
      go_wp2_with fail
      go_ret
      exact ⟨by simp [*], fX⟩

set_option maxHeartbeats 1000000 in
set_option maxRecDepth 10000 in
theorem rr_8 (t j : Int) (w : World) :
    Calls Try.prog 26 #[mrV { k := 8, t := t, j := j }] w fun e w' => e = .returned (.bool (inB 1 65535 t && (inB 1 1073741824 j))) ∧ Fr noB w w' := by
  unfold mrV mrC
  have fX := (Fr.refl noB w).alloc (.cells (mrC { k := 8, t := t, j := j }).toArray 34)
  unfold mrC at fX
  have k0 := within_any t 1 65535
  have k1 := within_any j 1 1073741824
  go_enter Try.func26, Try.ntmps26
  go_wp2_with fail
  refine (k0 _).mono ?_
  rintro e w1 ⟨rfl, hw1⟩
  obtain rfl := hw1.symm
  cases hb0 : inB 1 65535 t with
  | false =>
    go_wp2_with fail
    go_ret
    exact ⟨by simp [*], fX⟩
  | true =>
    go_wp2_with fail
    refine (k1 _).mono ?_
    rintro e w1 ⟨rfl, hw1⟩
    obtain rfl := hw1.symm
    cases hb1 : inB 1 1073741824 j with
    | false =>
      go_wp2_with fail
      go_ret
      exact ⟨by simp [*], fX⟩
    | true =>
      go_wp2_with fail
      go_ret
      exact ⟨by simp [*], fX⟩

set_option maxHeartbeats 1000000 in
set_option maxRecDepth 10000 in
theorem rr_9 (t j : Int) (w : World) :
    Calls Try.prog 26 #[mrV { k := 9, t := t, j := j }] w fun e w' => e = .returned (.bool (inB 1 65535 t && (inB 1 1073741824 j))) ∧ Fr noB w w' := by
  unfold mrV mrC
  have fX := (Fr.refl noB w).alloc (.cells (mrC { k := 9, t := t, j := j }).toArray 34)
  unfold mrC at fX
  have k0 := within_any t 1 65535
  have k1 := within_any j 1 1073741824
  go_enter Try.func26, Try.ntmps26
  go_wp2_with fail
  refine (k0 _).mono ?_
  rintro e w1 ⟨rfl, hw1⟩
  obtain rfl := hw1.symm
  cases hb0 : inB 1 65535 t with
  | false =>
    go_wp2_with fail
    go_ret
    exact ⟨by simp [*], fX⟩
  | true =>
    go_wp2_with fail
    refine (k1 _).mono ?_
    rintro e w1 ⟨rfl, hw1⟩
    obtain rfl := hw1.symm
    cases hb1 : inB 1 1073741824 j with
    | false =>
      go_wp2_with fail
      go_ret
      exact ⟨by simp [*], fX⟩
    | true =>
      go_wp2_with fail
      go_ret
      exact ⟨by simp [*], fX⟩

set_option maxHeartbeats 1000000 in
set_option maxRecDepth 10000 in
theorem rr_4 (a t j : Int) (w : World) :
    Calls Try.prog 26 #[mrV { k := 4, a := a, t := t, j := j }] w fun e w' => e = .returned (.bool (inB 1 65535 t && (inB 1 1073741824 j && (inB 0 3 a)))) ∧ Fr noB w w' := by
  unfold mrV mrC
  have fX := (Fr.refl noB w).alloc (.cells (mrC { k := 4, a := a, t := t, j := j }).toArray 34)
  unfold mrC at fX
  have k0 := within_any t 1 65535
  have k1 := within_any j 1 1073741824
  have k2 := within_any a 0 3
  go_enter Try.func26, Try.ntmps26
  go_wp2_with fail
  refine (k0 _).mono ?_
  rintro e w1 ⟨rfl, hw1⟩
  obtain rfl := hw1.symm
  cases hb0 : inB 1 65535 t with
  | false =>
    go_wp2_with fail
    go_ret
    exact ⟨by simp [*], fX⟩
  | true =>
    go_wp2_with fail
    refine (k1 _).mono ?_
    rintro e w1 ⟨rfl, hw1⟩
    obtain rfl := hw1.symm
    cases hb1 : inB 1 1073741824 j with
    | false =>
      go_wp2_with fail
      go_ret
      exact ⟨by simp [*], fX⟩
    | true =>
      go_wp2_with fail
      refine (k2 _).mono ?_
      rintro e w1 ⟨rfl, hw1⟩
      obtain rfl := hw1.symm
      cases hb2 : inB 0 3 a with
      | false =>
        go_wp2_with fail
        go_ret
        exact ⟨by simp [*], fX⟩
      | true =>
        go_wp2_with fail
        go_ret
        exact ⟨by simp [*], fX⟩

set_option maxHeartbeats 1000000 in
set_option maxRecDepth 10000 in
theorem rr_10 (a t j : Int) (w : World) :
    Calls Try.prog 26 #[mrV { k := 10, a := a, t := t, j := j }] w fun e w' => e = .returned (.bool (inB 1 65535 t && (inB 1 1073741824 j && (inB 0 3 a)))) ∧ Fr noB w w' := by
  unfold mrV mrC
  have fX := (Fr.refl noB w).alloc (.cells (mrC { k := 10, a := a, t := t, j := j }).toArray 34)
  unfold mrC at fX
  have k0 := within_any t 1 65535
  have k1 := within_any j 1 1073741824
  have k2 := within_any a 0 3
  go_enter Try.func26, Try.ntmps26
  go_wp2_with fail
  refine (k0 _).mono ?_
  rintro e w1 ⟨rfl, hw1⟩
  obtain rfl := hw1.symm
  cases hb0 : inB 1 65535 t with
  | false =>
    go_wp2_with fail
    go_ret
    exact ⟨by simp [*], fX⟩
  | true =>
    go_wp2_with fail
    refine (k1 _).mono ?_
    rintro e w1 ⟨rfl, hw1⟩
    obtain rfl := hw1.symm
    cases hb1 : inB 1 1073741824 j with
    | false =>
      go_wp2_with fail
      go_ret
      exact ⟨by simp [*], fX⟩
    | true =>
      go_wp2_with fail
      refine (k2 _).mono ?_
      rintro e w1 ⟨rfl, hw1⟩
      obtain rfl := hw1.symm
      cases hb2 : inB 0 3 a with
      | false =>
        go_wp2_with fail
        go_ret
        exact ⟨by simp [*], fX⟩
      | true =>
        go_wp2_with fail
        go_ret
        exact ⟨by simp [*], fX⟩

set_option maxHeartbeats 1000000 in
set_option maxRecDepth 10000 in
theorem rr_3 (a t j c : Int) (ua : Option Addr) (un uc : Nat) (lo : Bool) (xs : List Int) (w : World) (hv : RdI w (.slice ua un uc) xs) :
    Calls Try.prog 26 #[mrV { k := 3, pa := a, pt := t, pj := j, pc := c, ua := ua, un := un, uc := uc, lo := lo }] w fun e w' => e = .returned (.bool (pinB a t j c xs)) ∧ Fr noB w w' := by
  unfold mrV mrC
  have fX := (Fr.refl noB w).alloc (.cells (mrC { k := 3, pa := a, pt := t, pj := j, pc := c, ua := ua, un := un, uc := uc, lo := lo }).toArray 34)
  have k := rpart_any a t j c (.slice ua un uc) lo xs _ (hv.fr fX (fun _ _ _ _ _ q => q))
  unfold mrC at fX k
  go_enter Try.func26, Try.ntmps26
  go_wp2_with fail
  refine k.mono ?_
  rintro e w1 ⟨rfl, f1⟩
  have g1 := fX.seqN f1
  clear k fX f1
  go_wp2_with fail
  go_ret
  exact ⟨rfl, g1⟩
end Go.Proofs.Ytdfkjigkpcgngaa
