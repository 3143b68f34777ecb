/-
  What Like and the reference's Right make of a call's message.
-/
import Derived.Test.YtdfkjigkpcgngaaAsmMsg2
import Derived.Test.YtdfkjigkpcgngaaRrMsB
set_option linter.unusedVariables false
set_option linter.unusedSimpArgs false
set_option maxRecDepth 100000
namespace Go.Proofs.Ytdfkjigkpcgngaa
open Go.RowKit Go Go.Lib

set_option maxHeartbeats 1000000 in
theorem like_nil (w : World) : Calls Try.prog 12 #[.nilIface] w fun e w' => e = .returned (mrV {}) ∧ Fr noB w w' := by
  unfold mrV mrC
  have fX := (Fr.refl noB w).alloc (.cells (mrC {}).toArray 34)
  unfold mrC at fX
  have q0 := as_nil_Trigger
  have q1 := as_nil_Pin
  have q2 := as_nil_Pinned
  have q3 := as_nil_Gone
  have q4 := as_nil_Collect
  have q5 := as_nil_Chunk
  have q6 := as_nil_Manifest
  have q7 := as_nil_Stored
  have q8 := as_nil_Unpin
  have q9 := as_nil_Unpinned
  go_enter Try.func12, Try.ntmps12
  go_wp2_with fail
  go_returns
  exact ⟨rfl, fX⟩
set_option maxHeartbeats 1000000 in
theorem rr_nil (w : World) : Calls Try.prog 26 #[mrV {}] w fun e w' => e = .returned (.bool false) ∧ Fr noB w w' := by
  unfold mrV mrC
  have fX := (Fr.refl noB w).alloc (.cells (mrC {}).toArray 34)
  unfold mrC at fX
  have k0 := within_any 0 1 65535
  rw [show inB 1 65535 0 = false by decide] at k0
  go_enter Try.func26, Try.ntmps26
  go_wp2_with fail
  refine (k0 _).mono ?_
  rintro e w1 ⟨rfl, hw1⟩
  obtain rfl := hw1.symm
  go_wp2_with fail
  go_ret
  exact ⟨rfl, fX⟩

/-- the value u is what Like makes of a message; of none: an empty one -/
def RfO (w : World) (u : Value) : Option Ms → Prop
  | none => u = mrV {}
  | some x => RfW w u x
def okO : Option Ms → Bool
  | none => false
  | some x => x.ok
theorem RfO.frN {w w' : World} {u : Value} {x : Option Ms} (h : RfO w u x) (f : Fr noB w w') : RfO w' u x := by
  cases x with
  | none => exact h
  | some y => exact RfW.frN h f
theorem partsK_len (m : OpA) (k : Nat) : (partsK m k).length ≤ k := by
  unfold partsK
  have := List.length_filterMap_le (fun (i : Nat) => if 0 ≤ m.xs.getD i 0 then some (Pn.mk i m.t m.j (m.xs.getD i 0) [] (m.lo && ((i : Int) == 0))) else none) (List.range k)
  rw [List.length_range] at this
  exact this
theorem ms_few (m : OpA) (h : m.xs.length ≤ 20) (x : Ms) (hx : m.ms = some x) : x.few := by
  cases x with
  | manifest t j c ps =>
    unfold OpA.ms at hx
    have : ps = partsK m m.xs.length := by
      repeat' (split at hx)
      all_goals (first | (injection hx with hx; injection hx with _ _ _ hx; exact hx.symm) | (injection hx with hx; cases hx) | cases hx)
    show ps.length ≤ 100
    rw [this]
    have := partsK_len m m.xs.length
    omega
  | _ => trivial
theorem likeA_any (m : OpA) (v : Value) (w : World) (h20 : m.xs.length ≤ 20) (hv : MsO w v m.ms) : Calls Try.prog 12 #[v] w fun e w' => ∃ u, e = .returned u ∧ RfO w' u m.ms ∧ Fr noB w w' := by
  cases hm : m.ms with
  | none =>
    rw [hm] at hv
    obtain rfl := hv
    exact (like_nil w).mono fun e w' ⟨h1, f⟩ => ⟨_, h1, rfl, f⟩
  | some x =>
    rw [hm] at hv
    exact (like_ms v x w hv (ms_few m h20 x hm)).mono fun e w' ⟨u, h1, h2, f⟩ => ⟨u, h1, h2, f⟩
theorem rrA_any (u : Value) (x : Option Ms) (w : World) (h : RfO w u x) : Calls Try.prog 26 #[u] w fun e w' => e = .returned (.bool (okO x)) ∧ Fr noB w w' := by
  cases x with
  | none => obtain rfl := h; exact rr_nil w
  | some y => exact rr_ms u y w h
end Go.Proofs.Ytdfkjigkpcgngaa
