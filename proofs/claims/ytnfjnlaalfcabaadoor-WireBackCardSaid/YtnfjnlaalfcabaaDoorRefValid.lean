/-
  The reference's Valid and Cut; stage 1's law NameJoins.
-/
import Derived.Test.YtnfjnlaalfcabaaDoorRefRunes
set_option linter.unusedVariables false
set_option linter.unusedSimpArgs false
set_option maxRecDepth 100000
namespace Go.Proofs.YtnfjnlaalfcabaaDoor
open Go.RowKit Go

theorem flat3 {α : Type} (f : α → List Value) (hf : ∀ a, (f a).length = 3) : ∀ (L : List α) (k j : Nat) (hk : k < L.length), j < 3 → (L.flatMap f)[k * 3 + j]? = (f L[k])[j]?
  | [], k, j, hk, _ => by simp at hk
  | a :: L, 0, j, hk, hj => by
    rw [List.flatMap_cons, Nat.zero_mul, Nat.zero_add, List.getElem?_append_left (by rw [hf]; exact hj)]
    rfl
  | a :: L, k + 1, j, hk, hj => by
    rw [List.flatMap_cons, List.getElem?_append_right (by rw [hf]; omega), hf]
    rw [show (k + 1) * 3 + j - 3 = k * 3 + j by omega, flat3 f hf L k j (by simpa using hk) hj]
    rfl
theorem rune_at {w : World} {B : Nat} {v : Value} {l : List UInt8} (h : w.ownsRow B 51 3 v (chunks l).length ((chunks l).flatMap rcell)) (k : Nat) (hk : k < (chunks l).length) :
    ∃ g cap, v = .slice (some ⟨g, 0, none⟩) (chunks l).length cap ∧ w.cell? ⟨g, k * 3, none⟩ = some (.int .i64 ((dec ((chunks l).getD k [])).1 : Nat)) ∧ w.cell? ⟨g, k * 3 + 1, none⟩ = some (.int .i64 ((dec ((chunks l).getD k [])).2 : Nat)) ∧ w.cell? ⟨g, k * 3 + 2, none⟩ = some (.bool (okD ((chunks l).getD k []))) := by
  obtain ⟨g, cap, rfl, _⟩ := ownsRow_some h (by omega)
  refine ⟨g, cap, rfl, ?_, ?_, ?_⟩
  all_goals
    have hx := fun j (hj : j < 3) => flat3 rcell (fun _ => rfl) (chunks l) k j hk hj
    rw [show (chunks l)[k] = (chunks l).getD k [] by simp [List.getD, hk]] at hx
  · have := h.cells (g := g) rfl (k * 3) (.int .i64 ((dec ((chunks l).getD k [])).1 : Nat)) (by have := hx 0 (by omega); rw [Nat.add_zero] at this; rw [this]; rfl)
    rwa [add_none, Nat.zero_add] at this
  · have := h.cells (g := g) rfl (k * 3 + 1) (.int .i64 ((dec ((chunks l).getD k [])).2 : Nat)) (by rw [hx 1 (by omega)]; rfl)
    rwa [add_none, Nat.zero_add] at this
  · have := h.cells (g := g) rfl (k * 3 + 2) (.bool (okD ((chunks l).getD k []))) (by rw [hx 2 (by omega)]; rfl)
    rwa [add_none, Nat.zero_add] at this

theorem all_step {α : Type} (p : α → Bool) (z : α) (L : List α) (k : Nat) (hk : k < L.length) : (L.take (k + 1)).all p = ((L.take k).all p && p (L.getD k z)) := by
  rw [List.take_succ_eq_append_getElem hk, List.all_append]
  simp [List.getD, hk]
theorem getD_mem {α : Type} (z : α) (L : List α) (k : Nat) (hk : k < L.length) : L.getD k z ∈ L := by
  simp [List.getD, hk]

set_option maxRecDepth 100000 in
set_option maxHeartbeats 2000000 in
theorem rvalid_any (s : ByteArray) (w : World) (hs : s.size ≤ 1000000) :
    Calls Tryd.prog 14 #[.string s] w fun e w' => e = .returned (.bool (validL s.data.toList)) ∧ Fr noB w w' := by
  have hcl := chunks_le s
  have hrn := runes_any s w hs
  replace hrn := Lib.hid hrn
  go_enter Tryd.func14, Tryd.ntmps14
  go_wp2_with fail
  refine hrn.out.mono ?_
  rintro e w1 ⟨v, rfl, own, f1⟩
  clear hrn
  have hat := fun k hk => rune_at own k hk
  obtain ⟨a, cp, rfl⟩ := ownsRow_slice own
  replace own := Lib.hid own
  replace hat := Lib.hid hat
  generalize hn : (chunks s.data.toList).length = n at *
  replace hn := Lib.hid hn
  go_wp2_with fail
  go_loop [4] (fun vi => ∃ k : Nat, k ≤ n ∧ vi = .int .i64 k ∧ Hid (((chunks s.data.toList).take k).all okD = true)) (fun vi => n - (intOf vi).toNat)
  case atStart => exact ⟨0, Nat.zero_le _, rfl, Lib.hid rfl⟩
  case round =>
    obtain ⟨k, hk, rfl, hh⟩ := hrel
    by_cases hlt : k < n
    · obtain ⟨g, cap, hv, c0, c1, c2⟩ := hat.out k hlt
      cases hv
      have hst := all_step okD [] (chunks s.data.toList) k (by rw [hn.out]; exact hlt)
      rw [hh.out, Bool.true_and] at hst
      clear c0 c1
      cases hok : okD ((chunks s.data.toList).getD k []) with
      | false =>
        rw [hok] at c2 hst
        have hvl : validL s.data.toList = false := by
          cases hq : validL s.data.toList with
          | false => rfl
          | true =>
            unfold validL at hq
            rw [List.all_eq_true] at hq
            have := hq _ (getD_mem [] _ k (by rw [hn.out]; exact hlt))
            rw [hok] at this
            cases this
        replace hvl := Lib.hid hvl
        replace hst := Lib.hid hst
        replace hok := Lib.hid hok
        go_wp2_with fail
        go_ret
        exact ⟨ret_bool (by rw [hvl.out]), f1⟩
      | true =>
        rw [hok] at c2 hst
        replace hst := Lib.hid hst
        replace hok := Lib.hid hok
        go_wp2_with fail
        go_round
        case rel => exact ⟨k + 1, by omega, by go_num, hst⟩
        case measure => simp [intOf]; omega
    · have hkn : k = n := by omega
      have hvl : validL s.data.toList = true := by
        have := hh.out
        rw [hkn, ← hn.out, List.take_length] at this
        exact this
      replace hvl := Lib.hid hvl
      replace hkn := Lib.hid hkn
      go_wp2_with fail
      go_ret
      exact ⟨ret_bool (by rw [hvl.out]), f1⟩
end Go.Proofs.YtnfjnlaalfcabaaDoor
