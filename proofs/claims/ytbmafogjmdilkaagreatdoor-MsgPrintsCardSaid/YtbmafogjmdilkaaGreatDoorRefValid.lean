/-
  The reference's Valid and Cut; stage 1's law NameJoins.
-/
import Derived.Test.YtbmafogjmdilkaaGreatDoorRefRunes
set_option linter.unusedVariables false
set_option linter.unusedSimpArgs false
set_option maxRecDepth 100000
namespace Go.Proofs.YtbmafogjmdilkaaGreatDoor
open Go.RowKit Go

theorem flat3 {α : Type} (f : α → List Value) (hf : ∀ a, (f a).length = 3) : ∀ (L : List α) (k j : Nat) (hk : k < L.length), j < 3 → (L.flatMap f)[k * 3 + j]? = (f L[k])[j]?
  | [], k, j, hk, _ => by simp at hk
  | a :: L, 0, j, hk, hj => by
    rw [List.flatMap_cons, Nat.zero_mul, Nat.zero_add, List.getElem?_append_left (by rw [hf]; exact hj)]
    rfl
  | a :: L, k + 1, j, hk, hj => by
    rw [List.flatMap_cons, List.getElem?_append_right (by rw [hf]; omega), hf]
    rw [show (k + 1) * 3 + j - 3 = k * 3 + j by omega, flat3 f hf L k j (by simpa using hk) hj]
    rfl
theorem rune_at {w : World} {B : Nat} {v : Value} {l : List UInt8} (h : w.ownsRow B 122 3 v (chunks l).length ((chunks l).flatMap rcell)) (k : Nat) (hk : k < (chunks l).length) :
    ∃ g cap, v = .slice (some ⟨g, 0, none⟩) (chunks l).length cap ∧ w.cell? ⟨g, k * 3, none⟩ = some (.int .i64 ((dec ((chunks l).getD k [])).1 : Nat)) ∧ w.cell? ⟨g, k * 3 + 1, none⟩ = some (.int .i64 ((dec ((chunks l).getD k [])).2 : Nat)) ∧ w.cell? ⟨g, k * 3 + 2, none⟩ = some (.bool (okD ((chunks l).getD k []))) := by
  obtain ⟨g, cap, rfl, _⟩ := ownsRow_some h (by omega)
  refine ⟨g, cap, rfl, ?_, ?_, ?_⟩
  all_goals
    have hx := fun j (hj : j < 3) => flat3 rcell (fun _ => rfl) (chunks l) k j hk hj
    rw [show (chunks l)[k] = (chunks l).getD k [] by simp [List.getD, hk]] at hx
  · have := h.cells (g := g) rfl (k * 3) (.int .i64 ((dec ((chunks l).getD k [])).1 : Nat)) (by have := hx 0 (by omega); rw [Nat.add_zero] at this; rw [this]; rfl)
    rwa [add_none, Nat.zero_add] at this
  · have := h.cells (g := g) rfl (k * 3 + 1) (.int .i64 ((dec ((chunks l).getD k [])).2 : Nat)) (by rw [hx 1 (by omega)]; rfl)
    rwa [add_none, Nat.zero_add] at this
  · have := h.cells (g := g) rfl (k * 3 + 2) (.bool (okD ((chunks l).getD k []))) (by rw [hx 2 (by omega)]; rfl)
    rwa [add_none, Nat.zero_add] at this

theorem all_step {α : Type} (p : α → Bool) (z : α) (L : List α) (k : Nat) (hk : k < L.length) : (L.take (k + 1)).all p = ((L.take k).all p && p (L.getD k z)) := by
  rw [List.take_succ_eq_append_getElem hk, List.all_append]
  simp [List.getD, hk]
theorem getD_mem {α : Type} (z : α) (L : List α) (k : Nat) (hk : k < L.length) : L.getD k z ∈ L := by
  simp [List.getD, hk]

end Go.Proofs.YtbmafogjmdilkaaGreatDoor
