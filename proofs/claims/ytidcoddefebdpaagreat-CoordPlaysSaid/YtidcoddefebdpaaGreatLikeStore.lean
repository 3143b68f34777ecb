/-
  A whole block is written over.
-/
import Derived.Test.YtidcoddefebdpaaGreatSmall
set_option linter.unusedVariables false
set_option linter.unusedSimpArgs false
set_option maxRecDepth 100000
namespace Go.Proofs.YtidcoddefebdpaaGreat
open Go.RowKit Go Go.Lib

/-- a whole block is written over -/
theorem setCells_blk : ∀ (vs : List Value) (w : World) (g i : Nat) (t : TypeId) (cs : List Value), Blk w g t cs → i + vs.length ≤ cs.length → Blk (w.setCells g i vs) g t (cs.take i ++ vs ++ cs.drop (i + vs.length))
  | [], w, g, i, t, cs, h, _ => by simpa [World.setCells] using h
  | v :: vs, w, g, i, t, cs, h, hl => by
    simp only [World.setCells]
    rw [List.length_cons] at hl
    have h1 := setCells_blk vs (w.setCell ⟨g, i, none⟩ v) g (i + 1) t (cs.set i v) (h.set i v) (by rw [List.length_set]; omega)
    have e : (cs.set i v).take (i + 1) ++ vs ++ (cs.set i v).drop (i + 1 + vs.length) = cs.take i ++ (v :: vs) ++ cs.drop (i + (v :: vs).length) := by
      rw [List.take_add_one, List.take_set_of_le (Nat.le_refl _), List.getElem?_set_self (by omega), List.drop_set_of_lt (by omega), List.length_cons, show i + (vs.length + 1) = i + 1 + vs.length by omega]
      simp
    rw [e] at h1
    exact h1
theorem setCells_fr : ∀ (vs : List Value) (w : World) (g i : Nat), Fr (onlyB g) w (w.setCells g i vs)
  | [], w, g, i => by simpa [World.setCells] using Fr.refl _ _
  | v :: vs, w, g, i => by
    simp only [World.setCells]
    exact (((Fr.refl (onlyB g) w).store rfl)).trans (setCells_fr vs _ g (i + 1)) (fun _ _ q => q) (fun _ _ q => q)
theorem store_all (w : World) (g : Nat) (vs : Array Value) : ∃ w2, w2 = w.setCells g 0 vs.toList ∧ Fr (onlyB g) w w2 ∧ ∀ t cs, Blk w g t cs → cs.length = vs.size → Blk w2 g t vs.toList :=
  ⟨_, rfl, setCells_fr _ _ _ _, fun t cs h hl => by
    have h1 := setCells_blk vs.toList w g 0 t cs h (by simp [hl])
    have e : cs.take 0 ++ vs.toList ++ cs.drop (0 + vs.toList.length) = vs.toList := by
      rw [List.take_zero, List.nil_append, List.drop_eq_nil_of_le (by simp [hl]), List.append_nil]
    rw [e] at h1
    exact h1⟩
end Go.Proofs.YtidcoddefebdpaaGreat
