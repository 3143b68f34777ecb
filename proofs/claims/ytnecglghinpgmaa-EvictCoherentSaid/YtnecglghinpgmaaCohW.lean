/-
  The map of what is pinned: rows of spans by trace.
-/
import Derived.Test.YtnecglghinpgmaaCohL
set_option linter.unusedVariables false
set_option linter.unusedSimpArgs false
namespace Go.Proofs.Ytnecglghinpgmaa
open Go.RowKit Go Go.Maps Go.Lib

/-- a new row at a key -/
theorem Wm.set {w w6 w7 : World} {bm D n n' : Nat} {Y : Int → List Sp} {M : List (Int × SV)} (h : Wm w bm D n Y M) (t : Int) (l : List Sp) (hl : l ≠ []) {s : SV} (f6 : Fr noB w w6)
    (o6 : w6.ownsRow w.heap.size 35 3 (mkS s) l.length (l.flatMap spC)) (m7 : Mp Try.prog 3 klI mkS w7 bm n' (withKey M t s)) (f7 : Fr (onlyB bm) w6 w7) :
    Wm w7 bm D n' (updY Y t l) (withKey M t s) ∧ (∀ q, q < w.heap.size → wmB bm (withKey M t s) q → wmB bm M q) := by
  have hmB := h.mB
  have hDw := h.Dw
  have hother : ∀ p ∈ M, p.1 ≠ t → w7.ownsRow D 35 3 (mkS p.2) (Y p.1).length ((Y p.1).flatMap spC) := fun p hp hne =>
    ownsRow_fr (ownsRow_fr (h.row p hp).1 f6 (fun q hq e => e)) f7 (fun q hq e => by have := ((h.row p hp).1.lt q hq).1; unfold onlyB at e; omega)
  have hnew : ∀ b, (mkS s).ownBlock = some b → ∀ p ∈ M, (mkS p.2).ownBlock ≠ some b := fun b hb p hp q => by
    have h1 := (o6.lt b hb).1
    have h2 := ((h.row p hp).1.lt b q).2
    omega
  refine ⟨⟨m7, fun p hp => ?_, fun k hk => ?_, fun p hp q hq hne b hb => ?_, hmB, Nat.le_trans hDw (Nat.le_trans f6.size f7.size)⟩, fun q hq hk => ?_⟩
  · unfold withKey at hp
    rcases List.mem_cons.1 hp with rfl | hp
    · simp only [updY, if_true]
      exact ⟨ownsRow_mono (ownsRow_fr o6 f7 (fun q hq e => by have := (o6.lt q hq).1; unfold onlyB at e; omega)) hDw, hl⟩
    · obtain ⟨hp1, hp2⟩ := mem_without.1 hp
      simp only [updY, if_neg hp2]
      exact ⟨hother p hp1 hp2, (h.row p hp1).2⟩
  · by_cases hkt : k = t
    · subst hkt; rw [look_withKey_same] at hk; cases hk
    · rw [look_withKey_other _ _ hkt] at hk
      simp only [updY, if_neg hkt]
      exact h.non k hk
  · unfold withKey at hp hq
    rcases List.mem_cons.1 hp with rfl | hp <;> rcases List.mem_cons.1 hq with rfl | hq
    · exact absurd rfl hne
    · exact hnew b hb q (mem_without.1 hq).1
    · exact fun e => hnew b e p (mem_without.1 hp).1 hb
    · exact h.apart p (mem_without.1 hp).1 q (mem_without.1 hq).1 hne b hb
  · rcases hk with e | ⟨p, hp, hb⟩
    · exact Or.inl e
    · unfold withKey at hp
      rcases List.mem_cons.1 hp with rfl | hp
      · have := (o6.lt q hb).1
        omega
      · exact Or.inr ⟨p, (mem_without.1 hp).1, hb⟩
/-- the spans of what is pinned, among the traces A -/
def PY (K : KS) (A : List Int) : Int → List Sp := fun t => if t ∈ A ∧ t ∈ K.pins then spansOf t (txt K.P t) else []
theorem PY_nil (K : KS) : PY K [] = fun _ => [] := by funext t; unfold PY; rw [if_neg (fun q => by cases q.1)]
theorem PY_in {K : KS} {A : List Int} {t : Int} (ht : t ∈ K.pins) : updY (PY K A) t (spansOf t (txt K.P t)) = PY K (A ++ [t]) := by
  funext u
  unfold updY PY
  by_cases hu : u = t
  · subst hu; rw [if_pos rfl, if_pos ⟨by simp, ht⟩]
  · rw [if_neg hu]
    have : u ∈ A ++ [t] ↔ u ∈ A := by simp [hu]
    simp only [this]
theorem PY_out {K : KS} {A : List Int} {t : Int} (ht : t ∉ K.pins) : PY K (A ++ [t]) = PY K A := by
  funext u
  unfold PY
  by_cases hu : u = t
  · subst hu; rw [if_neg (fun q => ht q.2), if_neg (fun q => ht q.2)]
  · have : u ∈ A ++ [t] ↔ u ∈ A := by simp [hu]
    simp only [this]
/-- who is in the map -/
theorem Wm.mem_iff {w : World} {bm D n : Nat} {Y : Int → List Sp} {M : List (Int × SV)} (h : Wm w bm D n Y M) (t : Int) : (∃ s, (t, s) ∈ M) ↔ Y t ≠ [] := by
  constructor
  · rintro ⟨s, hs⟩
    exact (h.row _ hs).2
  · intro hy
    cases hl : look M t with
    | none => exact absurd (h.non t hl) hy
    | some s => exact ⟨s, look_some hl⟩
theorem Wm.look_iff {w : World} {bm D n : Nat} {Y : Int → List Sp} {M : List (Int × SV)} (h : Wm w bm D n Y M) (t : Int) : (look M t).isSome = true ↔ Y t ≠ [] := by
  constructor
  · intro hs hy
    obtain ⟨s, hs⟩ := Option.isSome_iff_exists.1 hs
    exact (h.row _ (look_some hs)).2 hy
  · intro hy
    cases hl : look M t with
    | none => exact absurd (h.non t hl) hy
    | some s => rfl
end Go.Proofs.Ytnecglghinpgmaa
