/-
  msg: a Manifest read.
-/
import Derived.Test.YtidcoddefebdpaaGreatMsTB
set_option linter.unusedVariables false
set_option linter.unusedSimpArgs false
set_option maxRecDepth 100000
set_option maxRecDepth 100000
namespace Go.Proofs.YtidcoddefebdpaaGreat
open Go.RowKit Go Go.Lib

theorem own_apartm {w : World} {B B' e e' k k' n m : Nat} {v u : Value} {xs ys : List Value} (h : w.ownsRow B e k v n xs) (h' : w.ownsRow B' e' k' u m ys) (he : e ≠ e') : ∀ g, v.ownBlock = some g → ¬ rowB u g := by
  intro g hg q
  unfold rowB at q
  rcases h.2 with ⟨rfl, _⟩ | ⟨g1, cap, cur, rfl, _, hh, _⟩
  · simp [Value.ownBlock] at hg
  rcases h'.2 with ⟨rfl, _⟩ | ⟨g2, cap2, cur2, rfl, _, hh2, _⟩
  · simp [Value.ownBlock] at q
  simp [Value.ownBlock] at hg q
  subst hg
  subst q
  rw [hh] at hh2
  simp only [Option.some.injEq, Obj.cells.injEq] at hh2
  exact he hh2.2.1
/-- a part, and where its crumbs lie -/
structure PU where
  p : Pn
  a : Option Addr
  c : Nat
def PU.v (q : PU) : Value := .slice q.a q.p.cr.length q.c
def PU.cs (q : PU) : List Value := pnC q.p q.v
theorem PU.len (P : List PU) : (P.flatMap PU.cs).length = P.length * 6 := by
  induction P with
  | nil => rfl
  | cons s L ih =>
    rw [List.flatMap_cons, List.length_append, ih, List.length_cons]
    simp [PU.cs, pnC]
    omega
theorem PU.get : ∀ (L : List PU) (i q : Nat) (m : PU), L[i]? = some m → q < 6 → (L.flatMap PU.cs)[i * 6 + q]? = m.cs[q]?
  | [], i, q, m, h, _ => by simp at h
  | x :: r, 0, q, m, h, hq => by
    simp at h; subst h
    rw [List.flatMap_cons, List.getElem?_append_left (by simp [PU.cs, pnC]; omega)]
    congr 1; omega
  | x :: r, i + 1, q, m, h, hq => by
    have hl : x.cs.length = 6 := rfl
    rw [List.flatMap_cons, List.getElem?_append_right (by rw [hl]; omega), hl, show (i + 1) * 6 + q - 6 = i * 6 + q by omega]
    exact PU.get r i q m (by simpa using h) hq
def OwnPU (w : World) (B : Nat) (P : List PU) : Prop := ∀ q ∈ P, w.ownsRow B 3 1 q.v q.p.cr.length (q.p.cr.map (Value.int .i64))
theorem OwnPU.fr {w w' : World} {B : Nat} {S : Nat → Prop} {P : List PU} (h : OwnPU w B P) (f : Fr S w w') (hS : ∀ q ∈ P, ∀ g, q.v.ownBlock = some g → ¬ S g) : OwnPU w' B P := fun p hp => ownsRow_fr (h p hp) f (hS p hp)
theorem RdPs.of_own {w : World} {B n : Nat} {v : Value} {P : List PU} {ps : List Pn} (h : w.ownsRow B 67 6 v n (P.flatMap PU.cs)) (ho : OwnPU w B P) (hp : P.map PU.p = ps) (hn : P.length = n) (hb : n ≤ 1000000) : RdPs w v ps := by
  have hl : ps.length = n := by rw [← hp, List.length_map]; exact hn
  rcases h.2 with ⟨rfl, h1⟩ | ⟨g, cap, cur, rfl, hb, hg, hnc, hcm, hcs, htake⟩
  · refine ⟨none, 0, by rw [hl, h1], by omega, by omega, fun i p hi => ?_⟩
    rw [List.eq_nil_of_length_eq_zero (by omega : ps.length = 0)] at hi
    simp at hi
  · refine ⟨_, cap, by rw [hl], by omega, by omega, fun i p hi => ?_⟩
    rw [← hp, List.getElem?_map] at hi
    cases hq : P[i]? with
    | none => rw [hq] at hi; cases hi
    | some u =>
      rw [hq] at hi
      simp at hi
      subst hi
      refine ⟨g, 0, u.a, u.c, rfl, fun q x hx => ?_, RdI.of_own (ho u (List.mem_of_getElem? hq))⟩
      have hq6 : q < 6 := (List.getElem?_eq_some_iff.1 hx).1
      have h2 := PU.get P i q u hq hq6
      have h3 := h.cells (g := g) rfl (i * 6 + q) x (by rw [h2]; exact hx)
      rw [add_none] at h3
      exact h3
theorem Tryz.infoPinned : (Tryz.prog.info? 67).map (fun i => (i.zero, i.size, i.bytes)) = some (some (.agg #[.int .i64 0, .int .i64 0, .int .i64 0, .int .i64 0, .slice none 0 0, .bool false]), 6, 64) := by kernel_rfl
theorem pu_one (q : PU) : ∀ u ∈ q.cs, u.oneCell' = true := by
  intro u hu
  unfold PU.cs pnC PU.v at hu
  simp only [List.mem_cons, List.not_mem_nil, or_false] at hu
  rcases hu with rfl | rfl | rfl | rfl | rfl | rfl <;> rfl

end Go.Proofs.YtidcoddefebdpaaGreat
