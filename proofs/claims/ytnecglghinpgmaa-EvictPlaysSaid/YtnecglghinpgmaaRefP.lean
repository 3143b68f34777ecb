/-
  The document's pool, by definition: its state, and where it lies.
-/
import Derived.Test.YtnecglghinpgmaaRefL
import Derived.Test.YtnecglghinpgmaaFewSame
set_option linter.unusedVariables false
set_option linter.unusedSimpArgs false
namespace Go.Proofs.Ytnecglghinpgmaa
open Go.RowKit Go Go.Maps Go.Lib

/-- The reference's pool at block g, its rows from B on. -/
structure Rq (w : World) (g B N : Nat) (P : TP) (vt vs : Value) (V : List Value) : Prop where
  blk : Blk w g 55 [.int .i64 N, vt, vs]
  rt : w.ownsRow B 3 1 vt P.length (rowV (P.map (·.1)))
  rs : w.ownsRow B 48 1 vs P.length V
  rd : Rows2 w B P V
  gB : g < B
  Bw : B ≤ w.heap.size
  ris : risT P
  ne : ∀ p ∈ P, p.2 ≠ []
  le : used P ≤ N
  n16 : N ≤ 16
theorem len_used2 : ∀ P : TP, (∀ p ∈ P, p.2 ≠ []) → P.length ≤ used P
  | [], _ => Nat.le_refl _
  | p :: r, h => by
    have h1 := len_used2 r (fun q hq => h q (List.mem_cons_of_mem _ hq))
    have h2 := List.length_pos_iff.2 (h p (List.mem_cons_self ..))
    rw [used_cons, List.length_cons]
    omega
/-- what it holds -/
def rqS (g : Nat) (vt vs : Value) (V : List Value) : Nat → Prop := fun q => q = g ∨ vt.ownBlock = some q ∨ vs.ownBlock = some q ∨ ∃ v ∈ V, v.ownBlock = some q
theorem Rq.fr {w w' : World} {g B N : Nat} {P : TP} {vt vs : Value} {V : List Value} {S : Nat → Prop} (h : Rq w g B N P vt vs V) (hf : Fr S w w') (hS : ∀ q, rqS g vt vs V q → ¬ S q) : Rq w' g B N P vt vs V :=
  ⟨hf.blk h.blk (hS _ (Or.inl rfl)), ownsRow_fr h.rt hf (fun q hq => hS _ (Or.inr (Or.inl hq))), ownsRow_fr h.rs hf (fun q hq => hS _ (Or.inr (Or.inr (Or.inl hq)))),
   h.rd.fr hf (fun v hv q hq => hS _ (Or.inr (Or.inr (Or.inr ⟨v, hv, hq⟩)))), h.gB, Nat.le_trans h.Bw hf.size, h.ris, h.ne, h.le, h.n16⟩
theorem Rq.frN {w w' : World} {g B N : Nat} {P : TP} {vt vs : Value} {V : List Value} (h : Rq w g B N P vt vs V) (hf : Fr noB w w') : Rq w' g B N P vt vs V := h.fr hf (fun _ _ q => q)
theorem Rq.low {w : World} {g B N : Nat} {P : TP} {vt vs : Value} {V : List Value} (h : Rq w g B N P vt vs V) {q : Nat} (hq : rqS g vt vs V q) : q < w.heap.size := by
  rcases hq with e | e | e | ⟨v, hv, e⟩
  · have := h.gB; have := h.Bw; omega
  · exact (h.rt.lt q e).2
  · exact (h.rs.lt q e).2
  · obtain ⟨i, hi, rfl⟩ := List.getElem_of_mem hv
    have h1 := List.getElem?_eq_getElem hi
    have h2 := h.rd.1
    exact ((h.rd.2 i _ _ (List.getElem?_eq_getElem (show i < P.length by omega)) h1).lt q e).2
theorem Rq.pl {w : World} {g B N : Nat} {P : TP} {vt vs : Value} {V : List Value} (h : Rq w g B N P vt vs V) : P.length ≤ 16 := by
  have := len_used2 P h.ne
  have := h.le
  have := h.n16
  omega
theorem Rq.xl {w : World} {g B N : Nat} {P : TP} {vt vs : Value} {V : List Value} (h : Rq w g B N P vt vs V) {p : Int × List ByteArray} (hp : p ∈ P) : p.2.length ≤ 48 := by
  have h1 : ∀ Q : TP, p ∈ Q → (p.2.length + 2) / 3 ≤ used Q := by
    intro Q
    induction Q with
    | nil => intro q; cases q
    | cons a r ih =>
      intro q
      rw [used_cons]
      rcases List.mem_cons.1 q with e | e
      · subst e; omega
      · have := ih e; omega
  have := h1 P hp
  have := h.le
  have := h.n16
  omega
theorem own_at {w : World} {B n c : Nat} {t : TypeId} {a : Option Addr} {xs : List Value} (h : w.ownsRow B t 1 (.slice a n c) n xs) {i : Nat} {x : Value} (hx : xs[i]? = some x) : ∃ g, a = some ⟨g, 0, none⟩ ∧ w.cell? ⟨g, i, none⟩ = some x := by
  have hi : i < xs.length := (List.getElem?_eq_some_iff.1 hx).1
  have hn : 0 < n := by have := h.1; omega
  obtain ⟨g, cap, e, _⟩ := ownsRow_some h hn
  cases e
  refine ⟨g, rfl, ?_⟩
  have := h.cells (g := g) rfl i x hx
  rwa [show (⟨g, 0, none⟩ : Addr).add i = ⟨g, i, none⟩ by unfold Addr.add; split <;> simp_all] at this
theorem row_typeR {w : World} {B : Nat} {e : TypeId} {k n : Nat} {v : Value} {xs : List Value} (h : w.ownsRow B e k v n xs) {q : Nat} (hq : v.ownBlock = some q) : ∃ cs, w.heap[q]? = some (.cells cs e (0, 0)) := by
  rcases h.2 with ⟨rfl, _⟩ | ⟨g, cap, cur, rfl, _, hg, _⟩
  · cases hq
  · cases hq; exact ⟨_, hg⟩
/-- rows of two types lie in two blocks -/
theorem rows_apart {w : World} {B B' : Nat} {e e' : TypeId} {k k' n n' : Nat} {v v' : Value} {xs xs' : List Value} (h : w.ownsRow B e k v n xs) (h' : w.ownsRow B' e' k' v' n' xs') (he : e ≠ e') : ∀ g, v.ownBlock = some g → v'.ownBlock ≠ some g := fun g hg hg' => by
  obtain ⟨c, hc⟩ := row_typeR h hg
  obtain ⟨c', hc'⟩ := row_typeR h' hg'
  rw [hc] at hc'
  simp only [Option.some.injEq, Obj.cells.injEq] at hc'
  exact he hc'.2.1
/-- The pool, its blocks among S. -/
def Rp (w : World) (g B N : Nat) (P : TP) (S : Nat → Prop) : Prop := ∃ vt vs V, Rq w g B N P vt vs V ∧ ∀ q, rqS g vt vs V q → S q
/-- S, and what is new -/
def nx (S : Nat → Prop) (w w' : World) : Nat → Prop := fun q => S q ∨ (w.heap.size ≤ q ∧ q < w'.heap.size)
theorem Rp.fr {w w' : World} {g B N : Nat} {P : TP} {S T : Nat → Prop} (h : Rp w g B N P S) (hf : Fr T w w') (hS : ∀ q, S q → ¬ T q) : Rp w' g B N P S := by
  obtain ⟨vt, vs, V, h1, h2⟩ := h
  exact ⟨vt, vs, V, h1.fr hf (fun q hq => hS q (h2 q hq)), h2⟩
theorem Rp.frN {w w' : World} {g B N : Nat} {P : TP} {S : Nat → Prop} (h : Rp w g B N P S) (hf : Fr noB w w') : Rp w' g B N P S := h.fr hf (fun _ _ q => q)
theorem Rp.mono {w : World} {g B N : Nat} {P : TP} {S T : Nat → Prop} (h : Rp w g B N P S) (hS : ∀ q, q < w.heap.size → S q → T q) : Rp w g B N P T := by
  obtain ⟨vt, vs, V, h1, h2⟩ := h
  exact ⟨vt, vs, V, h1, fun q hq => hS q (h1.low hq) (h2 q hq)⟩
end Go.Proofs.Ytnecglghinpgmaa
