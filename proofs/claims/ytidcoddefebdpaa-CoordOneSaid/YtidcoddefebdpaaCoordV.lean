/-
  The coordinator, its blocks set apart: what it hears, what it says.
-/
import Derived.Test.YtidcoddefebdpaaCoordH
import Derived.Test.YtidcoddefebdpaaCoordK
set_option linter.unusedVariables false
set_option linter.unusedSimpArgs false
set_option maxRecDepth 100000
set_option maxRecDepth 100000
namespace Go.Proofs.Ytidcoddefebdpaa
open Go.RowKit Go Go.Maps Go.Lib

/-- the coordinator lies among the blocks of D, none of which there was at first -/
structure CoV (w0 w : World) (c bm : Nat) (D : Nat → Prop) (C : CS) : Prop where
  is : ∃ U, Co w c bm U C ∧ ∀ g, coS c bm C g ∨ U g → D g
  ge : ∀ g, D g → w0.heap.size ≤ g
  lt : ∀ g, D g → g < w.heap.size
  fr0 : Fr noB w0 w
theorem CoV.fr {w0 w w' : World} {c bm : Nat} {D S : Nat → Prop} {C : CS} (h : CoV w0 w c bm D C) (f : Fr S w w') (hS : ∀ g, D g → ¬ S g) (hge : ∀ g, S g → w0.heap.size ≤ g) : CoV w0 w' c bm D C := by
  obtain ⟨U, H, hD⟩ := h.is
  exact ⟨⟨U, H.fr f (fun g hg => hS g (hD g hg)), hD⟩, h.ge, fun g hg => Nat.lt_of_lt_of_le (h.lt g hg) f.size, h.fr0.trans f (fun g _ q => q.elim) (fun g hg q => by have := hge g q; omega)⟩
theorem CoV.frN {w0 w w' : World} {c bm : Nat} {D : Nat → Prop} {C : CS} (h : CoV w0 w c bm D C) (f : Fr noB w w') : CoV w0 w' c bm D C := h.fr f (fun _ _ q => q) (fun _ q => q.elim)
theorem CoV.wf {w0 w : World} {c bm : Nat} {D : Nat → Prop} {C : CS} (h : CoV w0 w c bm D C) : C.wf := by
  obtain ⟨U, H, hD⟩ := h.is
  exact H.wf
theorem hear_p {C : CS} {m : Ms} {pn : Nat} {e : JE} (he : e ∈ (C.hear m pn).1.Q) : e.p = pn ∨ ∃ x ∈ C.Q, x.p = e.p := by
  by_cases hok : m.ok = false
  · unfold CS.hear at he; rw [if_pos hok] at he; exact Or.inr ⟨e, he, rfl⟩
  have hok' : m.ok = true := by simpa using hok
  by_cases hn : NoTr m
  · rw [hear_oth hn pn hok'] at he
    unfold CS.other at he
    cases hq : C.at m.tj.1 with
    | none => rw [hq] at he; exact Or.inr ⟨e, he, rfl⟩
    | some x =>
      rw [hq] at he
      have hx := (at_some hq).1
      dsimp only at he
      unfold CS.told at he
      split at he
      · exact Or.inr ⟨e, (List.mem_filter.1 he).1, rfl⟩
      · have key : e ∈ (C.put (x.hear m)).Q → e.p = pn ∨ ∃ x ∈ C.Q, x.p = e.p := fun he => by
          rcases put_mem he with rfl | ⟨q, _⟩
          · exact Or.inr ⟨x, hx, rfl⟩
          · exact Or.inr ⟨e, q, rfl⟩
        split at he <;> exact key he
  · cases m with
    | trigger a t cl =>
      have e1 : C.hear (.trigger a t cl) pn = C.begin a t cl pn := by unfold CS.hear; rw [if_neg hok]
      rw [e1] at he
      unfold CS.begin at he
      split at he
      · exact Or.inr ⟨e, he, rfl⟩
      · split at he
        · exact Or.inr ⟨e, he, rfl⟩
        · rcases List.mem_append.1 he with q | q
          · exact Or.inr ⟨e, q, rfl⟩
          · rw [List.mem_singleton] at q; subst q; exact Or.inl rfl
    | _ => exact absurd trivial hn
theorem hear_cS {C : CS} {m : Ms} {pn c bm g : Nat} (h : coS c bm (C.hear m pn).1 g) : coS c bm C g ∨ g = pn := by
  rcases h with h | h | ⟨e, he, rfl⟩
  · exact Or.inl (Or.inl h)
  · exact Or.inl (Or.inr (Or.inl h))
  · rcases hear_p he with q | ⟨x, hx, q⟩
    · exact Or.inr q
    · exact Or.inl (Or.inr (Or.inr ⟨x, hx, q.symm⟩))
def ApD (D : Nat → Prop) (m : Ms) (v : Value) : Prop := ∀ pn ua un uc, m = .pinned pn → v = mPinned pn.a pn.t pn.j pn.n (.slice ua un uc) pn.lo → pn.cr ≠ [] → ∀ g o, ua = some ⟨g, o, none⟩ → ¬ D g
def HearTo (e : Ending) (w0 w w' : World) (c bm : Nat) (D : Nat → Prop) (f : Nat → CS × Option JE) : Prop := ∃ u pn D', e = .returned u ∧ OutP w.heap.size w' u (f pn).2 ∧ w.heap.size ≤ pn ∧ CoV w0 w' c bm D' (f pn).1 ∧ (∀ g, D' g → D g ∨ w.heap.size ≤ g) ∧ Fr D w w'
theorem hear_cv (w0 : World) (c bm : Nat) (D : Nat → Prop) (C : CS) (m : Ms) (v : Value) (w : World) (h : CoV w0 w c bm D C) (hm : MsW w v m) (hap : ApD D m v) (hla : C.la < 1073741824) (hrf : 0 ≤ C.rf ∧ C.rf < 1000000000) :
    Calls Try.prog 10 #[.pointer (some ⟨c, 0, none⟩), v] w fun e w' => HearTo e w0 w w' c bm D (C.hear m) := by
  obtain ⟨U, H, hD⟩ := h.is
  refine (hear_co c bm U C m v w H hm (fun pn ua un uc h1 h2 h3 g o h4 => fun q => hap pn ua un uc h1 h2 h3 g o h4 (hD g (Or.inl q))) hla hrf).mono ?_
  rintro e w' ⟨u, pn, rfl, hp, ho, U', H', hU', f⟩
  have fD : Fr D w w' := f.mono (fun g _ q => hD g (Or.inl q))
  have hge := h.fr0.size
  refine ⟨u, pn, fun g => (coS c bm (C.hear m pn).1 g ∨ U' g), rfl, ho, hp, ⟨⟨U', H', fun g hg => hg⟩, fun g hg => ?_, fun g hg => H'.lt g hg, h.fr0.trans fD (fun g _ q => q.elim) (fun g hg q => by have := h.ge g q; omega)⟩, fun g hg => ?_, fD⟩
  · rcases hg with hg | hg
    · rcases hear_cS hg with q | rfl
      · exact h.ge g (hD g (Or.inl q))
      · omega
    · rcases hU' g hg with q | q
      · exact h.ge g (hD g (Or.inr q))
      · omega
  · rcases hg with hg | hg
    · rcases hear_cS hg with q | rfl
      · exact Or.inl (hD g (Or.inl q))
      · exact Or.inr hp
    · rcases hU' g hg with q | q
      · exact Or.inl (hD g (Or.inr q))
      · exact Or.inr q
end Go.Proofs.Ytidcoddefebdpaa
