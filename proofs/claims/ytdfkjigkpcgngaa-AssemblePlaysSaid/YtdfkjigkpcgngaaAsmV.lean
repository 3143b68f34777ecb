/-
  What came so far, by a plain state.
-/
import Derived.Test.YtdfkjigkpcgngaaAsmRec2
set_option linter.unusedVariables false
set_option linter.unusedSimpArgs false
set_option maxRecDepth 100000
set_option maxRecDepth 100000
namespace Go.Proofs.Ytdfkjigkpcgngaa
open Go.RowKit Go Go.Maps Go.Lib

/-- what came so far, plainly: trace, job, the manifest, the chunks by agents -/
structure PS where
  tr : Int
  jb : Int
  man : Option (Int × List Pn)
  C : CH
def PS.hears (s : PS) (m : Ms) : Bool := m.ok && (decide (m.tj.1 = s.tr) && decide (m.tj.2 = s.jb))
def PS.hear (s : PS) (m : Ms) : Bool × PS := if s.hears m = true then ((takeM s.man s.C m).1, ⟨s.tr, s.jb, (takeM s.man s.C m).2.1, (takeM s.man s.C m).2.2⟩) else (false, s)
def PS.miss (s : PS) : List Int := match s.man with
  | none => []
  | some x => missL s.tr s.C x.2
def PS.recd (s : PS) : Option (Int × List (Pn × List Sp)) := match s.man with
  | none => none
  | some x => (recL s.tr s.C x.2).map fun L => (x.1, L)
def AP.ps (A : AP) : PS := ⟨A.tr, A.jb, A.man, A.C⟩
/-- it lies at p so, all its blocks made since w0 -/
def AsmV (w0 w : World) (p bm : Nat) (D : Nat → Prop) (s : PS) : Prop := ∃ A mb, A.ps = s ∧ AsmP w p bm mb D A ∧ (∀ g, D g → w0.heap.size ≤ g) ∧ Fr noB w0 w
theorem AsmV.frN {w0 w w' : World} {p bm : Nat} {D : Nat → Prop} {s : PS} (h : AsmV w0 w p bm D s) (f : Fr noB w w') : AsmV w0 w' p bm D s := by
  obtain ⟨A, mb, h1, h2, h3, h4⟩ := h
  exact ⟨A, mb, h1, h2.frN f, h3, h4.seqN f⟩
theorem AsmV.fr0 {w0 w : World} {p bm : Nat} {D : Nat → Prop} {s : PS} (h : AsmV w0 w p bm D s) : Fr noB w0 w := by obtain ⟨A, mb, h1, h2, h3, h4⟩ := h; exact h4
theorem AsmV.lt {w0 w : World} {p bm : Nat} {D : Nat → Prop} {s : PS} (h : AsmV w0 w p bm D s) : ∀ g, D g → g < w.heap.size := by obtain ⟨A, mb, h1, h2, h3, h4⟩ := h; exact h2.lt
theorem AsmV.ge {w0 w : World} {p bm : Nat} {D : Nat → Prop} {s : PS} (h : AsmV w0 w p bm D s) : ∀ g, D g → w0.heap.size ≤ g := by obtain ⟨A, mb, h1, h2, h3, h4⟩ := h; exact h3
theorem new_v (t j : Int) (w : World) : Calls Try.prog 8 #[.int .i64 t, .int .i64 j] w fun e w' => ∃ p bm D, e = .returned (.pointer (some ⟨p, 0, none⟩)) ∧ AsmV w w' p bm D ⟨t, j, none, []⟩ := by
  refine (anew_any t j w).mono ?_
  rintro e w' ⟨p, bm, rfl, hp, hb, h, f⟩
  exact ⟨p, bm, _, rfl, _, _, rfl, h, fun g hg => by rcases hg with rfl | rfl <;> assumption, f⟩
theorem hear_v (w0 : World) (p bm : Nat) (D : Nat → Prop) (s : PS) (m : Ms) (v : Value) (w : World) (h : AsmV w0 w p bm D s) (hm : MsW w v m) :
    Calls Try.prog 10 #[.pointer (some ⟨p, 0, none⟩), v] w fun e w' => e = .returned (.bool (s.hear m).1) ∧ Fr D w w' ∧ ∃ D' : Nat → Prop, AsmV w0 w' p bm D' (s.hear m).2 ∧ (∀ g, D' g → D g ∨ w.heap.size ≤ g) := by
  obtain ⟨A, mb, rfl, hP, hD, f0⟩ := h
  refine (ahear_any p bm mb D A m v w hP hm).mono ?_
  rintro e w' ⟨rfl, A', ⟨h1, h2, h3, h4⟩, mb', D', hP', hs, hn, f⟩
  have hx : ((A.ps.hear m).1, (A.ps.hear m).2.man, (A.ps.hear m).2.C) = A.hearM m ∧ (A.ps.hear m).2.tr = A.tr ∧ (A.ps.hear m).2.jb = A.jb := by
    unfold PS.hear AP.hearM PS.hears AP.hears AP.ps
    by_cases hq : (m.ok && (decide (m.tj.1 = A.tr) && decide (m.tj.2 = A.jb))) = true
    · rw [if_pos hq, if_pos hq]; exact ⟨rfl, rfl, rfl⟩
    · rw [if_neg hq, if_neg hq]; exact ⟨rfl, rfl, rfl⟩
  refine ⟨by rw [← hx.1], f, D', ⟨A', mb', ?_, hP', fun g hg => (hn g hg).elim (hD g) (fun q => Nat.le_trans f0.size q), ?_⟩, hn⟩
  · refine Eq.trans (b := PS.mk (A.ps.hear m).2.tr (A.ps.hear m).2.jb (A.ps.hear m).2.man (A.ps.hear m).2.C) ?_ rfl
    show PS.mk A'.tr A'.jb A'.man A'.C = _
    rw [hx.2.1, hx.2.2, h1, h2, h3, h4, ← hx.1]
  · exact f0.trans f (fun _ _ q => q) (fun g hg q => by have := hD g q; omega)
theorem missing_v (w0 : World) (p bm : Nat) (D : Nat → Prop) (s : PS) (w : World) (h : AsmV w0 w p bm D s) :
    Calls Try.prog 14 #[.pointer (some ⟨p, 0, none⟩)] w fun e w' => ∃ v', e = .returned v' ∧ w'.ownsRow w.heap.size 3 1 v' s.miss.length (s.miss.map (Value.int .i64)) ∧ Fr noB w w' := by
  obtain ⟨A, mb, rfl, hP, hD, f0⟩ := h
  exact missing_any p bm mb D A w hP
theorem record_v (w0 : World) (p bm : Nat) (D : Nat → Prop) (s : PS) (w : World) (h : AsmV w0 w p bm D s) :
    Calls Try.prog 16 #[.pointer (some ⟨p, 0, none⟩)] w fun e w' => RecPost e w w' s.tr s.jb s.recd := by
  obtain ⟨A, mb, rfl, hP, hD, f0⟩ := h
  show Calls _ _ _ _ fun e w' => RecPost e w w' A.tr A.jb A.ps.recd
  cases hm : A.man with
  | none =>
    have e0 : A.ps.recd = none := by unfold PS.recd AP.ps; rw [hm]
    rw [e0]
    refine (record_none p bm mb D A w hP hm).mono ?_
    rintro e w' ⟨rfl, f⟩
    exact ⟨f, fun _ => rfl, fun c L e => by cases e⟩
  | some x =>
    obtain ⟨c, ps⟩ := x
    have e0 : A.ps.recd = (recL A.tr A.C ps).map fun L => (c, L) := by unfold PS.recd AP.ps; rw [hm]
    rw [e0]
    exact record_some p bm mb D A c ps w hP hm
end Go.Proofs.Ytdfkjigkpcgngaa
