/-
  What came so far, by a plain state.
  store, plainly: what is kept, what is written, what came; what each call makes of it.
  store: how it lies; what a call makes of it.
-/
import Derived.Test.YtdmhnoffejjpnaaGreatDoorZAZ
import Derived.Test.YtdmhnoffejjpnaaGreatDoorZAY
section
set_option linter.unusedVariables false
set_option linter.unusedSimpArgs false
set_option maxRecDepth 100000
set_option maxRecDepth 100000
namespace Go.Proofs.YtdmhnoffejjpnaaGreatDoor
open Go.RowKit Go Go.Maps Go.Lib

/-- what came so far, plainly: trace, job, the manifest, the chunks by agents -/
structure PS where
  tr : Int
  jb : Int
  man : Option (Int × List Pn)
  C : CH
def PS.hears (s : PS) (m : Ms) : Bool := m.ok && (decide (m.tj.1 = s.tr) && decide (m.tj.2 = s.jb))
def PS.hear (s : PS) (m : Ms) : Bool × PS := if s.hears m = true then ((takeM s.man s.C m).1, ⟨s.tr, s.jb, (takeM s.man s.C m).2.1, (takeM s.man s.C m).2.2⟩) else (false, s)
def PS.miss (s : PS) : List Int := match s.man with
  | none => []
  | some x => missL s.tr s.C x.2
def PS.recd (s : PS) : Option (Int × List (Pn × List Sp)) := match s.man with
  | none => none
  | some x => (recL s.tr s.C x.2).map fun L => (x.1, L)
def AP.ps (A : AP) : PS := ⟨A.tr, A.jb, A.man, A.C⟩
/-- it lies at p so, all its blocks made since w0 -/
def AsmV (w0 w : World) (p bm : Nat) (D : Nat → Prop) (s : PS) : Prop := ∃ A mb, A.ps = s ∧ AsmP w p bm mb D A ∧ (∀ g, D g → w0.heap.size ≤ g) ∧ Fr noB w0 w
theorem AsmV.frN {w0 w w' : World} {p bm : Nat} {D : Nat → Prop} {s : PS} (h : AsmV w0 w p bm D s) (f : Fr noB w w') : AsmV w0 w' p bm D s := by
  obtain ⟨A, mb, h1, h2, h3, h4⟩ := h
  exact ⟨A, mb, h1, h2.frN f, h3, h4.seqN f⟩
theorem AsmV.fr0 {w0 w : World} {p bm : Nat} {D : Nat → Prop} {s : PS} (h : AsmV w0 w p bm D s) : Fr noB w0 w := by obtain ⟨A, mb, h1, h2, h3, h4⟩ := h; exact h4
theorem AsmV.lt {w0 w : World} {p bm : Nat} {D : Nat → Prop} {s : PS} (h : AsmV w0 w p bm D s) : ∀ g, D g → g < w.heap.size := by obtain ⟨A, mb, h1, h2, h3, h4⟩ := h; exact h2.lt
theorem AsmV.ge {w0 w : World} {p bm : Nat} {D : Nat → Prop} {s : PS} (h : AsmV w0 w p bm D s) : ∀ g, D g → w0.heap.size ≤ g := by obtain ⟨A, mb, h1, h2, h3, h4⟩ := h; exact h3
theorem new_v (t j : Int) (w : World) : Calls Tryz.prog 87 #[.int .i64 t, .int .i64 j] w fun e w' => ∃ p bm D, e = .returned (.pointer (some ⟨p, 0, none⟩)) ∧ AsmV w w' p bm D ⟨t, j, none, []⟩ := by
  refine (anew_any t j w).mono ?_
  rintro e w' ⟨p, bm, rfl, hp, hb, h, f⟩
  exact ⟨p, bm, _, rfl, _, _, rfl, h, fun g hg => by rcases hg with rfl | rfl <;> assumption, f⟩
theorem hear_v (w0 : World) (p bm : Nat) (D : Nat → Prop) (s : PS) (m : Ms) (v : Value) (w : World) (h : AsmV w0 w p bm D s) (hm : MsW w v m) :
    Calls Tryz.prog 88 #[.pointer (some ⟨p, 0, none⟩), v] w fun e w' => e = .returned (.bool (s.hear m).1) ∧ Fr D w w' ∧ ∃ D' : Nat → Prop, AsmV w0 w' p bm D' (s.hear m).2 ∧ (∀ g, D' g → D g ∨ w.heap.size ≤ g) := by
  obtain ⟨A, mb, rfl, hP, hD, f0⟩ := h
  refine (ahear_any p bm mb D A m v w hP hm).mono ?_
  rintro e w' ⟨rfl, A', ⟨h1, h2, h3, h4⟩, mb', D', hP', hs, hn, f⟩
  have hx : ((A.ps.hear m).1, (A.ps.hear m).2.man, (A.ps.hear m).2.C) = A.hearM m ∧ (A.ps.hear m).2.tr = A.tr ∧ (A.ps.hear m).2.jb = A.jb := by
    unfold PS.hear AP.hearM PS.hears AP.hears AP.ps
    by_cases hq : (m.ok && (decide (m.tj.1 = A.tr) && decide (m.tj.2 = A.jb))) = true
    · rw [if_pos hq, if_pos hq]; exact ⟨rfl, rfl, rfl⟩
    · rw [if_neg hq, if_neg hq]; exact ⟨rfl, rfl, rfl⟩
  refine ⟨by rw [← hx.1], f, D', ⟨A', mb', ?_, hP', fun g hg => (hn g hg).elim (hD g) (fun q => Nat.le_trans f0.size q), ?_⟩, hn⟩
  · refine Eq.trans (b := PS.mk (A.ps.hear m).2.tr (A.ps.hear m).2.jb (A.ps.hear m).2.man (A.ps.hear m).2.C) ?_ rfl
    show PS.mk A'.tr A'.jb A'.man A'.C = _
    rw [hx.2.1, hx.2.2, h1, h2, h3, h4, ← hx.1]
  · exact f0.trans f (fun _ _ q => q) (fun g hg q => by have := hD g q; omega)
theorem record_v (w0 : World) (p bm : Nat) (D : Nat → Prop) (s : PS) (w : World) (h : AsmV w0 w p bm D s) :
    Calls Tryz.prog 89 #[.pointer (some ⟨p, 0, none⟩)] w fun e w' => RecPost e w w' s.tr s.jb s.recd := by
  obtain ⟨A, mb, rfl, hP, hD, f0⟩ := h
  show Calls _ _ _ _ fun e w' => RecPost e w w' A.tr A.jb A.ps.recd
  cases hm : A.man with
  | none =>
    have e0 : A.ps.recd = none := by unfold PS.recd AP.ps; rw [hm]
    rw [e0]
    refine (record_none p bm mb D A w hP hm).mono ?_
    rintro e w' ⟨rfl, f⟩
    exact ⟨f, fun _ => rfl, fun c L e => by cases e⟩
  | some x =>
    obtain ⟨c, ps⟩ := x
    have e0 : A.ps.recd = (recL A.tr A.C ps).map fun L => (c, L) := by unfold PS.recd AP.ps; rw [hm]
    rw [e0]
    exact record_some p bm mb D A c ps w hP hm
end Go.Proofs.YtdmhnoffejjpnaaGreatDoor
end

section
set_option linter.unusedVariables false
set_option linter.unusedSimpArgs false
set_option maxRecDepth 100000
namespace Go.Proofs.YtdmhnoffejjpnaaGreatDoor
open Go.RowKit Go Go.Maps Go.Lib

/-- the record that what came is -/
def rcOf (t j c : Int) (L : List (Pn × List Sp)) : RC := ⟨t, j, c, wholeL L, L.map fun x => ⟨x.1.a, x.2, x.1.cr, x.1.lo⟩⟩
/-- a store, by its numbers: kept, written, refused, what came by job and trace -/
structure SS where
  K : List RC
  Wn : List RC
  R : Nat
  C : Int → Int → Option PS
def SS.all (X : SS) : List RC := X.K ++ X.Wn
def jbs (L : List RC) : List Int := L.map (·.jb)
def SS.st (X : SS) (j : Int) : Option Int := if j ∈ jbs X.K then some 2 else if j ∈ jbs X.Wn then some 1 else none
def SS.asm (X : SS) (m : Ms) : PS := (((X.C m.tj.2 m.tj.1).getD ⟨m.tj.1, m.tj.2, none, []⟩).hear m).2
def SS.put (X : SS) (m : Ms) : SS := ⟨X.K, X.Wn, X.R, fun j t => if j = m.tj.2 ∧ t = m.tj.1 then some (X.asm m) else X.C j t⟩
/-- there is no room for a record, or it may not be -/
def SS.no (X : SS) (r : RC) : Prop := printRc r = [] ∨ 65536 < (bytesR X.all).length + (printRc r).length
def SS.wrt (X : SS) (r : RC) (j : Int) : SS := ⟨X.K, X.Wn ++ [r], X.R, fun i t => if i = j then none else X.C i t⟩
open Classical in
noncomputable def SS.col (X : SS) (m : Ms) : SS := match (X.asm m).recd with
  | none => X.put m
  | some x => if X.no (rcOf m.tj.1 m.tj.2 x.1 x.2) then { X.put m with R := X.R + 1 } else X.wrt (rcOf m.tj.1 m.tj.2 x.1 x.2) m.tj.2
noncomputable def SS.hear (X : SS) (m : Ms) : SS := if m.ok = false then X else match m with
  | .manifest _ j _ _ => if X.st j = none then X.col m else X
  | .chunk _ _ j _ _ _ => if X.st j = none then X.col m else X
  | _ => X
def SS.outs (X : SS) (m : Ms) : List Ms := if m.ok = false then [] else match m with
  | .manifest t j _ _ => if X.st j = some 2 then [.stored t j] else []
  | _ => []
def SS.tick (X : SS) : SS := ⟨X.K ++ X.Wn, [], X.R, X.C⟩
def SS.told (X : SS) : List Ms := X.Wn.map fun r => .stored r.tr r.jb
/-- how many whole records so many bytes are -/
def fitN : List RC → Nat → Nat
  | [], _ => 0
  | r :: L, m => if (frR r).length ≤ m then 1 + fitN L (m - (frR r).length) else 0
def SS.left (X : SS) (k : Int) : Nat := (bytesR X.K).length + crN k ((bytesR X.all).length - (bytesR X.K).length)
def SS.crash (X : SS) (k : Int) : SS := ⟨X.all.take (fitN X.all (X.left k)), [], X.R, fun _ _ => none⟩

/-- what is always so -/
structure SS.Inv (X : SS) : Prop where
  nd : (jbs X.all).Nodup
  ok : ∀ r ∈ X.all, okW r
  tj : ∀ j t s, X.C j t = some s → s.tr = t ∧ s.jb = j
  le : (bytesR X.all).length ≤ 65536
theorem jbs_app (L M : List RC) : jbs (L ++ M) = jbs L ++ jbs M := List.map_append ..
theorem bytesR_app (L M : List RC) : bytesR (L ++ M) = bytesR L ++ bytesR M := by unfold bytesR; rw [List.flatMap_append]
theorem SS.st_none {X : SS} {j : Int} : X.st j = none ↔ j ∉ jbs X.all := by
  unfold SS.st SS.all
  rw [jbs_app, List.mem_append]
  by_cases h : j ∈ jbs X.K
  · simp [h]
  · by_cases h2 : j ∈ jbs X.Wn <;> simp [h, h2]
theorem SS.st_cases (X : SS) (j : Int) : X.st j = none ∨ X.st j = some 1 ∨ X.st j = some 2 := by
  unfold SS.st
  by_cases h : j ∈ jbs X.K
  · simp [h]
  · by_cases h2 : j ∈ jbs X.Wn <;> simp [h, h2]
theorem ps_hear_tj (s : PS) (m : Ms) : (s.hear m).2.tr = s.tr ∧ (s.hear m).2.jb = s.jb := by unfold PS.hear; split <;> exact ⟨rfl, rfl⟩
theorem SS.Inv.asm {X : SS} (h : X.Inv) (m : Ms) : (X.asm m).tr = m.tj.1 ∧ (X.asm m).jb = m.tj.2 := by
  unfold SS.asm
  have := ps_hear_tj ((X.C m.tj.2 m.tj.1).getD ⟨m.tj.1, m.tj.2, none, []⟩) m
  rw [this.1, this.2]
  cases hc : X.C m.tj.2 m.tj.1 with
  | none => exact ⟨rfl, rfl⟩
  | some s => exact h.tj _ _ _ hc
theorem SS.Inv.put {X : SS} (h : X.Inv) (m : Ms) : (X.put m).Inv := ⟨h.nd, h.ok, fun j t s e => by
  unfold SS.put at e
  simp only at e
  by_cases hq : j = m.tj.2 ∧ t = m.tj.1
  · rw [if_pos hq] at e
    injection e with e
    subst e
    rw [hq.1, hq.2]
    exact h.asm m
  · rw [if_neg hq] at e
    exact h.tj _ _ _ e, h.le⟩
theorem sgp_yes {r : RC} (h : printRc r ≠ []) : okW r ∧ printRc r = frR r := by
  unfold printRc at *
  by_cases h1 : okRc r = true
  · rw [if_pos h1] at h ⊢
    by_cases h2 : (recT r).length ≤ 60000
    · rw [if_pos h2]; exact ⟨⟨h1, h2⟩, rfl⟩
    · rw [if_neg h2] at h; exact absurd rfl h
  · rw [if_neg h1] at h; exact absurd rfl h
theorem bytesR_one (r : RC) : bytesR [r] = frR r := by unfold bytesR; simp
theorem SS.Inv.wrt {X : SS} (h : X.Inv) {r : RC} {j : Int} (hj : r.jb = j) (hn : j ∉ jbs X.all) (hr : ¬ X.no r) : (X.wrt r j).Inv := by
  unfold SS.no at hr
  have h1 := sgp_yes (fun e => hr (Or.inl e))
  have h2 : (bytesR X.all).length + (frR r).length ≤ 65536 := by
    rw [← h1.2]; exact Nat.le_of_not_lt (fun e => hr (Or.inr e))
  have ea : (X.wrt r j).all = X.all ++ [r] := by unfold SS.wrt SS.all; simp
  refine ⟨?_, ?_, ?_, ?_⟩
  · rw [ea, jbs_app]
    refine List.nodup_append.2 ⟨h.nd, by simp [jbs], ?_⟩
    intro a ha b hb
    simp [jbs] at hb
    subst hb
    intro e
    subst e
    rw [hj] at ha
    exact hn ha
  · rw [ea]
    intro q hq
    rcases List.mem_append.1 hq with hq | hq
    · exact h.ok q hq
    · simp at hq; subst hq; exact h1.1
  · intro i t s e
    unfold SS.wrt at e
    simp only at e
    by_cases hi : i = j
    · rw [if_pos hi] at e; cases e
    · rw [if_neg hi] at e; exact h.tj _ _ _ e
  · rw [ea, bytesR_app, bytesR_one, List.length_append]; exact h2
theorem SS.Inv.col {X : SS} (h : X.Inv) (m : Ms) (hn : m.tj.2 ∉ jbs X.all) : (X.col m).Inv := by
  unfold SS.col
  split
  · exact h.put m
  · rename_i x hx
    split
    · have := h.put m
      exact ⟨this.nd, this.ok, this.tj, this.le⟩
    · rename_i hr
      exact h.wrt rfl hn hr
theorem SS.Inv.hear {X : SS} (h : X.Inv) (m : Ms) : (X.hear m).Inv := by
  unfold SS.hear
  split
  · exact h
  · split
    · split
      · rename_i hs; exact h.col _ (SS.st_none.1 hs)
      · exact h
    · split
      · rename_i hs; exact h.col _ (SS.st_none.1 hs)
      · exact h
    · exact h
theorem SS.tick_all (X : SS) : X.tick.all = X.all := by unfold SS.tick SS.all; simp
theorem SS.Inv.tick {X : SS} (h : X.Inv) : X.tick.Inv := ⟨by rw [X.tick_all]; exact h.nd, by rw [X.tick_all]; exact h.ok, h.tj, by rw [X.tick_all]; exact h.le⟩
theorem fit_le : ∀ (L : List RC) (m : Nat), fitN L m ≤ L.length ∧ (bytesR (L.take (fitN L m))).length ≤ m
  | [], m => ⟨Nat.le_refl _, Nat.zero_le _⟩
  | r :: L, m => by
    unfold fitN
    split
    · rename_i h
      obtain ⟨h1, h2⟩ := fit_le L (m - (frR r).length)
      refine ⟨by rw [List.length_cons]; omega, ?_⟩
      rw [Nat.add_comm, List.take_succ_cons]
      show (frR r ++ bytesR (L.take _)).length ≤ m
      rw [List.length_append]; omega
    · exact ⟨Nat.zero_le _, Nat.zero_le _⟩
theorem fit_max : ∀ (L : List RC) (m i : Nat), i ≤ L.length → (bytesR (L.take i)).length ≤ m → i ≤ fitN L m
  | [], m, i, h, _ => h
  | r :: L, m, 0, _, _ => Nat.zero_le _
  | r :: L, m, i + 1, h, h2 => by
    rw [List.take_succ_cons] at h2
    have h3 : (frR r ++ bytesR (L.take i)).length ≤ m := h2
    rw [List.length_append] at h3
    unfold fitN
    rw [if_pos (by omega)]
    have := fit_max L (m - (frR r).length) i (by simpa using h) (by omega)
    omega
theorem SS.left_le (X : SS) (k : Int) (h : X.Inv) : (bytesR X.K).length ≤ X.left k ∧ X.left k ≤ (bytesR X.all).length := by
  unfold SS.left
  have h1 : (bytesR X.all).length = (bytesR X.K).length + (bytesR X.Wn).length := by unfold SS.all; rw [bytesR_app, List.length_append]
  have := (crN_spec k ((bytesR X.all).length - (bytesR X.K).length) (by have := h.le; omega)).2
  omega
/-- all that was kept is there -/
theorem SS.fit_ge (X : SS) (k : Int) (h : X.Inv) : X.K.length ≤ fitN X.all (X.left k) := by
  refine fit_max _ _ _ (by unfold SS.all; rw [List.length_append]; omega) ?_
  have : X.all.take X.K.length = X.K := by unfold SS.all; rw [List.take_left]
  rw [this]
  exact (X.left_le k h).1
theorem SS.Inv.crash {X : SS} (h : X.Inv) (k : Int) : (X.crash k).Inv := by
  have ea : (X.crash k).all = X.all.take (fitN X.all (X.left k)) := by unfold SS.crash SS.all; simp
  refine ⟨?_, ?_, ?_, ?_⟩
  · rw [ea]
    exact h.nd.sublist (List.Sublist.map _ (List.take_sublist _ _))
  · rw [ea]; exact fun r hr => h.ok r (List.mem_of_mem_take hr)
  · intro j t s e; cases e
  · rw [ea]
    have := (fit_le X.all (X.left k)).2
    have := (X.left_le k h).2
    have := h.le
    omega
def SS.zero : SS := ⟨[], [], 0, fun _ _ => none⟩
theorem SS.Inv.zero : SS.zero.Inv := ⟨List.nodup_nil, fun r hr => (by cases hr), fun _ _ _ e => (by cases e), Nat.zero_le _⟩
end Go.Proofs.YtdmhnoffejjpnaaGreatDoor
end

section
set_option linter.unusedVariables false
set_option linter.unusedSimpArgs false
set_option maxRecDepth 100000
set_option maxRecDepth 100000
namespace Go.Proofs.YtdmhnoffejjpnaaGreatDoor
open Go.RowKit Go Go.Maps Go.Lib

/-- whose a block is: 1 the store, 2 disk, 3 the jobs' map, 4 what came, 5 what is written; 6 a job's map, 7 an assembler's -/
abbrev Tg := Nat × Int × Int
def tg0 : Tg := (0, 0, 0)
/-- an assembler at p -/
def AsmZ (w : World) (p : Nat) (D : Nat → Prop) (s : PS) : Prop := ∃ A bm mb, A.ps = s ∧ AsmP w p bm mb D A
theorem AsmZ.fr {w w' : World} {p : Nat} {D S : Nat → Prop} {s : PS} (h : AsmZ w p D s) (f : Fr S w w') (hS : ∀ g, D g → ¬ S g) : AsmZ w' p D s := by
  obtain ⟨A, bm, mb, h1, h2⟩ := h
  exact ⟨A, bm, mb, h1, h2.fr f hS⟩
theorem AsmZ.lt {w : World} {p : Nat} {D : Nat → Prop} {s : PS} (h : AsmZ w p D s) : ∀ g, D g → g < w.heap.size := by
  obtain ⟨A, bm, mb, h1, h2⟩ := h
  exact h2.lt
theorem new_z (t j : Int) (w : World) : Calls Tryz.prog 87 #[.int .i64 t, .int .i64 j] w fun e w' => ∃ p D, e = .returned (.pointer (some ⟨p, 0, none⟩)) ∧ AsmZ w' p D ⟨t, j, none, []⟩ ∧ (∀ g, D g → w.heap.size ≤ g) ∧ Fr noB w w' := by
  refine (new_v t j w).mono ?_
  rintro e w' ⟨p, bm, D, rfl, A, mb, h1, h2, h3, h4⟩
  exact ⟨p, D, rfl, ⟨A, bm, mb, h1, h2⟩, h3, h4⟩
theorem hear_z (p : Nat) (D : Nat → Prop) (s : PS) (m : Ms) (v : Value) (w : World) (h : AsmZ w p D s) (hm : MsW w v m) :
    Calls Tryz.prog 88 #[.pointer (some ⟨p, 0, none⟩), v] w fun e w' => e = .returned (.bool (s.hear m).1) ∧ Fr D w w' ∧ ∃ D' : Nat → Prop, AsmZ w' p D' (s.hear m).2 ∧ (∀ g, D' g → D g ∨ w.heap.size ≤ g) := by
  obtain ⟨A, bm, mb, rfl, hP⟩ := h
  refine (ahear_any p bm mb D A m v w hP hm).mono ?_
  rintro e w' ⟨rfl, A', ⟨h1, h2, h3, h4⟩, mb', D', hP', hs, hn, f⟩
  have hx : ((A.ps.hear m).1, (A.ps.hear m).2.man, (A.ps.hear m).2.C) = A.hearM m ∧ (A.ps.hear m).2.tr = A.tr ∧ (A.ps.hear m).2.jb = A.jb := by
    unfold PS.hear AP.hearM PS.hears AP.hears AP.ps
    by_cases hq : (m.ok && (decide (m.tj.1 = A.tr) && decide (m.tj.2 = A.jb))) = true
    · rw [if_pos hq, if_pos hq]; exact ⟨rfl, rfl, rfl⟩
    · rw [if_neg hq, if_neg hq]; exact ⟨rfl, rfl, rfl⟩
  refine ⟨by rw [← hx.1], f, D', ⟨A', bm, mb', ?_, hP'⟩, hn⟩
  refine Eq.trans (b := PS.mk (A.ps.hear m).2.tr (A.ps.hear m).2.jb (A.ps.hear m).2.man (A.ps.hear m).2.C) ?_ rfl
  show PS.mk A'.tr A'.jb A'.man A'.C = _
  rw [hx.2.1, hx.2.2, h1, h2, h3, h4, ← hx.1]
theorem record_z (p : Nat) (D : Nat → Prop) (s : PS) (w : World) (h : AsmZ w p D s) :
    Calls Tryz.prog 89 #[.pointer (some ⟨p, 0, none⟩)] w fun e w' => RecPost e w w' s.tr s.jb s.recd := by
  obtain ⟨A, bm, mb, rfl, hP⟩ := h
  show Calls _ _ _ _ fun e w' => RecPost e w w' A.tr A.jb A.ps.recd
  cases hm : A.man with
  | none =>
    have e0 : A.ps.recd = none := by unfold PS.recd AP.ps; rw [hm]
    rw [e0]
    refine (record_none p bm mb D A w hP hm).mono ?_
    rintro e w' ⟨rfl, f⟩
    exact ⟨f, fun _ => rfl, fun c L e => by cases e⟩
  | some x =>
    obtain ⟨c, ps⟩ := x
    have e0 : A.ps.recd = (recL A.tr A.C ps).map fun L => (c, L) := by unfold PS.recd AP.ps; rw [hm]
    rw [e0]
    exact record_some p bm mb D A c ps w hP hm

/-- where a store lies -/
structure Sd where
  gd : Nat
  B : Nat
  bj : Nat
  J : List (Int × Int)
  pa : Option Addr
  pc : Nat
  pB : Nat
  bc : Nat
  O : List (Int × (Nat × List (Int × Nat)))
def stC (r : RC) : List Value := [.int .i64 r.tr, .int .i64 r.jb]
def Sd.at (a : Sd) (j : Int) : Option (Nat × List (Int × Nat)) := look a.O j
def inL (I : List (Int × Nat)) : List (Int × Option Nat) := I.map fun q => (q.1, some q.2)
def ouL (O : List (Int × (Nat × List (Int × Nat)))) : List (Int × Option Nat) := O.map fun o => (o.1, some o.2.1)
/-- a job's map, and the assemblers in it -/
structure InS (w : World) (col : Nat → Tg) (n : Nat) (C : Int → Int → Option PS) (j : Int) (b : Nat) (I : List (Int × Nat)) : Prop where
  mp : Mp Tryz.prog 3 klI mkP w b I.length (inL I)
  c6 : col b = (6, j, 0)
  am : ∀ q ∈ I, ∃ s D, C j q.1 = some s ∧ AsmZ w q.2 D s ∧ ∀ g, D g → col g = (7, j, q.1)
  zn : I.length ≤ n
/-- it lies so: the disk's bytes, how many are kept, where jobs are, what is written, refused, what came -/
structure StG (w : World) (gS : Nat) (col : Nat → Tg) (n : Nat) (bs : List UInt8) (kb : Nat) (st : Int → Option Int) (P : List RC) (R : Nat) (C : Int → Int → Option PS) (a : Sd) : Prop where
  blk : Blk w gS 84 [.pointer (some ⟨a.gd, 0, none⟩), .map (some a.bj), .slice a.pa P.length a.pc, .map (some a.bc), .int .i64 R]
  dk : Dk w a.gd a.B bs kb
  jm : Mp Tryz.prog 3 klI mkN w a.bj a.J.length a.J
  hJ : ∀ j, look a.J j = st j
  pd : w.ownsRow a.pB 76 2 (.slice a.pa P.length a.pc) P.length (P.flatMap stC)
  cm : Mp Tryz.prog 3 klI mkB w a.bc a.O.length (ouL a.O)
  im : ∀ o ∈ a.O, InS w col n C o.1 o.2.1 o.2.2
  hO : ∀ j t, (look a.O j).bind (fun x => look x.2 t) = none → C j t = none
  c1 : col gS = (1, 0, 0)
  c2 : ∀ q, touched w a.gd q → col q = (2, 0, 0)
  c3 : col a.bj = (3, 0, 0)
  c4 : col a.bc = (4, 0, 0)
  c5 : ∀ g, (Value.slice a.pa P.length a.pc).ownBlock = some g → col g = (5, 0, 0)
  low : ∀ q, col q ≠ tg0 → q < w.heap.size
  zn : a.O.length ≤ n ∧ R ≤ n ∧ n ≤ 100000
  zJ : a.J.length ≤ 70000
structure StW (w : World) (gS : Nat) (col : Nat → Tg) (n : Nat) (X : SS) (a : Sd) : Prop where
  inv : X.Inv
  g : StG w gS col n (bytesR X.all) (bytesR X.K).length X.st X.Wn X.R X.C a
theorem tg_ne {c d : Tg} (h : c.1 ≠ d.1) : c ≠ d := fun e => h (by rw [e])
theorem ne_of_tg {col : Nat → Tg} {g h : Nat} {c d : Tg} (h1 : col g = c) (h2 : col h = d) (hn : c.1 ≠ d.1) : g ≠ h := fun e => hn (by rw [← h1, ← h2, e])
theorem touched_fr {w w' : World} {S : Nat → Prop} {g q : Nat} {t : TypeId} {cs : List Value} (hb : Blk w g t cs) (f : Fr S w w') (hS : ¬ S g) (h : touched w' g q) : touched w g q := by
  rcases h with rfl | ⟨a, n, c, x, hb', rfl⟩
  · exact Or.inl rfl
  · have hb2 := f.block g hb.lt hS
    unfold Blk at hb'
    rw [hb2] at hb'
    exact Or.inr ⟨a, n, c, x, hb', rfl⟩
theorem Dk.fr {w w' : World} {S : Nat → Prop} {g B : Nat} {bs : List UInt8} {kept : Nat} (h : Dk w g B bs kept) (f : Fr S w w') (hS : ∀ q, touched w g q → ¬ S q) : Dk w' g B bs kept := by
  obtain ⟨a, c, h1, h2, h3, h4, h5, h6⟩ := h
  refine ⟨a, c, f.blk h1 (hS _ (touched_g w g)), ownsRow_fr h2 f (fun q hq => hS q ?_), h3, by have := f.size; omega, h5, h6⟩
  cases a with
  | none => simp [Value.ownBlock] at hq
  | some ad => exact Or.inr ⟨ad, _, c, _, h1, by simpa [Value.ownBlock] using hq⟩
theorem Dk.blk {w : World} {g B : Nat} {bs : List UInt8} {kept : Nat} (h : Dk w g B bs kept) : ∃ cs, Blk w g 121 cs := by
  obtain ⟨a, c, h1, h2⟩ := h
  exact ⟨_, h1⟩
theorem InS.fr {w w' : World} {col : Nat → Tg} {n : Nat} {C : Int → Int → Option PS} {j : Int} {b : Nat} {I : List (Int × Nat)} {S : Nat → Prop} (h : InS w col n C j b I) (f : Fr S w w') (hS : ∀ q, (col q).1 = 6 ∨ (col q).1 = 7 → ¬ S q) : InS w' col n C j b I :=
  ⟨h.mp.fr f (hS _ (Or.inl (by rw [h.c6]))), h.c6, fun q hq => by
    obtain ⟨s, D, h1, h2, h3⟩ := h.am q hq
    exact ⟨s, D, h1, h2.fr f (fun g hg => hS g (Or.inr (by rw [h3 g hg]))), h3⟩, h.zn⟩
section
variable {w w' : World} {gS : Nat} {col : Nat → Tg} {n : Nat} {bs : List UInt8} {kb : Nat} {st : Int → Option Int} {P : List RC} {R : Nat} {C : Int → Int → Option PS} {a : Sd}
theorem StG.fr {S : Nat → Prop} (h : StG w gS col n bs kb st P R C a) (f : Fr S w w') (hS : ∀ q, col q ≠ tg0 → ¬ S q) : StG w' gS col n bs kb st P R C a := by
  have e : ∀ q (c : Tg), col q = c → c.1 ≠ 0 → ¬ S q := fun q c h1 h2 => hS q (by rw [h1]; exact tg_ne h2)
  obtain ⟨cs, hb⟩ := h.dk.blk
  have hgd : ¬ S a.gd := e _ _ (h.c2 _ (touched_g w a.gd)) (by decide)
  exact ⟨f.blk h.blk (e _ _ h.c1 (by decide)), h.dk.fr f (fun q hq => e _ _ (h.c2 q hq) (by decide)), h.jm.fr f (e _ _ h.c3 (by decide)), h.hJ,
    ownsRow_fr h.pd f (fun g hg => e _ _ (h.c5 g hg) (by decide)), h.cm.fr f (e _ _ h.c4 (by decide)),
    fun o ho => (h.im o ho).fr f (fun q hq => hS q (by rcases hq with hq | hq <;> exact fun e => by rw [e] at hq; cases hq)), h.hO,
    h.c1, fun q hq => h.c2 q (touched_fr hb f hgd hq), h.c3, h.c4, h.c5, fun q hq => Nat.lt_of_lt_of_le (h.low q hq) f.size, h.zn, h.zJ⟩
theorem StG.frN (h : StG w gS col n bs kb st P R C a) (f : Fr noB w w') : StG w' gS col n bs kb st P R C a := h.fr f (fun _ _ q => q)
theorem StG.up {m : Nat} (h : StG w gS col n bs kb st P R C a) (hm : n ≤ m) (h1 : m ≤ 100000) : StG w gS col m bs kb st P R C a := by
  obtain ⟨z1, z2, z3⟩ := h.zn
  exact { h with zn := ⟨by omega, by omega, h1⟩, im := fun o ho => ⟨(h.im o ho).mp, (h.im o ho).c6, (h.im o ho).am, Nat.le_trans (h.im o ho).zn hm⟩ }
end
theorem StW.frN {w w' : World} {gS : Nat} {col : Nat → Tg} {n : Nat} {X : SS} {a : Sd} (h : StW w gS col n X a) (f : Fr noB w w') : StW w' gS col n X a := ⟨h.inv, h.g.frN f⟩
theorem StW.fr {w w' : World} {gS : Nat} {col : Nat → Tg} {n : Nat} {X : SS} {a : Sd} {S : Nat → Prop} (h : StW w gS col n X a) (f : Fr S w w') (hS : ∀ q, col q ≠ tg0 → ¬ S q) : StW w' gS col n X a := ⟨h.inv, h.g.fr f hS⟩
theorem StW.up {w : World} {gS : Nat} {col : Nat → Tg} {n m : Nat} {X : SS} {a : Sd} (h : StW w gS col n X a) (hm : n ≤ m) (h1 : m ≤ 100000) : StW w gS col m X a := ⟨h.inv, h.g.up hm h1⟩
/-- a step: what is coloured may turn; old blocks keep their colours -/
def Stp (w w' : World) (col col' : Nat → Tg) : Prop := Fr (fun q => col q ≠ tg0) w w' ∧ ∀ q, q < w.heap.size → col' q = col q
theorem Stp.ofN {w w' : World} (col : Nat → Tg) (f : Fr noB w w') : Stp w w' col col := ⟨f.mono (fun _ _ q => False.elim q), fun _ _ => rfl⟩
theorem Stp.of {w w' : World} {S : Nat → Prop} (col : Nat → Tg) (f : Fr S w w') (h : ∀ q, S q → col q ≠ tg0) : Stp w w' col col := ⟨f.mono (fun q _ hq => h q hq), fun _ _ => rfl⟩
theorem Stp.trans {w w1 w2 : World} {col c1 c2 : Nat → Tg} (h : Stp w w1 col c1) (k : Stp w1 w2 c1 c2) : Stp w w2 col c2 :=
  ⟨h.1.trans k.1 (fun _ _ q => q) (fun i hi q => by rw [h.2 i hi] at q; exact q), fun q hq => (k.2 q (Nat.lt_of_lt_of_le hq h.1.size)).trans (h.2 q hq)⟩
theorem Stp.thenN {w w1 w2 : World} {col c1 : Nat → Tg} (h : Stp w w1 col c1) (f : Fr noB w1 w2) : Stp w w2 col c1 := h.trans (Stp.ofN c1 f)
theorem Stp.afterN {w w1 w2 : World} {col c1 : Nat → Tg} (f : Fr noB w w1) (h : Stp w1 w2 col c1) : Stp w w2 col c1 := (Stp.ofN col f).trans h
/-- what a call makes of a store -/
def STo (w w' : World) (gS : Nat) (col : Nat → Tg) (n : Nat) (X : SS) (col' : Nat → Tg) : Prop := (∃ a, StW w' gS col' n X a) ∧ Stp w w' col col'
theorem STo.same {w w' : World} {gS : Nat} {col : Nat → Tg} {n : Nat} {X : SS} {a : Sd} (h : StW w gS col n X a) (f : Fr noB w w') : STo w w' gS col n X col := ⟨⟨a, h.frN f⟩, Stp.ofN col f⟩
theorem STo.trans {w w1 w2 : World} {gS : Nat} {col c1 c2 : Nat → Tg} {n m : Nat} {X Y : SS} (h : STo w w1 gS col n X c1) (k : STo w1 w2 gS c1 m Y c2) : STo w w2 gS col m Y c2 := ⟨k.1, h.2.trans k.2⟩
theorem STo.wrapN {w wA w2 w9 : World} {gS : Nat} {col c2 : Nat → Tg} {n : Nat} {X : SS} (f : Fr noB w wA) (h : STo wA w2 gS col n X c2) (f9 : Fr noB w2 w9) : STo w w9 gS col n X c2 := by
  obtain ⟨⟨a, ha⟩, k⟩ := h
  exact ⟨⟨a, ha.frN f9⟩, Stp.afterN f (k.thenN f9)⟩
/-- new blocks' owners -/
noncomputable def reT (n0 : Nat) (col : Nat → Tg) (S : Nat → Prop) (c : Tg) : Nat → Tg := fun q => open Classical in if q < n0 then col q else if S q then c else tg0
theorem reT_lt {n0 : Nat} {col : Nat → Tg} {S : Nat → Prop} {c : Tg} {q : Nat} (h : q < n0) : reT n0 col S c q = col q := by unfold reT; rw [if_pos h]
theorem reT_in {n0 : Nat} {col : Nat → Tg} {S : Nat → Prop} {c : Tg} {q : Nat} (h : S q) (h2 : q < n0 → col q = c) : reT n0 col S c q = c := by
  unfold reT
  by_cases h1 : q < n0
  · rw [if_pos h1]; exact h2 h1
  · rw [if_neg h1, if_pos h]
theorem reT_low {n0 : Nat} {col : Nat → Tg} {S : Nat → Prop} {c : Tg} {q : Nat} (h : reT n0 col S c q ≠ tg0) : q < n0 ∨ S q := by
  unfold reT at h
  by_cases h1 : q < n0
  · exact Or.inl h1
  · rw [if_neg h1] at h
    by_cases h2 : S q
    · exact Or.inr h2
    · rw [if_neg h2] at h; exact absurd rfl h
theorem ou_look (O : List (Int × (Nat × List (Int × Nat)))) (j : Int) : look (ouL O) j = (look O j).map fun x => some x.1 := look_map (fun x : Nat × List (Int × Nat) => some x.1) O j
theorem in_look (I : List (Int × Nat)) (t : Int) : look (inL I) t = (look I t).map some := look_map (fun x : Nat => some x) I t
theorem jl_le {w : World} {gS : Nat} {col : Nat → Tg} {n : Nat} {X : SS} {a : Sd} (h : StW w gS col n X a) : a.J.length ≤ 65536 := by
  have h1 : ∀ k ∈ a.J.map (·.1), k ∈ jbs X.all := by
    intro k hk
    obtain ⟨x, hx, rfl⟩ := List.mem_map.1 hk
    have h2 := look_mem h.g.jm.nodup (k := x.1) (x := x.2) hx
    rw [h.g.hJ] at h2
    by_cases h3 : x.1 ∈ jbs X.all
    · exact h3
    · rw [SS.st_none.2 h3] at h2; cases h2
  have h4 := nodup_le h.g.jm.nodup h1
  have h5 := bytes_few X.all
  have := h.inv.le
  unfold jbs at h4
  simp at h4
  omega
end Go.Proofs.YtdmhnoffejjpnaaGreatDoor
end
