/-
  The document's keeper, by definition: what a write's steps do.
-/
import Derived.Test.YtnecglghinpgmaaRefK2
import Derived.Test.YtnecglghinpgmaaRefOld
import Derived.Test.YtnecglghinpgmaaCohL
set_option linter.unusedVariables false
set_option linter.unusedSimpArgs false
namespace Go.Proofs.Ytnecglghinpgmaa
open Go.RowKit Go Go.Maps Go.Lib

/-- the pool's write, whatever comes -/
def pE (N : Nat) (P : TP) (t : Int) (x : ByteArray) : Int := if mayB t x = false then 1 else if (txt P t).length % 3 = 0 ∧ used P = N then 6 else 0
theorem rpwrite_yes (g B N : Nat) (P : TP) (S : Nat → Prop) (t : Int) (x : ByteArray) (w : World) (h : Rp w g B N P S) (hb : mayB t x = true) (hn : ¬ noRoom N P t) :
    Calls Try.prog 35 #[.pointer (some ⟨g, 0, none⟩), .int .i64 t, .string x] w fun e w' => e = .returned (.tuple #[spV ⟨t, ((txt P t).length : Int) + 1, x⟩, .int .i64 0]) ∧ Rp w' g B N (addT P t x) (nx S w w') ∧ Fr S w w' := by
  obtain ⟨vt, vs, V, h, hS⟩ := h
  obtain ⟨r, hr⟩ := AtT.ex P t
  rcases hr with ⟨j, p, hj, hp, _⟩ | ⟨hno, _⟩
  · subst hp
    rw [txt_at h.ris hj]
    exact rpwrite_old g B N P vt vs V S j p x w h hS hb hn hj
  · rw [txt_no hno]
    exact rpwrite_new g B N P vt vs V S t x w h hS hb hn hno
theorem rpwrite_no (g B N : Nat) (P : TP) (S : Nat → Prop) (t : Int) (x : ByteArray) (w : World) (h : Rp w g B N P S) (hb : mayB t x = true) (hn : noRoom N P t) :
    Calls Try.prog 35 #[.pointer (some ⟨g, 0, none⟩), .int .i64 t, .string x] w fun e w' => e = .returned (.tuple #[span0, .int .i64 6]) ∧ Fr noB w w' := by
  obtain ⟨vt, vs, V, h, hS⟩ := h
  exact rpwrite_full g B N P vt vs V t x w h hb hn

/-- A row of losses grown. -/
theorem Rk.growl {w wX w1 : World} {k g B N : Nat} {K : KS} {vp vl vg u : Value} {S : Nat → Prop} {L : List Int} (h : Rk w k g B N K vp vl vg S) (fX : Fr noB w wX) (gr : wX.grownBy w1 vl.ownBlock) (mv : Moved wX vl u) (o : w1.ownsRow B 3 1 u L.length (rowV L)) :
    Rk (w1.setCell ⟨k, 3, none⟩ u) k g B N { K with loss := L } vp u vg S ∧ Fr (rkS k vp vl vg S) w (w1.setCell ⟨k, 3, none⟩ u) ∧ ∀ q, u.ownBlock = some q → vl.ownBlock = some q ∨ w.heap.size ≤ q := by
  have hX := h.frN fX
  have f1 : Fr (fun q => vl.ownBlock = some q) wX w1 := (Fr.refl _ wX).grown gr (fun q hq _ => hq)
  have fs : Fr (onlyB k) w1 (w1.setCell ⟨k, 3, none⟩ u) := (Fr.refl _ w1).store rfl
  have hsX := fX.size
  have hk := h.kB
  have hu : ∀ q, u.ownBlock = some q → vl.ownBlock = some q ∨ w.heap.size ≤ q := fun q hq => by
    rcases mv with e | e
    · exact Or.inl (e ▸ hq)
    · rw [e] at hq; cases hq; exact Or.inr hsX
  have hlB : ∀ q, vl.ownBlock = some q → B ≤ q ∧ q < w.heap.size := fun q hq => h.rl.lt q hq
  have hkr : ∀ {v : Value} {L : List Int} {W : World}, W.ownsRow B 3 1 v L.length (rowV L) → ∀ q, v.ownBlock = some q → ¬ onlyB k q := fun hv q hq e => by have := (hv.lt q hq).1; unfold onlyB at e; omega
  have p1 := ownsRow_fr hX.rp f1 (fun q hq e => h.pl q hq e)
  have g1 := ownsRow_fr hX.rg f1 (fun q hq e => h.lg q e hq)
  have F : Fr (rkS k vp vl vg S) w w1 := fX.trans f1 (fun _ _ q => False.elim q) (fun q _ e => Or.inr (Or.inr (Or.inl e)))
  refine ⟨⟨((f1.blk hX.blk (fun e => by have := hlB k e; omega)).set 3 u), (hX.pool.fr f1 (fun q hq e => h.sl q e hq)).fr fs (fun q hq e => h.sk (by unfold onlyB at e; exact e ▸ hq)), ownsRow_fr p1 fs (hkr p1), ownsRow_fr o fs (hkr o), ownsRow_fr g1 fs (hkr g1), hk, h.gB, Nat.le_trans (Nat.le_trans hX.Bw f1.size) fs.size, h.sk, h.sp, fun q hq e => ?_, h.sg, fun q hq e => ?_, h.pg, fun q hq e => ?_, fun q hq => Nat.lt_of_lt_of_le (h.low q hq) (Nat.le_trans hsX (Nat.le_trans f1.size fs.size))⟩, F.trans fs (fun _ _ q => q) (fun q _ e => Or.inl e), hu⟩
  · rcases hu q hq with q1 | q1
    · exact h.sl q q1 e
    · have := h.low q e; omega
  · rcases hu q e with q1 | q1
    · exact h.pl q hq q1
    · have := (h.rp.lt q hq).2; omega
  · rcases hu q hq with q1 | q1
    · exact h.lg q q1 e
    · have := (h.rg.lt q e).2; omega
/-- A row of what went grown. -/
theorem Rk.growg {w wX w1 : World} {k g B N : Nat} {K : KS} {vp vl vg u : Value} {S : Nat → Prop} {L : List Int} (h : Rk w k g B N K vp vl vg S) (fX : Fr noB w wX) (gr : wX.grownBy w1 vg.ownBlock) (mv : Moved wX vg u) (o : w1.ownsRow B 3 1 u L.length (rowV L)) :
    Rk (w1.setCell ⟨k, 4, none⟩ u) k g B N { K with gone := L } vp vl u S ∧ Fr (rkS k vp vl vg S) w (w1.setCell ⟨k, 4, none⟩ u) ∧ ∀ q, u.ownBlock = some q → vg.ownBlock = some q ∨ w.heap.size ≤ q := by
  have hX := h.frN fX
  have f1 : Fr (fun q => vg.ownBlock = some q) wX w1 := (Fr.refl _ wX).grown gr (fun q hq _ => hq)
  have fs : Fr (onlyB k) w1 (w1.setCell ⟨k, 4, none⟩ u) := (Fr.refl _ w1).store rfl
  have hsX := fX.size
  have hk := h.kB
  have hu : ∀ q, u.ownBlock = some q → vg.ownBlock = some q ∨ w.heap.size ≤ q := fun q hq => by
    rcases mv with e | e
    · exact Or.inl (e ▸ hq)
    · rw [e] at hq; cases hq; exact Or.inr hsX
  have hlB : ∀ q, vg.ownBlock = some q → B ≤ q ∧ q < w.heap.size := fun q hq => h.rg.lt q hq
  have hkr : ∀ {v : Value} {L : List Int} {W : World}, W.ownsRow B 3 1 v L.length (rowV L) → ∀ q, v.ownBlock = some q → ¬ onlyB k q := fun hv q hq e => by have := (hv.lt q hq).1; unfold onlyB at e; omega
  have p1 := ownsRow_fr hX.rp f1 (fun q hq e => h.pg q hq e)
  have l1 := ownsRow_fr hX.rl f1 (fun q hq e => h.lg q hq e)
  have F : Fr (rkS k vp vl vg S) w w1 := fX.trans f1 (fun _ _ q => False.elim q) (fun q _ e => Or.inr (Or.inr (Or.inr (Or.inl e))))
  refine ⟨⟨((f1.blk hX.blk (fun e => by have := hlB k e; omega)).set 4 u), (hX.pool.fr f1 (fun q hq e => h.sg q e hq)).fr fs (fun q hq e => h.sk (by unfold onlyB at e; exact e ▸ hq)), ownsRow_fr p1 fs (hkr p1), ownsRow_fr l1 fs (hkr l1), ownsRow_fr o fs (hkr o), hk, h.gB, Nat.le_trans (Nat.le_trans hX.Bw f1.size) fs.size, h.sk, h.sp, h.sl, fun q hq e => ?_, h.pl, fun q hq e => ?_, fun q hq e => ?_, fun q hq => Nat.lt_of_lt_of_le (h.low q hq) (Nat.le_trans hsX (Nat.le_trans f1.size fs.size))⟩, F.trans fs (fun _ _ q => q) (fun q _ e => Or.inl e), hu⟩
  · rcases hu q hq with q1 | q1
    · exact h.sg q q1 e
    · have := h.low q e; omega
  · rcases hu q e with q1 | q1
    · exact h.pg q hq q1
    · have := (h.rp.lt q hq).2; omega
  · rcases hu q e with q1 | q1
    · exact h.lg q hq q1
    · have := (h.rl.lt q hq).2; omega

/-- the least of a list, however it is turned -/
theorem least_turn (sd t : Int) (F : List Int) : leastS sd (t :: F) = leastS sd (F ++ [t]) := by
  have m1 := least_mem sd (t :: F) (by simp)
  have m2 := least_mem sd (F ++ [t]) (by simp)
  have n1 := least_not sd (F ++ [t]) (leastS sd (t :: F)) (by
    rcases List.mem_cons.1 m1 with e | e
    · rw [e]; simp
    · exact List.mem_append_left _ e)
  have n2 := least_not sd (t :: F) (leastS sd (F ++ [t])) (by
    rcases List.mem_append.1 m2 with e | e
    · exact List.mem_cons_of_mem _ e
    · rw [List.mem_singleton.1 e]; simp)
  apply Decidable.byContradiction
  intro hne
  have := lessB_total sd _ _ hne n1
  rw [n2] at this
  cases this
end Go.Proofs.Ytnecglghinpgmaa
