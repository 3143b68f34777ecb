/-
  What was written of each trace since it was forgotten: plain mathematics; the map that holds it.
-/
import Derived.Test.YtnecglghinpgmaaFewSame
set_option linter.unusedVariables false
set_option linter.unusedSimpArgs false
namespace Go.Proofs.Ytnecglghinpgmaa
open Go.RowKit Go Go.Maps Go.Lib

def updY (Y : Int → List Sp) (t : Int) (l : List Sp) : Int → List Sp := fun u => if u = t then l else Y u
def Al (K : KS) (Y : Int → List Sp) : Prop := ∀ t, t ∉ K.loss → Y t = spansOf t (txt K.P t)
/-- what is written behind a call -/
def nextY (N : Nat) (K : KS) (Y : Int → List Sp) (m : OpE) : Int → List Sp :=
  if m.k = 1 ∧ K.we N m.t m.s = 0 then updY Y m.t (Y m.t ++ [K.ws N m.t m.s]) else if m.k = 4 then updY Y m.t [] else Y
theorem we_lost {N : Nat} {K : KS} {t : Int} {x : ByteArray} (h : t ∈ K.loss) : K.we N t x ≠ 0 := by
  unfold KS.we
  by_cases hb : mayB t x = false
  · rw [if_pos hb]; decide
  · rw [if_neg hb, if_pos h]; decide
theorem al_wr {N : Nat} {K : KS} {Y : Int → List Sp} {t : Int} {x : ByteArray} (h : Al K Y) (hr : risT K.P) :
    (K.we N t x = 0 → Al (K.wr N t x) (updY Y t (Y t ++ [K.ws N t x]))) ∧ (K.we N t x ≠ 0 → Al (K.wr N t x) Y) := by
  have hws : K.we N t x = 0 → K.ws N t x = ⟨t, ((txt K.P t).length : Int) + 1, x⟩ := fun e => by unfold KS.ws; rw [if_pos e]
  unfold KS.we KS.wr at *
  by_cases hb : mayB t x = false
  · simp only [hb, if_true] at *
    exact ⟨(fun e => by cases e), fun _ => h⟩
  by_cases hl : t ∈ K.loss
  · simp only [hb, hl, if_true, if_false] at *
    exact ⟨(fun e => by cases e), fun _ => h⟩
  by_cases hp : t ∈ K.pins
  · simp only [hb, hl, hp, if_true, if_false] at *
    exact ⟨(fun e => by cases e), fun _ => h⟩
  by_cases hn : noRoom N K.P t
  · simp only [hb, hl, hp, hn, if_true, if_false] at *
    by_cases h0 : (mayL K).isEmpty = true
    · simp only [h0, if_true] at *
      refine ⟨(fun e => by cases e), fun _ u hu => ?_⟩
      exact h u (fun q => hu (List.mem_append_left _ q))
    · simp only [h0, if_false] at *
      by_cases hg : goes K t = t
      · simp only [hg, if_true] at *
        refine ⟨(fun e => by cases e), fun _ u hu => ?_⟩
        have h1 : u ∉ K.loss := fun q => hu (List.mem_append_left _ q)
        have h2 : u ≠ t := fun q => hu (List.mem_append_right _ (by rw [q]; exact List.mem_singleton.2 rfl))
        show Y u = spansOf u (txt (without K.P t) u)
        rw [txt_drop_other K.P h2]
        exact h u h1
      · simp only [hg, if_false] at *
        refine ⟨fun _ u hu => ?_, fun e => absurd rfl e⟩
        have h1 : u ∉ K.loss := fun q => hu (List.mem_append_left _ q)
        have h2 : u ≠ goes K t := fun q => hu (List.mem_append_right _ (by rw [q]; exact List.mem_singleton.2 rfl))
        show updY Y t _ u = spansOf u (txt (addT (without K.P (goes K t)) t x) u)
        unfold updY
        by_cases hut : u = t
        · subst hut
          rw [if_pos rfl, txt_add_same _ _ _ (ris_drop hr _), txt_drop_other K.P h2, hws (by simp), spansOf_snoc, h u h1]
        · rw [if_neg hut, txt_add_other _ _ _ _ hut, txt_drop_other K.P h2]
          exact h u h1
  · simp only [hb, hl, hp, hn, if_true, if_false] at *
    refine ⟨fun _ u hu => ?_, fun e => absurd rfl e⟩
    show updY Y t _ u = spansOf u (txt (addT K.P t x) u)
    unfold updY
    by_cases hut : u = t
    · subst hut
      rw [if_pos rfl, txt_add_same _ _ _ hr, hws (by simp), spansOf_snoc, h u hu]
    · rw [if_neg hut, txt_add_other _ _ _ _ hut]
      exact h u hu
theorem al_op {N : Nat} {K : KS} {Y : Int → List Sp} {m : OpE} (h : Al K Y) (hr : risT K.P) : Al (K.op N m) (nextY N K Y m) := by
  by_cases h1 : m.k = 1
  · have h4 : ¬ m.k = 4 := by omega
    rw [show K.op N m = K.wr N m.t m.s from if_pos h1]
    by_cases he : K.we N m.t m.s = 0
    · rw [show nextY N K Y m = updY Y m.t (Y m.t ++ [K.ws N m.t m.s]) from if_pos ⟨h1, he⟩]; exact (al_wr h hr).1 he
    · rw [show nextY N K Y m = Y from (if_neg (fun q => he q.2)).trans (if_neg h4)]; exact (al_wr h hr).2 he
  have n1 : ¬ (m.k = 1 ∧ K.we N m.t m.s = 0) := fun q => h1 q.1
  by_cases h2 : m.k = 2
  · rw [show K.op N m = { K with pins := outL K.pins m.t ++ [m.t] } from (if_neg h1).trans (if_pos h2), show nextY N K Y m = Y from (if_neg n1).trans (if_neg (by omega))]; exact h
  by_cases h3 : m.k = 3
  · rw [show K.op N m = { K with pins := outL K.pins m.t } from (if_neg h1).trans ((if_neg h2).trans (if_pos h3)), show nextY N K Y m = Y from (if_neg n1).trans (if_neg (by omega))]; exact h
  by_cases h4 : m.k = 4
  · rw [show K.op N m = { K with P := without K.P m.t, pins := outL K.pins m.t, loss := outL K.loss m.t } from (if_neg h1).trans ((if_neg h2).trans ((if_neg h3).trans (if_pos h4))), show nextY N K Y m = updY Y m.t [] from (if_neg n1).trans (if_pos h4)]
    intro u hu
    show updY Y m.t [] u = spansOf u (txt (without K.P m.t) u)
    unfold updY
    by_cases hut : u = m.t
    · rw [if_pos hut, hut, txt_drop_same]; rfl
    · rw [if_neg hut, txt_drop_other K.P hut]
      exact h u (fun q => hu (outL_mem.2 ⟨q, hut⟩))
  rw [show K.op N m = K from (if_neg h1).trans ((if_neg h2).trans ((if_neg h3).trans (if_neg h4))), show nextY N K Y m = Y from (if_neg n1).trans (if_neg h4)]
  exact h
theorem al_new (sd : Int) : Al ⟨sd, [], [], [], []⟩ (fun _ => []) := fun t _ => rfl
theorem op_len (N : Nat) (K : KS) (m : OpE) : (K.op N m).pins.length ≤ K.pins.length + 1 ∧ (K.op N m).loss.length ≤ K.loss.length + 1 ∧ (K.op N m).gone.length ≤ K.gone.length + 1 := by
  have hp := outL_len K.pins m.t
  have hl := outL_len K.loss m.t
  unfold KS.op
  by_cases h1 : m.k = 1
  · rw [if_pos h1]
    unfold KS.wr
    repeat' split
    all_goals (simp; try omega)
  rw [if_neg h1]
  repeat' split
  all_goals (simp; try omega)

abbrev SV := Option Addr × Nat × Nat
def mkS (s : SV) : Value := .slice s.1 s.2.1 s.2.2
theorem mkS_inj (x y : SV) (h : mkS x = mkS y) : x = y := by obtain ⟨a, b, c⟩ := x; obtain ⟨d, e, f⟩ := y; simp only [mkS, Value.slice.injEq] at h; obtain ⟨rfl, rfl, rfl⟩ := h; rfl
theorem zeroSp (w : World) : (zeroValue 48).run Try.prog w = .ok (mkS (none, 0, 0)) w := by kernel_rfl
/-- what was written, as a map of rows -/
structure Wm (w : World) (bm D n : Nat) (Y : Int → List Sp) (M : List (Int × SV)) : Prop where
  mp : Mp Try.prog 3 klI mkS w bm n M
  row : ∀ p ∈ M, w.ownsRow D 35 3 (mkS p.2) (Y p.1).length ((Y p.1).flatMap spC) ∧ Y p.1 ≠ []
  non : ∀ k, look M k = Option.none → Y k = []
  apart : ∀ p ∈ M, ∀ q ∈ M, p.1 ≠ q.1 → ∀ b, (mkS p.2).ownBlock = some b → (mkS q.2).ownBlock ≠ some b
  mB : bm < D
  Dw : D ≤ w.heap.size
def wmB (bm : Nat) (M : List (Int × SV)) : Nat → Prop := fun k => k = bm ∨ ∃ p ∈ M, (mkS p.2).ownBlock = some k
theorem Wm.fr {w w' : World} {bm D n : Nat} {Y : Int → List Sp} {M : List (Int × SV)} {S : Nat → Prop} (h : Wm w bm D n Y M) (hf : Fr S w w') (hS : ∀ k, wmB bm M k → ¬ S k) : Wm w' bm D n Y M :=
  ⟨h.mp.fr hf (hS _ (Or.inl rfl)), fun p hp => ⟨ownsRow_fr (h.row p hp).1 hf (fun q hq => hS _ (Or.inr ⟨p, hp, hq⟩)), (h.row p hp).2⟩, h.non, h.apart, h.mB, Nat.le_trans h.Dw hf.size⟩
theorem Wm.frN {w w' : World} {bm D n : Nat} {Y : Int → List Sp} {M : List (Int × SV)} (h : Wm w bm D n Y M) (hf : Fr noB w w') : Wm w' bm D n Y M := h.fr hf (fun _ _ q => q)
theorem Wm.low {w : World} {bm D n : Nat} {Y : Int → List Sp} {M : List (Int × SV)} (h : Wm w bm D n Y M) {k : Nat} (hk : wmB bm M k) : k < w.heap.size ∧ bm ≤ k := by
  have := h.mB
  have := h.Dw
  rcases hk with rfl | ⟨p, hp, hk⟩
  · omega
  · have := (h.row p hp).1.lt k hk; omega
theorem Wm.at_key {w : World} {bm D n : Nat} {Y : Int → List Sp} {M : List (Int × SV)} (h : Wm w bm D n Y M) (t : Int) :
    ∃ a c, (look M t).getD (none, 0, 0) = (a, (Y t).length, c) ∧ w.ownsRow D 35 3 (.slice a (Y t).length c) (Y t).length ((Y t).flatMap spC) ∧ (∀ b, (Value.slice a (Y t).length c).ownBlock = some b → wmB bm M b ∧ ∀ p ∈ M, p.1 ≠ t → (mkS p.2).ownBlock ≠ some b) := by
  cases hl : look M t with
  | none =>
    have hy := h.non t hl
    rw [hy]
    exact ⟨none, 0, rfl, World.ownsRow_nil _ _ _ _, fun b hb => by cases hb⟩
  | some s =>
    have hm := look_some hl
    obtain ⟨h1, h2⟩ := h.row _ hm
    simp only at h1 h2
    obtain ⟨b, c, hv, _⟩ := ownsRow_some h1 (List.length_pos_iff.2 h2)
    obtain ⟨s1, s2, s3⟩ := s
    simp only [mkS, Value.slice.injEq] at hv
    obtain ⟨rfl, rfl, rfl⟩ := hv
    exact ⟨_, _, rfl, h1, fun b' hb' => ⟨Or.inr ⟨_, hm, hb'⟩, fun p hp hne q => h.apart p hp _ hm hne b' q hb'⟩⟩
/-- one more is written -/
theorem Wm.put {w w6 w7 : World} {bm D n n' : Nat} {Y : Int → List Sp} {M : List (Int × SV)} (h : Wm w bm D n Y M) (t : Int) (s : Sp) {a a' : Option Addr} {c c' : Nat} (hl : (look M t).getD (none, 0, 0) = (a, (Y t).length, c))
    {wX : World} (hX : w.heap.size ≤ wX.heap.size) (f6 : Fr (fun q => (Value.slice a (Y t).length c).ownBlock = some q) w w6) (o6 : w6.ownsRow D 35 3 (.slice a' ((Y t).length + 1) c') ((Y t).length + 1) ((Y t).flatMap spC ++ spC s)) (mv : Moved wX (.slice a (Y t).length c) (.slice a' ((Y t).length + 1) c'))
    (m7 : Mp Try.prog 3 klI mkS w7 bm n' (withKey M t (a', (Y t).length + 1, c'))) (f7 : Fr (onlyB bm) w6 w7) :
    Wm w7 bm D n' (updY Y t (Y t ++ [s])) (withKey M t (a', (Y t).length + 1, c')) ∧ (∀ q, q < w.heap.size → wmB bm (withKey M t (a', (Y t).length + 1, c')) q → wmB bm M q) := by
  have hmB := h.mB
  obtain ⟨a0, c0, e0, _, hb0⟩ := h.at_key t
  rw [e0] at hl
  simp only [Prod.mk.injEq] at hl
  obtain ⟨rfl, _, rfl⟩ := hl
  have hother : ∀ p ∈ M, p.1 ≠ t → w7.ownsRow D 35 3 (mkS p.2) (Y p.1).length ((Y p.1).flatMap spC) := fun p hp hne =>
    ownsRow_fr (ownsRow_fr (h.row p hp).1 f6 (fun q hq e => (hb0 q e).2 p hp hne hq)) f7 (fun q hq e => by have := ((h.row p hp).1.lt q hq).1; unfold onlyB at e; omega)
  have hnew : ∀ b, (Value.slice a' ((Y t).length + 1) c').ownBlock = some b → ∀ p ∈ M, p.1 ≠ t → (mkS p.2).ownBlock ≠ some b := fun b hb p hp hne q => by
    rcases mv with e | e
    · rw [e] at hb
      exact (hb0 b hb).2 p hp hne q
    · rw [e] at hb
      cases hb
      have := ((h.row p hp).1.lt _ q).2
      omega
  refine ⟨⟨m7, fun p hp => ?_, fun k hk => ?_, fun p hp q hq hne b hb => ?_, hmB, Nat.le_trans h.Dw (Nat.le_trans f6.size f7.size)⟩, fun q hq hk => ?_⟩
  · unfold withKey at hp
    rcases List.mem_cons.1 hp with rfl | hp
    · simp only [updY, if_true]
      refine ⟨?_, by simp⟩
      have : (Y t ++ [s]).flatMap spC = (Y t).flatMap spC ++ spC s := by simp [List.flatMap_append]
      rw [this, List.length_append]
      exact ownsRow_fr o6 f7 (fun q hq e => by have := (o6.lt q hq).1; unfold onlyB at e; omega)
    · obtain ⟨hp1, hp2⟩ := mem_without.1 hp
      simp only [updY, if_neg hp2]
      exact ⟨hother p hp1 hp2, (h.row p hp1).2⟩
  · by_cases hkt : k = t
    · subst hkt; rw [look_withKey_same] at hk; cases hk
    · rw [look_withKey_other _ _ hkt] at hk
      simp only [updY, if_neg hkt]
      exact h.non k hk
  · unfold withKey at hp hq
    rcases List.mem_cons.1 hp with rfl | hp <;> rcases List.mem_cons.1 hq with rfl | hq
    · exact absurd rfl hne
    · obtain ⟨hq1, hq2⟩ := mem_without.1 hq
      exact hnew b hb q hq1 hq2
    · obtain ⟨hp1, hp2⟩ := mem_without.1 hp
      exact fun e => hnew b e p hp1 hp2 hb
    · exact h.apart p (mem_without.1 hp).1 q (mem_without.1 hq).1 hne b hb
  · rcases hk with e | ⟨p, hp, hb⟩
    · exact Or.inl e
    · unfold withKey at hp
      rcases List.mem_cons.1 hp with rfl | hp
      · rcases mv with e | e
        · have hb' : (Value.slice a' ((Y t).length + 1) c').ownBlock = some q := hb
          rw [e] at hb'
          exact (hb0 q hb').1
        · have hb' : (Value.slice a' ((Y t).length + 1) c').ownBlock = some q := hb
          rw [e] at hb'
          cases hb'
          omega
      · exact Or.inr ⟨p, (mem_without.1 hp).1, hb⟩
theorem Wm.del {w w7 : World} {bm D n : Nat} {Y : Int → List Sp} {M : List (Int × SV)} (h : Wm w bm D n Y M) (t : Int) (m7 : Mp Try.prog 3 klI mkS w7 bm n (without M t)) (f7 : Fr (onlyB bm) w w7) :
    Wm w7 bm D n (updY Y t []) (without M t) ∧ (∀ q, wmB bm (without M t) q → wmB bm M q) := by
  refine ⟨⟨m7, fun p hp => ?_, fun k hk => ?_, fun p hp q hq => h.apart p (mem_without.1 hp).1 q (mem_without.1 hq).1, h.mB, Nat.le_trans h.Dw f7.size⟩, fun q hk => ?_⟩
  · obtain ⟨hp1, hp2⟩ := mem_without.1 hp
    simp only [updY, if_neg hp2]
    exact ⟨ownsRow_fr (h.row p hp1).1 f7 (fun q hq e => by have := ((h.row p hp1).1.lt q hq).1; have := h.mB; unfold onlyB at e; omega), (h.row p hp1).2⟩
  · by_cases hkt : k = t
    · simp [updY, hkt]
    · simp only [updY, if_neg hkt]
      rw [look_without_other _ hkt] at hk
      exact h.non k hk
  · rcases hk with e | ⟨p, hp, hb⟩
    · exact Or.inl e
    · exact Or.inr ⟨p, (mem_without.1 hp).1, hb⟩
end Go.Proofs.Ytnecglghinpgmaa
