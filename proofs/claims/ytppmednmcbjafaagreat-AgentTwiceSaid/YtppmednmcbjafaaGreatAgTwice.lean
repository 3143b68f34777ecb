/-
  Two agents that are apart; what calls make of both; a message twice.
-/
import Derived.Test.YtppmednmcbjafaaGreatAgL
set_option linter.unusedVariables false
set_option linter.unusedSimpArgs false
set_option maxRecDepth 100000
set_option maxRecDepth 100000
namespace Go.Proofs.YtppmednmcbjafaaGreat
open Go.RowKit Go Go.Maps Go.Lib

open Classical in
/-- the tick of an agent -/
noncomputable def AG.tk (A : AG) : AG := if h : ∃ E, A.Ended E then A.tick h.choose else A
theorem AG.tk_of {A : AG} {E : List Int} (h : A.Ended E) : A.tk = A.tick E := by
  unfold AG.tk
  have hx : ∃ E, A.Ended E := ⟨E, h⟩
  rw [dif_pos hx, hx.choose_spec.uniq h]
theorem AG.Inv.tk {A : AG} (h : A.Inv) : A.tk.Inv := by
  unfold AG.tk
  split
  · next hx => exact h.tick hx.choose_spec
  · exact h
/-- what a call makes of an agent -/
noncomputable def AG.op (A : AG) (o : OpA) : AG := if o.k = 1 then { A with K := A.K.wr A.N o.t o.s } else if o.k = 2 then A.cr o.t o.n else if o.k = 3 then A.tr o.t o.n else if o.k = 4 then A.tk else A.ear o
theorem AG.Inv.op {A : AG} (h : A.Inv) (o : OpA) : (A.op o).Inv := by
  unfold AG.op
  split
  · exact h.wr _ _
  split
  · exact h.cr _ _
  split
  · exact h.tr _ _
  split
  · exact h.tk
  · exact h.ear o
noncomputable def plays (xs : List OpA) (k : Nat) : AG := (xs.take k).foldl AG.op AA0
theorem plays_succ {xs : List OpA} {k : Nat} {m : OpA} (h : xs[k]? = some m) : plays xs (k + 1) = (plays xs k).op m := by
  unfold plays
  rw [List.take_add_one, h]
  simp
theorem plays_inv (xs : List OpA) (k : Nat) : (plays xs k).Inv := by
  induction k with
  | zero => exact AG.new_inv _ _
  | succ k ih =>
    cases h : xs[k]? with
    | none =>
      have : plays xs (k + 1) = plays xs k := by unfold plays; rw [List.take_add_one, h]; simp
      rw [this]; exact ih
    | some m => rw [plays_succ h]; exact ih.op m

/-- two agents apart, and blocks that are neither's -/
def TW (L : Nat → Prop) (ws w : World) (pa pb na nb : Nat) (A B : AG) : Prop := ∃ ca cb, (∃ a, AgA w pa ca na A a) ∧ (∃ b, AgA w pb cb nb B b) ∧ (∀ q, ca q = 0 ∨ cb q = 0) ∧ (∀ q, L q → q < ws.heap.size ∧ ca q = 0 ∧ cb q = 0) ∧ Fr (fun q => ¬ L q) ws w
variable {L : Nat → Prop} {ws w : World} {pa pb na nb : Nat} {A B : AG}
theorem TW.swap (h : TW L ws w pa pb na nb A B) : TW L ws w pb pa nb na B A := by
  obtain ⟨ca, cb, h1, h2, h3, h4, h5⟩ := h
  exact ⟨cb, ca, h2, h1, fun q => (h3 q).symm, fun q hq => ⟨(h4 q hq).1, (h4 q hq).2.2, (h4 q hq).2.1⟩, h5⟩
theorem TW.frN {w' : World} (h : TW L ws w pa pb na nb A B) (f : Fr noB w w') : TW L ws w' pa pb na nb A B := by
  obtain ⟨ca, cb, ⟨a, h1⟩, ⟨b, h2⟩, h3, h4, h5⟩ := h
  exact ⟨ca, cb, ⟨a, h1.frN f⟩, ⟨b, h2.frN f⟩, h3, h4, h5.seqN f⟩
theorem TW.blk {g : Nat} {t : TypeId} {cs : List Value} (h : TW L ws w pa pb na nb A B) (hb : Blk ws g t cs) (hg : L g) : Blk w g t cs := by
  obtain ⟨ca, cb, h1, h2, h3, h4, h5⟩ := h
  exact h5.blk hb (fun q => q hg)
theorem tw_call {f : FuncId} {args : Array Value} {Q : Ending → Prop} {m : Nat} {A' : AG} (h : TW L ws w pa pb na nb A B) (H : ∀ ca a, AgA w pa ca na A a → Calls Tryz.prog f args w fun e w' => Q e ∧ ∃ c2, ATo w w' pa ca m A' c2) : Calls Tryz.prog f args w fun e w' => Q e ∧ TW L ws w' pa pb m nb A' B := by
  obtain ⟨ca, cb, ⟨a, h1⟩, ⟨b, h2⟩, h3, h4, h5⟩ := h
  refine (H ca a h1).mono ?_
  rintro e w' ⟨hq, c2, ⟨a2, k1⟩, k2, k3⟩
  refine ⟨hq, c2, cb, ⟨a2, k1⟩, ⟨b, h2.fr k2 (fun q hq hc => ?_)⟩, fun q => ?_, fun q hq => ?_, h5.trans k2 (fun _ _ q => q) (fun i hi hc hL => hc ((h4 i hL).2.1))⟩
  · rcases h3 q with e | e
    · exact hc e
    · exact hq e
  · rcases Nat.eq_zero_or_pos (cb q) with e | e
    · exact Or.inr e
    · have := h2.low q (by omega)
      rw [k3 q this]
      exact h3 q
  · obtain ⟨l1, l2, l3⟩ := h4 q hq
    exact ⟨l1, by rw [k3 q (Nat.lt_of_lt_of_le l1 h5.size)]; exact l2, l3⟩
theorem tw_span (o : OpA) (ho : o.k = 1) (h : TW L ws w pa pb na nb A B) (hn : na < 100000) : Calls Tryz.prog 13 #[.pointer (some ⟨pa, 0, none⟩), .int .i64 o.t, .string o.s] w fun e w' => (∃ u z, e = .returned (.tuple #[u, z])) ∧ TW L ws w' pa pb (na + 1) nb (A.op o) B :=
  tw_call h fun ca a ha => by
    unfold AG.op
    rw [if_pos ho]
    exact (ag_span pa ca na A a o.t o.s w ha hn).mono fun e w' ⟨k1, k2⟩ => ⟨⟨_, _, k1⟩, k2⟩
theorem tw_crumb (o : OpA) (ho : o.k = 2) (h : TW L ws w pa pb na nb A B) (ht : okI o.t) (hn : na < 100000) : Calls Tryz.prog 15 #[.pointer (some ⟨pa, 0, none⟩), .int .i64 o.t, .int .i64 o.n] w fun e w' => (∃ u, e = .returned u) ∧ TW L ws w' pa pb (na + 1) nb (A.op o) B :=
  tw_call h fun ca a ha => by
    unfold AG.op
    rw [if_neg (by omega), if_pos ho]
    exact (ag_crumb pa ca na A a o.t o.n w ha ht hn).mono fun e w' ⟨k1, k2⟩ => ⟨⟨_, k1⟩, k2⟩
theorem tw_trig (o : OpA) (ho : o.k = 3) (h : TW L ws w pa pb na nb A B) (hn : na < 100000) : Calls Tryz.prog 17 #[.pointer (some ⟨pa, 0, none⟩), .int .i64 o.t, .int .i64 o.n] w fun e w' => (∃ u z, e = .returned (.tuple #[u, z])) ∧ TW L ws w' pa pb (na + 1) nb (A.op o) B :=
  tw_call h fun ca a ha => by
    unfold AG.op
    rw [if_neg (by omega), if_neg (by omega), if_pos ho]
    exact (ag_trigger pa ca na A a o.t o.n w ha hn).mono fun e w' ⟨k1, k2⟩ => ⟨⟨_, _, k1⟩, ca, k2⟩
theorem tw_tick (o : OpA) (ho : o.k = 4) (h : TW L ws w pa pb na nb A B) (hi : A.Inv) (hn : na < 100000) : Calls Tryz.prog 20 #[.pointer (some ⟨pa, 0, none⟩)] w fun e w' => (∃ u, e = .returned u) ∧ TW L ws w' pa pb (na + 1) nb (A.op o) B :=
  tw_call h fun ca a ha => by
    unfold AG.op
    rw [if_neg (by omega), if_neg (by omega), if_neg (by omega), if_pos ho]
    refine (ag_tick pa ca na A a w ha hi hn).mono ?_
    rintro e w' ⟨v, E, k1, k2, k3, _⟩
    rw [AG.tk_of k2]
    exact ⟨⟨_, k1⟩, ca, k3⟩
theorem tw_ear (o : OpA) (h : TW L ws w pa pb na nb A B) (hn : na < 100000) : Calls Tryz.prog 23 #[.pointer (some ⟨pa, 0, none⟩), o.msv] w fun e w' => (∃ u v, e = .returned (.tuple #[u, v])) ∧ TW L ws w' pa pb (na + 1) nb (A.ear o) B :=
  tw_call h fun ca a ha => by
    unfold AG.ear
    rcases o.msW w with ⟨e1, e2⟩ | ⟨m, e1, e2⟩
    · rw [e2, e1]
      exact (ag_hear_nil pa ca na A a w ha).mono fun e w' ⟨k1, k2⟩ => ⟨⟨_, _, k1⟩, ca, ATo.same (ha.up (Nat.le_succ na) (by omega)) k2⟩
    · rw [e1]
      refine (ag_hear pa ca na A a o.msv m w ha hn e2).mono ?_
      rintro e w' ⟨u, v, c2, rfl, hto, _⟩
      exact ⟨⟨u, v, rfl⟩, c2, hto⟩
theorem op_ear (A : AG) (o : OpA) (h : o.k ≠ 1 ∧ o.k ≠ 2 ∧ o.k ≠ 3 ∧ o.k ≠ 4) : A.op o = A.ear o := by
  unfold AG.op
  rw [if_neg h.1, if_neg h.2.1, if_neg h.2.2.1, if_neg h.2.2.2]
theorem tw_job {t : Int} (h : TW L ws w pa pb na nb A B) (ht : okI t) : Calls Tryz.prog 32 #[.pointer (some ⟨pa, 0, none⟩), .int .i64 t] w fun e w' => e = .returned (.int .i64 (A.job t)) ∧ w' = w := by
  obtain ⟨ca, cb, ⟨a, h1⟩, _⟩ := h
  exact ag_job pa ca na A a t w h1 ht
theorem tw_lost {t : Int} (h : TW L ws w pa pb na nb A B) (ht : okI t) : Calls Tryz.prog 34 #[.pointer (some ⟨pa, 0, none⟩), .int .i64 t] w fun e w' => e = .returned (.bool (decide (t ∈ A.K.loss))) ∧ Fr noB w w' := by
  obtain ⟨ca, cb, ⟨a, h1⟩, _⟩ := h
  exact ag_lost pa ca na A a t w h1 ht
theorem tw_spans {t : Int} (h : TW L ws w pa pb na nb A B) : Calls Tryz.prog 28 #[.pointer (some ⟨pa, 0, none⟩), .int .i64 t] w fun e w' => (∃ sa sc, e = .returned (.slice sa (txt A.K.P t).length sc)) ∧ Fr noB w w' := by
  obtain ⟨ca, cb, ⟨a, h1⟩, _⟩ := h
  refine (ag_spans pa ca na A a t w h1).mono ?_
  rintro e w' ⟨u, rfl, o, f⟩
  obtain ⟨x, y, rfl⟩ := ownsRow_slice o
  exact ⟨⟨x, y, rfl⟩, f⟩
theorem tw_crumbs {t : Int} (h : TW L ws w pa pb na nb A B) (ht : okI t) : Calls Tryz.prog 30 #[.pointer (some ⟨pa, 0, none⟩), .int .i64 t] w fun e w' => (∃ sa sc, e = .returned (.slice sa (A.X t).length sc)) ∧ Fr noB w w' := by
  obtain ⟨ca, cb, ⟨a, h1⟩, _⟩ := h
  refine (ag_crumbs pa ca na A a t w h1 ht).mono ?_
  rintro e w' ⟨u, rfl, o, f⟩
  obtain ⟨x, y, rfl⟩ := ownsRow_slice o
  exact ⟨⟨x, y, rfl⟩, f⟩
theorem tw_used (h : TW L ws w pa pb na nb A B) : Calls Tryz.prog 36 #[.pointer (some ⟨pa, 0, none⟩)] w fun e w' => e = .returned (.int .i64 (used A.K.P)) ∧ Fr noB w w' := by
  obtain ⟨ca, cb, ⟨a, h1⟩, _⟩ := h
  exact ag_used pa ca na A a w h1
theorem tw_evicted (h : TW L ws w pa pb na nb A B) : Calls Tryz.prog 38 #[.pointer (some ⟨pa, 0, none⟩)] w fun e w' => (∃ sa sc, e = .returned (.slice sa A.K.gone.length sc)) ∧ Fr noB w w' := by
  obtain ⟨ca, cb, ⟨a, h1⟩, _⟩ := h
  refine (ag_evicted pa ca na A a w h1).mono ?_
  rintro e w' ⟨u, rfl, o, f⟩
  obtain ⟨x, y, rfl⟩ := ownsRow_slice o
  exact ⟨⟨x, y, rfl⟩, f⟩

/-- what can be seen of two agents is the same -/
structure Obs (A B : AG) : Prop where
  job : ∀ t, B.job t = A.job t
  loss : B.K.loss = A.K.loss
  P : B.K.P = A.K.P
  X : B.X = A.X
  gone : B.K.gone = A.K.gone
theorem Obs.refl (A : AG) : Obs A A := ⟨fun _ => rfl, rfl, rfl, rfl, rfl⟩
theorem obs_dn (A : AG) (t j : Int) : Obs A (A.dn t j) := ⟨fun _ => rfl, rfl, rfl, rfl, rfl⟩
theorem obs_pn (A : AG) (t j : Int) : Obs (A.pn t j) ((A.pn t j).pn t j) := by
  by_cases h1 : j ≤ A.done t ∨ j < A.job t
  · have e : A.pn t j = A := by unfold AG.pn; rw [if_pos h1]
    rw [e, e]; exact Obs.refl A
  · by_cases h2 : j ≤ A.over t
    · have e : A.pn t j = A := by unfold AG.pn; rw [if_neg h1, if_pos h2]
      rw [e, e]; exact Obs.refl A
    · have e : A.pn t j = { A with hold := fun u => if u = t then some (j, A.now + A.T) else A.hold u, K := { A.K with pins := outL A.K.pins t ++ [t] } } := by unfold AG.pn; rw [if_neg h1, if_neg h2]
      generalize hq : A.pn t j = Q at *
      have hd : Q.done t = A.done t := by rw [e]
      have ho : Q.over t = A.over t := by rw [e]
      have hj : Q.job t = j := by
        rw [e]
        show ((if t = t then some (j, A.now + A.T) else A.hold t).getD (0, 0)).1 = j
        rw [if_pos rfl]; rfl
      have e2 : Q.pn t j = { Q with hold := fun u => if u = t then some (j, Q.now + Q.T) else Q.hold u, K := { Q.K with pins := outL Q.K.pins t ++ [t] } } := by
        unfold AG.pn
        rw [if_neg (by rw [hd, hj]; omega), if_neg (by rw [ho]; exact h2)]
      rw [e2]
      refine ⟨fun u => ?_, rfl, rfl, rfl, rfl⟩
      show ((if u = t then some (j, Q.now + Q.T) else Q.hold u).getD (0, 0)).1 = Q.job u
      by_cases hu : u = t
      · rw [if_pos hu, hu, hj]; rfl
      · rw [if_neg hu]; rfl
theorem obs_un (A : AG) (t j : Int) (hj : 1 ≤ j) : Obs (A.un t j) ((A.un t j).un t j) := by
  by_cases h : j = A.job t
  · have e : A.un t j = (((A.dn t j).en t).fo t).dr t := by unfold AG.un; rw [if_pos h]
    have j0 : (A.un t j).job t = 0 := by rw [e]; unfold AG.job AG.dr AG.fo AG.en; simp
    generalize A.un t j = Q at *
    have e2 : Q.un t j = Q.dn t j := by unfold AG.un; rw [if_neg (by rw [j0]; omega)]
    rw [e2]
    exact obs_dn Q t j
  · have e : A.un t j = A.dn t j := by unfold AG.un; rw [if_neg h]
    have e2 : (A.dn t j).un t j = (A.dn t j).dn t j := by
      unfold AG.un
      rw [if_neg (show ¬ j = (A.dn t j).job t from h)]
    rw [e, e2]
    exact obs_dn _ t j
theorem obs_hear (A : AG) (m : Ms) : Obs (A.hear m) ((A.hear m).hear m) := by
  by_cases hok : m.ok = false
  · have e : ∀ A : AG, A.hear m = A := fun A => by unfold AG.hear; rw [if_pos hok]
    rw [e, e]; exact Obs.refl A
  · have hok' : m.ok = true := by simpa using hok
    cases m with
    | pin t j =>
      have e : ∀ A : AG, A.hear (.pin t j) = A.pn t j := fun A => by unfold AG.hear; rw [if_neg hok]
      rw [e, e]; exact obs_pn A t j
    | unpin t j =>
      have e : ∀ A : AG, A.hear (.unpin t j) = A.un t j := fun A => by unfold AG.hear; rw [if_neg hok]
      rw [e, e]; exact obs_un A t j (ms_ok_pin (t := t) (j := j) hok').2.1
    | _ =>
      have e : ∀ A : AG, A.hear _ = A := fun A => by unfold AG.hear; rw [if_neg hok]
      rw [e, e]; exact Obs.refl A
theorem obs_ear (A : AG) (o : OpA) : Obs (A.ear o) ((A.ear o).ear o) := by
  unfold AG.ear
  cases o.ms with
  | none => exact Obs.refl A
  | some m => exact obs_hear A m
theorem slr_one {w W : World} {g : Nat} {m : OpA} (b : Blk w g 36 (opC m)) (h : IsOpA W (opC m) m) : SlR w (.slice (some ⟨g, 0, none⟩) 1 1) 4 (IsOpA W) [m] :=
  ⟨_, 1, rfl, ⟨Nat.le_refl _, fun q => by cases q⟩, by unfold maxLen; omega, fun i m' hm' => by
    match i, hm' with
    | 0, hm' =>
      cases hm'
      exact ⟨g, 0, opC m, rfl, rfl, h, fun j u hu => by rw [← hu, ← b.cell j]; simp⟩
    | i + 1, hm' => simp at hm'⟩
/-- two new agents -/
theorem tw_new {w0 w1 w2 : World} {pa pb : Nat} {c1 c2 : Nat → Nat} (h1 : AgIn w0 w1 pa c1 0 AA0) (h2 : AgIn w1 w2 pb c2 0 AA0) {w3 : World} (f3 : Fr noB w2 w3) (g : Nat) (hg : g = w2.heap.size) (hg3 : g < w3.heap.size) : TW (fun q => q < w0.heap.size ∨ q = g) w3 w3 pa pb 0 0 AA0 AA0 := by
  obtain ⟨a, ha⟩ := h1.ag
  obtain ⟨b, hb⟩ := h2.ag
  have s1 := h1.fr.size
  have s2 := h2.fr.size
  have s3 := f3.size
  refine ⟨c1, c2, ⟨a, (ha.frN h2.fr).frN f3⟩, ⟨b, hb.frN f3⟩, fun q => ?_, fun q hq => ?_, Fr.refl _ _⟩
  · rcases Nat.eq_zero_or_pos (c1 q) with e | e
    · exact Or.inl e
    · exact Or.inr (h2.lo q (ha.low q (by omega)))
  · rcases hq with hq | rfl
    · exact ⟨by omega, h1.lo q hq, h2.lo q (by omega)⟩
    · refine ⟨hg3, ?_, ?_⟩
      · rcases Nat.eq_zero_or_pos (c1 q) with e | e
        · exact e
        · have := ha.low q (by omega); omega
      · rcases Nat.eq_zero_or_pos (c2 q) with e | e
        · exact e
        · have := hb.low q (by omega); omega
end Go.Proofs.YtppmednmcbjafaaGreat
