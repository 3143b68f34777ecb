/-
  The program's job and the reference's, whole: what a message makes of both, who is pinned, what is still to be said: plain mathematics.
  A call's message as the document has it; the reference's job hears it; both jobs stay alike.
  What both jobs say is the same: Outs and Manifest of both, compared by the law's Like and Same.
  Small words over both jobs: a row's cells, a new job and the reference's.
  The reference's coordinator: where it lies; which job is of a trace.
  What the reference's jobs say, with where the parts lie; what is said, as lists.
  A call's message by the plain type and by the call: the same for both jobs.
  The program's coordinator hears a call's message.
-/
import Derived.Test.YtidcoddefebdpaaGreatRjA
import Derived.Test.YtidcoddefebdpaaGreatRJob6
import Derived.Test.YtidcoddefebdpaaGreatEndsL
import Derived.Test.YtidcoddefebdpaaGreatJobNilW
import Derived.Test.YtidcoddefebdpaaGreatJobOutsM
import Derived.Test.YtidcoddefebdpaaGreatLkA
import Derived.Test.YtidcoddefebdpaaGreatJobAny
import Derived.Test.YtidcoddefebdpaaGreatJobShipF
import Derived.Test.YtidcoddefebdpaaGreatJobNew
import Derived.Deep.LoopGhost
import Derived.Deep.DeepCutAuto
import Derived.Test.YtidcoddefebdpaaGreatCoA
section
set_option linter.unusedVariables false
set_option linter.unusedSimpArgs false
set_option maxRecDepth 100000
namespace Go.Proofs.YtidcoddefebdpaaGreat
open Go.RowKit Go Go.Lib

/-- the reference's part is what the agent told -/
structure PtR (p : RPt) (u : Told) : Prop where
  a : p.a = u.ag
  t : p.t = u.tr
  j : p.j = u.jb
  c : p.c = u.ct
  lo : p.lo = u.lo
  un : p.un = u.n
def JS.pf (j : JS) : Prop := ∀ k, k < 4 → (j.at k).p = true → (j.at k).v = true
structure JRl (j : JS) (q : RJ) : Prop where
  r : JRel j q
  inv : j.inv
  n4 : j.ag ≤ 4
  pf : j.pf
  n1 : j.ph = 1 → noneL (fun v => !v.p) j = false
  fu : q.fu = (decide (2 ≤ j.ph) && noneL (fun v => !v.p) j)
  np : q.P.length = j.ag
  pt : ∀ k, k < 4 → (j.at k).p = true → PtR (q.P.getD k pt0) (j.at k).t

theorem upd_rest (j : JS) (a : Nat) (f : Vis → Vis) : (j.upd a f).id = j.id ∧ (j.upd a f).tr = j.tr ∧ (j.upd a f).cl = j.cl ∧ (j.upd a f).ag = j.ag ∧ (j.upd a f).ph = j.ph ∧ (j.upd a f).st = j.st := by
  unfold JS.upd
  split <;> exact ⟨rfl, rfl, rfl, rfl, rfl, rfl⟩
theorem mark_rest (j : JS) (x : Int) : (j.mark x).id = j.id ∧ (j.mark x).tr = j.tr ∧ (j.mark x).cl = j.cl ∧ (j.mark x).ag = j.ag ∧ (j.mark x).ph = j.ph ∧ (j.mark x).st = j.st := by
  unfold JS.mark
  split
  · exact upd_rest j _ _
  · exact ⟨rfl, rfl, rfl, rfl, rfl, rfl⟩
theorem mk1_rest (q : RJ) (x : Int) : (q.mk1 x).id = q.id ∧ (q.mk1 x).tr = q.tr ∧ (q.mk1 x).cl = q.cl ∧ (q.mk1 x).ph = q.ph ∧ (q.mk1 x).P = q.P ∧ (q.mk1 x).F = q.F ∧ (q.mk1 x).fu = q.fu ∧ (q.mk1 x).ke = q.ke ∧ (q.mk1 x).S.length = q.S.length := by
  unfold RJ.mk1
  split
  · exact ⟨rfl, rfl, rfl, rfl, rfl, rfl, rfl, rfl, by simp⟩
  · exact ⟨rfl, rfl, rfl, rfl, rfl, rfl, rfl, rfl, rfl⟩
theorem none_congr (so : Vis → Bool) (j j' : JS) (h : ∀ i, i < 4 → (j.at i).v = (j'.at i).v ∧ so (j.at i) = so (j'.at i)) : noneL so j = noneL so j' := by
  rw [Bool.eq_iff_iff, none_iff, none_iff]
  constructor
  · intro k i hi hv
    rw [← (h i hi).2]
    exact k i hi (by rw [(h i hi).1]; exact hv)
  · intro k i hi hv
    rw [(h i hi).2]
    exact k i hi (by rw [← (h i hi).1]; exact hv)
theorem allF_iff (q : RJ) (n : Nat) : q.allF n = true ↔ ∀ k, k < n → q.S.getD k 0 = 0 ∨ q.F.getD k false = true := by
  induction n with
  | zero => simp [RJ.allF]
  | succ n ih =>
    unfold RJ.allF
    rw [Bool.and_eq_true, ih, Bool.or_eq_true, decide_eq_true_eq]
    constructor
    · rintro ⟨h1, h2⟩ k hk
      rcases Nat.lt_or_ge k n with h | h
      · exact h1 k h
      · obtain rfl : k = n := by omega
        exact h2
    · intro h
      exact ⟨fun k hk => h k (by omega), h n (by omega)⟩
theorem allP_iff (q : RJ) (n : Nat) : q.allP n = true ↔ ∀ k, k < n → q.S.getD k 0 ≠ 1 := by
  induction n with
  | zero => simp [RJ.allP]
  | succ n ih =>
    unfold RJ.allP
    rw [Bool.and_eq_true, ih, decide_eq_true_eq]
    constructor
    · rintro ⟨h1, h2⟩ k hk
      rcases Nat.lt_or_ge k n with h | h
      · exact h1 k h
      · obtain rfl : k = n := by omega
        exact h2
    · intro h
      exact ⟨fun k hk => h k (by omega), h n (by omega)⟩
theorem JRel.allF {j : JS} {q : RJ} (h : JRel j q) (n4 : j.ag ≤ 4) : q.allF q.S.length = noneL (fun v => !v.f) j := by
  rw [Bool.eq_iff_iff, allF_iff, none_iff, h.n]
  constructor
  · intro k i hi hv
    rcases Nat.lt_or_ge i j.ag with hl | hl
    · have := k i hl
      rw [h.st i hl, h.fr i hl] at this
      rcases this with h0 | h0
      · unfold stN at h0
        rw [hv, if_pos rfl] at h0
        split at h0 <;> omega
      · simp [h0]
    · rw [h.no i hl hi] at hv; cases hv
  · intro k i hl
    rw [h.st i hl, h.fr i hl]
    cases hv : (j.at i).v with
    | false => left; unfold stN; rw [hv]; rfl
    | true => right; have := k i (by omega) hv; simpa using this
theorem JRel.allP {j : JS} {q : RJ} (h : JRel j q) (n4 : j.ag ≤ 4) (pf : j.pf) : q.allP q.S.length = noneL (fun v => !v.p) j := by
  rw [Bool.eq_iff_iff, allP_iff, none_iff, h.n]
  constructor
  · intro k i hi hv
    rcases Nat.lt_or_ge i j.ag with hl | hl
    · have := k i hl
      rw [h.st i hl] at this
      unfold stN at this
      rw [hv, if_pos rfl] at this
      cases hp : (j.at i).p with
      | true => rfl
      | false => rw [hp] at this; simp at this
    · rw [h.no i hl hi] at hv; cases hv
  · intro k i hl
    rw [h.st i hl]
    unfold stN
    cases hv : (j.at i).v with
    | false => simp
    | true =>
      have := k i (by omega) hv
      cases hp : (j.at i).p with
      | true => simp
      | false => rw [hp] at this; simp at this

theorem JRl.sto {j : JS} {q : RJ} (h : JRl j q) : JRl j.sto q.go8 := by
  have hr := h.r.sto
  have hi : j.sto.inv := by
    unfold JS.sto
    split
    · exact ⟨Or.inr (Or.inr (Or.inl rfl)), fun q => by have q' : (3 : Int) = 2 := q; omega⟩
    · exact h.inv
  have hph := h.r.ph
  by_cases hc : j.ph = 2 ∨ j.ph = 3
  · have e1 : j.sto = { j with st := true, ph := 3 } := by unfold JS.sto; rw [if_pos hc]
    have e2 : q.go8 = { q with ke := true, ph := 3 } := by unfold RJ.go8; rw [if_pos (by rw [hph]; exact hc)]
    rw [e1] at hr hi ⊢
    rw [e2] at hr ⊢
    refine ⟨hr, hi, h.n4, fun k hk => ?_, fun q => ?_, ?_, h.np, fun k hk => ?_⟩
    · rw [st_at]; exact h.pf k hk
    · have q' : (3 : Int) = 1 := q; omega
    · have := h.fu
      show q.fu = (decide ((2 : Int) ≤ 3) && noneL (fun v => !v.p) j)
      rw [this]
      have d : decide (2 ≤ j.ph) = true := by simp; omega
      rw [d]; rfl
    · rw [st_at]; exact h.pt k hk
  · have e1 : j.sto = j := by unfold JS.sto; rw [if_neg hc]
    have e2 : q.go8 = q := by unfold RJ.go8; rw [if_neg (by rw [hph]; exact hc)]
    rw [e1, e2]; exact h
theorem JRl.gon {j : JS} {q : RJ} (h : JRl j q) {a : Int} (h0 : 0 ≤ a) (h4 : a < 4) : JRl (j.gon a.toNat) (q.go4 a) := by
  have hr := h.r.gon h0 h4
  have hv := h.r.vis h0 h4
  have hph := h.r.ph
  have hp1 := h.r.p1
  by_cases hc : (j.at a.toNat).v = true ∧ (j.ph = 1 ∨ j.ph = 2)
  · have e1 : j.gon a.toNat = { j with ph := 3 } := by unfold JS.gon; rw [if_pos hc]
    have e2 : q.go4 a = { q with ph := 3 } := by unfold RJ.go4; rw [if_pos ⟨by rw [hph]; omega, by rw [hv]; exact hc.1⟩]
    rw [e1] at hr ⊢
    rw [e2] at hr ⊢
    refine ⟨hr, ⟨Or.inr (Or.inr (Or.inl rfl)), fun q => by have q' : (3 : Int) = 2 := q; omega⟩, h.n4, fun k hk => ?_, fun q => ?_, ?_, h.np, fun k hk => ?_⟩
    · rw [ph_at]; exact h.pf k hk
    · have q' : (3 : Int) = 1 := q; omega
    · show q.fu = (decide ((2 : Int) ≤ 3) && noneL (fun v => !v.p) j)
      rw [h.fu]
      rcases hc.2 with e | e
      · rw [h.n1 e]; simp
      · rw [h.inv.2 e, e]
        rfl
    · rw [ph_at]; exact h.pt k hk
  · have e1 : j.gon a.toNat = j := by unfold JS.gon; rw [if_neg hc]
    have e2 : q.go4 a = q := by
      unfold RJ.go4
      rw [if_neg]
      rintro ⟨k1, k2⟩
      rw [hv] at k2
      rw [hph] at k1
      exact hc ⟨k2, by omega⟩
    rw [e1, e2]; exact h
theorem JRel.fr10 {j : JS} {q : RJ} (h : JRel j q) (n4 : j.ag ≤ 4) {a : Nat} (ha : a < 4) (hv : (j.at a).v = true) : JRel (j.upd a fun v => { v with f := true }) (q.fr10 (a : Int)) := by
  obtain ⟨u1, u2, u3, u4, u5, u6⟩ := upd_rest j a (fun v => { v with f := true })
  have hat := fun k hk => at_upd j a k (fun v => { v with f := true }) ha hk
  have hag : a < j.ag := by
    rcases Nat.lt_or_ge a j.ag with k | k
    · exact k
    · rw [h.no a k ha] at hv; cases hv
  have hset : (q.F.set a true).length = q.F.length := List.length_set
  refine ⟨h.id.trans u1.symm, h.tr.trans u2.symm, h.cl.trans u3.symm, h.ph.trans u5.symm, h.ke.trans u6.symm, h.n.trans u4.symm, ?_, fun k hk => ?_, fun k hk => ?_, by rw [u5]; exact h.p1, fun k hk1 hk2 => ?_⟩
  · show (q.F.set (a : Int).toNat true).length = _
    rw [List.length_set, u4]; exact h.nf
  · rw [u4] at hk
    rw [hat k (by omega)]
    show q.S.getD k 0 = _
    rw [h.st k hk]
    split <;> rfl
  · rw [u4] at hk
    rw [hat k (by omega)]
    show (q.F.set (a : Int).toNat true).getD k false = _
    rw [show (a : Int).toNat = a by omega]
    by_cases hka : k = a
    · subst hka
      rw [if_pos rfl]
      simp [List.getD, h.nf, hk]
    · rw [if_neg hka, ← h.fr k hk]
      simp [List.getD, List.getElem?_set_ne (fun e => hka e.symm)]
  · rw [u4] at hk1
    rw [hat k hk2, if_neg (by omega)]
    exact h.no k hk1 hk2
theorem JRl.unp {j : JS} {q : RJ} (h : JRl j q) {a : Int} (h0 : 0 ≤ a) (h4 : a < 4) : JRl (j.unp a.toNat) (q.go10 a) := by
  have hv := h.r.vis h0 h4
  have hph := h.r.ph
  by_cases hc : j.ph = 3 ∧ (j.at a.toNat).v = true
  · obtain ⟨n, rfl⟩ : ∃ n : Nat, a = n := ⟨a.toNat, by omega⟩
    simp only [Int.toNat_natCast] at hc hv ⊢
    have hn4 : n < 4 := by omega
    have hR := h.r.fr10 h.n4 hn4 hc.2
    obtain ⟨u1, u2, u3, u4, u5, u6⟩ := upd_rest j n (fun v => { v with f := true })
    have hat := fun k hk => at_upd j n k (fun v => { v with f := true }) hn4 hk
    have hall := hR.allF (by rw [u4]; exact h.n4)
    have hnp : noneL (fun v => !v.p) (j.upd n fun v => { v with f := true }) = noneL (fun v => !v.p) j := none_congr _ _ _ (fun i hi => by rw [hat i hi]; split <;> exact ⟨rfl, rfl⟩)
    have hfu : q.fu = (decide ((2 : Int) ≤ 3) && noneL (fun v => !v.p) (j.upd n fun v => { v with f := true })) := by
      rw [h.fu, hc.1, hnp]
    have hpf : (j.upd n fun v => { v with f := true }).pf := fun k hk hp => by
      rw [hat k hk] at hp ⊢
      split at hp <;> rename_i hh
      · rw [if_pos hh]; exact h.pf k hk hp
      · rw [if_neg hh]; exact h.pf k hk hp
    have hpt : ∀ k, k < 4 → ((j.upd n fun v => { v with f := true }).at k).p = true → PtR (q.P.getD k pt0) ((j.upd n fun v => { v with f := true }).at k).t := fun k hk hp => by
      rw [hat k hk] at hp ⊢
      split at hp <;> rename_i hh
      · rw [if_pos hh]; exact h.pt k hk hp
      · rw [if_neg hh]; exact h.pt k hk hp
    have hl : (q.fr10 (n : Int)).S.length = q.S.length := rfl
    rw [hl] at hall
    have e2 : q.go10 (n : Int) = if (q.fr10 (n : Int)).allF q.S.length = true then { q.fr10 (n : Int) with ph := 4 } else q.fr10 (n : Int) := by unfold RJ.go10; rw [if_pos ⟨by rw [hph]; exact hc.1, by rw [hv]; exact hc.2⟩]
    have e1 : j.unp n = if noneL (fun v => !v.f) (j.upd n fun v => { v with f := true }) then { (j.upd n fun v => { v with f := true }) with ph := 4 } else j.upd n fun v => { v with f := true } := by unfold JS.unp; rw [if_pos hc]
    rw [e1, e2, hall]
    by_cases hz : noneL (fun v => !v.f) (j.upd n fun v => { v with f := true }) = true
    · rw [if_pos hz, if_pos hz]
      refine ⟨⟨hR.id, hR.tr, hR.cl, rfl, hR.ke, hR.n, hR.nf, fun k hk => ?_, fun k hk => ?_, (by decide : (1 : Int) ≤ 4), fun k k1 k2 => ?_⟩, ⟨Or.inr (Or.inr (Or.inr rfl)), fun q => by have q' : (4 : Int) = 2 := q; omega⟩, by show (j.upd n _).ag ≤ 4; rw [u4]; exact h.n4, fun k hk => ?_, fun q => by have q' : (4 : Int) = 1 := q; omega, hfu, by show q.P.length = (j.upd n _).ag; rw [u4]; exact h.np, fun k hk => ?_⟩
      · rw [ph_at]; exact hR.st k hk
      · rw [ph_at]; exact hR.fr k hk
      · rw [ph_at]; exact hR.no k k1 k2
      · rw [ph_at]; exact hpf k hk
      · rw [ph_at]; exact hpt k hk
    · rw [if_neg hz, if_neg hz]
      exact ⟨hR, ⟨Or.inr (Or.inr (Or.inl (by rw [u5]; exact hc.1))), fun q => by rw [u5, hc.1] at q; omega⟩, by rw [u4]; exact h.n4, hpf, fun q => by rw [u5, hc.1] at q; omega, by rw [u5, hc.1]; exact hfu, by rw [u4]; exact h.np, hpt⟩
  · have e1 : j.unp a.toNat = j := by unfold JS.unp; rw [if_neg hc]
    have e2 : q.go10 a = q := by
      unfold RJ.go10
      rw [if_neg]
      rintro ⟨k1, k2⟩
      rw [hv] at k2
      rw [hph] at k1
      exact hc ⟨k1, k2⟩
    rw [e1, e2]; exact h

theorem JRel.mark {j : JS} {q : RJ} (h : JRel j q) (pf : j.pf) (n4 : j.ag ≤ 4) {x : Int} (h0 : 0 ≤ x) (h3 : x ≤ 3) : JRel (j.mark x) (q.mk1 x) ∧ (j.mark x).pf := by
  obtain ⟨u1, u2, u3, u4, u5, u6⟩ := mark_rest j x
  obtain ⟨m1, m2, m3, m4, m5, m6, m7, m8, m9⟩ := mk1_rest q x
  have hat := fun k hk => mark_at j x k hk h0 h3
  refine ⟨⟨m1.trans (h.id.trans u1.symm), m2.trans (h.tr.trans u2.symm), m3.trans (h.cl.trans u3.symm), m4.trans (h.ph.trans u5.symm), m8.trans (h.ke.trans u6.symm), m9.trans (h.n.trans u4.symm), by rw [m6, u4]; exact h.nf, fun k hk => ?_, fun k hk => ?_, by rw [u5]; exact h.p1, fun k k1 k2 => ?_⟩, fun k hk hp => ?_⟩
  · rw [u4] at hk
    rw [hat k (by omega)]
    have hs := h.st k hk
    by_cases hx : x = k ∧ x < j.ag
    · obtain ⟨rfl, hx2⟩ := hx
      rw [if_pos ⟨rfl, hx2⟩]
      unfold RJ.mk1
      rw [show ((k : Int)).toNat = k by omega, h.n, hs]
      cases hv : (j.at k).v with
      | true =>
        rw [if_neg]
        · rw [hs]
          unfold stN
          rw [hv]
        · rintro ⟨_, q2⟩
          unfold stN at q2
          rw [hv, if_pos rfl] at q2
          split at q2 <;> omega
      | false =>
        have hp : (j.at k).p = false := by
          cases hpp : (j.at k).p with
          | false => rfl
          | true => have := pf k (by omega) hpp; rw [hv] at this; cases this
        rw [if_pos ⟨by omega, by unfold stN; rw [hv]; rfl⟩]
        unfold stN
        simp [List.getD, h.n, hk, hp]
    · rw [if_neg hx, ← hs]
      unfold RJ.mk1
      split
      · rename_i hc
        rw [h.n] at hc
        have hne : x.toNat ≠ k := fun e => hx ⟨by omega, hc.1⟩
        simp [List.getD, List.getElem?_set_ne hne]
      · rfl
  · rw [u4] at hk
    rw [m6, h.fr k hk, hat k (by omega)]
    split <;> rfl
  · rw [u4] at k1
    rw [hat k k2, if_neg (by omega)]
    exact h.no k k1 k2
  · rw [hat k hk] at hp ⊢
    split at hp <;> rename_i hh
    · rw [if_pos hh]
    · rw [if_neg hh]; exact pf k hk hp
theorem JRel.marks (xs : List Int) : ∀ (j : JS) (q : RJ), JRel j q → j.pf → j.ag ≤ 4 → (∀ x ∈ xs, 0 ≤ x ∧ x ≤ 3) → JRel (xs.foldl JS.mark j) (xs.foldl RJ.mk1 q) ∧ (xs.foldl JS.mark j).pf := by
  induction xs with
  | nil => intro j q h pf _ _; exact ⟨h, pf⟩
  | cons x r ih =>
    intro j q h pf n4 hx
    obtain ⟨h1, h2⟩ := hx x (List.mem_cons_self ..)
    obtain ⟨k1, k2⟩ := h.mark pf n4 h1 h2
    rw [List.foldl_cons, List.foldl_cons]
    exact ih _ _ k1 k2 (by rw [(mark_rest j x).2.2.2.1]; exact n4) (fun y hy => hx y (List.mem_cons_of_mem _ hy))
theorem marks_P (xs : List Int) : ∀ (q : RJ), (xs.foldl RJ.mk1 q).P = q.P ∧ (xs.foldl RJ.mk1 q).fu = q.fu := by
  induction xs with
  | nil => intro q; exact ⟨rfl, rfl⟩
  | cons x r ih =>
    intro q
    rw [List.foldl_cons]
    obtain ⟨h1, h2⟩ := ih (q.mk1 x)
    obtain ⟨_, _, _, _, m5, _, m7, _, _⟩ := mk1_rest q x
    exact ⟨h1.trans m5, h2.trans m7⟩
theorem marks_ag' (xs : List Int) : ∀ (j : JS), (xs.foldl JS.mark j).ag = j.ag ∧ (xs.foldl JS.mark j).ph = j.ph := by
  induction xs with
  | nil => intro q; exact ⟨rfl, rfl⟩
  | cons x r ih =>
    intro j
    rw [List.foldl_cons]
    obtain ⟨h1, h2⟩ := ih (j.mark x)
    exact ⟨h1.trans (mark_rest j x).2.2.2.1, h2.trans (mark_rest j x).2.2.2.2.1⟩
/-- a Pinned that pins -/
theorem JRl.pin {j : JS} {q : RJ} (h : JRl j q) {a : Nat} (ha : a < 4) (t : Told) (p : RPt) (xs : List Int) (hp1 : j.ph = 1) (hv : (j.at a).v = true) (hp : (j.at a).p = false) (hpa : p.a = (a : Int)) (ht : PtR p t) (hx : ∀ x ∈ xs, 0 ≤ x ∧ x ≤ 3) : JRl (j.pin a t xs) (q.go3 p xs) := by
  have hag : a < j.ag := by
    rcases Nat.lt_or_ge a j.ag with k | k
    · exact k
    · rw [h.r.no a k ha] at hv; cases hv
  obtain ⟨u1, u2, u3, u4, u5, u6⟩ := upd_rest j a (fun v => { v with p := true, t := t })
  have hat := fun k hk => at_upd j a k (fun v => { v with p := true, t := t }) ha hk
  have htn : ((a : Int)).toNat = a := by omega
  have hR0 : JRel (j.upd a fun v => { v with p := true, t := t }) (q.pin0 (a : Int) p) := by
    refine ⟨h.r.id.trans u1.symm, h.r.tr.trans u2.symm, h.r.cl.trans u3.symm, h.r.ph.trans u5.symm, h.r.ke.trans u6.symm, ?_, h.r.nf.trans u4.symm, fun k hk => ?_, fun k hk => ?_, by rw [u5]; exact h.r.p1, fun k k1 k2 => ?_⟩
    · show (q.S.set _ 2).length = _
      rw [List.length_set, u4]; exact h.r.n
    · rw [u4] at hk
      rw [hat k (by have := h.n4; omega)]
      show (q.S.set (a : Int).toNat 2).getD k 0 = _
      rw [htn]
      by_cases hka : k = a
      · subst hka
        rw [if_pos rfl]
        unfold stN
        simp [List.getD, h.r.n, hk, hv]
      · rw [if_neg hka, ← h.r.st k hk]
        simp [List.getD, List.getElem?_set_ne (fun e => hka e.symm)]
    · rw [u4] at hk
      rw [hat k (by have := h.n4; omega)]
      show q.F.getD k false = _
      rw [h.r.fr k hk]
      split <;> rfl
    · rw [u4] at k1
      rw [hat k k2, if_neg (by omega)]
      exact h.r.no k k1 k2
  have hpf0 : (j.upd a fun v => { v with p := true, t := t }).pf := fun k hk hpp => by
    rw [hat k hk] at hpp ⊢
    split at hpp <;> rename_i hh
    · subst hh; rw [if_pos rfl]; exact hv
    · rw [if_neg hh]; exact h.pf k hk hpp
  obtain ⟨hR1, hpf1⟩ := JRel.marks xs _ _ hR0 hpf0 (by rw [u4]; exact h.n4) hx
  have hj1 : xs.foldl JS.mark (j.upd a fun v => { v with p := true, t := t }) = j.pin1 a t xs := rfl
  have hq1 : xs.foldl RJ.mk1 (q.pin0 (a : Int) p) = q.pin1 (a : Int) p xs := rfl
  obtain ⟨a1, a2⟩ := marks_ag' xs (j.upd a fun v => { v with p := true, t := t })
  obtain ⟨b1, b2⟩ := marks_P xs (q.pin0 (a : Int) p)
  rw [hj1] at hR1 hpf1 a1 a2
  rw [hq1] at hR1 b1 b2
  rw [u4] at a1
  rw [u5, hp1] at a2
  have hpt1 : ∀ k, k < 4 → ((j.pin1 a t xs).at k).p = true → PtR ((q.pin1 (a : Int) p xs).P.getD k pt0) ((j.pin1 a t xs).at k).t := fun k hk hpp => by
    rw [b1]
    show PtR ((q.P.set (a : Int).toNat p).getD k pt0) _
    have e1 : ((j.pin1 a t xs).at k).t = ((j.upd a fun v => { v with p := true, t := t }).at k).t := by unfold JS.pin1; exact marks_told xs k _
    have e2 : ((j.pin1 a t xs).at k).p = ((j.upd a fun v => { v with p := true, t := t }).at k).p := by unfold JS.pin1; exact marks_p xs k hk _
    rw [e2, hat k hk] at hpp
    rw [e1, hat k hk, htn]
    by_cases hka : k = a
    · subst hka
      rw [if_pos rfl]
      rw [show (q.P.set k p).getD k pt0 = p by simp [List.getD, h.np, hag]]
      exact ht
    · rw [if_neg hka] at hpp ⊢
      rw [show (q.P.set a p).getD k pt0 = q.P.getD k pt0 by simp [List.getD, List.getElem?_set_ne (fun e => hka e.symm)]]
      exact h.pt k hk hpp
  have hall := hR1.allP (by rw [a1]; exact h.n4) hpf1
  have hlen : (q.pin1 (a : Int) p xs).S.length = q.S.length := by rw [hR1.n, a1, h.r.n]
  rw [hlen] at hall
  have hvis := h.r.vis (a := (a : Int)) (by omega) (by omega)
  rw [htn] at hvis
  have hst : q.S.getD a 0 = 1 := by rw [h.r.st a hag]; unfold stN; rw [hv, hp]; rfl
  have e2 : q.go3 p xs = if (q.pin1 (a : Int) p xs).allP q.S.length = true then { q.pin1 (a : Int) p xs with ph := 2, fu := true } else q.pin1 (a : Int) p xs := by
    unfold RJ.go3
    rw [hpa, if_pos ⟨by rw [h.r.ph]; exact hp1, by rw [hvis]; exact hv, by rw [htn]; exact hst⟩]
  have e1 : j.pin a t xs = if noneL (fun v => !v.p) (j.pin1 a t xs) then { j.pin1 a t xs with ph := 2 } else j.pin1 a t xs := rfl
  have hP : (q.pin1 (a : Int) p xs).P.length = j.ag := by rw [b1]; show (q.P.set _ p).length = _; rw [List.length_set]; exact h.np
  rw [e1, e2, hall]
  by_cases hz : noneL (fun v => !v.p) (j.pin1 a t xs) = true
  · rw [if_pos hz, if_pos hz]
    refine ⟨⟨hR1.id, hR1.tr, hR1.cl, rfl, hR1.ke, hR1.n, hR1.nf, fun k hk => ?_, fun k hk => ?_, (by decide : (1 : Int) ≤ 2), fun k k1 k2 => ?_⟩, ⟨Or.inr (Or.inl rfl), fun _ => hz⟩, by show (j.pin1 a t xs).ag ≤ 4; rw [a1]; exact h.n4, fun k hk => ?_, fun q => by have q' : (2 : Int) = 1 := q; omega, ?_, by show _ = (j.pin1 a t xs).ag; rw [a1]; exact hP, fun k hk => ?_⟩
    · rw [ph_at]; exact hR1.st k hk
    · rw [ph_at]; exact hR1.fr k hk
    · rw [ph_at]; exact hR1.no k k1 k2
    · rw [ph_at]; exact hpf1 k hk
    · show true = (decide ((2 : Int) ≤ 2) && noneL (fun v => !v.p) (j.pin1 a t xs))
      rw [hz]; rfl
    · rw [ph_at]; exact hpt1 k hk
  · rw [if_neg hz, if_neg hz]
    refine ⟨hR1, ⟨Or.inl a2, fun q => by rw [a2] at q; omega⟩, by rw [a1]; exact h.n4, hpf1, fun _ => by simpa using hz, ?_, by rw [a1]; exact hP, hpt1⟩
    rw [b2, a2]
    show q.fu = _
    rw [h.fu, hp1]
    rfl
/-- a Pinned that doesn't -/
theorem go3_no {j : JS} {q : RJ} (h : JRl j q) (p : RPt) (xs : List Int) (h0 : 0 ≤ p.a) (h4 : p.a < 4) (hno : ¬ (j.ph = 1 ∧ (j.at p.a.toNat).v = true ∧ (j.at p.a.toNat).p = false)) : q.go3 p xs = q := by
  unfold RJ.go3
  rw [if_neg]
  rintro ⟨k1, k2, k3⟩
  rw [h.r.vis h0 h4] at k2
  rw [h.r.ph] at k1
  refine hno ⟨k1, k2, ?_⟩
  have hag : p.a.toNat < j.ag := by
    rcases Nat.lt_or_ge p.a.toNat j.ag with k | k
    · exact k
    · rw [h.r.no _ k (by omega)] at k2; cases k2
  rw [h.r.st _ hag] at k3
  unfold stN at k3
  rw [k2, if_pos rfl] at k3
  cases hp : (j.at p.a.toNat).p with
  | false => rfl
  | true => rw [hp, if_pos rfl] at k3; omega

/-! ### what is still to be said -/
theorem which_ag (so : Vis → Bool) {j : JS} (n4 : j.ag ≤ 4) (no : ∀ k, j.ag ≤ k → k < 4 → (j.at k).v = false) : whichL so j 4 = whichL so j j.ag := by
  have key : ∀ d, j.ag + d ≤ 4 → whichL so j (j.ag + d) = whichL so j j.ag := by
    intro d
    induction d with
    | zero => intro _; rfl
    | succ d ih =>
      intro hd
      rw [show j.ag + (d + 1) = (j.ag + d) + 1 by omega, whichL_no (by rw [vis_at j _ (by omega), no _ (by omega) (by omega)]; rfl), ih (by omega)]
  have := key (4 - j.ag) (by omega)
  rw [show j.ag + (4 - j.ag) = 4 by omega] at this
  exact this
theorem ks_which {j : JS} {q : RJ} (h : JRl j q) (so : Vis → Bool) (K : Int) (hK : 0 < K) (hk : ∀ i, i < j.ag → q.kd i = if ((j.at i).v && so (j.at i)) = true then K else 0) : q.ks q.S.length = (whichL so j 4).map fun x => (x, K) := by
  rw [which_ag so h.n4 h.r.no, h.r.n]
  have key : ∀ n, n ≤ j.ag → q.ks n = (whichL so j n).map fun x => (x, K) := by
    intro n
    induction n with
    | zero => intro _; rfl
    | succ n ih =>
      intro hn
      have h4 := h.n4
      unfold RJ.ks
      rw [ih (by omega), hk n (by omega)]
      by_cases hs : ((j.at n).v && so (j.at n)) = true
      · rw [if_pos hs, if_pos hK]
        have hs' := hs
        rw [Bool.and_eq_true] at hs'
        rw [whichL_yes (by rw [vis_at j n (by omega)]; exact hs'.1) (by rw [vis_at j n (by omega)]; exact hs'.2), List.map_append]
        rfl
      · rw [if_neg hs, if_neg (by omega), List.append_nil, whichL_no (by rw [vis_at j n (by omega)]; simpa using hs)]
  exact key _ (Nat.le_refl _)
theorem ks_1 {j : JS} {q : RJ} (h : JRl j q) (hp : j.ph = 1) : q.ks q.S.length = (whichL (fun v => !v.p) j 4).map fun x => (x, 2) := by
  refine ks_which h _ 2 (by omega) fun i hi => ?_
  unfold RJ.kd
  rw [h.r.st i hi, h.r.ph, hp]
  unfold stN
  cases (j.at i).v <;> cases (j.at i).p <;> simp
theorem ks_2 {j : JS} {q : RJ} (h : JRl j q) (hp : j.ph = 2) : q.ks q.S.length = (whichL (fun _ => true) j 4).map fun x => (x, 5) := by
  refine ks_which h _ 5 (by omega) fun i hi => ?_
  unfold RJ.kd
  rw [h.r.st i hi, h.r.ph, hp]
  unfold stN
  cases (j.at i).v <;> cases (j.at i).p <;> simp
theorem ks_3 {j : JS} {q : RJ} (h : JRl j q) (hp : j.ph = 3) : q.ks q.S.length = (whichL (fun v => !v.f) j 4).map fun x => (x, 9) := by
  refine ks_which h _ 9 (by omega) fun i hi => ?_
  unfold RJ.kd
  rw [h.r.st i hi, h.r.fr i hi, h.r.ph, hp]
  unfold stN
  cases (j.at i).v <;> cases (j.at i).p <;> cases (j.at i).f <;> simp
theorem ks_4 {j : JS} {q : RJ} (h : JRl j q) (hp : j.ph = 4) : q.ks q.S.length = [] := by
  have key : ∀ n, q.ks n = [] := by
    intro n
    induction n with
    | zero => rfl
    | succ n ih =>
      unfold RJ.ks
      rw [ih, if_neg]
      · rfl
      · unfold RJ.kd
        rw [h.r.ph, hp]
        split
        · omega
        · simp
  exact key _
theorem parts_which {j : JS} {q : RJ} (h : JRl j q) : q.parts q.S.length = (whichL (fun _ => true) j 4).map fun x => q.P.getD x.toNat pt0 := by
  rw [which_ag _ h.n4 h.r.no, h.r.n]
  have key : ∀ n, n ≤ j.ag → q.parts n = (whichL (fun _ => true) j n).map fun x => q.P.getD x.toNat pt0 := by
    intro n
    induction n with
    | zero => intro _; rfl
    | succ n ih =>
      intro hn
      have h4 := h.n4
      unfold RJ.parts
      rw [ih (by omega), h.r.st n (by omega)]
      cases hv : (j.at n).v with
      | true =>
        rw [if_pos (by unfold stN; rw [hv, if_pos rfl]; split <;> omega), whichL_yes (by rw [vis_at j n (by omega)]; exact hv) rfl, List.map_append]
        rfl
      | false =>
        rw [if_neg (by unfold stN; rw [hv]; simp), List.append_nil, whichL_no (by rw [vis_at j n (by omega), hv]; rfl)]
  exact key _ (Nat.le_refl _)
theorem visL_which {j : JS} {q : RJ} (h : JRl j q) : visL q.S q.S.length = whichL (fun _ => true) j 4 := by
  rw [which_ag _ h.n4 h.r.no, h.r.n]
  have key : ∀ n, n ≤ j.ag → visL q.S n = whichL (fun _ => true) j n := by
    intro n
    induction n with
    | zero => intro _; rfl
    | succ n ih =>
      intro hn
      have h4 := h.n4
      unfold visL
      rw [ih (by omega), h.r.st n (by omega)]
      cases hv : (j.at n).v with
      | true => rw [if_pos (by unfold stN; rw [hv, if_pos rfl]; split <;> omega), whichL_yes (by rw [vis_at j n (by omega)]; exact hv) rfl]
      | false => rw [if_neg (by unfold stN; rw [hv]; simp), List.append_nil, whichL_no (by rw [vis_at j n (by omega), hv]; rfl)]
  exact key _ (Nat.le_refl _)
end Go.Proofs.YtidcoddefebdpaaGreat
end

section
set_option linter.unusedVariables false
set_option linter.unusedSimpArgs false
set_option maxRecDepth 100000
set_option maxRecDepth 100000
namespace Go.Proofs.YtidcoddefebdpaaGreat
open Go.RowKit Go Go.Lib

def OpJ.pn (m : OpJ) (a : Int) : Pn := ⟨a, m.t, m.j, 1, m.xs, m.lo⟩
def OpJ.ms (m : OpJ) : Option Ms := if m.k = 1 then some (.trigger m.a m.t 0) else if m.k = 2 then some (.pin m.t m.j) else if m.k = 3 then some (.pinned (m.pn m.a)) else if m.k = 4 then some (.gone m.a m.t m.j) else if m.k = 5 then some (.collect m.t m.j) else if m.k = 6 then some (.chunk m.a m.t m.j 0 1 []) else if m.k = 7 then some (.manifest m.t m.j 0 [m.pn m.a, m.pn (wrap64 (m.a + 1))]) else if m.k = 8 then some (.stored m.t m.j) else if m.k = 9 then some (.unpin m.t m.j) else if m.k = 10 then some (.unpinned m.a m.t m.j) else none
theorem man2_rd {w : World} {g : Nat} {m : OpJ} {b : Int} (hb : Blk w g 67 [.int .i64 m.a, .int .i64 m.t, .int .i64 m.j, .int .i64 1, .slice m.ua m.un m.uc, .bool m.lo, .int .i64 b, .int .i64 m.t, .int .i64 m.j, .int .i64 1, .slice m.ua m.un m.uc, .bool m.lo]) (hx : RdI w (.slice m.ua m.un m.uc) m.xs) : RdPs w (.slice (some ⟨g, 0, none⟩) 2 2) [m.pn m.a, m.pn b] := by
  have hl := hx.len
  rw [hl] at hb hx
  refine ⟨_, 2, rfl, by simp, by simp, fun i p hi => ?_⟩
  match i, hi with
  | 0, hi =>
    simp at hi
    subst hi
    refine ⟨g, 0, m.ua, m.uc, rfl, fun q x hq => ?_, hx⟩
    rw [hb.cell]
    rcases (show q = 0 ∨ q = 1 ∨ q = 2 ∨ q = 3 ∨ q = 4 ∨ q = 5 by have := (List.getElem?_eq_some_iff.1 hq).1; simp [pnC] at this; omega) with rfl | rfl | rfl | rfl | rfl | rfl <;> simpa [pnC, OpJ.pn] using hq
  | 1, hi =>
    simp at hi
    subst hi
    refine ⟨g, 0, m.ua, m.uc, rfl, fun q x hq => ?_, hx⟩
    rw [hb.cell]
    rcases (show q = 0 ∨ q = 1 ∨ q = 2 ∨ q = 3 ∨ q = 4 ∨ q = 5 by have := (List.getElem?_eq_some_iff.1 hq).1; simp [pnC] at this; omega) with rfl | rfl | rfl | rfl | rfl | rfl <;> simpa [pnC, OpJ.pn] using hq
  | i + 2, hi => simp at hi

set_option maxHeartbeats 1000000 in
theorem like_nil (w : World) : Calls Tryz.prog 12 #[.nilIface] w fun e w' => e = .returned (mrV {}) ∧ Fr noB w w' := by
  unfold mrV mrC
  have fX := (Fr.refl noB w).alloc (.cells (mrC {}).toArray 54)
  unfold mrC at fX
  have q0 := as_nil_Trigger
  have q1 := as_nil_Pin
  have q2 := as_nil_Pinned
  have q3 := as_nil_Gone
  have q4 := as_nil_Collect
  have q5 := as_nil_Chunk
  have q6 := as_nil_Manifest
  have q7 := as_nil_Stored
  have q8 := as_nil_Unpin
  have q9 := as_nil_Unpinned
  go_enter Tryz.func12, Tryz.ntmps12
  go_wp2_with fail
  go_returns
  exact ⟨rfl, fX⟩
set_option maxHeartbeats 1000000 in
theorem rr_nil (w : World) : Calls Tryz.prog 27 #[mrV {}] w fun e w' => e = .returned (.bool false) ∧ Fr noB w w' := by
  unfold mrV mrC
  have fX := (Fr.refl noB w).alloc (.cells (mrC {}).toArray 54)
  unfold mrC at fX
  have k0 := within_any 0 1 65535
  rw [show inB 1 65535 0 = false by decide] at k0
  go_enter Tryz.func27, Tryz.ntmps27
  go_wp2_with fail
  refine (k0 _).mono ?_
  rintro e w1 ⟨rfl, hw1⟩
  obtain rfl := hw1.symm
  go_wp2_with fail
  go_ret
  exact ⟨rfl, fX⟩

/-- the value u is what Like makes of a call's message -/
def LkV (w : World) (m : OpJ) (u : Value) : Prop :=
  (m.k = 3 ∧ u = mrV { k := 3, pa := m.a, pt := m.t, pj := m.j, pc := 1, ua := m.ua, un := m.un, uc := m.uc, lo := m.lo }) ∨ (m.k ≠ 3 ∧ ((m.ms = none ∧ u = mrV {}) ∨ ∃ x, m.ms = some x ∧ RfW w u x))
theorem LkV.frN {w w' : World} {m : OpJ} {u : Value} (h : LkV w m u) (f : Fr noB w w') : LkV w' m u := by
  rcases h with h | ⟨h0, h | ⟨x, h1, h2⟩⟩
  · exact Or.inl h
  · exact Or.inr ⟨h0, Or.inl h⟩
  · exact Or.inr ⟨h0, Or.inr ⟨x, h1, h2.frN f⟩⟩
theorem like_any (m : OpJ) (v : Value) (w : World) (hv : MsgV w m v) (hx : RdI w (.slice m.ua m.un m.uc) m.xs) : Calls Tryz.prog 12 #[v] w fun e w' => ∃ u, e = .returned u ∧ LkV w' m u ∧ Fr noB w w' := by
  have gen : ∀ x : Ms, m.ms = some x → m.k ≠ 3 → MsW w v x → x.few → Calls Tryz.prog 12 #[v] w fun e w' => ∃ u, e = .returned u ∧ LkV w' m u ∧ Fr noB w w' := fun x h1 h3 h2 hf =>
    (like_ms v x w h2 hf).mono fun e w' ⟨u, k1, k2, k3⟩ => ⟨u, k1, Or.inr ⟨h3, Or.inr ⟨x, h1, k2⟩⟩, k3⟩
  cases hv with
  | k1 hk => exact gen (.trigger m.a m.t 0) (by unfold OpJ.ms; rw [if_pos hk]) (by omega) rfl trivial
  | k2 hk => exact gen (.pin m.t m.j) (by unfold OpJ.ms; rw [if_neg (by omega), if_pos hk]) (by omega) rfl trivial
  | k3 hk =>
    refine (like_Pinned m.a m.t m.j 1 m.ua m.un m.uc m.lo w).mono ?_
    rintro e w' ⟨rfl, f⟩
    exact ⟨_, rfl, Or.inl ⟨hk, rfl⟩, f⟩
  | k4 hk => exact gen (.gone m.a m.t m.j) (by unfold OpJ.ms; rw [if_neg (by omega), if_neg (by omega), if_neg (by omega), if_pos hk]) (by omega) rfl trivial
  | k5 hk => exact gen (.collect m.t m.j) (by unfold OpJ.ms; rw [if_neg (by omega), if_neg (by omega), if_neg (by omega), if_neg (by omega), if_pos hk]) (by omega) rfl trivial
  | k6 hk => exact gen (.chunk m.a m.t m.j 0 1 []) (by unfold OpJ.ms; rw [if_neg (by omega), if_neg (by omega), if_neg (by omega), if_neg (by omega), if_neg (by omega), if_pos hk]) (by omega) ⟨_, rfl, rdSp_nil w⟩ trivial
  | k7 g hk hb => exact gen (.manifest m.t m.j 0 [m.pn m.a, m.pn (wrap64 (m.a + 1))]) (by unfold OpJ.ms; rw [if_neg (by omega), if_neg (by omega), if_neg (by omega), if_neg (by omega), if_neg (by omega), if_neg (by omega), if_pos hk]) (by omega) ⟨_, rfl, man2_rd hb hx⟩ (by simp [Ms.few])
  | k8 hk => exact gen (.stored m.t m.j) (by unfold OpJ.ms; rw [if_neg (by omega), if_neg (by omega), if_neg (by omega), if_neg (by omega), if_neg (by omega), if_neg (by omega), if_neg (by omega), if_pos hk]) (by omega) rfl trivial
  | k9 hk => exact gen (.unpin m.t m.j) (by unfold OpJ.ms; rw [if_neg (by omega), if_neg (by omega), if_neg (by omega), if_neg (by omega), if_neg (by omega), if_neg (by omega), if_neg (by omega), if_neg (by omega), if_pos hk]) (by omega) rfl trivial
  | k10 hk => exact gen (.unpinned m.a m.t m.j) (by unfold OpJ.ms; rw [if_neg (by omega), if_neg (by omega), if_neg (by omega), if_neg (by omega), if_neg (by omega), if_neg (by omega), if_neg (by omega), if_neg (by omega), if_neg (by omega), if_pos hk]) (by omega) rfl trivial
  | k0 hk =>
    refine (like_nil w).mono ?_
    rintro e w' ⟨rfl, f⟩
    exact ⟨_, rfl, Or.inr ⟨by omega, Or.inl ⟨by unfold OpJ.ms; rw [if_neg (by omega), if_neg (by omega), if_neg (by omega), if_neg (by omega), if_neg (by omega), if_neg (by omega), if_neg (by omega), if_neg (by omega), if_neg (by omega), if_neg (by omega)], rfl⟩⟩, f⟩

def OpJ.pt (m : OpJ) : RPt := ⟨m.a, m.t, m.j, 1, m.ua, m.un, m.uc, m.lo⟩
/-- what a message makes of the reference's job -/
def RJ.hear (q : RJ) (m : OpJ) : RJ :=
  if m.k = 3 then (if pinB m.a m.t m.j 1 m.xs = true ∧ m.t = q.tr ∧ m.j = q.id then q.go3 m.pt m.xs else q)
  else if m.k = 4 then (if bGone m.a m.t m.j = true ∧ m.t = q.tr ∧ m.j = q.id then q.go4 m.a else q)
  else if m.k = 8 then (if bStored m.t m.j = true ∧ m.t = q.tr ∧ m.j = q.id then q.go8 else q)
  else if m.k = 10 then (if bUnpinned m.a m.t m.j = true ∧ m.t = q.tr ∧ m.j = q.id then q.go10 m.a else q)
  else q
def MR.rms (m : MR) : RMs := { k := m.k, a := m.a, t := m.t, j := m.j, cl := m.c, ix := m.i, tt := m.n, p := ⟨m.pa, m.pt, m.pj, m.pc, m.ua, m.un, m.uc, m.lo⟩, va := m.qa, vn := m.qn, vc := m.qc, sa := m.sa, sn := m.sn, sc := m.sc }
theorem rms_v (m : MR) : mrV m = .agg m.rms.cs.toArray := rfl
theorem pinB_in {a t j c : Int} {xs : List Int} (h : pinB a t j c xs = true) : ∀ x ∈ xs, 0 ≤ x ∧ x ≤ 3 := (pinB_facts h).2.1
theorem rhear_any (r gs gp gf : Nat) (q : RJ) (m : OpJ) (u : Value) (w : World) (h : Rj w r gs gp gf q) (hu : LkV w m u) (hx : RdI w (.slice m.ua m.un m.uc) m.xs) (hap : m.xs ≠ [] → ∀ g o, m.ua = some ⟨g, o, none⟩ → ¬ rjB r gs gp gf g) :
    Calls Tryz.prog 31 #[.pointer (some ⟨r, 0, none⟩), u] w fun e w' => e = .returned (.tuple #[]) ∧ RHear w w' r gs gp gf (q.hear m) := by
  rcases hu with ⟨hk, rfl⟩ | ⟨h3, ⟨hm, rfl⟩ | ⟨x, hm, hw⟩⟩
  · have := rhear_3 r gs gp gf q (MR.rms { k := 3, pa := m.a, pt := m.t, pj := m.j, pc := 1, ua := m.ua, un := m.un, uc := m.uc, lo := m.lo }) m.xs (pinB m.a m.t m.j 1 m.xs) w h rfl hx hap (fun hb x hx => (pinB_in hb x hx).1) (fun w' f => rr_3 m.a m.t m.j 1 m.ua m.un m.uc m.lo m.xs w' (hx.frN f))
    rw [rms_v]
    refine this.mono ?_
    rintro e w' ⟨rfl, hh⟩
    refine ⟨rfl, ?_⟩
    unfold RJ.hear
    rw [if_pos hk]
    exact hh
  · have hk : m.k ≠ 4 ∧ m.k ≠ 8 ∧ m.k ≠ 10 := by
      refine ⟨fun e => ?_, fun e => ?_, fun e => ?_⟩
      all_goals (unfold OpJ.ms at hm; rw [e] at hm; simp at hm)
    have := rhear_o r gs gp gf q (MR.rms {}) false w h ⟨by decide, by decide, by decide, by decide⟩ (fun w' f => rr_nil w')
    rw [rms_v]
    refine this.mono ?_
    rintro e w' ⟨rfl, hh⟩
    refine ⟨rfl, ?_⟩
    unfold RJ.hear
    rw [if_neg h3, if_neg hk.1, if_neg hk.2.1, if_neg hk.2.2]
    rw [if_neg (by simp)] at hh
    exact hh
  · have hr := fun w' (f : Fr noB w w') => rr_ms u x w' (hw.frN f)
    have oth : ∀ M : MR, u = mrV M → (M.k ≠ 3 ∧ M.k ≠ 4 ∧ M.k ≠ 8 ∧ M.k ≠ 10) → (m.k ≠ 4 ∧ m.k ≠ 8 ∧ m.k ≠ 10) → Calls Tryz.prog 31 #[.pointer (some ⟨r, 0, none⟩), u] w fun e w' => e = .returned (.tuple #[]) ∧ RHear w w' r gs gp gf (q.hear m) := by
      intro M hM hk hk2
      subst hM
      rw [rms_v]
      refine (rhear_o r gs gp gf q M.rms x.ok w h hk hr).mono ?_
      rintro e w' ⟨rfl, hh⟩
      refine ⟨rfl, ?_⟩
      unfold RJ.hear
      rw [if_neg h3, if_neg hk2.1, if_neg hk2.2.1, if_neg hk2.2.2]
      split at hh <;> exact hh
    unfold OpJ.ms at hm
    by_cases e1 : m.k = 1
    · rw [if_pos e1] at hm; injection hm with hm; subst hm; obtain rfl := hw
      exact oth _ rfl ⟨(by decide : (1 : Int) ≠ 3), (by decide : (1 : Int) ≠ 4), (by decide : (1 : Int) ≠ 8), (by decide : (1 : Int) ≠ 10)⟩ (by omega)
    rw [if_neg e1] at hm
    by_cases e2 : m.k = 2
    · rw [if_pos e2] at hm; injection hm with hm; subst hm; obtain rfl := hw
      exact oth _ rfl ⟨(by decide : (2 : Int) ≠ 3), (by decide : (2 : Int) ≠ 4), (by decide : (2 : Int) ≠ 8), (by decide : (2 : Int) ≠ 10)⟩ (by omega)
    rw [if_neg e2, if_neg h3] at hm
    by_cases e4 : m.k = 4
    · rw [if_pos e4] at hm; injection hm with hm; subst hm; obtain rfl := hw
      rw [rms_v]
      refine (rhear_4 r gs gp gf q (MR.rms { k := 4, a := m.a, t := m.t, j := m.j }) (bGone m.a m.t m.j) w h rfl hr).mono ?_
      rintro e w' ⟨rfl, hh⟩
      refine ⟨rfl, ?_⟩
      unfold RJ.hear
      rw [if_neg h3, if_pos e4]
      exact hh
    rw [if_neg e4] at hm
    by_cases e5 : m.k = 5
    · rw [if_pos e5] at hm; injection hm with hm; subst hm; obtain rfl := hw
      exact oth _ rfl ⟨(by decide : (5 : Int) ≠ 3), (by decide : (5 : Int) ≠ 4), (by decide : (5 : Int) ≠ 8), (by decide : (5 : Int) ≠ 10)⟩ (by omega)
    rw [if_neg e5] at hm
    by_cases e6 : m.k = 6
    · rw [if_pos e6] at hm; injection hm with hm; subst hm; obtain ⟨sa, sc, rfl, _⟩ := hw
      exact oth _ rfl ⟨(by decide : (6 : Int) ≠ 3), (by decide : (6 : Int) ≠ 4), (by decide : (6 : Int) ≠ 8), (by decide : (6 : Int) ≠ 10)⟩ (by omega)
    rw [if_neg e6] at hm
    by_cases e7 : m.k = 7
    · rw [if_pos e7] at hm; injection hm with hm; subst hm; obtain ⟨sa, sc, rfl, _⟩ := hw
      exact oth _ rfl ⟨(by decide : (7 : Int) ≠ 3), (by decide : (7 : Int) ≠ 4), (by decide : (7 : Int) ≠ 8), (by decide : (7 : Int) ≠ 10)⟩ (by omega)
    rw [if_neg e7] at hm
    by_cases e8 : m.k = 8
    · rw [if_pos e8] at hm; injection hm with hm; subst hm; obtain rfl := hw
      rw [rms_v]
      refine (rhear_8 r gs gp gf q (MR.rms { k := 8, t := m.t, j := m.j }) (bStored m.t m.j) w h rfl hr).mono ?_
      rintro e w' ⟨rfl, hh⟩
      refine ⟨rfl, ?_⟩
      unfold RJ.hear
      rw [if_neg h3, if_neg e4, if_pos e8]
      exact hh
    rw [if_neg e8] at hm
    by_cases e9 : m.k = 9
    · rw [if_pos e9] at hm; injection hm with hm; subst hm; obtain rfl := hw
      exact oth _ rfl ⟨(by decide : (9 : Int) ≠ 3), (by decide : (9 : Int) ≠ 4), (by decide : (9 : Int) ≠ 8), (by decide : (9 : Int) ≠ 10)⟩ (by omega)
    rw [if_neg e9] at hm
    by_cases e10 : m.k = 10
    · rw [if_pos e10] at hm; injection hm with hm; subst hm; obtain rfl := hw
      rw [rms_v]
      refine (rhear_10 r gs gp gf q (MR.rms { k := 10, a := m.a, t := m.t, j := m.j }) (bUnpinned m.a m.t m.j) w h rfl hr).mono ?_
      rintro e w' ⟨rfl, hh⟩
      refine ⟨rfl, ?_⟩
      unfold RJ.hear
      rw [if_neg h3, if_neg e4, if_neg e8, if_pos e10]
      exact hh
    rw [if_neg e10] at hm
    cases hm

/-! ### both jobs stay alike -/
theorem JRl.hear {j : JS} {q : RJ} (h : JRl j q) (m : OpJ) (hun : m.un = m.xs.length) : JRl (j.hear m) (q.hear m) := by
  by_cases hc : m.t = j.tr ∧ m.j = j.id
  · have hc2 : m.t = q.tr ∧ m.j = q.id := by rw [h.r.tr, h.r.id]; exact hc
    by_cases k3 : m.k = 3
    · have e2 : q.hear m = if pinB m.a m.t m.j 1 m.xs = true then q.go3 m.pt m.xs else q := by
        unfold RJ.hear
        rw [if_pos k3]
        by_cases hb : pinB m.a m.t m.j 1 m.xs = true
        · rw [if_pos ⟨hb, hc2⟩, if_pos hb]
        · rw [if_neg (fun e => hb e.1), if_neg hb]
      rw [e2]
      by_cases hb : pinB m.a m.t m.j 1 m.xs = true
      · rw [if_pos hb]
        obtain ⟨⟨ha0, ha3⟩, hin, hl4⟩ := pinB_facts hb
        by_cases hp : j.ph = 1 ∧ (j.at m.a.toNat).v = true ∧ (j.at m.a.toNat).p = false
        · have hpin := pins_yes k3 hc.1 hc.2 hb hp.1 hp.2.1 hp.2.2
          rw [hear_3yes k3 hpin hc.1 hc.2]
          exact h.pin (by omega) _ m.pt m.xs hp.1 hp.2.1 hp.2.2 (by show m.a = _; omega) ⟨rfl, rfl, rfl, rfl, rfl, hun⟩ hin
        · have hno : j.pins m = false := by
            refine pins_false2 ?_
            by_cases p1 : j.ph = 1
            · by_cases p2 : (j.at m.a.toNat).v = true
              · right; right
                cases hq : (j.at m.a.toNat).p with
                | true => rfl
                | false => exact absurd ⟨p1, p2, hq⟩ hp
              · right; left; simpa using p2
            · exact Or.inl p1
          rw [hear_3no k3 hno, go3_no h m.pt m.xs ha0 (by show m.a < 4; omega) hp]
          exact h
      · rw [if_neg hb, hear_3no k3 (pins_false (fun e => hb e.1))]
        exact h
    · by_cases k4 : m.k = 4
      · rw [hear_4 k4 hc.1 hc.2]
        unfold RJ.hear
        rw [if_neg k3, if_pos k4]
        by_cases hb : bGone m.a m.t m.j = true
        · rw [if_pos hb, if_pos ⟨hb, hc2⟩]
          have := bGone_facts hb
          exact h.gon this.1 (by omega)
        · rw [if_neg hb, if_neg (fun e => hb e.1)]; exact h
      · by_cases k8 : m.k = 8
        · rw [hear_8 k8 hc.1 hc.2]
          unfold RJ.hear
          rw [if_neg k3, if_neg k4, if_pos k8]
          by_cases hb : bStored m.t m.j = true
          · rw [if_pos hb, if_pos ⟨hb, hc2⟩]; exact h.sto
          · rw [if_neg hb, if_neg (fun e => hb e.1)]; exact h
        · by_cases k10 : m.k = 10
          · rw [hear_10 k10 hc.1 hc.2]
            unfold RJ.hear
            rw [if_neg k3, if_neg k4, if_neg k8, if_pos k10]
            by_cases hb : bUnpinned m.a m.t m.j = true
            · rw [if_pos hb, if_pos ⟨hb, hc2⟩]
              have := bUnp_facts hb
              exact h.unp this.1 (by omega)
            · rw [if_neg hb, if_neg (fun e => hb e.1)]; exact h
          · rw [hear_other k3 k4 k8 k10]
            unfold RJ.hear
            rw [if_neg k3, if_neg k4, if_neg k8, if_neg k10]
            exact h
  · have hc2 : ¬ (m.t = q.tr ∧ m.j = q.id) := by rw [h.r.tr, h.r.id]; exact hc
    rw [hear_mis hc]
    have : q.hear m = q := by
      unfold RJ.hear
      have e : ∀ b : Bool, ¬ (b = true ∧ m.t = q.tr ∧ m.j = q.id) := fun b e => hc2 e.2
      rw [if_neg (e _), if_neg (e _), if_neg (e _), if_neg (e _)]
      simp
    rw [this]; exact h
/-- the reference's parts, as they lie -/
def RdX (w : World) (M0 : Nat) (q : RJ) (X : Nat → List Int) : Prop :=
  ∀ k, k < 4 → RdI w (.slice (q.P.getD k pt0).ua (q.P.getD k pt0).un (q.P.getD k pt0).uc) (X k) ∧ (X k ≠ [] → ∀ g o, (q.P.getD k pt0).ua = some ⟨g, o, none⟩ → g < M0)
theorem RdX.fr {w w' : World} {M0 : Nat} {q : RJ} {X : Nat → List Int} {S : Nat → Prop} (h : RdX w M0 q X) (f : Fr S w w') (hS : ∀ g, g < M0 → ¬ S g) : RdX w' M0 q X := fun k hk =>
  ⟨(h k hk).1.fr1 f (fun hne g o n c e => hS g ((h k hk).2 hne g o (by injection e))), (h k hk).2⟩
theorem pin1_P (xs : List Int) (q : RJ) (a : Int) (p : RPt) : (q.pin1 a p xs).P = q.P.set a.toNat p := (marks_P xs (q.pin0 a p)).1
theorem RdX.hear {w : World} {M0 : Nat} {j : JS} {q : RJ} {X : Nat → List Int} (h : RdX w M0 q X) (hr : JRl j q) (m : OpJ) (hx : RdI w (.slice m.ua m.un m.uc) m.xs) (hm0 : m.xs ≠ [] → ∀ g o, m.ua = some ⟨g, o, none⟩ → g < M0) : RdX w M0 (q.hear m) (j.hearX m X) := by
  by_cases hp : j.pins m = true
  · obtain ⟨k3, ht, hj, ha4, hp1⟩ := pins_a hp
    have hpv : (j.at m.a.toNat).v = true ∧ (j.at m.a.toNat).p = false ∧ pinB m.a m.t m.j 1 m.xs = true := by
      unfold JS.pins at hp
      simp only [Bool.and_eq_true, decide_eq_true_eq, Bool.not_eq_true'] at hp
      exact ⟨hp.2.2.2.2.2.1, hp.2.2.2.2.2.2, hp.2.2.2.1⟩
    obtain ⟨⟨ha0, ha3⟩, hin, hl4⟩ := pinB_facts hpv.2.2
    have hag : m.a.toNat < j.ag := by
      rcases Nat.lt_or_ge m.a.toNat j.ag with k | k
      · exact k
      · have := hpv.1; rw [hr.r.no _ k ha4] at this; cases this
    have hst : q.S.getD m.a.toNat 0 = 1 := by rw [hr.r.st _ hag]; unfold stN; rw [hpv.1, hpv.2.1]; rfl
    have eP : (q.hear m).P = q.P.set m.a.toNat m.pt := by
      unfold RJ.hear
      rw [if_pos k3, if_pos ⟨hpv.2.2, by rw [hr.r.tr]; exact ht, by rw [hr.r.id]; exact hj⟩]
      unfold RJ.go3
      rw [if_pos ⟨by rw [hr.r.ph]; exact hp1, by show q.vis m.a = true; rw [hr.r.vis ha0 (by omega)]; exact hpv.1, hst⟩]
      split
      · exact pin1_P m.xs q m.a m.pt
      · exact pin1_P m.xs q m.a m.pt
    have eX : j.hearX m X = fun b => if b = m.a.toNat then m.xs else X b := by unfold JS.hearX; rw [if_pos hp]
    rw [eX]
    intro k hk
    rw [eP]
    by_cases hka : k = m.a.toNat
    · subst hka
      rw [show (q.P.set m.a.toNat m.pt).getD m.a.toNat pt0 = m.pt by simp [List.getD, hr.np, hag]]
      simp only [if_pos rfl]
      exact ⟨hx, hm0⟩
    · rw [show (q.P.set m.a.toNat m.pt).getD k pt0 = q.P.getD k pt0 by simp [List.getD, List.getElem?_set_ne (fun e => hka e.symm)]]
      simp only [if_neg hka]
      exact h k hk
  · have hp' : j.pins m = false := by simpa using hp
    rw [hearX_no hp']
    have eP : (q.hear m).P = q.P := by
      unfold RJ.hear
      by_cases k3 : m.k = 3
      · rw [if_pos k3]
        by_cases hb : pinB m.a m.t m.j 1 m.xs = true ∧ m.t = q.tr ∧ m.j = q.id
        · rw [if_pos hb]
          obtain ⟨⟨ha0, ha3⟩, _, _⟩ := pinB_facts hb.1
          rw [go3_no hr m.pt m.xs ha0 (by show m.a < 4; omega)]
          rintro ⟨q1, q2, q3⟩
          rw [hr.r.tr, hr.r.id] at hb
          rw [pins_yes k3 hb.2.1 hb.2.2 hb.1 q1 q2 q3] at hp'
          cases hp'
        · rw [if_neg hb]
      · rw [if_neg k3]
        by_cases k4 : m.k = 4
        · rw [if_pos k4]
          split
          · unfold RJ.go4; split <;> rfl
          · rfl
        · rw [if_neg k4]
          by_cases k8 : m.k = 8
          · rw [if_pos k8]
            split
            · unfold RJ.go8; split <;> rfl
            · rfl
          · rw [if_neg k8]
            by_cases k10 : m.k = 10
            · rw [if_pos k10]
              split
              · unfold RJ.go10
                split
                · split <;> rfl
                · rfl
              · rfl
            · rw [if_neg k10]
    intro k hk
    rw [eP]
    exact h k hk
end Go.Proofs.YtidcoddefebdpaaGreat
end

section
set_option linter.unusedVariables false
set_option linter.unusedSimpArgs false
set_option maxRecDepth 100000
set_option maxRecDepth 100000
namespace Go.Proofs.YtidcoddefebdpaaGreat
open Go.RowKit Go Go.Lib

/-- Like of m is, to the law's Same, the reference's message r -/
def SameAt (w : World) (m r : Value) : Prop := ∀ w1, Fr noB w w1 → Calls Tryz.prog 12 #[m] w1 fun e w2 => ∃ u, e = .returned u ∧ Fr noB w1 w2 ∧ ∀ w3, Fr noB w2 w3 → Calls Tryz.prog 20 #[u, r] w3 fun e w4 => e = .returned (.bool true) ∧ Fr noB w3 w4
theorem SameAt.frN {w w' : World} {m r : Value} (h : SameAt w m r) (f : Fr noB w w') : SameAt w' m r := fun w1 f1 => h w1 (f.seqN f1)
theorem rfg_2 (w : World) (k t j : Int) : RfG w (mrV { k := k, t := t, j := j }) k 0 t j 0 0 0 zP [] [] := ⟨none, 0, none, 0, none, 0, rfl, rdI_nil w, rdPs_nil w, rdSp_nil w⟩
theorem rfg_m (w : World) (t j c : Int) (qa : Option Addr) (qc : Nat) (ps : List Pn) (h : RdPs w (.slice qa ps.length qc) ps) : RfG w (mrV { k := 7, t := t, j := j, c := c, qa := qa, qn := ps.length, qc := qc }) 7 0 t j c 0 0 zP ps [] := ⟨none, 0, qa, qc, none, 0, rfl, rdI_nil w, h, rdSp_nil w⟩
theorem sameAt_pin (w : World) (t j : Int) : SameAt w (mPin t j) (mrV { k := 2, t := t, j := j }) := fun w1 _ =>
  (like_Pin t j w1).mono fun e w2 ⟨h1, f⟩ => ⟨_, h1, f, fun w3 _ => same_gen _ _ 2 0 t j 0 0 0 zP [] [] w3 (rfg_2 w3 2 t j) (rfg_2 w3 2 t j)⟩
theorem sameAt_collect (w : World) (t j : Int) : SameAt w (mCollect t j) (mrV { k := 5, t := t, j := j }) := fun w1 _ =>
  (like_Collect t j w1).mono fun e w2 ⟨h1, f⟩ => ⟨_, h1, f, fun w3 _ => same_gen _ _ 5 0 t j 0 0 0 zP [] [] w3 (rfg_2 w3 5 t j) (rfg_2 w3 5 t j)⟩
theorem sameAt_unpin (w : World) (t j : Int) : SameAt w (mUnpin t j) (mrV { k := 9, t := t, j := j }) := fun w1 _ =>
  (like_Unpin t j w1).mono fun e w2 ⟨h1, f⟩ => ⟨_, h1, f, fun w3 _ => same_gen _ _ 9 0 t j 0 0 0 zP [] [] w3 (rfg_2 w3 9 t j) (rfg_2 w3 9 t j)⟩
theorem sameAt_man (w : World) (t j c : Int) (pv : Value) (qa : Option Addr) (qn qc : Nat) (ps : List Pn) (hn : qn = ps.length) (hl : ps.length ≤ 100) (hp : RdPs w pv ps) (hq : RdPs w (.slice qa qn qc) ps) : SameAt w (mManifest t j c pv) (mrV { k := 7, t := t, j := j, c := c, qa := qa, qn := qn, qc := qc }) := by
  subst hn
  intro w1 f1
  refine (like_Manifest t j c pv ps w1 (hp.frN f1) hl).mono ?_
  rintro e w2 ⟨a, cc, rfl, h2, f2⟩
  exact ⟨_, rfl, f2, fun w3 f3 => same_gen _ _ 7 0 t j c 0 0 zP ps [] w3 (rfg_m w3 t j c a cc ps (h2.frN f3)) (rfg_m w3 t j c qa qc ps (hq.frN ((f1.seqN f2).seqN f3)))⟩

theorem parts_rd {w : World} {B M0 : Nat} {j : JS} {q : RJ} {X : Nat → List Int} {L : List Int} {qa : Option Addr} {qc : Nat} (hr : JRl j q) (hX : RdX w M0 q X) (hL : ∀ x ∈ L, ∃ i : Nat, i < 4 ∧ x = (i : Int) ∧ (j.at i).p = true)
    (ho : w.ownsRow B 50 6 (.slice qa L.length qc) L.length ((L.map fun x => q.P.getD x.toNat pt0).flatMap RPt.cs)) (hl : L.length ≤ 1000000) : RdPs w (.slice qa L.length qc) (j.psl X L) := by
  refine ⟨qa, qc, by rw [psl_len], ?_, by rw [psl_len]; omega, fun i p hp => ?_⟩
  · rw [psl_len]
    rcases ho.2 with ⟨h1, h2⟩ | ⟨g, cap, cur, h1, _, _, h3, _⟩
    · omega
    · injection h1 with _ _ h4; omega
  · obtain ⟨hi, rfl⟩ := psl_get hp
    obtain ⟨n, hn, hx, hpn⟩ := hL (L.getD i 0) (by simp [List.getD, hi])
    have hx2 : (L.getD i 0).toNat = n := by omega
    rw [hx2]
    obtain ⟨hrd, _⟩ := hX n hn
    have ht := hr.pt n hn hpn
    have hlen := hrd.len
    obtain ⟨g, cap, hg, _⟩ := ownsRow_some ho (by omega)
    injection hg with hg1 _ _
    subst hg1
    rw [hlen] at hrd
    refine ⟨g, 0, (q.P.getD n pt0).ua, (q.P.getD n pt0).uc, rfl, fun k x hk => ?_, hrd⟩
    have hk6 : k < 6 := (List.getElem?_eq_some_iff.1 hk).1
    have hget : ((L.map fun x => q.P.getD x.toNat pt0).flatMap RPt.cs)[i * 6 + k]? = (q.P.getD n pt0).cs[k]? := by
      rw [flat6_get _ i k (by simpa using hi) hk6]
      congr 1
      rw [show (L.map fun x => q.P.getD x.toNat pt0).getD i pt0 = q.P.getD (L.getD i 0).toNat pt0 by simp [List.getD, hi], hx2]
    have hcs : (q.P.getD n pt0).cs = pnC ⟨(j.at n).t.ag, (j.at n).t.tr, (j.at n).t.jb, (j.at n).t.ct, X n, (j.at n).t.lo⟩ (.slice (q.P.getD n pt0).ua (X n).length (q.P.getD n pt0).uc) := by
      unfold RPt.cs pnC
      rw [ht.a, ht.t, ht.j, ht.c, ht.lo, hlen]
    have := ho.cells (g := g) rfl (i * 6 + k) x (by rw [hget, hcs]; exact hk)
    rw [add_none] at this
    exact this

/-! ### Outs -/
def JS.zr (j : JS) (qa : Option Addr) (qc : Nat) : List (Int × MR) :=
  if j.ph = 1 then (whichL (fun v => !v.p) j 4).map fun x => (x, { k := 2, t := j.tr, j := j.id })
  else if j.ph = 2 then (-1, { k := 7, t := j.tr, j := j.id, c := j.cl, qa := qa, qn := (whichL (fun _ => true) j 4).length, qc := qc }) :: (whichL (fun _ => true) j 4).map fun x => (x, { k := 5, t := j.tr, j := j.id })
  else if j.ph = 3 then (whichL (fun v => !v.f) j 4).map fun x => (x, { k := 9, t := j.tr, j := j.id })
  else []
def zrT (Z : List (Int × MR)) : List Value := Z.map fun x => .int .i64 x.1
def zrM (Z : List (Int × MR)) : List Value := Z.flatMap fun x => mrC x.2
theorem zlen (j : JS) (qa : Option Addr) (qc : Nat) (pv : Value) : (j.zr qa qc).length = (j.zg pv).length ∧ (j.zg pv).length ≤ 5 := by
  have h1 := whichL_len (fun v => !v.p) j 4
  have h2 := whichL_len (fun _ => true) j 4
  have h3 := whichL_len (fun v => !v.f) j 4
  unfold JS.zr JS.zg
  split
  · simp; omega
  · split
    · simp; omega
    · split
      · simp; omega
      · simp
theorem zrT_map (L : List Int) (K : Int) (M : MR) : zrT (L.map fun x => (x, M)) = RJ.toL (L.map fun x => (x, K)) := by
  unfold zrT RJ.toL
  rw [List.map_map, List.map_map]
  rfl
theorem zrM_map (q : RJ) (L : List Int) (K : Int) : zrM (L.map fun x => (x, { k := K, t := q.tr, j := q.id })) = q.msL (L.map fun x => (x, K)) := by
  unfold zrM RJ.msL
  rw [List.flatMap_map, List.flatMap_map]
theorem all_pinned {j : JS} {q : RJ} (h : JRl j q) (hn : noneL (fun v => !v.p) j = true) : ∀ x ∈ j.all, ∃ i : Nat, i < 4 ∧ x = (i : Int) ∧ (j.at i).p = true := by
  intro x hx
  obtain ⟨i, hi, e, hv, _⟩ := which_mem.1 hx
  refine ⟨i, hi, e, ?_⟩
  have := none_iff.1 hn i hi hv
  simpa using this
/-- the reference's Outs -/
theorem routs_any (r gs gp gf M0 : Nat) (j : JS) (q : RJ) (X : Nat → List Int) (w : World) (h : Rj w r gs gp gf q) (hr : JRl j q) (hX : RdX w M0 q X) :
    Calls Tryz.prog 19 #[.pointer (some ⟨r, 0, none⟩)] w fun e w' => ∃ ut uo qa qc, e = .returned (.tuple #[ut, uo]) ∧ w'.ownsRow w.heap.size 3 1 ut (j.zr qa qc).length (zrT (j.zr qa qc)) ∧ w'.ownsRow w.heap.size 54 15 uo (j.zr qa qc).length (zrM (j.zr qa qc)) ∧ (j.ph = 2 → RdPs w' (.slice qa j.all.length qc) (j.psl X j.all)) ∧ Fr noB w w' := by
  have hph := hr.r.ph
  rcases hr.inv.1 with hp | hp | hp | hp
  · refine (routs_1 r gs gp gf q w h (hph.trans hp)).mono ?_
    rintro e w' ⟨ut, uo, rfl, oT, oM, f⟩
    refine ⟨ut, uo, none, 0, rfl, ?_, ?_, fun e => by omega, f⟩
    · unfold JS.zr; rw [if_pos hp, zrT_map _ 2]
      rw [ks_1 hr hp] at oT
      simpa using oT
    · unfold JS.zr; rw [if_pos hp, ← hr.r.tr, ← hr.r.id, zrM_map q _ 2]
      rw [ks_1 hr hp] at oM
      simpa using oM
  · refine (routs_2 r gs gp gf q w h (hph.trans hp)).mono ?_
    rintro e w' ⟨ut, uo, qa, qc, rfl, oT, oM, oP, f⟩
    rw [ks_2 hr hp] at oT oM
    rw [parts_which hr] at oP oM
    have hlen : (j.all.map fun x => q.P.getD x.toNat pt0).length = j.all.length := by simp
    have hl4 : j.all.length ≤ 4 := whichL_len (fun _ => true) j 4
    refine ⟨ut, uo, qa, qc, rfl, ?_, ?_, fun _ => ?_, f⟩
    · unfold JS.zr; rw [if_neg (by omega), if_pos hp]
      show w'.ownsRow _ _ _ _ _ (.int .i64 (-1) :: zrT (List.map _ _))
      rw [zrT_map _ 5]
      simpa using oT
    · unfold JS.zr; rw [if_neg (by omega), if_pos hp, ← hr.r.tr, ← hr.r.id, ← hr.r.cl]
      show w'.ownsRow _ _ _ _ _ (mrC _ ++ zrM (List.map _ _))
      rw [zrM_map q _ 5]
      simpa using oM
    · refine parts_rd (B := w.heap.size) hr (hX.fr f (fun _ _ q => q)) (all_pinned hr (hr.inv.2 hp)) ?_ (by omega)
      have := oP
      rw [show (List.map (fun x => q.P.getD x.toNat pt0) (whichL (fun x => true) j 4)).length = j.all.length by simp [JS.all]] at this
      exact this
  · refine (routs_3 r gs gp gf q w h (hph.trans hp)).mono ?_
    rintro e w' ⟨ut, uo, rfl, oT, oM, f⟩
    refine ⟨ut, uo, none, 0, rfl, ?_, ?_, fun e => by omega, f⟩
    · unfold JS.zr; rw [if_neg (by omega), if_neg (by omega), if_pos hp, zrT_map _ 9]
      rw [ks_3 hr hp] at oT
      simpa using oT
    · unfold JS.zr; rw [if_neg (by omega), if_neg (by omega), if_pos hp, ← hr.r.tr, ← hr.r.id, zrM_map q _ 9]
      rw [ks_3 hr hp] at oM
      simpa using oM
  · refine (routs_4 r gs gp gf q w h (hph.trans hp)).mono ?_
    rintro e w' ⟨ut, uo, rfl, oT, oM, f⟩
    refine ⟨ut, uo, none, 0, rfl, ?_, ?_, fun e => by omega, f⟩
    · unfold JS.zr; rw [if_neg (by omega), if_neg (by omega), if_neg (by omega)]
      rw [ks_4 hr hp] at oT
      exact oT
    · unfold JS.zr; rw [if_neg (by omega), if_neg (by omega), if_neg (by omega)]
      rw [ks_4 hr hp] at oM
      exact oM
/-- what both say, one by one -/
theorem sameZ {w : World} {j : JS} {X : Nat → List Int} {pv : Value} {qa : Option Addr} {qc : Nat} (hi : j.inv) (hp : j.ph = 2 → RdPs w pv (j.psl X j.all)) (hq : j.ph = 2 → RdPs w (.slice qa j.all.length qc) (j.psl X j.all)) :
    ∀ i, i < (j.zg pv).length → ∃ x m M, (j.zg pv)[i]? = some (x, m) ∧ (j.zr qa qc)[i]? = some (x, M) ∧ SameAt w m (mrV M) := by
  have key : ∀ (L : List Int) (m : Value) (M : MR), SameAt w m (mrV M) → ∀ i, i < L.length → ∃ x m' M', (L.map fun x => (x, m))[i]? = some (x, m') ∧ (L.map fun x => (x, M))[i]? = some (x, M') ∧ SameAt w m' (mrV M') := fun L m M hs i hi =>
    ⟨L[i], m, M, by simp [hi], by simp [hi], hs⟩
  unfold JS.zg JS.zr
  rcases hi.1 with h | h | h | h
  · rw [if_pos h, if_pos h]
    intro i hi
    exact key _ _ _ (sameAt_pin w _ _) i (by simpa using hi)
  · rw [if_neg (by omega), if_pos h, if_neg (by omega), if_pos h]
    intro i hi
    match i with
    | 0 => exact ⟨_, _, _, rfl, rfl, sameAt_man w _ _ _ _ _ _ _ _ (by rw [psl_len]; rfl) (by rw [psl_len]; have := whichL_len (fun _ => true) j 4; unfold JS.all; omega) (hp h) (hq h)⟩
    | i + 1 =>
      obtain ⟨x, m, M, h1, h2, h3⟩ := key (whichL (fun _ => true) j 4) _ _ (sameAt_collect w j.tr j.id) i (by simpa using hi)
      exact ⟨x, m, M, by simpa using h1, by simpa using h2, h3⟩
  · rw [if_neg (by omega), if_neg (by omega), if_pos h, if_neg (by omega), if_neg (by omega), if_pos h]
    intro i hi
    exact key _ _ _ (sameAt_unpin w _ _) i (by simpa using hi)
  · rw [if_neg (by omega), if_neg (by omega), if_neg (by omega)]
    intro i hi
    simp at hi

/-! ### Manifest -/
end Go.Proofs.YtidcoddefebdpaaGreat
end

section
set_option linter.unusedVariables false
set_option linter.unusedSimpArgs false
set_option maxRecDepth 100000
set_option maxRecDepth 100000
namespace Go.Proofs.YtidcoddefebdpaaGreat
open Go.RowKit Go Go.Lib

theorem manifest_jg2 (p : Nat) (L : Nat → Prop) (j : JS) (X : Nat → List Int) (w : World) (h : JG w p L j X) (hph : 2 ≤ j.ph) (hall : noneL (fun v => !v.p) j = true) :
    Calls Tryz.prog 45 #[.pointer (some ⟨p, 0, none⟩)] w fun e w' => ∃ pa pc cs, e = .returned (.tuple #[.agg #[.int .i64 j.tr, .int .i64 j.id, .int .i64 j.cl, .slice pa (whichL (fun _ => true) j 4).length pc], .bool true]) ∧ w'.ownsRow w.heap.size 67 6 (.slice pa (whichL (fun _ => true) j 4).length pc) (whichL (fun _ => true) j 4).length cs ∧ PartsAt w' w.heap.size (Value.slice pa (whichL (fun _ => true) j 4).length pc).ownBlock j X (whichL (fun _ => true) j 4) (whichL (fun _ => true) j 4).length cs ∧ Fr noB w w' := by
  obtain ⟨j', hJ, rfl, hag, hT⟩ := h
  rw [none_nm _ (fun v => rfl)] at hall
  rw [which_nm (fun _ => true) (fun v => rfl) j']
  refine (manifest_full p j' X w hJ hph hall (fun a ha => ⟨(hT a ha).1, by have := (hT a ha).2.1; omega⟩)).mono ?_
  rintro e w' ⟨pa, pc, cs, rfl, o, hp, f⟩
  refine ⟨pa, pc, cs, rfl, o, fun i hi => ?_, f⟩
  obtain ⟨ta, tc, k1, k2, k3⟩ := hp i hi
  rw [at_nm]
  exact ⟨ta, tc, k1, k2, k3⟩
theorem rdi_old {w : World} {ua : Option Addr} {un uc : Nat} {xs : List Int} (h : RdI w (.slice ua un uc) xs) : xs ≠ [] → ∀ g o, ua = some ⟨g, o, none⟩ → g < w.heap.size := by
  intro hne g o e
  obtain ⟨a, c, e1, _, _, h3⟩ := h
  injection e1 with e1 _ _
  subst e1
  have hl : 0 < xs.length := List.length_pos_iff.2 hne
  obtain ⟨g', o', e2, hc⟩ := h3 0 hl
  rw [e] at e2
  injection e2 with e2
  injection e2 with e2 _ _
  subst e2
  exact lt_of_cell hc
theorem MsgV.frP {w w' : World} {m : OpJ} {v : Value} {p : Nat} {cs : List Value} (h : MsgV w m v) (hJ : Blk w p 108 cs) (f : Fr (onlyB p) w w') : MsgV w' m v := by
  cases h with
  | k1 h => exact .k1 h
  | k2 h => exact .k2 h
  | k3 h => exact .k3 h
  | k4 h => exact .k4 h
  | k5 h => exact .k5 h
  | k6 h => exact .k6 h
  | k7 g h hb =>
    refine .k7 g h (f.blk hb (fun e => ?_))
    unfold onlyB at e
    subst e
    unfold Blk at hb hJ
    rw [hJ] at hb
    simp only [Option.some.injEq, Obj.cells.injEq] at hb
    exact absurd hb.2.1 (by decide)
  | k8 h => exact .k8 h
  | k9 h => exact .k9 h
  | k10 h => exact .k10 h
  | k0 h => exact .k0 h
theorem mayNew_split {id ag a t c : Int} (h : mayNew id ag a t c = true) : bTrigger a t c = true ∧ 1 ≤ id ∧ id ≤ 1073741824 ∧ ∃ n q : Nat, ag = n ∧ a = q ∧ q < n ∧ n ≤ 4 := by
  unfold mayNew inB at h
  simp only [Bool.and_eq_true, decide_eq_true_eq] at h
  obtain ⟨hb, ⟨h1, h2⟩, ⟨h3, h4⟩, h5⟩ := h
  have ha : 0 ≤ a := by
    unfold bTrigger inB at hb
    simp only [Bool.and_eq_true, decide_eq_true_eq] at hb
    omega
  exact ⟨hb, h1, h2, ag.toNat, a.toNat, by omega, by omega, by omega, by omega⟩
theorem jrl_new (id t c : Int) (n a : Nat) (ha : a < n) (hn : n ≤ 4) : JRl (JS.new id t c n a) (RJ.new id t c n a) := by
  obtain ⟨u1, u2, u3, u4, u5, u6⟩ := upd_rest ({ id := id, tr := t, cl := c, ag := n, v0 := vis0, v1 := vis0, v2 := vis0, v3 := vis0, ph := 1, st := false } : JS) a (fun v => { v with v := true })
  have h0 : ∀ k, k < 4 → (JS.new id t c n a).at k = if k = a then { vis0 with v := true } else vis0 := fun k hk => by
    unfold JS.new
    rw [at_upd _ a k _ (by omega) hk]
    rcases (show k = 0 ∨ k = 1 ∨ k = 2 ∨ k = 3 by omega) with rfl | rfl | rfl | rfl <;> rfl
  have hv : ((JS.new id t c n a).at a).v = true := by rw [h0 a (by omega), if_pos rfl]
  have hp : ∀ k, k < 4 → ((JS.new id t c n a).at k).p = false := fun k hk => by rw [h0 k hk]; split <;> rfl
  have hno : noneL (fun v => !v.p) (JS.new id t c n a) = false := none_no (by omega) hv (by rw [hp a (by omega)]; rfl)
  have hph : (JS.new id t c n a).ph = 1 := u5
  refine ⟨⟨u1.symm, u2.symm, u3.symm, u5.symm, u6.symm, ?_, ?_, fun k hk => ?_, fun k hk => ?_, by rw [hph]; omega, fun k k1 k2 => ?_⟩, inv_new id t c n a, ?_, fun k hk e => ?_, fun _ => hno, ?_, ?_, fun k hk e => ?_⟩
  · show ((List.replicate n 0).set a 1).length = _
    rw [List.length_set, List.length_replicate]; exact u4.symm
  · show (List.replicate n false).length = _
    rw [List.length_replicate]; exact u4.symm
  · have hk' : k < n := by have : (JS.new id t c n a).ag = n := u4; omega
    rw [h0 k (by omega)]
    show ((List.replicate n 0).set a 1).getD k 0 = _
    by_cases hka : k = a
    · subst hka; rw [if_pos rfl]; simp [List.getD, hk', stN, vis0]
    · rw [if_neg hka]
      have h9 : ((List.replicate n (0 : Int)).set a 1)[k]? = some 0 := by rw [List.getElem?_set_ne (fun e => hka e.symm)]; simp [hk']
      rw [show ((List.replicate n (0 : Int)).set a 1).getD k 0 = 0 by unfold List.getD; rw [h9]; rfl]
      rfl
  · have hk' : k < n := by have : (JS.new id t c n a).ag = n := u4; omega
    rw [h0 k (by omega)]
    show (List.replicate n false).getD k false = _
    split <;> simp [List.getD, hk', vis0]
  · have : (JS.new id t c n a).ag = n := u4
    rw [h0 k k2, if_neg (by omega)]; rfl
  · have : (JS.new id t c n a).ag = n := u4
    omega
  · rw [hp k hk] at e; cases e
  · rw [hno, Bool.and_false]; rfl
  · show (List.replicate n pt0).length = _
    rw [List.length_replicate]; exact u4.symm
  · rw [hp k hk] at e; cases e
theorem rdx_new (w : World) (M0 : Nat) (id t c : Int) (n a : Nat) : RdX w M0 (RJ.new id t c n a) (fun _ => []) := fun k hk => by
  have : (RJ.new id t c n a).P.getD k pt0 = pt0 := by
    show (List.replicate n pt0).getD k pt0 = pt0
    by_cases h : k < n <;> simp [List.getD, h]
  rw [this]
  exact ⟨RdI.none _, fun h => absurd rfl h⟩
theorem zg_get {w : World} {B n : Nat} {gv : Value} {G : List (Int × Value)} (h : w.ownsRow B 76 2 gv n (zgC G)) {i : Nat} {x : Int} {m : Value} (hi : G[i]? = some (x, m)) : ∃ g, (∃ c, gv = .slice (some ⟨g, 0, none⟩) n c) ∧ w.cell? ⟨g, i * 2, none⟩ = some (.int .i64 x) ∧ w.cell? ⟨g, i * 2 + 1, none⟩ = some m := by
  have hil := (List.getElem?_eq_some_iff.1 hi).1
  have key : ∀ (G : List (Int × Value)) (i : Nat) x m, G[i]? = some (x, m) → (zgC G)[i * 2]? = some (.int .i64 x) ∧ (zgC G)[i * 2 + 1]? = some m := by
    intro G
    induction G with
    | nil => intro i x m h; simp at h
    | cons y r ih =>
      intro i x m h
      cases i with
      | zero => simp at h; subst h; exact ⟨rfl, rfl⟩
      | succ i =>
        obtain ⟨k1, k2⟩ := ih i x m (by simpa using h)
        have e : zgC (y :: r) = .int .i64 y.1 :: y.2 :: zgC r := rfl
        rw [e, show (i + 1) * 2 = i * 2 + 1 + 1 by omega]
        exact ⟨by simpa using k1, by simpa using k2⟩
  obtain ⟨k1, k2⟩ := key G i x m hi
  have hl : (zgC G).length = G.length * 2 := by
    clear key k1 k2 hi hil h
    induction G with
    | nil => rfl
    | cons y r ih => show (zgC r).length + 1 + 1 = _; rw [ih, List.length_cons]; omega
  have hnG : G.length = n := by have := h.1; omega
  obtain ⟨g, cap, rfl, _⟩ := ownsRow_some h (by omega)
  have c1 := h.cells (g := g) rfl _ _ k1
  have c2 := h.cells (g := g) rfl _ _ k2
  rw [add_none, Nat.zero_add] at c1 c2
  exact ⟨g, ⟨cap, rfl⟩, c1, c2⟩
theorem zt_get {w : World} {B n : Nat} {tv : Value} {Z : List (Int × MR)} (h : w.ownsRow B 3 1 tv n (zrT Z)) {i : Nat} {x : Int} {M : MR} (hi : Z[i]? = some (x, M)) : ∃ g, (∃ c, tv = .slice (some ⟨g, 0, none⟩) n c) ∧ w.cell? ⟨g, i, none⟩ = some (.int .i64 x) := by
  have hil := (List.getElem?_eq_some_iff.1 hi).1
  have k1 : (zrT Z)[i]? = some (.int .i64 x) := by unfold zrT; rw [List.getElem?_map, hi]; rfl
  have hnZ : Z.length = n := by have := h.1; unfold zrT at this; simp at this; omega
  obtain ⟨g, cap, rfl, _⟩ := ownsRow_some h (by omega)
  have c1 := h.cells (g := g) rfl _ _ k1
  rw [add_none, Nat.zero_add] at c1
  exact ⟨g, ⟨cap, rfl⟩, c1⟩
theorem zm_get {w : World} {B n : Nat} {rv : Value} {Z : List (Int × MR)} (h : w.ownsRow B 54 15 rv n (zrM Z)) {i : Nat} {x : Int} {M : MR} (hi : Z[i]? = some (x, M)) : ∃ g, (∃ c, rv = .slice (some ⟨g, 0, none⟩) n c) ∧ ∀ q v, (mrC M)[q]? = some v → w.cell? ⟨g, i * 15 + q, none⟩ = some v := by
  have hil := (List.getElem?_eq_some_iff.1 hi).1
  have key : ∀ (G : List (Int × MR)) (i : Nat) x M, G[i]? = some (x, M) → ∀ q v, (mrC M)[q]? = some v → (zrM G)[i * 15 + q]? = some v := by
    intro G
    induction G with
    | nil => intro i x m h; simp at h
    | cons y r ih =>
      intro i x m h q v hq
      have hq15 : q < 15 := (List.getElem?_eq_some_iff.1 hq).1
      have e : zrM (y :: r) = mrC y.2 ++ zrM r := rfl
      have hl : (mrC y.2).length = 15 := rfl
      cases i with
      | zero =>
        simp at h; subst h
        rw [e, List.getElem?_append_left (by rw [hl]; omega), Nat.zero_mul, Nat.zero_add]
        exact hq
      | succ i =>
        rw [e, List.getElem?_append_right (by rw [hl]; omega), hl, show (i + 1) * 15 + q - 15 = i * 15 + q by omega]
        exact ih i x m (by simpa using h) q v hq
  have hl : (zrM Z).length = Z.length * 15 := by
    clear key hi hil h
    induction Z with
    | nil => rfl
    | cons y r ih =>
      show (mrC y.2 ++ zrM r).length = _
      rw [List.length_append, ih, List.length_cons]
      show 15 + _ = _
      omega
  have hnZ : Z.length = n := by have := h.1; omega
  obtain ⟨g, cap, rfl, _⟩ := ownsRow_some h (by omega)
  refine ⟨g, ⟨cap, rfl⟩, fun q v hq => ?_⟩
  have c1 := h.cells (g := g) rfl _ _ (key Z i x M hi q v hq)
  rw [add_none, Nat.zero_add] at c1
  exact c1

end Go.Proofs.YtidcoddefebdpaaGreat
end

section
set_option linter.unusedVariables false
set_option linter.unusedSimpArgs false
set_option maxRecDepth 100000
set_option maxRecDepth 100000
namespace Go.Proofs.YtidcoddefebdpaaGreat
open Go.RowKit Go Go.Maps Go.Lib

/-- a job of the reference's coordinator: where it lies -/
structure QE where
  r : Nat
  gs : Nat
  gp : Nat
  gf : Nat
  q : RJ
def QE.B (x : QE) : Nat → Prop := rjB x.r x.gs x.gp x.gf
def QE.v (x : QE) : Value := .pointer (some ⟨x.r, 0, none⟩)
/-- it lies so, among the blocks of E -/
structure Rc (w : World) (z B : Nat) (E : Nat → Prop) (ja : Option Addr) (jc : Nat) (ag mo la rf : Int) (R : List QE) : Prop where
  blk : Blk w z 35 [.int .i64 ag, .int .i64 mo, .slice ja R.length jc, .int .i64 la, .int .i64 rf]
  own : w.ownsRow B 58 1 (.slice ja R.length jc) R.length (R.map QE.v)
  jobs : ∀ x ∈ R, Rj w x.r x.gs x.gp x.gf x.q
  ap : R.Pairwise (fun x y => ∀ g, x.B g → ¬ y.B g)
  az : ∀ x ∈ R, ∀ g, x.B g → g ≠ z ∧ (Value.slice ja R.length jc).ownBlock ≠ some g
  az2 : (Value.slice ja R.length jc).ownBlock ≠ some z
  ine : E z ∧ (∀ g, (Value.slice ja R.length jc).ownBlock = some g → E g) ∧ ∀ x ∈ R, ∀ g, x.B g → E g
  lo : ∀ g, E g → B ≤ g ∧ g < w.heap.size
theorem Rc.fr {w w' : World} {z B : Nat} {E S : Nat → Prop} {ja : Option Addr} {jc : Nat} {ag mo la rf : Int} {R : List QE} (h : Rc w z B E ja jc ag mo la rf R) (f : Fr S w w') (hS : ∀ g, E g → ¬ S g) : Rc w' z B E ja jc ag mo la rf R :=
  ⟨f.blk h.blk (hS _ h.ine.1), ownsRow_fr h.own f (fun g hg => hS g (h.ine.2.1 g hg)), fun x hx => (h.jobs x hx).fr f (fun g hg => hS g (h.ine.2.2 x hx g hg)), h.ap, h.az, h.az2, h.ine, fun g hg => ⟨(h.lo g hg).1, Nat.lt_of_lt_of_le (h.lo g hg).2 f.size⟩⟩
theorem Rc.frN {w w' : World} {z B : Nat} {E : Nat → Prop} {ja : Option Addr} {jc : Nat} {ag mo la rf : Int} {R : List QE} (h : Rc w z B E ja jc ag mo la rf R) (f : Fr noB w w') : Rc w' z B E ja jc ag mo la rf R := h.fr f (fun _ _ q => q)
/-- job by job as the coordinator's -/
structure Rl (w : World) (M0 : Nat) (C : CS) (R : List QE) : Prop where
  len : C.Q.length = R.length
  rel : ∀ (i : Nat) (e : JE) (x : QE), C.Q[i]? = some e → R[i]? = some x → JRl e.j x.q ∧ RdX w M0 x.q e.X
theorem Rl.fr {w w' : World} {M0 : Nat} {C : CS} {R : List QE} {S : Nat → Prop} (h : Rl w M0 C R) (f : Fr S w w') (hS : ∀ g, g < M0 → ¬ S g) : Rl w' M0 C R :=
  ⟨h.len, fun i e x h1 h2 => ⟨(h.rel i e x h1 h2).1, (h.rel i e x h1 h2).2.fr f hS⟩⟩
theorem Rc.job {w : World} {z B : Nat} {E : Nat → Prop} {ja : Option Addr} {jc : Nat} {ag mo la rf : Int} {R : List QE} (h : Rc w z B E ja jc ag mo la rf R) {k : Nat} (hk : k < R.length) : ∃ x g, R[k]? = some x ∧ ja = some ⟨g, 0, none⟩ ∧ w.cell? ⟨g, k, none⟩ = some (.pointer (some ⟨x.r, 0, none⟩)) ∧ w.cell? ⟨x.r, 1, none⟩ = some (.int .i64 x.q.tr) ∧ w.cell? ⟨x.r, 3, none⟩ = some (.int .i64 x.q.ph) ∧ Rj w x.r x.gs x.gp x.gf x.q := by
  have hx : R[k]? = some R[k] := List.getElem?_eq_getElem hk
  obtain ⟨g, cap, e1, _⟩ := ownsRow_some h.own (by omega)
  injection e1 with e1 e2 e3
  subst e1
  have hj := h.jobs R[k] (List.getElem_mem hk)
  refine ⟨R[k], g, hx, rfl, ?_, hj.blk.cell 1, hj.blk.cell 3, hj⟩
  have := h.own.cells (g := g) rfl k (R[k].v) (by rw [List.getElem?_map, hx]; rfl)
  rw [add_none, Nat.zero_add] at this
  exact this
set_option maxHeartbeats 2000000 in
theorem find_r {w : World} {z B : Nat} {E : Nat → Prop} {ja : Option Addr} {jc : Nat} {ag mo la rf : Int} {R : List QE} (h : Rc w z B E ja jc ag mo la rf R) (h8 : R.length ≤ 8) (t : Int) :
    Calls Tryz.prog 28 #[.pointer (some ⟨z, 0, none⟩), .int .i64 t] w fun e w' => Fr noB w w' ∧ ((∃ (k : Nat) (x : QE), e = .returned (.int .i64 k) ∧ R[k]? = some x ∧ x.q.tr = t) ∨ (e = .returned (.int .i64 (-1)) ∧ ∀ x ∈ R, x.q.tr ≠ t)) := by
  have c2 : w.cell? ⟨z, 2, none⟩ = some (.slice ja R.length jc) := h.blk.cell 2
  have hget := fun k hk => h.job (k := k) hk
  have hmem : ∀ x ∈ R, ∃ k : Nat, k < R.length ∧ R[k]? = some x := fun x hx => by
    obtain ⟨k, hk, e⟩ := List.getElem_of_mem hx
    exact ⟨k, hk, by rw [List.getElem?_eq_getElem hk, e]⟩
  obtain ⟨n, hn⟩ : ∃ n, R.length = n := ⟨_, rfl⟩
  rw [hn] at c2 h8
  simp only [hn] at hget hmem
  replace hget := Lib.hid hget
  replace hmem := Lib.hid hmem
  clear h hn
  go_enter Tryz.func28, Tryz.ntmps28
  go_wp2_with fail
  go_loopw [5] (fun i wr => ∃ k : Nat, k ≤ n ∧ i = .int .i64 k ∧ Hid (∀ (i : Nat) (x : QE), i < k → R[i]? = some x → x.q.tr ≠ t) ∧ Fr noB w wr) (fun i _ => n - (RowKit.intOf i).toNat)
  case atStart => exact ⟨0, by omega, rfl, Lib.hid (fun i _ hi _ => by omega), Fr.refl _ _⟩
  case round =>
    obtain ⟨k, hk, rfl, hok, fr⟩ := hrel
    have c2 := fr.cell c2 (fun q => q)
    by_cases hlt : k < n
    · obtain ⟨x, g, hx, rfl, c0, c1, _, _⟩ := hget.out k hlt
      have c0 := fr.cell c0 (fun q => q)
      have c1 := fr.cell c1 (fun q => q)
      have hb1 : (k : Int) < n := by omega
      by_cases ht : x.q.tr = t
      · subst ht
        replace hx := Lib.hid hx
        go_wp2_with fail
        go_ret
        exact ⟨fr, Or.inl ⟨k, x, rfl, hx.out, rfl⟩⟩
      · have hd : (x.q.tr == t) = false := by simp [ht]
        replace hx := Lib.hid hx
        replace ht := Lib.hid ht
        go_wp2_with fail
        go_roundw
        case rel => exact ⟨k + 1, by omega, by go_num, Lib.hid (fun i x' hi hx' => by
            rcases Nat.lt_or_ge i k with q | q
            · exact hok.out i x' q hx'
            · obtain rfl : i = k := by omega
              obtain rfl : x = x' := Option.some.inj (hx.out.symm.trans hx')
              exact ht.out), fr⟩
        case measure => simp [RowKit.intOf]; omega
    · obtain rfl : k = n := by omega
      go_wp2_with fail
      go_ret
      exact ⟨fr, Or.inr ⟨rfl, fun x hx => by
        obtain ⟨i, hi, e⟩ := hmem.out x hx
        exact hok.out i x hi e⟩⟩
end Go.Proofs.YtidcoddefebdpaaGreat
end

section
set_option linter.unusedVariables false
set_option linter.unusedSimpArgs false
set_option maxRecDepth 100000
set_option maxRecDepth 100000
namespace Go.Proofs.YtidcoddefebdpaaGreat
open Go.RowKit Go Go.Maps Go.Lib

/-- blocks of the inputs, and those that are new since B -/
def nearB (M0 B : Nat) : Nat → Prop := fun g => g < M0 ∨ B ≤ g
theorem parts_rdD {w : World} {B M0 : Nat} {j : JS} {q : RJ} {X : Nat → List Int} {L : List Int} {qa : Option Addr} {qc : Nat} (hr : JRl j q) (hX : RdX w M0 q X) (hL : ∀ x ∈ L, ∃ i : Nat, i < 4 ∧ x = (i : Int) ∧ (j.at i).p = true)
    (ho : w.ownsRow B 50 6 (.slice qa L.length qc) L.length ((L.map fun x => q.P.getD x.toNat pt0).flatMap RPt.cs)) (hl : L.length ≤ 1000000) : RdPsD w (nearB M0 B) (.slice qa L.length qc) (j.psl X L) := by
  refine ⟨qa, qc, by rw [psl_len], ?_, by rw [psl_len]; omega, fun i p hp => ?_⟩
  · rw [psl_len]
    rcases ho.2 with ⟨h1, h2⟩ | ⟨g, cap, cur, h1, _, _, h3, _⟩
    · omega
    · injection h1 with _ _ h4; omega
  · obtain ⟨hi, rfl⟩ := psl_get hp
    obtain ⟨n, hn, hx, hpn⟩ := hL (L.getD i 0) (by simp [List.getD, hi])
    have hx2 : (L.getD i 0).toNat = n := by omega
    rw [hx2]
    obtain ⟨hrd, hlt⟩ := hX n hn
    have ht := hr.pt n hn hpn
    have hlen := hrd.len
    obtain ⟨g, cap, hg, hbg⟩ := ownsRow_some ho (by omega)
    injection hg with hg1 _ _
    subst hg1
    rw [hlen] at hrd
    refine ⟨g, (q.P.getD n pt0).ua, (q.P.getD n pt0).uc, rfl, Or.inr hbg, fun k x hk => ?_, hrd, fun hne g' o' e => Or.inl (hlt hne g' o' e)⟩
    have hk6 : k < 6 := (List.getElem?_eq_some_iff.1 hk).1
    have hget : ((L.map fun x => q.P.getD x.toNat pt0).flatMap RPt.cs)[i * 6 + k]? = (q.P.getD n pt0).cs[k]? := by
      rw [flat6_get _ i k (by simpa using hi) hk6]
      congr 1
      rw [show (L.map fun x => q.P.getD x.toNat pt0).getD i pt0 = q.P.getD (L.getD i 0).toNat pt0 by simp [List.getD, hi], hx2]
    have hcs : (q.P.getD n pt0).cs = pnC ⟨(j.at n).t.ag, (j.at n).t.tr, (j.at n).t.jb, (j.at n).t.ct, X n, (j.at n).t.lo⟩ (.slice (q.P.getD n pt0).ua (X n).length (q.P.getD n pt0).uc) := by
      unfold RPt.cs pnC
      rw [ht.a, ht.t, ht.j, ht.c, ht.lo, hlen]
    have := ho.cells (g := g) rfl (i * 6 + k) x (by rw [hget, hcs]; exact hk)
    rw [add_none, Nat.zero_add] at this
    exact this
def RoutP (w w' : World) (M0 : Nat) (j : JS) (X : Nat → List Int) (ut uo : Value) (qa : Option Addr) (qc : Nat) : Prop := w'.ownsRow w.heap.size 3 1 ut (j.zr qa qc).length (zrT (j.zr qa qc)) ∧ w'.ownsRow w.heap.size 54 15 uo (j.zr qa qc).length (zrM (j.zr qa qc)) ∧ (j.ph = 2 → RdPsD w' (nearB M0 w.heap.size) (.slice qa j.all.length qc) (j.psl X j.all)) ∧ Fr noB w w'
/-- the reference's Outs -/
theorem routs_D (r gs gp gf M0 : Nat) (j : JS) (q : RJ) (X : Nat → List Int) (w : World) (h : Rj w r gs gp gf q) (hr : JRl j q) (hX : RdX w M0 q X) :
    Calls Tryz.prog 19 #[.pointer (some ⟨r, 0, none⟩)] w fun e w' => ∃ ut uo qa qc, e = .returned (.tuple #[ut, uo]) ∧ RoutP w w' M0 j X ut uo qa qc := by
  have hph := hr.r.ph
  rcases hr.inv.1 with hp | hp | hp | hp
  · refine (routs_1 r gs gp gf q w h (hph.trans hp)).mono ?_
    rintro e w' ⟨ut, uo, rfl, oT, oM, f⟩
    refine ⟨ut, uo, none, 0, rfl, ?_, ?_, fun e => by omega, f⟩
    · unfold JS.zr; rw [if_pos hp, zrT_map _ 2]
      rw [ks_1 hr hp] at oT
      simpa using oT
    · unfold JS.zr; rw [if_pos hp, ← hr.r.tr, ← hr.r.id, zrM_map q _ 2]
      rw [ks_1 hr hp] at oM
      simpa using oM
  · refine (routs_2 r gs gp gf q w h (hph.trans hp)).mono ?_
    rintro e w' ⟨ut, uo, qa, qc, rfl, oT, oM, oP, f⟩
    rw [ks_2 hr hp] at oT oM
    rw [parts_which hr] at oP oM
    have hlen : (j.all.map fun x => q.P.getD x.toNat pt0).length = j.all.length := by simp
    have hl4 : j.all.length ≤ 4 := whichL_len (fun _ => true) j 4
    refine ⟨ut, uo, qa, qc, rfl, ?_, ?_, fun _ => ?_, f⟩
    · unfold JS.zr; rw [if_neg (by omega), if_pos hp]
      show w'.ownsRow _ _ _ _ _ (.int .i64 (-1) :: zrT (List.map _ _))
      rw [zrT_map _ 5]
      simpa using oT
    · unfold JS.zr; rw [if_neg (by omega), if_pos hp, ← hr.r.tr, ← hr.r.id, ← hr.r.cl]
      show w'.ownsRow _ _ _ _ _ (mrC _ ++ zrM (List.map _ _))
      rw [zrM_map q _ 5]
      simpa using oM
    · refine parts_rdD (B := w.heap.size) hr (hX.fr f (fun _ _ q => q)) (all_pinned hr (hr.inv.2 hp)) ?_ (by omega)
      have := oP
      rw [show (List.map (fun x => q.P.getD x.toNat pt0) (whichL (fun x => true) j 4)).length = j.all.length by simp [JS.all]] at this
      exact this
  · refine (routs_3 r gs gp gf q w h (hph.trans hp)).mono ?_
    rintro e w' ⟨ut, uo, rfl, oT, oM, f⟩
    refine ⟨ut, uo, none, 0, rfl, ?_, ?_, fun e => by omega, f⟩
    · unfold JS.zr; rw [if_neg (by omega), if_neg (by omega), if_pos hp, zrT_map _ 9]
      rw [ks_3 hr hp] at oT
      simpa using oT
    · unfold JS.zr; rw [if_neg (by omega), if_neg (by omega), if_pos hp, ← hr.r.tr, ← hr.r.id, zrM_map q _ 9]
      rw [ks_3 hr hp] at oM
      simpa using oM
  · refine (routs_4 r gs gp gf q w h (hph.trans hp)).mono ?_
    rintro e w' ⟨ut, uo, rfl, oT, oM, f⟩
    refine ⟨ut, uo, none, 0, rfl, ?_, ?_, fun e => by omega, f⟩
    · unfold JS.zr; rw [if_neg (by omega), if_neg (by omega), if_neg (by omega)]
      rw [ks_4 hr hp] at oT
      exact oT
    · unfold JS.zr; rw [if_neg (by omega), if_neg (by omega), if_neg (by omega)]
      rw [ks_4 hr hp] at oM
      exact oM
/-! ### lists of what is said -/
abbrev QP := Option Addr × Nat
def tickZ : List JE → List QP → List (Int × MR)
  | e :: r, p :: ps => e.j.zr p.1 p.2 ++ tickZ r ps
  | _, _ => []
theorem tickZ_snoc (Q : List JE) (P : List QP) (e : JE) (p : QP) (h : Q.length = P.length) : tickZ (Q ++ [e]) (P ++ [p]) = tickZ Q P ++ e.j.zr p.1 p.2 := by
  induction Q generalizing P with
  | nil =>
    cases P with
    | nil => simp [tickZ]
    | cons y r => simp at h
  | cons x r ih =>
    cases P with
    | nil => simp at h
    | cons y s =>
      simp only [List.length_cons] at h
      show x.j.zr y.1 y.2 ++ tickZ (r ++ [e]) (s ++ [p]) = _
      rw [ih s (by omega)]
      show _ = x.j.zr y.1 y.2 ++ tickZ r s ++ _
      rw [List.append_assoc]
theorem tickG_one (e : JE) (pv : Value) : tickG [e] [pv] = e.j.zg pv := List.append_nil _
theorem tickZ_one (e : JE) (p : QP) : tickZ [e] [p] = e.j.zr p.1 p.2 := List.append_nil _
theorem one_get {α : Type} {x y : α} {i : Nat} (h : [x][i]? = some y) : y = x := by
  cases i with
  | zero => simpa using h.symm
  | succ i => simp at h
/-- what the program said -/
def SaidP (B : Nat) (w : World) (u : Value) (Q : List JE) : Prop := ∃ P, Q.length = P.length ∧ w.ownsRow B 76 2 u (tickG Q P).length (zgC (tickG Q P)) ∧ (∀ (i : Nat) (e : JE) (pv : Value), Q[i]? = some e → P[i]? = some pv → e.j.ph = 2 → RdPs w pv (e.j.psl e.X e.j.all))
/-- what the reference said -/
def SaidR (B M0 : Nat) (w : World) (ut uo : Value) (Q : List JE) : Prop := ∃ P : List QP, Q.length = P.length ∧ w.ownsRow B 3 1 ut (tickZ Q P).length (zrT (tickZ Q P)) ∧ w.ownsRow B 54 15 uo (tickZ Q P).length (zrM (tickZ Q P)) ∧ (∀ (i : Nat) (e : JE) (p : QP), Q[i]? = some e → P[i]? = some p → e.j.ph = 2 → RdPsD w (nearB M0 B) (.slice p.1 e.j.all.length p.2) (e.j.psl e.X e.j.all))
theorem SaidR.fr {B M0 : Nat} {w w' : World} {ut uo : Value} {Q : List JE} {S : Nat → Prop} (h : SaidR B M0 w ut uo Q) (f : Fr S w w') (hS : ∀ g, S g → M0 ≤ g ∧ g < B) : SaidR B M0 w' ut uo Q := by
  obtain ⟨P, h1, h2, h3, h4⟩ := h
  refine ⟨P, h1, ownsRow_fr h2 f (fun g hg q => by have := (h2.lt g hg).1; have := hS g q; omega), ownsRow_fr h3 f (fun g hg q => by have := (h3.lt g hg).1; have := hS g q; omega), fun i e p k1 k2 k3 => (h4 i e p k1 k2 k3).fr f (fun g hg q => ?_)⟩
  have := hS g q
  rcases hg with hg | hg <;> omega
theorem SaidR.mono {B B' M0 : Nat} {w : World} {ut uo : Value} {Q : List JE} (h : SaidR B M0 w ut uo Q) (hB : B' ≤ B) : SaidR B' M0 w ut uo Q := by
  obtain ⟨P, h1, h2, h3, h4⟩ := h
  exact ⟨P, h1, ownsRow_mono h2 hB, ownsRow_mono h3 hB, fun i e p k1 k2 k3 => (h4 i e p k1 k2 k3).mono (fun g hg => by rcases hg with q | q; exact Or.inl q; exact Or.inr (by omega))⟩
theorem SaidP.out {B : Nat} {w : World} {u : Value} {o : Option JE} (h : OutP B w u o) : SaidP B w u o.toList := by
  cases o with
  | none =>
    obtain rfl := h
    exact ⟨[], rfl, World.ownsRow_nil _ _ _ _, fun i e pv h1 => by cases h1⟩
  | some e =>
    obtain ⟨pv, h1, h2⟩ := h
    show SaidP B w u [e]
    refine ⟨[pv], rfl, by rw [tickG_one]; exact h1, fun i e' pv' k1 k2 k3 => ?_⟩
    obtain rfl := one_get k1
    obtain rfl := one_get k2
    exact h2 k3
theorem SaidP.tick {e : Ending} {w w' : World} {Q : List JE} (h : TickPost e w w' Q) : ∃ u, e = .returned u ∧ SaidP w.heap.size w' u Q ∧ Fr noB w w' := by
  obtain ⟨u, P, h1, h2, h3, h4, h5⟩ := h
  exact ⟨u, h1, ⟨P, h2, h3, h4⟩, h5⟩
theorem SaidR.no (B M0 : Nat) (w : World) : SaidR B M0 w (.slice none 0 0) (.slice none 0 0) [] := ⟨[], rfl, World.ownsRow_nil _ _ _ _, World.ownsRow_nil _ _ _ _, fun i e pv h1 => by cases h1⟩
theorem SaidR.one {w w' : World} {M0 : Nat} {e : JE} {ut uo : Value} {qa : Option Addr} {qc : Nat} (h : RoutP w w' M0 e.j e.X ut uo qa qc) : SaidR w.heap.size M0 w' ut uo [e] := by
  obtain ⟨h1, h2, h3, _⟩ := h
  refine ⟨[(qa, qc)], rfl, by rw [tickZ_one]; exact h1, by rw [tickZ_one]; exact h2, fun i e' p' k1 k2 k3 => ?_⟩
  obtain rfl := one_get k1
  obtain rfl := one_get k2
  exact h3 k3
/-- one by one, what both say is the same -/
theorem sameQ {w : World} : ∀ (Q : List JE) (P : List Value) (R : List QP), Q.length = P.length → Q.length = R.length → (∀ e ∈ Q, e.j.inv) → (∀ (i : Nat) (e : JE) (pv : Value), Q[i]? = some e → P[i]? = some pv → e.j.ph = 2 → RdPs w pv (e.j.psl e.X e.j.all)) → (∀ (i : Nat) (e : JE) (p : QP), Q[i]? = some e → R[i]? = some p → e.j.ph = 2 → RdPs w (.slice p.1 e.j.all.length p.2) (e.j.psl e.X e.j.all)) →
    (tickG Q P).length = (tickZ Q R).length ∧ ∀ i, i < (tickG Q P).length → ∃ x m M, (tickG Q P)[i]? = some (x, m) ∧ (tickZ Q R)[i]? = some (x, M) ∧ SameAt w m (mrV M)
  | [], _, _, _, _, _, _, _ => ⟨by simp [tickG, tickZ], fun i hi => by simp [tickG] at hi⟩
  | e :: Q, pv :: P, p :: R, h1, h2, h3, h4, h5 => by
    simp only [List.length_cons] at h1 h2
    obtain ⟨g1, g2⟩ := sameQ Q P R (by omega) (by omega) (fun x hx => h3 x (List.mem_cons_of_mem _ hx)) (fun i e' pv' k1 k2 => h4 (i + 1) e' pv' (by simpa using k1) (by simpa using k2)) (fun i e' pv' k1 k2 => h5 (i + 1) e' pv' (by simpa using k1) (by simpa using k2))
    have s := sameZ (w := w) (j := e.j) (X := e.X) (pv := pv) (qa := p.1) (qc := p.2) (h3 e (List.mem_cons_self ..)) (h4 0 e pv rfl rfl) (h5 0 e p rfl rfl)
    have hl := (zlen e.j p.1 p.2 pv).1
    have eG : tickG (e :: Q) (pv :: P) = e.j.zg pv ++ tickG Q P := rfl
    have eZ : tickZ (e :: Q) (p :: R) = e.j.zr p.1 p.2 ++ tickZ Q R := rfl
    rw [eG, eZ]
    refine ⟨by rw [List.length_append, List.length_append]; omega, fun i hi => ?_⟩
    rw [List.length_append] at hi
    rcases Nat.lt_or_ge i (e.j.zg pv).length with q | q
    · obtain ⟨x, m, M, k1, k2, k3⟩ := s i q
      exact ⟨x, m, M, by rw [List.getElem?_append_left q]; exact k1, by rw [List.getElem?_append_left (by omega)]; exact k2, k3⟩
    · obtain ⟨x, m, M, k1, k2, k3⟩ := g2 (i - (e.j.zg pv).length) (by omega)
      exact ⟨x, m, M, by rw [List.getElem?_append_right q]; exact k1, by rw [List.getElem?_append_right (by omega), hl]; exact k2, k3⟩
end Go.Proofs.YtidcoddefebdpaaGreat
end

section
set_option linter.unusedVariables false
set_option linter.unusedSimpArgs false
set_option maxRecDepth 100000
set_option maxRecDepth 100000
namespace Go.Proofs.YtidcoddefebdpaaGreat
open Go.RowKit Go Go.Maps Go.Lib

theorem ms_tab {m : OpJ} {x : Ms} (h : m.ms = some x) : (m.k = 1 ∧ x = .trigger m.a m.t 0) ∨ (m.k = 2 ∧ x = .pin m.t m.j) ∨ (m.k = 3 ∧ x = .pinned (m.pn m.a)) ∨ (m.k = 4 ∧ x = .gone m.a m.t m.j) ∨ (m.k = 5 ∧ x = .collect m.t m.j) ∨ (m.k = 6 ∧ x = .chunk m.a m.t m.j 0 1 []) ∨ (m.k = 7 ∧ x = .manifest m.t m.j 0 [m.pn m.a, m.pn (wrap64 (m.a + 1))]) ∨ (m.k = 8 ∧ x = .stored m.t m.j) ∨ (m.k = 9 ∧ x = .unpin m.t m.j) ∨ (m.k = 10 ∧ x = .unpinned m.a m.t m.j) := by
  unfold OpJ.ms at h
  by_cases h1 : m.k = 1
  · rw [if_pos h1] at h; injection h with h; exact Or.inl ⟨h1, h.symm⟩
  rw [if_neg h1] at h
  by_cases h2 : m.k = 2
  · rw [if_pos h2] at h; injection h with h; exact Or.inr (Or.inl ⟨h2, h.symm⟩)
  rw [if_neg h2] at h
  by_cases h3 : m.k = 3
  · rw [if_pos h3] at h; injection h with h; exact Or.inr (Or.inr (Or.inl ⟨h3, h.symm⟩))
  rw [if_neg h3] at h
  by_cases h4 : m.k = 4
  · rw [if_pos h4] at h; injection h with h; exact Or.inr (Or.inr (Or.inr (Or.inl ⟨h4, h.symm⟩)))
  rw [if_neg h4] at h
  by_cases h5 : m.k = 5
  · rw [if_pos h5] at h; injection h with h; exact Or.inr (Or.inr (Or.inr (Or.inr (Or.inl ⟨h5, h.symm⟩))))
  rw [if_neg h5] at h
  by_cases h6 : m.k = 6
  · rw [if_pos h6] at h; injection h with h; exact Or.inr (Or.inr (Or.inr (Or.inr (Or.inr (Or.inl ⟨h6, h.symm⟩)))))
  rw [if_neg h6] at h
  by_cases h7 : m.k = 7
  · rw [if_pos h7] at h; injection h with h; exact Or.inr (Or.inr (Or.inr (Or.inr (Or.inr (Or.inr (Or.inl ⟨h7, h.symm⟩))))))
  rw [if_neg h7] at h
  by_cases h8 : m.k = 8
  · rw [if_pos h8] at h; injection h with h; exact Or.inr (Or.inr (Or.inr (Or.inr (Or.inr (Or.inr (Or.inr (Or.inl ⟨h8, h.symm⟩)))))))
  rw [if_neg h8] at h
  by_cases h9 : m.k = 9
  · rw [if_pos h9] at h; injection h with h; exact Or.inr (Or.inr (Or.inr (Or.inr (Or.inr (Or.inr (Or.inr (Or.inr (Or.inl ⟨h9, h.symm⟩))))))))
  rw [if_neg h9] at h
  by_cases h10 : m.k = 10
  · rw [if_pos h10] at h; injection h with h; exact Or.inr (Or.inr (Or.inr (Or.inr (Or.inr (Or.inr (Or.inr (Or.inr (Or.inr ⟨h10, h.symm⟩))))))))
  rw [if_neg h10] at h
  cases h
theorem ms_tj {m : OpJ} {x : Ms} (h : m.ms = some x) : m.k = x.k ∧ x.tj.1 = m.t := by
  rcases ms_tab h with ⟨hk, rfl⟩ | ⟨hk, rfl⟩ | ⟨hk, rfl⟩ | ⟨hk, rfl⟩ | ⟨hk, rfl⟩ | ⟨hk, rfl⟩ | ⟨hk, rfl⟩ | ⟨hk, rfl⟩ | ⟨hk, rfl⟩ | ⟨hk, rfl⟩ <;> exact ⟨hk, rfl⟩
theorem pins_pinsM {j : JS} {m : OpJ} (h : m.k = 3) : j.pinsM (m.pn m.a) = j.pins m := by
  unfold JS.pins JS.pinsM
  rw [decide_eq_true h, Bool.true_and]
  rfl
theorem hear_hearM {m : OpJ} {x : Ms} (h : m.ms = some x) (j : JS) : j.hearM x = j.hear m ∧ ∀ X, j.hearXM x X = j.hearX m X := by
  have oth : m.k ≠ 3 → m.k ≠ 4 → m.k ≠ 8 → m.k ≠ 10 → (j.hearM x = j ∧ ∀ X, j.hearXM x X = X) → j.hearM x = j.hear m ∧ ∀ X, j.hearXM x X = j.hearX m X := fun h3 h4 h8 h10 hq => ⟨by rw [hq.1, hear_other h3 h4 h8 h10], fun X => by rw [hq.2, hearX_no (pins_k h3)]⟩
  rcases ms_tab h with ⟨hk, rfl⟩ | ⟨hk, rfl⟩ | ⟨hk, rfl⟩ | ⟨hk, rfl⟩ | ⟨hk, rfl⟩ | ⟨hk, rfl⟩ | ⟨hk, rfl⟩ | ⟨hk, rfl⟩ | ⟨hk, rfl⟩ | ⟨hk, rfl⟩
  · exact oth (by omega) (by omega) (by omega) (by omega) ⟨rfl, fun X => rfl⟩
  · exact oth (by omega) (by omega) (by omega) (by omega) ⟨rfl, fun X => rfl⟩
  · refine ⟨?_, fun X => ?_⟩
    · show (if j.pinsM (m.pn m.a) = true then j.pin m.a.toNat (m.pn m.a).told m.xs else j) = _
      rw [pins_pinsM hk]
      by_cases hp : j.pins m = true
      · have ha := pins_a hp
        rw [if_pos hp, hear_3yes hk hp ha.2.1 ha.2.2.1]
        rfl
      · rw [if_neg hp, hear_3no hk (by simpa using hp)]
    · show (if j.pinsM (m.pn m.a) = true then (fun b => if b = m.a.toNat then m.xs else X b) else X) = _
      rw [pins_pinsM hk]
      rfl
  · refine ⟨?_, fun X => (hearX_no (pins_k (by omega))).symm⟩
    show (if (m.t = j.tr ∧ m.j = j.id) ∧ bGone m.a m.t m.j = true then j.gon m.a.toNat else j) = _
    by_cases hc : m.t = j.tr ∧ m.j = j.id
    · rw [hear_4 hk hc.1 hc.2]
      by_cases hb : bGone m.a m.t m.j = true
      · rw [if_pos ⟨hc, hb⟩, if_pos hb]
      · rw [if_neg (fun q => hb q.2), if_neg hb]
    · rw [if_neg (fun q => hc q.1), hear_mis hc]
  · exact oth (by omega) (by omega) (by omega) (by omega) ⟨rfl, fun X => rfl⟩
  · exact oth (by omega) (by omega) (by omega) (by omega) ⟨rfl, fun X => rfl⟩
  · exact oth (by omega) (by omega) (by omega) (by omega) ⟨rfl, fun X => rfl⟩
  · refine ⟨?_, fun X => (hearX_no (pins_k (by omega))).symm⟩
    show (if (m.t = j.tr ∧ m.j = j.id) ∧ bStored m.t m.j = true then j.sto else j) = _
    by_cases hc : m.t = j.tr ∧ m.j = j.id
    · rw [hear_8 hk hc.1 hc.2]
      by_cases hb : bStored m.t m.j = true
      · rw [if_pos ⟨hc, hb⟩, if_pos hb]
      · rw [if_neg (fun q => hb q.2), if_neg hb]
    · rw [if_neg (fun q => hc q.1), hear_mis hc]
  · exact oth (by omega) (by omega) (by omega) (by omega) ⟨rfl, fun X => rfl⟩
  · refine ⟨?_, fun X => (hearX_no (pins_k (by omega))).symm⟩
    show (if (m.t = j.tr ∧ m.j = j.id) ∧ bUnpinned m.a m.t m.j = true then j.unp m.a.toNat else j) = _
    by_cases hc : m.t = j.tr ∧ m.j = j.id
    · rw [hear_10 hk hc.1 hc.2]
      by_cases hb : bUnpinned m.a m.t m.j = true
      · rw [if_pos ⟨hc, hb⟩, if_pos hb]
      · rw [if_neg (fun q => hb q.2), if_neg hb]
    · rw [if_neg (fun q => hc q.1), hear_mis hc]
/-- may the message be? -/
def OpJ.okm (m : OpJ) : Bool := match m.ms with
  | none => false
  | some x => x.ok
/-- the fields of what Like makes of it -/
structure LkM (m : OpJ) (M : MR) : Prop where
  k : ∀ x, m.ms = some x → M.k = m.k
  t : ∀ x, m.ms = some x → (if M.k = 3 then M.pt else M.t) = m.t
  g : ∀ x, m.ms = some x → m.k = 1 → M = { k := 1, a := m.a, t := m.t, c := 0 }
theorem lkv_mr {w : World} {m : OpJ} {u : Value} (h : LkV w m u) : ∃ M, u = mrV M ∧ LkM m M := by
  rcases h with ⟨hk, rfl⟩ | ⟨h3, ⟨hm, rfl⟩ | ⟨x, hm, hw⟩⟩
  · exact ⟨_, rfl, ⟨fun _ _ => hk.symm, fun _ _ => rfl, fun _ _ h1 => by omega⟩⟩
  · exact ⟨{}, rfl, ⟨fun x e => (by rw [hm] at e; cases e), fun x e => (by rw [hm] at e; cases e), fun x e => (by rw [hm] at e; cases e)⟩⟩
  · have key : ∀ M : MR, u = mrV M → M.k = m.k → M.t = m.t → (m.k = 1 → M = { k := 1, a := m.a, t := m.t, c := 0 }) → ∃ M, u = mrV M ∧ LkM m M := fun M h1 h2 h4 h5 => ⟨M, h1, ⟨fun _ _ => h2, fun _ _ => by rw [if_neg (by rw [h2]; exact h3)]; exact h4, fun _ _ => h5⟩⟩
    rcases ms_tab hm with ⟨hk, rfl⟩ | ⟨hk, rfl⟩ | ⟨hk, rfl⟩ | ⟨hk, rfl⟩ | ⟨hk, rfl⟩ | ⟨hk, rfl⟩ | ⟨hk, rfl⟩ | ⟨hk, rfl⟩ | ⟨hk, rfl⟩ | ⟨hk, rfl⟩
    · exact key _ hw hk.symm rfl (fun _ => rfl)
    · exact key _ hw hk.symm rfl (fun q => by omega)
    · exact absurd hk h3
    · exact key _ hw hk.symm rfl (fun q => by omega)
    · exact key _ hw hk.symm rfl (fun q => by omega)
    · obtain ⟨sa, sc, e, _⟩ := hw
      exact key _ e hk.symm rfl (fun q => by omega)
    · obtain ⟨sa, sc, e, _⟩ := hw
      exact key _ e hk.symm rfl (fun q => by omega)
    · exact key _ hw hk.symm rfl (fun q => by omega)
    · exact key _ hw hk.symm rfl (fun q => by omega)
    · exact key _ hw hk.symm rfl (fun q => by omega)
theorem rright_lk {m : OpJ} {u : Value} (w : World) (h : LkV w m u) (hx : RdI w (.slice m.ua m.un m.uc) m.xs) : Calls Tryz.prog 27 #[u] w fun e w' => e = .returned (.bool m.okm) ∧ Fr noB w w' := by
  rcases h with ⟨hk, rfl⟩ | ⟨h3, ⟨hm, rfl⟩ | ⟨x, hm, hw⟩⟩
  · have e : m.okm = pinB m.a m.t m.j 1 m.xs := by
      unfold OpJ.okm OpJ.ms
      rw [if_neg (by omega), if_neg (by omega), if_pos hk]
      rfl
    rw [e]
    exact rr_3 m.a m.t m.j 1 m.ua m.un m.uc m.lo m.xs w hx
  · have e : m.okm = false := by unfold OpJ.okm; rw [hm]
    rw [e]
    exact rr_nil w
  · have e : m.okm = x.ok := by unfold OpJ.okm; rw [hm]
    rw [e]
    exact rr_ms u x w hw
/-- what the coordinator makes of a call's message -/
def CS.hearO (C : CS) (o : Option Ms) (pn : Nat) : CS × Option JE := match o with
  | none => (C, none)
  | some x => C.hear x pn
theorem hearO_bad {C : CS} {m : OpJ} (h : m.okm = false) (pn : Nat) : C.hearO m.ms pn = (C, none) := by
  unfold OpJ.okm at h
  cases hm : m.ms with
  | none => rfl
  | some x =>
    rw [hm] at h
    show C.hear x pn = _
    unfold CS.hear
    exact if_pos h
/-- as many are visited as before: the same are -/
theorem all_ag {j : JS} {q : RJ} (h : JRl j q) : j.all = visL q.S q.S.length := (visL_which h).symm
end Go.Proofs.YtidcoddefebdpaaGreat
end

section
set_option linter.unusedVariables false
set_option linter.unusedSimpArgs false
set_option maxRecDepth 100000
set_option maxRecDepth 100000
namespace Go.Proofs.YtidcoddefebdpaaGreat
open Go.RowKit Go Go.Maps Go.Lib

/-- the message's value by the plain type -/
theorem msgv_ms {w : World} {m : OpJ} {v : Value} (hv : MsgV w m v) (hx : RdI w (.slice m.ua m.un m.uc) m.xs) : (m.ms = none ∧ v = .nilIface) ∨ ∃ x, m.ms = some x ∧ MsW w v x := by
  cases hv with
  | k1 hk => exact Or.inr ⟨.trigger m.a m.t 0, by unfold OpJ.ms; rw [if_pos hk], rfl⟩
  | k2 hk => exact Or.inr ⟨.pin m.t m.j, by unfold OpJ.ms; rw [if_neg (by omega), if_pos hk], rfl⟩
  | k3 hk => exact Or.inr ⟨.pinned (m.pn m.a), by unfold OpJ.ms; rw [if_neg (by omega), if_neg (by omega), if_pos hk], _, rfl, hx⟩
  | k4 hk => exact Or.inr ⟨.gone m.a m.t m.j, by unfold OpJ.ms; rw [if_neg (by omega), if_neg (by omega), if_neg (by omega), if_pos hk], rfl⟩
  | k5 hk => exact Or.inr ⟨.collect m.t m.j, by unfold OpJ.ms; rw [if_neg (by omega), if_neg (by omega), if_neg (by omega), if_neg (by omega), if_pos hk], rfl⟩
  | k6 hk => exact Or.inr ⟨.chunk m.a m.t m.j 0 1 [], by unfold OpJ.ms; rw [if_neg (by omega), if_neg (by omega), if_neg (by omega), if_neg (by omega), if_neg (by omega), if_pos hk], _, rfl, rdSp_nil w⟩
  | k7 g hk hb => exact Or.inr ⟨.manifest m.t m.j 0 [m.pn m.a, m.pn (wrap64 (m.a + 1))], by unfold OpJ.ms; rw [if_neg (by omega), if_neg (by omega), if_neg (by omega), if_neg (by omega), if_neg (by omega), if_neg (by omega), if_pos hk], _, rfl, man2_rd hb hx⟩
  | k8 hk => exact Or.inr ⟨.stored m.t m.j, by unfold OpJ.ms; rw [if_neg (by omega), if_neg (by omega), if_neg (by omega), if_neg (by omega), if_neg (by omega), if_neg (by omega), if_neg (by omega), if_pos hk], rfl⟩
  | k9 hk => exact Or.inr ⟨.unpin m.t m.j, by unfold OpJ.ms; rw [if_neg (by omega), if_neg (by omega), if_neg (by omega), if_neg (by omega), if_neg (by omega), if_neg (by omega), if_neg (by omega), if_neg (by omega), if_pos hk], rfl⟩
  | k10 hk => exact Or.inr ⟨.unpinned m.a m.t m.j, by unfold OpJ.ms; rw [if_neg (by omega), if_neg (by omega), if_neg (by omega), if_neg (by omega), if_neg (by omega), if_neg (by omega), if_neg (by omega), if_neg (by omega), if_neg (by omega), if_pos hk], rfl⟩
  | k0 hk => exact Or.inl ⟨by unfold OpJ.ms; rw [if_neg (by omega), if_neg (by omega), if_neg (by omega), if_neg (by omega), if_neg (by omega), if_neg (by omega), if_neg (by omega), if_neg (by omega), if_neg (by omega), if_neg (by omega)], rfl⟩
theorem hearO_cv (w0 : World) (c bm : Nat) (D : Nat → Prop) (C : CS) (m : OpJ) (v : Value) (w : World) (h : CoV w0 w c bm D C) (hv : MsgV w m v) (hx : RdI w (.slice m.ua m.un m.uc) m.xs) (hap : m.xs ≠ [] → ∀ g o, m.ua = some ⟨g, o, none⟩ → ¬ D g) (hla : C.la < 1073741824) (hrf : 0 ≤ C.rf ∧ C.rf < 1000000000) :
    Calls Tryz.prog 13 #[.pointer (some ⟨c, 0, none⟩), v] w fun e w' => HearTo e w0 w w' c bm D (C.hearO m.ms) := by
  rcases msgv_ms hv hx with ⟨hm, rfl⟩ | ⟨x, hm, hw⟩
  · refine (hear_co_nil c w).mono ?_
    rintro e w' ⟨rfl, f⟩
    rw [hm]
    exact ⟨_, w.heap.size, D, rfl, rfl, Nat.le_refl _, h.frN f, fun g hg => Or.inl hg, f.mono (fun _ _ q => q.elim)⟩
  · rw [hm]
    refine hear_cv w0 c bm D C x v w h hw (fun pn ua un uc h1 h2 h3 g o h4 => ?_) hla hrf
    subst h1
    rcases ms_tab hm with ⟨hk, e⟩ | ⟨hk, e⟩ | ⟨hk, e⟩ | ⟨hk, e⟩ | ⟨hk, e⟩ | ⟨hk, e⟩ | ⟨hk, e⟩ | ⟨hk, e⟩ | ⟨hk, e⟩ | ⟨hk, e⟩
    any_goals (cases e; done)
    injection e with e
    subst e
    cases hv with
    | k3 _ =>
      unfold mPinned at h2
      have h5 : m.ua = ua := by
        simp only [Value.iface.injEq, Value.agg.injEq] at h2
        simp_all
      exact hap h3 g o (by rw [h5]; exact h4)
    | _ => omega
end Go.Proofs.YtidcoddefebdpaaGreat
end
