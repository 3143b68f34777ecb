/-
  The program's job and the reference's, whole: what a message makes of both, who is pinned, what is still to be said: plain mathematics.
-/
import Derived.Test.YtppgachfobpgbaaRJobRel
import Derived.Test.YtppgachfobpgbaaRJob6
import Derived.Test.YtppgachfobpgbaaEndsL
set_option linter.unusedVariables false
set_option linter.unusedSimpArgs false
set_option maxRecDepth 100000
namespace Go.Proofs.Ytppgachfobpgbaa
open Go.RowKit Go Go.Lib

/-- the reference's part is what the agent told -/
structure PtR (p : RPt) (u : Told) : Prop where
  a : p.a = u.ag
  t : p.t = u.tr
  j : p.j = u.jb
  c : p.c = u.ct
  lo : p.lo = u.lo
  un : p.un = u.n
def JS.pf (j : JS) : Prop := ∀ k, k < 4 → (j.at k).p = true → (j.at k).v = true
structure JRl (j : JS) (q : RJ) : Prop where
  r : JRel j q
  inv : j.inv
  n4 : j.ag ≤ 4
  pf : j.pf
  n1 : j.ph = 1 → noneL (fun v => !v.p) j = false
  fu : q.fu = (decide (2 ≤ j.ph) && noneL (fun v => !v.p) j)
  np : q.P.length = j.ag
  pt : ∀ k, k < 4 → (j.at k).p = true → PtR (q.P.getD k pt0) (j.at k).t

theorem upd_rest (j : JS) (a : Nat) (f : Vis → Vis) : (j.upd a f).id = j.id ∧ (j.upd a f).tr = j.tr ∧ (j.upd a f).cl = j.cl ∧ (j.upd a f).ag = j.ag ∧ (j.upd a f).ph = j.ph ∧ (j.upd a f).st = j.st := by
  unfold JS.upd
  split <;> exact ⟨rfl, rfl, rfl, rfl, rfl, rfl⟩
theorem mark_rest (j : JS) (x : Int) : (j.mark x).id = j.id ∧ (j.mark x).tr = j.tr ∧ (j.mark x).cl = j.cl ∧ (j.mark x).ag = j.ag ∧ (j.mark x).ph = j.ph ∧ (j.mark x).st = j.st := by
  unfold JS.mark
  split
  · exact upd_rest j _ _
  · exact ⟨rfl, rfl, rfl, rfl, rfl, rfl⟩
theorem mk1_rest (q : RJ) (x : Int) : (q.mk1 x).id = q.id ∧ (q.mk1 x).tr = q.tr ∧ (q.mk1 x).cl = q.cl ∧ (q.mk1 x).ph = q.ph ∧ (q.mk1 x).P = q.P ∧ (q.mk1 x).F = q.F ∧ (q.mk1 x).fu = q.fu ∧ (q.mk1 x).ke = q.ke ∧ (q.mk1 x).S.length = q.S.length := by
  unfold RJ.mk1
  split
  · exact ⟨rfl, rfl, rfl, rfl, rfl, rfl, rfl, rfl, by simp⟩
  · exact ⟨rfl, rfl, rfl, rfl, rfl, rfl, rfl, rfl, rfl⟩
theorem none_congr (so : Vis → Bool) (j j' : JS) (h : ∀ i, i < 4 → (j.at i).v = (j'.at i).v ∧ so (j.at i) = so (j'.at i)) : noneL so j = noneL so j' := by
  rw [Bool.eq_iff_iff, none_iff, none_iff]
  constructor
  · intro k i hi hv
    rw [← (h i hi).2]
    exact k i hi (by rw [(h i hi).1]; exact hv)
  · intro k i hi hv
    rw [(h i hi).2]
    exact k i hi (by rw [← (h i hi).1]; exact hv)
theorem allF_iff (q : RJ) (n : Nat) : q.allF n = true ↔ ∀ k, k < n → q.S.getD k 0 = 0 ∨ q.F.getD k false = true := by
  induction n with
  | zero => simp [RJ.allF]
  | succ n ih =>
    unfold RJ.allF
    rw [Bool.and_eq_true, ih, Bool.or_eq_true, decide_eq_true_eq]
    constructor
    · rintro ⟨h1, h2⟩ k hk
      rcases Nat.lt_or_ge k n with h | h
      · exact h1 k h
      · obtain rfl : k = n := by omega
        exact h2
    · intro h
      exact ⟨fun k hk => h k (by omega), h n (by omega)⟩
theorem allP_iff (q : RJ) (n : Nat) : q.allP n = true ↔ ∀ k, k < n → q.S.getD k 0 ≠ 1 := by
  induction n with
  | zero => simp [RJ.allP]
  | succ n ih =>
    unfold RJ.allP
    rw [Bool.and_eq_true, ih, decide_eq_true_eq]
    constructor
    · rintro ⟨h1, h2⟩ k hk
      rcases Nat.lt_or_ge k n with h | h
      · exact h1 k h
      · obtain rfl : k = n := by omega
        exact h2
    · intro h
      exact ⟨fun k hk => h k (by omega), h n (by omega)⟩
theorem JRel.allF {j : JS} {q : RJ} (h : JRel j q) (n4 : j.ag ≤ 4) : q.allF q.S.length = noneL (fun v => !v.f) j := by
  rw [Bool.eq_iff_iff, allF_iff, none_iff, h.n]
  constructor
  · intro k i hi hv
    rcases Nat.lt_or_ge i j.ag with hl | hl
    · have := k i hl
      rw [h.st i hl, h.fr i hl] at this
      rcases this with h0 | h0
      · unfold stN at h0
        rw [hv, if_pos rfl] at h0
        split at h0 <;> omega
      · simp [h0]
    · rw [h.no i hl hi] at hv; cases hv
  · intro k i hl
    rw [h.st i hl, h.fr i hl]
    cases hv : (j.at i).v with
    | false => left; unfold stN; rw [hv]; rfl
    | true => right; have := k i (by omega) hv; simpa using this
theorem JRel.allP {j : JS} {q : RJ} (h : JRel j q) (n4 : j.ag ≤ 4) (pf : j.pf) : q.allP q.S.length = noneL (fun v => !v.p) j := by
  rw [Bool.eq_iff_iff, allP_iff, none_iff, h.n]
  constructor
  · intro k i hi hv
    rcases Nat.lt_or_ge i j.ag with hl | hl
    · have := k i hl
      rw [h.st i hl] at this
      unfold stN at this
      rw [hv, if_pos rfl] at this
      cases hp : (j.at i).p with
      | true => rfl
      | false => rw [hp] at this; simp at this
    · rw [h.no i hl hi] at hv; cases hv
  · intro k i hl
    rw [h.st i hl]
    unfold stN
    cases hv : (j.at i).v with
    | false => simp
    | true =>
      have := k i (by omega) hv
      cases hp : (j.at i).p with
      | true => simp
      | false => rw [hp] at this; simp at this

theorem JRl.sto {j : JS} {q : RJ} (h : JRl j q) : JRl j.sto q.go8 := by
  have hr := h.r.sto
  have hi : j.sto.inv := by
    unfold JS.sto
    split
    · exact ⟨Or.inr (Or.inr (Or.inl rfl)), fun q => by have q' : (3 : Int) = 2 := q; omega⟩
    · exact h.inv
  have hph := h.r.ph
  by_cases hc : j.ph = 2 ∨ j.ph = 3
  · have e1 : j.sto = { j with st := true, ph := 3 } := by unfold JS.sto; rw [if_pos hc]
    have e2 : q.go8 = { q with ke := true, ph := 3 } := by unfold RJ.go8; rw [if_pos (by rw [hph]; exact hc)]
    rw [e1] at hr hi ⊢
    rw [e2] at hr ⊢
    refine ⟨hr, hi, h.n4, fun k hk => ?_, fun q => ?_, ?_, h.np, fun k hk => ?_⟩
    · rw [st_at]; exact h.pf k hk
    · have q' : (3 : Int) = 1 := q; omega
    · have := h.fu
      show q.fu = (decide ((2 : Int) ≤ 3) && noneL (fun v => !v.p) j)
      rw [this]
      have d : decide (2 ≤ j.ph) = true := by simp; omega
      rw [d]; rfl
    · rw [st_at]; exact h.pt k hk
  · have e1 : j.sto = j := by unfold JS.sto; rw [if_neg hc]
    have e2 : q.go8 = q := by unfold RJ.go8; rw [if_neg (by rw [hph]; exact hc)]
    rw [e1, e2]; exact h
theorem JRl.gon {j : JS} {q : RJ} (h : JRl j q) {a : Int} (h0 : 0 ≤ a) (h4 : a < 4) : JRl (j.gon a.toNat) (q.go4 a) := by
  have hr := h.r.gon h0 h4
  have hv := h.r.vis h0 h4
  have hph := h.r.ph
  have hp1 := h.r.p1
  by_cases hc : (j.at a.toNat).v = true ∧ (j.ph = 1 ∨ j.ph = 2)
  · have e1 : j.gon a.toNat = { j with ph := 3 } := by unfold JS.gon; rw [if_pos hc]
    have e2 : q.go4 a = { q with ph := 3 } := by unfold RJ.go4; rw [if_pos ⟨by rw [hph]; omega, by rw [hv]; exact hc.1⟩]
    rw [e1] at hr ⊢
    rw [e2] at hr ⊢
    refine ⟨hr, ⟨Or.inr (Or.inr (Or.inl rfl)), fun q => by have q' : (3 : Int) = 2 := q; omega⟩, h.n4, fun k hk => ?_, fun q => ?_, ?_, h.np, fun k hk => ?_⟩
    · rw [ph_at]; exact h.pf k hk
    · have q' : (3 : Int) = 1 := q; omega
    · show q.fu = (decide ((2 : Int) ≤ 3) && noneL (fun v => !v.p) j)
      rw [h.fu]
      rcases hc.2 with e | e
      · rw [h.n1 e]; simp
      · rw [h.inv.2 e, e]
        rfl
    · rw [ph_at]; exact h.pt k hk
  · have e1 : j.gon a.toNat = j := by unfold JS.gon; rw [if_neg hc]
    have e2 : q.go4 a = q := by
      unfold RJ.go4
      rw [if_neg]
      rintro ⟨k1, k2⟩
      rw [hv] at k2
      rw [hph] at k1
      exact hc ⟨k2, by omega⟩
    rw [e1, e2]; exact h
theorem JRel.fr10 {j : JS} {q : RJ} (h : JRel j q) (n4 : j.ag ≤ 4) {a : Nat} (ha : a < 4) (hv : (j.at a).v = true) : JRel (j.upd a fun v => { v with f := true }) (q.fr10 (a : Int)) := by
  obtain ⟨u1, u2, u3, u4, u5, u6⟩ := upd_rest j a (fun v => { v with f := true })
  have hat := fun k hk => at_upd j a k (fun v => { v with f := true }) ha hk
  have hag : a < j.ag := by
    rcases Nat.lt_or_ge a j.ag with k | k
    · exact k
    · rw [h.no a k ha] at hv; cases hv
  have hset : (q.F.set a true).length = q.F.length := List.length_set
  refine ⟨h.id.trans u1.symm, h.tr.trans u2.symm, h.cl.trans u3.symm, h.ph.trans u5.symm, h.ke.trans u6.symm, h.n.trans u4.symm, ?_, fun k hk => ?_, fun k hk => ?_, by rw [u5]; exact h.p1, fun k hk1 hk2 => ?_⟩
  · show (q.F.set (a : Int).toNat true).length = _
    rw [List.length_set, u4]; exact h.nf
  · rw [u4] at hk
    rw [hat k (by omega)]
    show q.S.getD k 0 = _
    rw [h.st k hk]
    split <;> rfl
  · rw [u4] at hk
    rw [hat k (by omega)]
    show (q.F.set (a : Int).toNat true).getD k false = _
    rw [show (a : Int).toNat = a by omega]
    by_cases hka : k = a
    · subst hka
      rw [if_pos rfl]
      simp [List.getD, h.nf, hk]
    · rw [if_neg hka, ← h.fr k hk]
      simp [List.getD, List.getElem?_set_ne (fun e => hka e.symm)]
  · rw [u4] at hk1
    rw [hat k hk2, if_neg (by omega)]
    exact h.no k hk1 hk2
theorem JRl.unp {j : JS} {q : RJ} (h : JRl j q) {a : Int} (h0 : 0 ≤ a) (h4 : a < 4) : JRl (j.unp a.toNat) (q.go10 a) := by
  have hv := h.r.vis h0 h4
  have hph := h.r.ph
  by_cases hc : j.ph = 3 ∧ (j.at a.toNat).v = true
  · obtain ⟨n, rfl⟩ : ∃ n : Nat, a = n := ⟨a.toNat, by omega⟩
    simp only [Int.toNat_natCast] at hc hv ⊢
    have hn4 : n < 4 := by omega
    have hR := h.r.fr10 h.n4 hn4 hc.2
    obtain ⟨u1, u2, u3, u4, u5, u6⟩ := upd_rest j n (fun v => { v with f := true })
    have hat := fun k hk => at_upd j n k (fun v => { v with f := true }) hn4 hk
    have hall := hR.allF (by rw [u4]; exact h.n4)
    have hnp : noneL (fun v => !v.p) (j.upd n fun v => { v with f := true }) = noneL (fun v => !v.p) j := none_congr _ _ _ (fun i hi => by rw [hat i hi]; split <;> exact ⟨rfl, rfl⟩)
    have hfu : q.fu = (decide ((2 : Int) ≤ 3) && noneL (fun v => !v.p) (j.upd n fun v => { v with f := true })) := by
      rw [h.fu, hc.1, hnp]
    have hpf : (j.upd n fun v => { v with f := true }).pf := fun k hk hp => by
      rw [hat k hk] at hp ⊢
      split at hp <;> rename_i hh
      · rw [if_pos hh]; exact h.pf k hk hp
      · rw [if_neg hh]; exact h.pf k hk hp
    have hpt : ∀ k, k < 4 → ((j.upd n fun v => { v with f := true }).at k).p = true → PtR (q.P.getD k pt0) ((j.upd n fun v => { v with f := true }).at k).t := fun k hk hp => by
      rw [hat k hk] at hp ⊢
      split at hp <;> rename_i hh
      · rw [if_pos hh]; exact h.pt k hk hp
      · rw [if_neg hh]; exact h.pt k hk hp
    have hl : (q.fr10 (n : Int)).S.length = q.S.length := rfl
    rw [hl] at hall
    have e2 : q.go10 (n : Int) = if (q.fr10 (n : Int)).allF q.S.length = true then { q.fr10 (n : Int) with ph := 4 } else q.fr10 (n : Int) := by unfold RJ.go10; rw [if_pos ⟨by rw [hph]; exact hc.1, by rw [hv]; exact hc.2⟩]
    have e1 : j.unp n = if noneL (fun v => !v.f) (j.upd n fun v => { v with f := true }) then { (j.upd n fun v => { v with f := true }) with ph := 4 } else j.upd n fun v => { v with f := true } := by unfold JS.unp; rw [if_pos hc]
    rw [e1, e2, hall]
    by_cases hz : noneL (fun v => !v.f) (j.upd n fun v => { v with f := true }) = true
    · rw [if_pos hz, if_pos hz]
      refine ⟨⟨hR.id, hR.tr, hR.cl, rfl, hR.ke, hR.n, hR.nf, fun k hk => ?_, fun k hk => ?_, (by decide : (1 : Int) ≤ 4), fun k k1 k2 => ?_⟩, ⟨Or.inr (Or.inr (Or.inr rfl)), fun q => by have q' : (4 : Int) = 2 := q; omega⟩, by show (j.upd n _).ag ≤ 4; rw [u4]; exact h.n4, fun k hk => ?_, fun q => by have q' : (4 : Int) = 1 := q; omega, hfu, by show q.P.length = (j.upd n _).ag; rw [u4]; exact h.np, fun k hk => ?_⟩
      · rw [ph_at]; exact hR.st k hk
      · rw [ph_at]; exact hR.fr k hk
      · rw [ph_at]; exact hR.no k k1 k2
      · rw [ph_at]; exact hpf k hk
      · rw [ph_at]; exact hpt k hk
    · rw [if_neg hz, if_neg hz]
      exact ⟨hR, ⟨Or.inr (Or.inr (Or.inl (by rw [u5]; exact hc.1))), fun q => by rw [u5, hc.1] at q; omega⟩, by rw [u4]; exact h.n4, hpf, fun q => by rw [u5, hc.1] at q; omega, by rw [u5, hc.1]; exact hfu, by rw [u4]; exact h.np, hpt⟩
  · have e1 : j.unp a.toNat = j := by unfold JS.unp; rw [if_neg hc]
    have e2 : q.go10 a = q := by
      unfold RJ.go10
      rw [if_neg]
      rintro ⟨k1, k2⟩
      rw [hv] at k2
      rw [hph] at k1
      exact hc ⟨k1, k2⟩
    rw [e1, e2]; exact h

theorem JRel.mark {j : JS} {q : RJ} (h : JRel j q) (pf : j.pf) (n4 : j.ag ≤ 4) {x : Int} (h0 : 0 ≤ x) (h3 : x ≤ 3) : JRel (j.mark x) (q.mk1 x) ∧ (j.mark x).pf := by
  obtain ⟨u1, u2, u3, u4, u5, u6⟩ := mark_rest j x
  obtain ⟨m1, m2, m3, m4, m5, m6, m7, m8, m9⟩ := mk1_rest q x
  have hat := fun k hk => mark_at j x k hk h0 h3
  refine ⟨⟨m1.trans (h.id.trans u1.symm), m2.trans (h.tr.trans u2.symm), m3.trans (h.cl.trans u3.symm), m4.trans (h.ph.trans u5.symm), m8.trans (h.ke.trans u6.symm), m9.trans (h.n.trans u4.symm), by rw [m6, u4]; exact h.nf, fun k hk => ?_, fun k hk => ?_, by rw [u5]; exact h.p1, fun k k1 k2 => ?_⟩, fun k hk hp => ?_⟩
  · rw [u4] at hk
    rw [hat k (by omega)]
    have hs := h.st k hk
    by_cases hx : x = k ∧ x < j.ag
    · obtain ⟨rfl, hx2⟩ := hx
      rw [if_pos ⟨rfl, hx2⟩]
      unfold RJ.mk1
      rw [show ((k : Int)).toNat = k by omega, h.n, hs]
      cases hv : (j.at k).v with
      | true =>
        rw [if_neg]
        · rw [hs]
          unfold stN
          rw [hv]
        · rintro ⟨_, q2⟩
          unfold stN at q2
          rw [hv, if_pos rfl] at q2
          split at q2 <;> omega
      | false =>
        have hp : (j.at k).p = false := by
          cases hpp : (j.at k).p with
          | false => rfl
          | true => have := pf k (by omega) hpp; rw [hv] at this; cases this
        rw [if_pos ⟨by omega, by unfold stN; rw [hv]; rfl⟩]
        unfold stN
        simp [List.getD, h.n, hk, hp]
    · rw [if_neg hx, ← hs]
      unfold RJ.mk1
      split
      · rename_i hc
        rw [h.n] at hc
        have hne : x.toNat ≠ k := fun e => hx ⟨by omega, hc.1⟩
        simp [List.getD, List.getElem?_set_ne hne]
      · rfl
  · rw [u4] at hk
    rw [m6, h.fr k hk, hat k (by omega)]
    split <;> rfl
  · rw [u4] at k1
    rw [hat k k2, if_neg (by omega)]
    exact h.no k k1 k2
  · rw [hat k hk] at hp ⊢
    split at hp <;> rename_i hh
    · rw [if_pos hh]
    · rw [if_neg hh]; exact pf k hk hp
theorem JRel.marks (xs : List Int) : ∀ (j : JS) (q : RJ), JRel j q → j.pf → j.ag ≤ 4 → (∀ x ∈ xs, 0 ≤ x ∧ x ≤ 3) → JRel (xs.foldl JS.mark j) (xs.foldl RJ.mk1 q) ∧ (xs.foldl JS.mark j).pf := by
  induction xs with
  | nil => intro j q h pf _ _; exact ⟨h, pf⟩
  | cons x r ih =>
    intro j q h pf n4 hx
    obtain ⟨h1, h2⟩ := hx x (List.mem_cons_self ..)
    obtain ⟨k1, k2⟩ := h.mark pf n4 h1 h2
    rw [List.foldl_cons, List.foldl_cons]
    exact ih _ _ k1 k2 (by rw [(mark_rest j x).2.2.2.1]; exact n4) (fun y hy => hx y (List.mem_cons_of_mem _ hy))
theorem marks_P (xs : List Int) : ∀ (q : RJ), (xs.foldl RJ.mk1 q).P = q.P ∧ (xs.foldl RJ.mk1 q).fu = q.fu := by
  induction xs with
  | nil => intro q; exact ⟨rfl, rfl⟩
  | cons x r ih =>
    intro q
    rw [List.foldl_cons]
    obtain ⟨h1, h2⟩ := ih (q.mk1 x)
    obtain ⟨_, _, _, _, m5, _, m7, _, _⟩ := mk1_rest q x
    exact ⟨h1.trans m5, h2.trans m7⟩
theorem marks_ag' (xs : List Int) : ∀ (j : JS), (xs.foldl JS.mark j).ag = j.ag ∧ (xs.foldl JS.mark j).ph = j.ph := by
  induction xs with
  | nil => intro q; exact ⟨rfl, rfl⟩
  | cons x r ih =>
    intro j
    rw [List.foldl_cons]
    obtain ⟨h1, h2⟩ := ih (j.mark x)
    exact ⟨h1.trans (mark_rest j x).2.2.2.1, h2.trans (mark_rest j x).2.2.2.2.1⟩
/-- a Pinned that pins -/
theorem JRl.pin {j : JS} {q : RJ} (h : JRl j q) {a : Nat} (ha : a < 4) (t : Told) (p : RPt) (xs : List Int) (hp1 : j.ph = 1) (hv : (j.at a).v = true) (hp : (j.at a).p = false) (hpa : p.a = (a : Int)) (ht : PtR p t) (hx : ∀ x ∈ xs, 0 ≤ x ∧ x ≤ 3) : JRl (j.pin a t xs) (q.go3 p xs) := by
  have hag : a < j.ag := by
    rcases Nat.lt_or_ge a j.ag with k | k
    · exact k
    · rw [h.r.no a k ha] at hv; cases hv
  obtain ⟨u1, u2, u3, u4, u5, u6⟩ := upd_rest j a (fun v => { v with p := true, t := t })
  have hat := fun k hk => at_upd j a k (fun v => { v with p := true, t := t }) ha hk
  have htn : ((a : Int)).toNat = a := by omega
  have hR0 : JRel (j.upd a fun v => { v with p := true, t := t }) (q.pin0 (a : Int) p) := by
    refine ⟨h.r.id.trans u1.symm, h.r.tr.trans u2.symm, h.r.cl.trans u3.symm, h.r.ph.trans u5.symm, h.r.ke.trans u6.symm, ?_, h.r.nf.trans u4.symm, fun k hk => ?_, fun k hk => ?_, by rw [u5]; exact h.r.p1, fun k k1 k2 => ?_⟩
    · show (q.S.set _ 2).length = _
      rw [List.length_set, u4]; exact h.r.n
    · rw [u4] at hk
      rw [hat k (by have := h.n4; omega)]
      show (q.S.set (a : Int).toNat 2).getD k 0 = _
      rw [htn]
      by_cases hka : k = a
      · subst hka
        rw [if_pos rfl]
        unfold stN
        simp [List.getD, h.r.n, hk, hv]
      · rw [if_neg hka, ← h.r.st k hk]
        simp [List.getD, List.getElem?_set_ne (fun e => hka e.symm)]
    · rw [u4] at hk
      rw [hat k (by have := h.n4; omega)]
      show q.F.getD k false = _
      rw [h.r.fr k hk]
      split <;> rfl
    · rw [u4] at k1
      rw [hat k k2, if_neg (by omega)]
      exact h.r.no k k1 k2
  have hpf0 : (j.upd a fun v => { v with p := true, t := t }).pf := fun k hk hpp => by
    rw [hat k hk] at hpp ⊢
    split at hpp <;> rename_i hh
    · subst hh; rw [if_pos rfl]; exact hv
    · rw [if_neg hh]; exact h.pf k hk hpp
  obtain ⟨hR1, hpf1⟩ := JRel.marks xs _ _ hR0 hpf0 (by rw [u4]; exact h.n4) hx
  have hj1 : xs.foldl JS.mark (j.upd a fun v => { v with p := true, t := t }) = j.pin1 a t xs := rfl
  have hq1 : xs.foldl RJ.mk1 (q.pin0 (a : Int) p) = q.pin1 (a : Int) p xs := rfl
  obtain ⟨a1, a2⟩ := marks_ag' xs (j.upd a fun v => { v with p := true, t := t })
  obtain ⟨b1, b2⟩ := marks_P xs (q.pin0 (a : Int) p)
  rw [hj1] at hR1 hpf1 a1 a2
  rw [hq1] at hR1 b1 b2
  rw [u4] at a1
  rw [u5, hp1] at a2
  have hpt1 : ∀ k, k < 4 → ((j.pin1 a t xs).at k).p = true → PtR ((q.pin1 (a : Int) p xs).P.getD k pt0) ((j.pin1 a t xs).at k).t := fun k hk hpp => by
    rw [b1]
    show PtR ((q.P.set (a : Int).toNat p).getD k pt0) _
    have e1 : ((j.pin1 a t xs).at k).t = ((j.upd a fun v => { v with p := true, t := t }).at k).t := by unfold JS.pin1; exact marks_told xs k _
    have e2 : ((j.pin1 a t xs).at k).p = ((j.upd a fun v => { v with p := true, t := t }).at k).p := by unfold JS.pin1; exact marks_p xs k hk _
    rw [e2, hat k hk] at hpp
    rw [e1, hat k hk, htn]
    by_cases hka : k = a
    · subst hka
      rw [if_pos rfl]
      rw [show (q.P.set k p).getD k pt0 = p by simp [List.getD, h.np, hag]]
      exact ht
    · rw [if_neg hka] at hpp ⊢
      rw [show (q.P.set a p).getD k pt0 = q.P.getD k pt0 by simp [List.getD, List.getElem?_set_ne (fun e => hka e.symm)]]
      exact h.pt k hk hpp
  have hall := hR1.allP (by rw [a1]; exact h.n4) hpf1
  have hlen : (q.pin1 (a : Int) p xs).S.length = q.S.length := by rw [hR1.n, a1, h.r.n]
  rw [hlen] at hall
  have hvis := h.r.vis (a := (a : Int)) (by omega) (by omega)
  rw [htn] at hvis
  have hst : q.S.getD a 0 = 1 := by rw [h.r.st a hag]; unfold stN; rw [hv, hp]; rfl
  have e2 : q.go3 p xs = if (q.pin1 (a : Int) p xs).allP q.S.length = true then { q.pin1 (a : Int) p xs with ph := 2, fu := true } else q.pin1 (a : Int) p xs := by
    unfold RJ.go3
    rw [hpa, if_pos ⟨by rw [h.r.ph]; exact hp1, by rw [hvis]; exact hv, by rw [htn]; exact hst⟩]
  have e1 : j.pin a t xs = if noneL (fun v => !v.p) (j.pin1 a t xs) then { j.pin1 a t xs with ph := 2 } else j.pin1 a t xs := rfl
  have hP : (q.pin1 (a : Int) p xs).P.length = j.ag := by rw [b1]; show (q.P.set _ p).length = _; rw [List.length_set]; exact h.np
  rw [e1, e2, hall]
  by_cases hz : noneL (fun v => !v.p) (j.pin1 a t xs) = true
  · rw [if_pos hz, if_pos hz]
    refine ⟨⟨hR1.id, hR1.tr, hR1.cl, rfl, hR1.ke, hR1.n, hR1.nf, fun k hk => ?_, fun k hk => ?_, (by decide : (1 : Int) ≤ 2), fun k k1 k2 => ?_⟩, ⟨Or.inr (Or.inl rfl), fun _ => hz⟩, by show (j.pin1 a t xs).ag ≤ 4; rw [a1]; exact h.n4, fun k hk => ?_, fun q => by have q' : (2 : Int) = 1 := q; omega, ?_, by show _ = (j.pin1 a t xs).ag; rw [a1]; exact hP, fun k hk => ?_⟩
    · rw [ph_at]; exact hR1.st k hk
    · rw [ph_at]; exact hR1.fr k hk
    · rw [ph_at]; exact hR1.no k k1 k2
    · rw [ph_at]; exact hpf1 k hk
    · show true = (decide ((2 : Int) ≤ 2) && noneL (fun v => !v.p) (j.pin1 a t xs))
      rw [hz]; rfl
    · rw [ph_at]; exact hpt1 k hk
  · rw [if_neg hz, if_neg hz]
    refine ⟨hR1, ⟨Or.inl a2, fun q => by rw [a2] at q; omega⟩, by rw [a1]; exact h.n4, hpf1, fun _ => by simpa using hz, ?_, by rw [a1]; exact hP, hpt1⟩
    rw [b2, a2]
    show q.fu = _
    rw [h.fu, hp1]
    rfl
/-- a Pinned that doesn't -/
theorem go3_no {j : JS} {q : RJ} (h : JRl j q) (p : RPt) (xs : List Int) (h0 : 0 ≤ p.a) (h4 : p.a < 4) (hno : ¬ (j.ph = 1 ∧ (j.at p.a.toNat).v = true ∧ (j.at p.a.toNat).p = false)) : q.go3 p xs = q := by
  unfold RJ.go3
  rw [if_neg]
  rintro ⟨k1, k2, k3⟩
  rw [h.r.vis h0 h4] at k2
  rw [h.r.ph] at k1
  refine hno ⟨k1, k2, ?_⟩
  have hag : p.a.toNat < j.ag := by
    rcases Nat.lt_or_ge p.a.toNat j.ag with k | k
    · exact k
    · rw [h.r.no _ k (by omega)] at k2; cases k2
  rw [h.r.st _ hag] at k3
  unfold stN at k3
  rw [k2, if_pos rfl] at k3
  cases hp : (j.at p.a.toNat).p with
  | false => rfl
  | true => rw [hp, if_pos rfl] at k3; omega

/-! ### what is still to be said -/
theorem which_ag (so : Vis → Bool) {j : JS} (n4 : j.ag ≤ 4) (no : ∀ k, j.ag ≤ k → k < 4 → (j.at k).v = false) : whichL so j 4 = whichL so j j.ag := by
  have key : ∀ d, j.ag + d ≤ 4 → whichL so j (j.ag + d) = whichL so j j.ag := by
    intro d
    induction d with
    | zero => intro _; rfl
    | succ d ih =>
      intro hd
      rw [show j.ag + (d + 1) = (j.ag + d) + 1 by omega, whichL_no (by rw [vis_at j _ (by omega), no _ (by omega) (by omega)]; rfl), ih (by omega)]
  have := key (4 - j.ag) (by omega)
  rw [show j.ag + (4 - j.ag) = 4 by omega] at this
  exact this
theorem ks_which {j : JS} {q : RJ} (h : JRl j q) (so : Vis → Bool) (K : Int) (hK : 0 < K) (hk : ∀ i, i < j.ag → q.kd i = if ((j.at i).v && so (j.at i)) = true then K else 0) : q.ks q.S.length = (whichL so j 4).map fun x => (x, K) := by
  rw [which_ag so h.n4 h.r.no, h.r.n]
  have key : ∀ n, n ≤ j.ag → q.ks n = (whichL so j n).map fun x => (x, K) := by
    intro n
    induction n with
    | zero => intro _; rfl
    | succ n ih =>
      intro hn
      have h4 := h.n4
      unfold RJ.ks
      rw [ih (by omega), hk n (by omega)]
      by_cases hs : ((j.at n).v && so (j.at n)) = true
      · rw [if_pos hs, if_pos hK]
        have hs' := hs
        rw [Bool.and_eq_true] at hs'
        rw [whichL_yes (by rw [vis_at j n (by omega)]; exact hs'.1) (by rw [vis_at j n (by omega)]; exact hs'.2), List.map_append]
        rfl
      · rw [if_neg hs, if_neg (by omega), List.append_nil, whichL_no (by rw [vis_at j n (by omega)]; simpa using hs)]
  exact key _ (Nat.le_refl _)
theorem ks_1 {j : JS} {q : RJ} (h : JRl j q) (hp : j.ph = 1) : q.ks q.S.length = (whichL (fun v => !v.p) j 4).map fun x => (x, 2) := by
  refine ks_which h _ 2 (by omega) fun i hi => ?_
  unfold RJ.kd
  rw [h.r.st i hi, h.r.ph, hp]
  unfold stN
  cases (j.at i).v <;> cases (j.at i).p <;> simp
theorem ks_2 {j : JS} {q : RJ} (h : JRl j q) (hp : j.ph = 2) : q.ks q.S.length = (whichL (fun _ => true) j 4).map fun x => (x, 5) := by
  refine ks_which h _ 5 (by omega) fun i hi => ?_
  unfold RJ.kd
  rw [h.r.st i hi, h.r.ph, hp]
  unfold stN
  cases (j.at i).v <;> cases (j.at i).p <;> simp
theorem ks_3 {j : JS} {q : RJ} (h : JRl j q) (hp : j.ph = 3) : q.ks q.S.length = (whichL (fun v => !v.f) j 4).map fun x => (x, 9) := by
  refine ks_which h _ 9 (by omega) fun i hi => ?_
  unfold RJ.kd
  rw [h.r.st i hi, h.r.fr i hi, h.r.ph, hp]
  unfold stN
  cases (j.at i).v <;> cases (j.at i).p <;> cases (j.at i).f <;> simp
theorem ks_4 {j : JS} {q : RJ} (h : JRl j q) (hp : j.ph = 4) : q.ks q.S.length = [] := by
  have key : ∀ n, q.ks n = [] := by
    intro n
    induction n with
    | zero => rfl
    | succ n ih =>
      unfold RJ.ks
      rw [ih, if_neg]
      · rfl
      · unfold RJ.kd
        rw [h.r.ph, hp]
        split
        · omega
        · simp
  exact key _
theorem parts_which {j : JS} {q : RJ} (h : JRl j q) : q.parts q.S.length = (whichL (fun _ => true) j 4).map fun x => q.P.getD x.toNat pt0 := by
  rw [which_ag _ h.n4 h.r.no, h.r.n]
  have key : ∀ n, n ≤ j.ag → q.parts n = (whichL (fun _ => true) j n).map fun x => q.P.getD x.toNat pt0 := by
    intro n
    induction n with
    | zero => intro _; rfl
    | succ n ih =>
      intro hn
      have h4 := h.n4
      unfold RJ.parts
      rw [ih (by omega), h.r.st n (by omega)]
      cases hv : (j.at n).v with
      | true =>
        rw [if_pos (by unfold stN; rw [hv, if_pos rfl]; split <;> omega), whichL_yes (by rw [vis_at j n (by omega)]; exact hv) rfl, List.map_append]
        rfl
      | false =>
        rw [if_neg (by unfold stN; rw [hv]; simp), List.append_nil, whichL_no (by rw [vis_at j n (by omega), hv]; rfl)]
  exact key _ (Nat.le_refl _)
theorem visL_which {j : JS} {q : RJ} (h : JRl j q) : visL q.S q.S.length = whichL (fun _ => true) j 4 := by
  rw [which_ag _ h.n4 h.r.no, h.r.n]
  have key : ∀ n, n ≤ j.ag → visL q.S n = whichL (fun _ => true) j n := by
    intro n
    induction n with
    | zero => intro _; rfl
    | succ n ih =>
      intro hn
      have h4 := h.n4
      unfold visL
      rw [ih (by omega), h.r.st n (by omega)]
      cases hv : (j.at n).v with
      | true => rw [if_pos (by unfold stN; rw [hv, if_pos rfl]; split <;> omega), whichL_yes (by rw [vis_at j n (by omega)]; exact hv) rfl]
      | false => rw [if_neg (by unfold stN; rw [hv]; simp), List.append_nil, whichL_no (by rw [vis_at j n (by omega), hv]; rfl)]
  exact key _ (Nat.le_refl _)
end Go.Proofs.Ytppgachfobpgbaa
