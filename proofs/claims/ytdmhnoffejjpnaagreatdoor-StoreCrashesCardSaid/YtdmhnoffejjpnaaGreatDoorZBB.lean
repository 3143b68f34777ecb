/-
  store: single steps, each of one part of it.
  store: what came of a job: its map, its assemblers.
-/
import Derived.Test.YtdmhnoffejjpnaaGreatDoorZBA
section
set_option linter.unusedVariables false
set_option linter.unusedSimpArgs false
set_option maxRecDepth 100000
namespace Go.Proofs.YtdmhnoffejjpnaaGreatDoor
open Go.RowKit Go Go.Maps Go.Lib

/-- only blocks of one owner turn (owner k), colours stay -/
structure Only (w w' : World) (col col' : Nat → Tg) (k : Nat) (S : Nat → Prop) : Prop where
  f : Fr S w w'
  s : ∀ q, q < w.heap.size → S q → (col q).1 = k
  c : ∀ q, q < w.heap.size → col' q = col q
theorem Only.stp {w w' : World} {col col' : Nat → Tg} {k : Nat} {S : Nat → Prop} (o : Only w w' col col' k S) (hk : k ≠ 0) : Stp w w' col col' :=
  ⟨o.f.mono (fun q hq h e => hk (by rw [← o.s q hq h, e]; rfl)), o.c⟩
theorem Only.no {w w' : World} {col col' : Nat → Tg} {k : Nat} {S : Nat → Prop} (o : Only w w' col col' k S) {q : Nat} {c : Tg} (hq : q < w.heap.size) (h1 : col q = c) (h2 : c.1 ≠ k) : ¬ S q := fun h => h2 (by rw [← h1]; exact o.s q hq h)
section
variable {w w' : World} {gS : Nat} {col col' : Nat → Tg} {n k : Nat} {bs : List UInt8} {kb : Nat} {st : Int → Option Int} {P : List RC} {R : Nat} {C : Int → Int → Option PS} {a : Sd} {S : Nat → Prop}
theorem StG.kBlk (h : StG w gS col n bs kb st P R C a) (o : Only w w' col col' k S) (hk : 1 ≠ k) : Blk w' gS 84 [.pointer (some ⟨a.gd, 0, none⟩), .map (some a.bj), .slice a.pa P.length a.pc, .map (some a.bc), .int .i64 R] :=
  o.f.blk h.blk (o.no h.blk.lt h.c1 hk)
theorem touched_lt {w : World} {g B : Nat} {bs : List UInt8} {kb : Nat} (h : Dk w g B bs kb) {q : Nat} (hq : touched w g q) : q < w.heap.size := by
  obtain ⟨cs, hb⟩ := h.blk
  rcases h.touch hq with rfl | h2
  · exact hb.lt
  · exact h2.2
theorem StG.kDk (h : StG w gS col n bs kb st P R C a) (o : Only w w' col col' k S) (hk : 2 ≠ k) : Dk w' a.gd a.B bs kb := h.dk.fr o.f (fun q hq => o.no (touched_lt h.dk hq) (h.c2 q hq) hk)
theorem StG.kc2 (h : StG w gS col n bs kb st P R C a) (o : Only w w' col col' k S) (hk : 2 ≠ k) : ∀ q, touched w' a.gd q → col' q = (2, 0, 0) := fun q hq => by
  obtain ⟨cs, hb⟩ := h.dk.blk
  have h2 := touched_fr hb o.f (o.no hb.lt (h.c2 _ (touched_g w a.gd)) hk) hq
  rw [o.c q (touched_lt h.dk h2)]
  exact h.c2 q h2
theorem StG.kJm (h : StG w gS col n bs kb st P R C a) (o : Only w w' col col' k S) (hk : 3 ≠ k) : Mp Tryz.prog 3 klI mkN w' a.bj a.J.length a.J := h.jm.fr o.f (o.no h.jm.lt h.c3 hk)
theorem StG.kCm (h : StG w gS col n bs kb st P R C a) (o : Only w w' col col' k S) (hk : 4 ≠ k) : Mp Tryz.prog 3 klI mkB w' a.bc a.O.length (ouL a.O) := h.cm.fr o.f (o.no h.cm.lt h.c4 hk)
theorem StG.kPd (h : StG w gS col n bs kb st P R C a) (o : Only w w' col col' k S) (hk : 5 ≠ k) : w'.ownsRow a.pB 76 2 (.slice a.pa P.length a.pc) P.length (P.flatMap stC) :=
  ownsRow_fr h.pd o.f (fun g hg => o.no (h.pd.lt g hg).2 (h.c5 g hg) hk)
theorem InS.keep {j : Int} {b : Nat} {I : List (Int × Nat)} (h : InS w col n C j b I) (o : Only w w' col col' k S) (h6 : 6 ≠ k) (h7 : 7 ≠ k) : InS w' col' n C j b I :=
  ⟨h.mp.fr o.f (o.no h.mp.lt h.c6 h6), by rw [o.c _ h.mp.lt]; exact h.c6, fun q hq => by
    obtain ⟨s, D, h1, h2, h3⟩ := h.am q hq
    exact ⟨s, D, h1, h2.fr o.f (fun g hg => o.no (h2.lt g hg) (h3 g hg) h7), fun g hg => by rw [o.c _ (h2.lt g hg)]; exact h3 g hg⟩, h.zn⟩
theorem StG.kIm (h : StG w gS col n bs kb st P R C a) (o : Only w w' col col' k S) (h6 : 6 ≠ k) (h7 : 7 ≠ k) : ∀ x ∈ a.O, InS w' col' n C x.1 x.2.1 x.2.2 := fun x hx => (h.im x hx).keep o h6 h7
theorem StG.kc1 (h : StG w gS col n bs kb st P R C a) (o : Only w w' col col' k S) : col' gS = (1, 0, 0) := by rw [o.c _ h.blk.lt]; exact h.c1
theorem StG.kc3 (h : StG w gS col n bs kb st P R C a) (o : Only w w' col col' k S) : col' a.bj = (3, 0, 0) := by rw [o.c _ h.jm.lt]; exact h.c3
theorem StG.kc4 (h : StG w gS col n bs kb st P R C a) (o : Only w w' col col' k S) : col' a.bc = (4, 0, 0) := by rw [o.c _ h.cm.lt]; exact h.c4
theorem StG.kc5 (h : StG w gS col n bs kb st P R C a) (o : Only w w' col col' k S) : ∀ g, (Value.slice a.pa P.length a.pc).ownBlock = some g → col' g = (5, 0, 0) := fun g hg => by rw [o.c _ (h.pd.lt g hg).2]; exact h.c5 g hg
theorem StG.klow (h : StG w gS col n bs kb st P R C a) (o : Only w w' col col k S) : ∀ q, col q ≠ tg0 → q < w'.heap.size := fun q hq => Nat.lt_of_lt_of_le (h.low q hq) o.f.size
theorem reT_only {k : Nat} {T : Nat → Prop} {c : Tg} (f : Fr S w w') (s : ∀ q, q < w.heap.size → S q → (col q).1 = k) : Only w w' col (reT w.heap.size col T c) k S := ⟨f, s, fun q hq => reT_lt hq⟩
theorem reT_lo {T : Nat → Prop} {c : Tg} (hl : ∀ q, col q ≠ tg0 → q < w.heap.size) (hs : w.heap.size ≤ w'.heap.size) (hT : ∀ q, T q → q < w'.heap.size) : ∀ q, reT w.heap.size col T c q ≠ tg0 → q < w'.heap.size := fun q hq => by
  rcases reT_low hq with h | h
  · omega
  · exact hT q h

/-- the store's own block -/
theorem StG.cell {R' : Nat} {P' : List RC} {pa' : Option Addr} {pc' pB' : Nat} (h : StG w gS col n bs kb st P R C a) (f : Fr (onlyB gS) w w')
    (hb : Blk w' gS 84 [.pointer (some ⟨a.gd, 0, none⟩), .map (some a.bj), .slice pa' P'.length pc', .map (some a.bc), .int .i64 R'])
    (hp : w'.ownsRow pB' 76 2 (.slice pa' P'.length pc') P'.length (P'.flatMap stC)) (h5 : ∀ g, (Value.slice pa' P'.length pc').ownBlock = some g → col g = (5, 0, 0)) (hR : R' ≤ n) :
    StG w' gS col n bs kb st P' R' C { a with pa := pa', pc := pc', pB := pB' } ∧ Stp w w' col col := by
  have o : Only w w' col col 1 (onlyB gS) := ⟨f, fun q _ e => by unfold onlyB at e; rw [e, h.c1], fun _ _ => rfl⟩
  exact ⟨⟨hb, h.kDk o (by decide), h.kJm o (by decide), h.hJ, hp, h.kCm o (by decide), h.kIm o (by decide) (by decide), h.hO, h.c1, h.kc2 o (by decide), h.c3, h.c4, h5, h.klow o, ⟨h.zn.1, hR, h.zn.2.2⟩, h.zJ⟩, o.stp (by decide)⟩
/-- refused once more -/
theorem StG.ref (h : StG w gS col n bs kb st P R C a) (hR : R + 1 ≤ n) : StG (w.setCell ⟨gS, 4, none⟩ (.int .i64 ((R + 1 : Nat) : Int))) gS col n bs kb st P (R + 1) C a ∧ Stp w (w.setCell ⟨gS, 4, none⟩ (.int .i64 ((R + 1 : Nat) : Int))) col col := by
  have f : Fr (onlyB gS) w (w.setCell ⟨gS, 4, none⟩ (.int .i64 ((R + 1 : Nat) : Int))) := (Fr.refl _ _).store (onlyB_self gS)
  have hb := h.blk.set 4 (.int .i64 ((R + 1 : Nat) : Int))
  simp only [List.set_cons_succ, List.set_cons_zero] at hb
  exact h.cell f hb (ownsRow_fr h.pd f (fun g hg e => by unfold onlyB at e; subst e; have := h.c5 _ hg; rw [h.c1] at this; exact absurd this (by decide))) h.c5 hR
/-- nothing is written any more -/
theorem StG.pnil (h : StG w gS col n bs kb st P R C a) : StG (w.setCell ⟨gS, 2, none⟩ (.slice none 0 0)) gS col n bs kb st [] R C { a with pa := none, pc := 0, pB := 0 } ∧ Stp w (w.setCell ⟨gS, 2, none⟩ (.slice none 0 0)) col col := by
  have f : Fr (onlyB gS) w (w.setCell ⟨gS, 2, none⟩ (.slice none 0 0)) := (Fr.refl _ _).store (onlyB_self gS)
  have hb := h.blk.set 2 (.slice none 0 0)
  simp only [List.set_cons_succ, List.set_cons_zero] at hb
  exact h.cell (P' := []) f hb (World.ownsRow_nil _ _ _ _) (fun g hg => by simp [Value.ownBlock] at hg) h.zn.2.1
/-- one more is written: the row has grown (w1), then its place is noted -/
theorem StG.pend {r : RC} {w1 : World} {a1 : Option Addr} {c1 pB' : Nat} (h : StG w gS col n bs kb st P R C a) (f : Fr (rowB (.slice a.pa P.length a.pc)) w w1)
    (hm : Moved w (.slice a.pa P.length a.pc) (.slice a1 (P.length + 1) c1)) (hp : w1.ownsRow pB' 76 2 (.slice a1 (P.length + 1) c1) (P.length + 1) (P.flatMap stC ++ stC r)) :
    ∃ col', StG (w1.setCell ⟨gS, 2, none⟩ (.slice a1 (P.length + 1) c1)) gS col' n bs kb st (P ++ [r]) R C { a with pa := a1, pc := c1, pB := pB' } ∧ Stp w (w1.setCell ⟨gS, 2, none⟩ (.slice a1 (P.length + 1) c1)) col col' := by
  have s : ∀ q, q < w.heap.size → rowB (.slice a.pa P.length a.pc) q → (col q).1 = 5 := fun q _ hq => by rw [h.c5 q hq]
  have o : Only w w1 col (reT w.heap.size col (fun q => (Value.slice a1 (P.length + 1) c1).ownBlock = some q) (5, 0, 0)) 5 (rowB (.slice a.pa P.length a.pc)) := reT_only f s
  have hb1 := h.kBlk o (by decide)
  have h5 : ∀ g, (Value.slice a1 (P.length + 1) c1).ownBlock = some g → reT w.heap.size col (fun q => (Value.slice a1 (P.length + 1) c1).ownBlock = some q) (5, 0, 0) g = (5, 0, 0) := fun g hg =>
    reT_in hg (fun hlt => by
      rcases hm with hm | hm
      · rw [hg] at hm; exact h.c5 g hm.symm
      · rw [hg] at hm; injection hm with hm; omega)
  have f2 : Fr (onlyB gS) w1 (w1.setCell ⟨gS, 2, none⟩ (.slice a1 (P.length + 1) c1)) := (Fr.refl _ _).store (onlyB_self gS)
  have hb2 := hb1.set 2 (.slice a1 (P.length + 1) c1)
  simp only [List.set_cons_succ, List.set_cons_zero] at hb2
  have hne : ∀ g, (Value.slice a1 (P.length + 1) c1).ownBlock = some g → ¬ onlyB gS g := fun g hg e => by
    unfold onlyB at e
    have := h5 g hg
    rw [e, h.kc1 o] at this
    exact absurd this (by decide)
  have hl : (P ++ [r]).length = P.length + 1 := by simp
  have hfl : (P ++ [r]).flatMap stC = P.flatMap stC ++ stC r := by simp
  have o2 : Only w1 (w1.setCell ⟨gS, 2, none⟩ (.slice a1 (P.length + 1) c1)) (reT w.heap.size col (fun q => (Value.slice a1 (P.length + 1) c1).ownBlock = some q) (5, 0, 0)) (reT w.heap.size col (fun q => (Value.slice a1 (P.length + 1) c1).ownBlock = some q) (5, 0, 0)) 1 (onlyB gS) := ⟨f2, fun q _ e => by unfold onlyB at e; rw [e, h.kc1 o], fun _ _ => rfl⟩
  refine ⟨reT w.heap.size col (fun q => (Value.slice a1 (P.length + 1) c1).ownBlock = some q) (5, 0, 0), ⟨?_, ?_, ?_, h.hJ, ?_, ?_, ?_, h.hO, h.kc1 o, ?_, h.kc3 o, h.kc4 o, ?_, ?_, h.zn, h.zJ⟩, (o.stp (by decide)).trans (o2.stp (by decide))⟩
  · rw [hl]; exact hb2
  · exact (h.kDk o (by decide)).fr f2 (fun q hq e => by unfold onlyB at e; have := h.kc2 o (by decide) q hq; rw [e, h.kc1 o] at this; exact absurd this (by decide))
  · exact (h.kJm o (by decide)).fr f2 (fun e => by unfold onlyB at e; have := h.kc3 o; rw [e, h.kc1 o] at this; exact absurd this (by decide))
  · rw [hl, hfl]; exact ownsRow_fr hp f2 hne
  · exact (h.kCm o (by decide)).fr f2 (fun e => by unfold onlyB at e; have := h.kc4 o; rw [e, h.kc1 o] at this; exact absurd this (by decide))
  · exact fun x hx => (h.kIm o (by decide) (by decide) x hx).fr f2 (fun q hq e => by unfold onlyB at e; rw [e, h.kc1 o] at hq; rcases hq with hq | hq <;> exact absurd hq (by decide))
  · intro q hq
    obtain ⟨cs, hb⟩ := (h.kDk o (by decide)).blk
    exact h.kc2 o (by decide) q (touched_fr hb f2 (fun e => by unfold onlyB at e; have := h.kc2 o (by decide) a.gd (touched_g _ _); rw [e, h.kc1 o] at this; exact absurd this (by decide)) hq)
  · rw [hl]; exact h5
  · exact reT_lo h.low (Nat.le_trans f.size f2.size) (fun q hq => Nat.lt_of_lt_of_le (hp.lt q hq).2 f2.size)
/-- the disk -/
theorem StG.dsk {B' : Nat} {bs' : List UInt8} {kb' : Nat} (h : StG w gS col n bs kb st P R C a) (f : Fr (touched w a.gd) w w') (hd : Dk w' a.gd B' bs' kb') (ht : ∀ q, touched w' a.gd q → touched w a.gd q ∨ w.heap.size ≤ q) :
    ∃ col', StG w' gS col' n bs' kb' st P R C { a with B := B' } ∧ Stp w w' col col' := by
  have o : Only w w' col (reT w.heap.size col (touched w' a.gd) (2, 0, 0)) 2 (touched w a.gd) := reT_only f (fun q _ hq => by rw [h.c2 q hq])
  refine ⟨_, ⟨h.kBlk o (by decide), hd, h.kJm o (by decide), h.hJ, h.kPd o (by decide), h.kCm o (by decide), h.kIm o (by decide) (by decide), h.hO, h.kc1 o, ?_, h.kc3 o, h.kc4 o, h.kc5 o, ?_, h.zn, h.zJ⟩, o.stp (by decide)⟩
  · intro q hq
    exact reT_in hq (fun hlt => by
      rcases ht q hq with h1 | h1
      · exact h.c2 q h1
      · omega)
  · exact reT_lo h.low f.size (fun q hq => touched_lt hd hq)
/-- a job's place -/
theorem StG.job {j x : Int} (h : StG w gS col n bs kb st P R C a) (f : Fr (onlyB a.bj) w w') (hm : Mp Tryz.prog 3 klI mkN w' a.bj (a.J.length + 1) (withKey a.J j x)) (hl : (withKey a.J j x).length ≤ 70000) :
    StG w' gS col n bs kb (fun i => if i = j then some x else st i) P R C { a with J := withKey a.J j x } ∧ Stp w w' col col := by
  have o : Only w w' col col 3 (onlyB a.bj) := ⟨f, fun q _ e => by unfold onlyB at e; rw [e, h.c3], fun _ _ => rfl⟩
  refine ⟨⟨h.kBlk o (by decide), h.kDk o (by decide), hm.tight (Nat.le_refl _), ?_, h.kPd o (by decide), h.kCm o (by decide), h.kIm o (by decide) (by decide), h.hO, h.c1, h.kc2 o (by decide), h.c3, h.c4, h.c5, h.klow o, h.zn, hl⟩, o.stp (by decide)⟩
  intro i
  by_cases hi : i = j
  · subst hi; rw [look_withKey_same, if_pos rfl]
  · rw [look_withKey_other _ _ hi, if_neg hi]; exact h.hJ i
theorem withKey_len {L : List (Int × Int)} {j x : Int} : (withKey L j x).length ≤ L.length + 1 := by
  unfold withKey without
  rw [List.length_cons]
  exact Nat.succ_le_succ (List.length_filter_le _ _)
theorem withKey_old {L : List (Int × Int)} {j x y : Int} (hn : (L.map (·.1)).Nodup) (h : look L j = some y) : (withKey L j x).length = L.length := by
  have := length_without hn j
  rw [h] at this
  unfold withKey
  rw [List.length_cons]
  simpa using this
/-- no job has a place any more -/
theorem StG.jclear (h : StG w gS col n bs kb st P R C a) (f : Fr (onlyB a.bj) w w') (hm : Mp Tryz.prog 3 klI mkN w' a.bj 0 []) :
    StG w' gS col n bs kb (fun _ => none) P R C { a with J := [] } ∧ Stp w w' col col := by
  have o : Only w w' col col 3 (onlyB a.bj) := ⟨f, fun q _ e => by unfold onlyB at e; rw [e, h.c3], fun _ _ => rfl⟩
  exact ⟨⟨h.kBlk o (by decide), h.kDk o (by decide), hm, fun j => rfl, h.kPd o (by decide), h.kCm o (by decide), h.kIm o (by decide) (by decide), h.hO, h.c1, h.kc2 o (by decide), h.c3, h.c4, h.c5, h.klow o, h.zn, Nat.zero_le _⟩, o.stp (by decide)⟩
/-- nothing came any more -/
theorem StG.cclear (h : StG w gS col n bs kb st P R C a) (f : Fr (onlyB a.bc) w w') (hm : Mp Tryz.prog 3 klI mkB w' a.bc 0 []) :
    StG w' gS col n bs kb st P R (fun _ _ => none) { a with O := [] } ∧ Stp w w' col col := by
  have o : Only w w' col col 4 (onlyB a.bc) := ⟨f, fun q _ e => by unfold onlyB at e; rw [e, h.c4], fun _ _ => rfl⟩
  exact ⟨⟨h.kBlk o (by decide), h.kDk o (by decide), h.kJm o (by decide), h.hJ, h.kPd o (by decide), hm, fun x hx => (by cases hx), fun _ _ _ => rfl, h.c1, h.kc2 o (by decide), h.c3, h.c4, h.c5, h.klow o, ⟨Nat.zero_le _, h.zn.2⟩, h.zJ⟩, o.stp (by decide)⟩
theorem ou_without (O : List (Int × (Nat × List (Int × Nat)))) (j : Int) : without (ouL O) j = ouL (without O j) := by
  unfold without ouL
  rw [List.filter_map]
  rfl
theorem InS.lessC {C' : Int → Int → Option PS} {j : Int} {b : Nat} {I : List (Int × Nat)} (h : InS w col n C j b I) (hC : ∀ t, C' j t = C j t) : InS w col n C' j b I :=
  ⟨h.mp, h.c6, fun q hq => by rw [hC]; exact h.am q hq, h.zn⟩
/-- what came of a job is let go -/
theorem StG.cdel {j : Int} (h : StG w gS col n bs kb st P R C a) (f : Fr (onlyB a.bc) w w') (hm : Mp Tryz.prog 3 klI mkB w' a.bc a.O.length (without (ouL a.O) j)) :
    StG w' gS col n bs kb st P R (fun i t => if i = j then none else C i t) { a with O := without a.O j } ∧ Stp w w' col col := by
  have o : Only w w' col col 4 (onlyB a.bc) := ⟨f, fun q _ e => by unfold onlyB at e; rw [e, h.c4], fun _ _ => rfl⟩
  have hle : (without a.O j).length ≤ a.O.length := by unfold without; exact List.length_filter_le _ _
  refine ⟨⟨h.kBlk o (by decide), h.kDk o (by decide), h.kJm o (by decide), h.hJ, h.kPd o (by decide), ?_, ?_, ?_, h.c1, h.kc2 o (by decide), h.c3, h.c4, h.c5, h.klow o, ⟨Nat.le_trans hle h.zn.1, h.zn.2⟩, h.zJ⟩, o.stp (by decide)⟩
  · rw [ou_without] at hm
    exact hm.tight (by unfold ouL; rw [List.length_map]; exact Nat.le_refl _)
  · intro x hx
    obtain ⟨h1, h2⟩ := mem_without.1 hx
    exact (h.kIm o (by decide) (by decide) x h1).lessC (fun t => if_neg h2)
  · intro i t hi
    show (if i = j then none else C i t) = none
    by_cases hj : i = j
    · rw [if_pos hj]
    · rw [if_neg hj]
      refine h.hO i t ?_
      rw [← hi]
      show _ = (look (without a.O j) i).bind _
      rw [look_without_other _ hj]
end
end Go.Proofs.YtdmhnoffejjpnaaGreatDoor
end

section
set_option linter.unusedVariables false
set_option linter.unusedSimpArgs false
set_option maxRecDepth 100000
namespace Go.Proofs.YtdmhnoffejjpnaaGreatDoor
open Go.RowKit Go Go.Maps Go.Lib

section
variable {w w' : World} {gS : Nat} {col col' : Nat → Tg} {n k : Nat} {bs : List UInt8} {kb : Nat} {st : Int → Option Int} {P : List RC} {R : Nat} {C : Int → Int → Option PS} {a : Sd} {S : Nat → Prop}
theorem InS.keep2 {j : Int} {b : Nat} {I : List (Int × Nat)} (h : InS w col n C j b I) (f : Fr S w w') (hc : ∀ q, q < w.heap.size → col' q = col q) (h6 : ∀ q, q < w.heap.size → S q → col q ≠ (6, j, 0)) (h7 : ∀ q, q < w.heap.size → S q → ∀ t, col q ≠ (7, j, t)) : InS w' col' n C j b I :=
  ⟨h.mp.fr f (fun e => h6 _ h.mp.lt e h.c6), by rw [hc _ h.mp.lt]; exact h.c6, fun q hq => by
    obtain ⟨s, D, h1, h2, h3⟩ := h.am q hq
    exact ⟨s, D, h1, h2.fr f (fun g hg e => h7 g (h2.lt g hg) e _ (h3 g hg)), fun g hg => by rw [hc _ (h2.lt g hg)]; exact h3 g hg⟩, h.zn⟩
theorem InS.upn {j : Int} {b m : Nat} {I : List (Int × Nat)} (h : InS w col n C j b I) (hm : n ≤ m) : InS w col m C j b I := ⟨h.mp, h.c6, h.am, Nat.le_trans h.zn hm⟩
/-- a job's map, empty -/
theorem StG.outer {j : Int} (h : StG w gS col n bs kb st P R C a) (hk : look a.O j = none) (f : Fr (onlyB a.bc) (w.alloc (.map #[] 0)) w') (hm : Mp Tryz.prog 3 klI mkB w' a.bc (a.O.length + 1) (withKey (ouL a.O) j (some w.heap.size))) (hn : n + 1 ≤ 100000) :
    ∃ col', StG w' gS col' (n + 1) bs kb st P R C { a with O := (j, (w.heap.size, [])) :: a.O } ∧ Stp w w' col col' := by
  have f0 : Fr (onlyB a.bc) w w' := ((Fr.refl (onlyB a.bc) w).alloc _).trans f (fun _ _ q => q) (fun _ _ q => q)
  have o : Only w w' col (reT w.heap.size col (onlyB w.heap.size) (6, j, 0)) 4 (onlyB a.bc) := reT_only f0 (fun q _ e => by unfold onlyB at e; rw [e, h.c4])
  have hsz : w.heap.size + 1 ≤ w'.heap.size := by have := f.size; unfold World.alloc at this; simpa using this
  refine ⟨_, ⟨h.kBlk o (by decide), h.kDk o (by decide), h.kJm o (by decide), h.hJ, h.kPd o (by decide), ?_, ?_, ?_, h.kc1 o, h.kc2 o (by decide), h.kc3 o, h.kc4 o, h.kc5 o, ?_, ?_, h.zJ⟩, o.stp (by decide)⟩
  · have e : withKey (ouL a.O) j (some w.heap.size) = ouL ((j, (w.heap.size, [])) :: a.O) := by
      unfold withKey
      rw [ou_without, without_none hk]
      rfl
    rw [e] at hm
    exact hm
  · intro x hx
    rcases List.mem_cons.1 hx with rfl | hx
    · refine ⟨(Mp.made w).fr f (fun e => ?_), reT_in rfl (fun q => absurd q (Nat.lt_irrefl _)), fun q hq => (by cases hq), Nat.zero_le _⟩
      unfold onlyB at e
      have := h.cm.lt
      omega
    · exact (h.kIm o (by decide) (by decide) x hx).upn (Nat.le_succ n)
  · intro i t hi
    by_cases hj : i = j
    · subst hj
      refine h.hO i t ?_
      rw [hk]; rfl
    · refine h.hO i t ?_
      rw [← hi]
      show _ = (look ((j, (w.heap.size, [])) :: a.O) i).bind _
      unfold look
      rw [List.find?_cons]
      simp only [show decide (j = i) = false by simp; exact fun q => hj q.symm]
  · exact reT_lo h.low f0.size (fun q hq => by unfold onlyB at hq; omega)
  · obtain ⟨z1, z2, z3⟩ := h.zn
    refine ⟨?_, by omega, hn⟩
    rw [List.length_cons]; omega
/-- the assembler of a job and a trace -/
theorem StG.asm {j t : Int} {b p : Nat} {I : List (Int × Nat)} (h : StG w gS col n bs kb st P R C a) (hk : look a.O j = some (b, I)) (ht : look I t = some p) : ∃ s D, C j t = some s ∧ AsmZ w p D s ∧ ∀ g, D g → col g = (7, j, t) :=
  (h.im _ (look_some hk)).am _ (look_some ht)
def setO (O : List (Int × (Nat × List (Int × Nat)))) (j : Int) (x : Nat × List (Int × Nat)) : List (Int × (Nat × List (Int × Nat))) := O.map fun o => if o.1 = j then (j, x) else o
theorem setO_len (O : List (Int × (Nat × List (Int × Nat)))) (j : Int) (x : Nat × List (Int × Nat)) : (setO O j x).length = O.length := by unfold setO; simp
theorem setO_ou {O : List (Int × (Nat × List (Int × Nat)))} {j : Int} {b : Nat} {I I' : List (Int × Nat)} (hn : (O.map (·.1)).Nodup) (hk : look O j = some (b, I)) : ouL (setO O j (b, I')) = ouL O := by
  unfold ouL setO
  rw [List.map_map]
  refine List.map_congr_left fun o ho => ?_
  simp only [Function.comp]
  by_cases h : o.1 = j
  · rw [if_pos h]
    have := look_mem hn (k := o.1) (x := o.2) ho
    rw [h, hk] at this
    injection this with this
    rw [← this, h]
  · rw [if_neg h]
theorem setO_other (O : List (Int × (Nat × List (Int × Nat)))) {j : Int} (x : Nat × List (Int × Nat)) {i : Int} (hi : i ≠ j) : look (setO O j x) i = look O i := by
  induction O with
  | nil => rfl
  | cons o r ih =>
    unfold look setO at ih ⊢
    rw [List.map_cons, List.find?_cons, List.find?_cons]
    by_cases h : o.1 = j
    · simp only [h, if_true, show decide (j = i) = false by simp; exact fun q => hi q.symm]
      exact ih
    · simp only [h, if_false]
      by_cases h2 : o.1 = i
      · simp [h2]
      · simp only [h2, decide_false]
        exact ih
theorem setO_self {O : List (Int × (Nat × List (Int × Nat)))} {j : Int} {x y : Nat × List (Int × Nat)} (hk : look O j = some y) : look (setO O j x) j = some x := by
  induction O with
  | nil => unfold look at hk; simp at hk
  | cons o r ih =>
    unfold look setO at ih ⊢
    unfold look at hk
    rw [List.map_cons, List.find?_cons]
    rw [List.find?_cons] at hk
    by_cases h : o.1 = j
    · simp [h]
    · simp only [h, if_false, decide_false] at hk ⊢
      exact ih hk
theorem setO_look {O : List (Int × (Nat × List (Int × Nat)))} {j : Int} {x y : Nat × List (Int × Nat)} (hk : look O j = some y) (i : Int) : look (setO O j x) i = if i = j then some x else look O i := by
  by_cases hi : i = j
  · rw [if_pos hi, hi]; exact setO_self hk
  · rw [if_neg hi]; exact setO_other O x hi
theorem mem_setO {O : List (Int × (Nat × List (Int × Nat)))} {j : Int} {x : Nat × List (Int × Nat)} {o : Int × (Nat × List (Int × Nat))} (h : o ∈ setO O j x) : o = (j, x) ∨ (o ∈ O ∧ o.1 ≠ j) := by
  unfold setO at h
  obtain ⟨q, hq, rfl⟩ := List.mem_map.1 h
  by_cases hj : q.1 = j
  · rw [if_pos hj]; exact Or.inl rfl
  · rw [if_neg hj]; exact Or.inr ⟨hq, hj⟩
theorem ouL_nodup {O : List (Int × (Nat × List (Int × Nat)))} (h : ((ouL O).map (·.1)).Nodup) : (O.map (·.1)).Nodup := by
  unfold ouL at h
  rw [List.map_map] at h
  exact h
theorem inL_nodup {I : List (Int × Nat)} (h : ((inL I).map (·.1)).Nodup) : (I.map (·.1)).Nodup := by
  unfold inL at h
  rw [List.map_map] at h
  exact h
/-- a new assembler -/
theorem StG.inner {j t : Int} {b p : Nat} {I : List (Int × Nat)} {w1 : World} {D : Nat → Prop} {s : PS} (h : StG w gS col n bs kb st P R C a) (hk : look a.O j = some (b, I)) (ht : look I t = none) (f1 : Fr noB w w1) (hz : AsmZ w1 p D s) (hD : ∀ g, D g → w.heap.size ≤ g)
    (f : Fr (onlyB b) w1 w') (hm : Mp Tryz.prog 3 klI mkP w' b (I.length + 1) (withKey (inL I) t (some p))) (hn : n + 1 ≤ 100000) :
    ∃ col', StG w' gS col' (n + 1) bs kb st P R (fun i u => if i = j ∧ u = t then some s else C i u) { a with O := setO a.O j (b, (t, p) :: I) } ∧ Stp w w' col col' := by
  have hI := h.im _ (look_some hk)
  have f0 : Fr (onlyB b) w w' := f1.trans f (fun _ _ q => False.elim q) (fun _ _ q => q)
  have hb6 : ∀ q, onlyB b q → col q = (6, j, 0) := fun q e => by unfold onlyB at e; rw [e]; exact hI.c6
  have o : Only w w' col (reT w.heap.size col D (7, j, t)) 6 (onlyB b) := reT_only f0 (fun q _ e => by rw [hb6 q e])
  have hOn := ouL_nodup h.cm.nodup
  have hbl : b < w.heap.size := hI.mp.lt
  refine ⟨_, ⟨h.kBlk o (by decide), h.kDk o (by decide), h.kJm o (by decide), h.hJ, h.kPd o (by decide), ?_, ?_, ?_, h.kc1 o, h.kc2 o (by decide), h.kc3 o, h.kc4 o, h.kc5 o, ?_, ?_, h.zJ⟩, o.stp (by decide)⟩
  · rw [setO_len, setO_ou hOn hk]
    exact h.kCm o (by decide)
  · intro x hx
    rcases mem_setO hx with rfl | ⟨hx, hj⟩
    · refine ⟨?_, ?_, ?_, ?_⟩
      · have e : withKey (inL I) t (some p) = inL ((t, p) :: I) := by
          unfold withKey
          rw [without_none (by rw [in_look, ht]; rfl)]
          rfl
        rw [e] at hm
        exact hm
      · show reT _ _ _ _ b = _
        rw [reT_lt hbl]
        exact hI.c6
      · intro q hq
        rcases List.mem_cons.1 hq with rfl | hq
        · exact ⟨s, D, by simp, hz.fr f (fun g hg e => by unfold onlyB at e; have := hD g hg; omega), fun g hg => reT_in hg (fun hlt => absurd hlt (by have := hD g hg; omega))⟩
        · obtain ⟨s', D', h1, h2, h3⟩ := hI.am q hq
          have hqt : q.1 ≠ t := look_none ht q hq
          refine ⟨s', D', ?_, h2.fr f0 (fun g hg e => ?_), fun g hg => by rw [reT_lt (h2.lt g hg)]; exact h3 g hg⟩
          · show (if j = j ∧ q.1 = t then some s else C j q.1) = some s'
            rw [if_neg (fun e => hqt e.2)]; exact h1
          · have h4 := hb6 g e
            rw [h3 g hg] at h4
            cases h4
      · show I.length + 1 ≤ n + 1
        have := hI.zn
        simp at this
        omega
    · have h1 : InS w' (reT w.heap.size col D (7, j, t)) n C x.1 x.2.1 x.2.2 := (h.im x hx).keep2 f0 (fun q hq => reT_lt hq) (fun q _ e => by rw [hb6 q e]; intro e2; injection e2 with _ e2; injection e2 with e2; exact hj e2.symm) (fun q _ e u => by rw [hb6 q e]; intro e2; cases e2)
      exact (h1.lessC (C' := fun i u => if i = j ∧ u = t then some s else C i u) (fun u => if_neg (fun e => hj e.1))).upn (Nat.le_succ n)
  · intro i u hi
    show (if i = j ∧ u = t then some s else C i u) = none
    have h2 : (look (setO a.O j (b, (t, p) :: I)) i).bind (fun x => look x.2 u) = none := hi
    rw [setO_look hk] at h2
    by_cases hj : i = j
    · rw [if_pos hj] at h2
      have h3 : look ((t, p) :: I) u = none := h2
      have hut : u ≠ t := fun e => look_none h3 (t, p) (by simp) e.symm
      rw [if_neg (fun e => hut e.2)]
      refine h.hO i u ?_
      rw [hj, hk]
      show look I u = none
      unfold look at h3 ⊢
      rw [List.find?_cons] at h3
      simp only [show decide (t = u) = false by simp; exact fun q => hut q.symm] at h3
      exact h3
    · rw [if_neg hj] at h2
      rw [if_neg (fun e => hj e.1)]
      exact h.hO i u h2
  · exact reT_lo h.low f0.size (fun q hq => Nat.lt_of_lt_of_le (hz.lt q hq) f.size)
  · obtain ⟨z1, z2, z3⟩ := h.zn
    refine ⟨?_, by omega, hn⟩
    show (setO a.O j (b, (t, p) :: I)).length ≤ n + 1
    rw [setO_len]; omega
/-- an assembler heard -/
theorem StG.heard {j t : Int} {b p : Nat} {I : List (Int × Nat)} {D D' : Nat → Prop} {s' : PS} (h : StG w gS col n bs kb st P R C a) (hk : look a.O j = some (b, I)) (ht : look I t = some p) (f : Fr D w w') (hD : ∀ g, D g → col g = (7, j, t)) (hz : AsmZ w' p D' s') (hn : ∀ g, D' g → D g ∨ w.heap.size ≤ g) :
    ∃ col', StG w' gS col' n bs kb st P R (fun i u => if i = j ∧ u = t then some s' else C i u) a ∧ Stp w w' col col' := by
  have hI := h.im _ (look_some hk)
  have o : Only w w' col (reT w.heap.size col D' (7, j, t)) 7 D := reT_only f (fun q _ e => by rw [hD q e])
  refine ⟨_, ⟨h.kBlk o (by decide), h.kDk o (by decide), h.kJm o (by decide), h.hJ, h.kPd o (by decide), h.kCm o (by decide), ?_, ?_, h.kc1 o, h.kc2 o (by decide), h.kc3 o, h.kc4 o, h.kc5 o, ?_, h.zn, h.zJ⟩, o.stp (by decide)⟩
  · intro x hx
    by_cases hj : x.1 = j
    · have hxe : x = (j, (b, I)) := by
        have := look_mem (ouL_nodup h.cm.nodup) (k := x.1) (x := x.2) hx
        rw [hj, hk] at this
        injection this with this
        rw [this, ← hj]
      subst hxe
      refine ⟨hI.mp.fr f (fun e => by have := hD _ e; rw [hI.c6] at this; cases this), by rw [reT_lt hI.mp.lt]; exact hI.c6, ?_, hI.zn⟩
      intro q hq
      by_cases hqt : q.1 = t
      · have hqp : q.2 = p := by
          have := look_mem (inL_nodup hI.mp.nodup) (k := q.1) (x := q.2) hq
          rw [hqt, ht] at this
          injection this with this
          exact this.symm
        refine ⟨s', D', ?_, by rw [hqp]; exact hz, fun g hg => ?_⟩
        · show (if j = j ∧ q.1 = t then some s' else C j q.1) = some s'
          rw [if_pos ⟨rfl, hqt⟩]
        · rw [hqt]
          exact reT_in hg (fun hlt => by
            rcases hn g hg with h1 | h1
            · exact hD g h1
            · omega)
      · obtain ⟨s1, D1, h1, h2, h3⟩ := hI.am q hq
        refine ⟨s1, D1, ?_, h2.fr f (fun g hg e => ?_), fun g hg => by rw [reT_lt (h2.lt g hg)]; exact h3 g hg⟩
        · show (if j = j ∧ q.1 = t then some s' else C j q.1) = some s1
          rw [if_neg (fun e => hqt e.2)]; exact h1
        · have h4 := hD g e
          rw [h3 g hg] at h4
          injection h4 with _ h4
          injection h4 with _ h4
          exact hqt h4
    · have h1 : InS w' (reT w.heap.size col D' (7, j, t)) n C x.1 x.2.1 x.2.2 := (h.im x hx).keep2 f (fun q hq => reT_lt hq) (fun q _ e => by rw [hD q e]; intro e2; cases e2) (fun q _ e u => by rw [hD q e]; intro e2; injection e2 with _ e2; injection e2 with e2; exact hj e2.symm)
      exact h1.lessC (fun u => if_neg (fun e => hj e.1))
  · intro i u hi
    show (if i = j ∧ u = t then some s' else C i u) = none
    by_cases hq : i = j ∧ u = t
    · obtain ⟨rfl, rfl⟩ := hq
      rw [hk] at hi
      have : look I u = none := hi
      rw [ht] at this
      cases this
    · rw [if_neg hq]; exact h.hO i u hi
  · exact reT_lo h.low f.size (fun q hq => hz.lt q hq)
end
end Go.Proofs.YtdmhnoffejjpnaaGreatDoor
end
