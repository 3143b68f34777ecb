/-
  Hear, whatever the message.
-/
import Derived.Test.YtidcoddefebdpaaGreatJobState
set_option linter.unusedVariables false
set_option linter.unusedSimpArgs false
set_option maxRecDepth 100000
namespace Go.Proofs.YtidcoddefebdpaaGreat
open Go.RowKit Go Go.Lib

theorem JG.turn {w w' : World} {p : Nat} {L : Nat → Prop} {j' j'' : JS} {X : Nat → List Int} (hT : ∀ a, a < 4 → RdI w (.slice (j'.at a).t.a (j'.at a).t.n (j'.at a).t.c) (X a) ∧ (X a).length ≤ 4 ∧ (X a ≠ [] → ∀ g o, (j'.at a).t.a = some ⟨g, o, none⟩ → L g)) (hpL : ¬ L p)
    (hJ : Jb w' p j'') (hf : Fr (onlyB p) w w') (hag : j''.ag ≤ 4) (ht : ∀ a, (j''.at a).t = (j'.at a).t) : JG w' p L j''.nm X := by
  refine ⟨j'', hJ, rfl, hag, fun a ha => ?_⟩
  rw [ht a]
  obtain ⟨k1, k2, k3⟩ := hT a ha
  exact ⟨k1.fr1 hf (fun hne g o n c e q => hpL (by have := k3 hne g o (by injection e); unfold onlyB at q; rw [q] at this; exact this)), k2, k3⟩

theorem pins_k {j : JS} {m : OpJ} (h : m.k ≠ 3) : j.pins m = false := by
  unfold JS.pins
  rw [decide_eq_false h, Bool.false_and]
theorem hearX_no {j : JS} {m : OpJ} {X : Nat → List Int} (h : j.pins m = false) : j.hearX m X = X := by
  unfold JS.hearX
  rw [if_neg (by rw [h]; decide)]
theorem hear_other {j : JS} {m : OpJ} (h3 : m.k ≠ 3) (h4 : m.k ≠ 4) (h8 : m.k ≠ 8) (h10 : m.k ≠ 10) : j.hear m = j := by
  unfold JS.hear
  by_cases hc : m.t = j.tr ∧ m.j = j.id
  · rw [if_pos hc, if_neg h3, if_neg h4, if_neg h8, if_neg h10]
  · rw [if_neg hc]
theorem hear_mis {j : JS} {m : OpJ} (h : ¬ (m.t = j.tr ∧ m.j = j.id)) : j.hear m = j := if_neg h
theorem hear_3no {j : JS} {m : OpJ} (h3 : m.k = 3) (h : j.pins m = false) : j.hear m = j := by
  unfold JS.hear
  by_cases hc : m.t = j.tr ∧ m.j = j.id
  · rw [if_pos hc, if_pos h3, if_neg (by rw [h]; decide)]
  · rw [if_neg hc]
theorem pins_yes {j : JS} {m : OpJ} (h1 : m.k = 3) (h2 : m.t = j.tr) (h3 : m.j = j.id) (h4 : pinB m.a m.t m.j 1 m.xs = true) (h5 : j.ph = 1) (h6 : (j.at m.a.toNat).v = true) (h7 : (j.at m.a.toNat).p = false) : j.pins m = true := by
  unfold JS.pins
  simp only [h4, h6, h7, decide_eq_true h1, decide_eq_true h2, decide_eq_true h3, decide_eq_true h5]
  rfl
theorem hear_3yes {j : JS} {m : OpJ} (h3 : m.k = 3) (h : j.pins m = true) (ht : m.t = j.tr) (hj : m.j = j.id) : j.hear m = j.pin m.a.toNat ⟨m.a, m.t, m.j, 1, none, m.xs.length, 0, m.lo⟩ m.xs := by
  unfold JS.hear
  rw [if_pos ⟨ht, hj⟩, if_pos h3, if_pos h]
theorem hear_4 {j : JS} {m : OpJ} (h : m.k = 4) (ht : m.t = j.tr) (hj : m.j = j.id) : j.hear m = if bGone m.a m.t m.j = true then j.gon m.a.toNat else j := by
  unfold JS.hear
  rw [if_pos ⟨ht, hj⟩, if_neg (by omega), if_pos h]
theorem hear_8 {j : JS} {m : OpJ} (h : m.k = 8) (ht : m.t = j.tr) (hj : m.j = j.id) : j.hear m = if bStored m.t m.j = true then j.sto else j := by
  unfold JS.hear
  rw [if_pos ⟨ht, hj⟩, if_neg (by omega), if_neg (by omega), if_pos h]
theorem hear_10 {j : JS} {m : OpJ} (h : m.k = 10) (ht : m.t = j.tr) (hj : m.j = j.id) : j.hear m = if bUnpinned m.a m.t m.j = true then j.unp m.a.toNat else j := by
  unfold JS.hear
  rw [if_pos ⟨ht, hj⟩, if_neg (by omega), if_neg (by omega), if_neg (by omega), if_pos h]
theorem bGone_facts {a t j : Int} (h : bGone a t j = true) : 0 ≤ a ∧ a ≤ 3 := by
  unfold bGone inB at h
  simp only [Bool.and_eq_true, decide_eq_true_eq] at h
  omega
theorem pins_false {j : JS} {m : OpJ} (h : ¬ (pinB m.a m.t m.j 1 m.xs = true ∧ m.t = j.tr ∧ m.j = j.id)) : j.pins m = false := by
  rw [Bool.eq_false_iff]
  intro q
  unfold JS.pins at q
  simp only [Bool.and_eq_true, decide_eq_true_eq] at q
  exact h ⟨q.2.2.2.1, q.2.1, q.2.2.1⟩
theorem pins_false2 {j : JS} {m : OpJ} (h : j.ph ≠ 1 ∨ (j.at m.a.toNat).v = false ∨ (j.at m.a.toNat).p = true) : j.pins m = false := by
  rw [Bool.eq_false_iff]
  intro q
  unfold JS.pins at q
  simp only [Bool.and_eq_true, decide_eq_true_eq, Bool.not_eq_true'] at q
  rcases h with h | h | h
  · exact h q.2.2.2.2.1
  · rw [h] at q; exact absurd q.2.2.2.2.2.1 (by decide)
  · rw [h] at q; exact absurd q.2.2.2.2.2.2 (by decide)

theorem hear_any (p : Nat) (L : Nat → Prop) (j : JS) (X : Nat → List Int) (m : OpJ) (v : Value) (w : World) (h : JG w p L j X) (hL : ∀ g, w.heap.size ≤ g → L g) (hpL : ¬ L p) (hm : MsgV w m v)
    (hx : RdI w (.slice m.ua m.un m.uc) m.xs) (hxp : m.xs ≠ [] → ∀ g o, m.ua = some ⟨g, o, none⟩ → g ≠ p) :
    Calls Tryz.prog 55 #[.pointer (some ⟨p, 0, none⟩), v] w fun e w' => e = .returned (.tuple #[]) ∧ JG w' p L (j.hear m) (j.hearX m X) ∧ Fr (onlyB p) w w' := by
  obtain ⟨j', hJ, rfl, hag, hT⟩ := h
  have hun : m.un = m.xs.length := by
    obtain ⟨a, c, e, _⟩ := hx
    injection e
  have idle : ∀ t' jb, Calls Tryz.prog 33 #[v] w (fun e w'' => ∃ b, e = .returned (.bool b) ∧ Fr noB w w'') →
      (∀ w', Fr noB w w' → Calls Tryz.prog 54 #[v] w' fun e w'' => e = .returned (.tuple #[.int .i64 t', .int .i64 jb, .bool true]) ∧ Fr noB w' w'') →
      (∀ w', Calls Tryz.prog 73 #[.pointer (some ⟨p, 0, none⟩), v] w' fun e w'' => e = .returned (.tuple #[]) ∧ Fr noB w' w'') → (m.k ≠ 3 ∧ m.k ≠ 4 ∧ m.k ≠ 8 ∧ m.k ≠ 10) →
      Calls Tryz.prog 55 #[.pointer (some ⟨p, 0, none⟩), v] w fun e w' => e = .returned (.tuple #[]) ∧ JG w' p L (j'.nm.hear m) (j'.nm.hearX m X) ∧ Fr (onlyB p) w w' := by
    intro t' jb hr ho hk hkk
    refine (hear_idle p j' v t' jb w hJ hr ho hk).mono ?_
    rintro e w' ⟨rfl, f⟩
    rw [hear_other hkk.1 hkk.2.1 hkk.2.2.1 hkk.2.2.2, hearX_no (pins_k hkk.1)]
    have f' := f.mono (T := onlyB p) (fun _ _ q => False.elim q)
    exact ⟨rfl, JG.turn hT hpL (hJ.frN f) f' hag (fun _ => rfl), f'⟩
  have same : ∀ w', Fr noB w w' → JG w' p L j'.nm X ∧ Fr (onlyB p) w w' := fun w' f =>
    ⟨JG.turn hT hpL (hJ.frN f) (f.mono (T := onlyB p) (fun _ _ q => False.elim q)) hag (fun _ => rfl), f.mono (fun _ _ q => False.elim q)⟩
  cases hm with
  | k1 hk => exact idle m.t 0 (right_some (some_of (mayBe_Trigger m.a m.t 0 w))) (fun w' f => of_of (v := .nilIface) (of_Trigger m.a m.t 0 w')) (fun w' => take_Trigger p m.a m.t 0 w') (by omega)
  | k2 hk => exact idle m.t m.j (right_some (some_of (mayBe_Pin m.t m.j w))) (fun w' f => of_of (v := .nilIface) (of_Pin m.t m.j w')) (fun w' => take_Pin p m.t m.j w') (by omega)
  | k5 hk => exact idle m.t m.j (right_some (some_of (mayBe_Collect m.t m.j w))) (fun w' f => of_of (v := .nilIface) (of_Collect m.t m.j w')) (fun w' => take_Collect p m.t m.j w') (by omega)
  | k6 hk => exact idle m.t m.j (right_some (mayBe_Chunk0 m.a m.t m.j w)) (fun w' f => of_of (v := .nilIface) (of_Chunk m.a m.t m.j 0 1 none 0 0 w')) (fun w' => take_Chunk p m.a m.t m.j 0 1 none 0 0 w') (by omega)
  | k7 g hk hb => exact idle m.t m.j (right_some (mayBe_Manifest2 g m.a m.t m.j 0 _ m.ua m.un m.uc m.lo m.xs w hb hx)) (fun w' f => of_of (v := .nilIface) (of_Manifest m.t m.j 0 _ 2 2 w')) (fun w' => take_Manifest p m.t m.j 0 _ 2 2 w') (by omega)
  | k9 hk => exact idle m.t m.j (right_some (some_of (mayBe_Unpin m.t m.j w))) (fun w' f => of_of (v := .nilIface) (of_Unpin m.t m.j w')) (fun w' => take_Unpin p m.t m.j w') (by omega)
  | k0 hk =>
    refine (hear_noright p j' _ w (right_of ((mayBe_nil w).mono fun e w' ⟨h1, h2⟩ => ⟨h1, h2 ▸ Fr.refl _ _⟩))).mono ?_
    rintro e w' ⟨rfl, f⟩
    rw [hear_other (by omega) (by omega) (by omega) (by omega), hearX_no (pins_k (by omega))]
    exact ⟨rfl, same w' f⟩
  | k3 hk =>
    rw [hun] at hx ⊢
    refine (hear_gen p j' _ (pinB m.a m.t m.j 1 m.xs) m.t m.j (fun w1 w' => PinPost p j' m.a m.t m.j 1 m.lo m.xs w1 w') w hJ
      (fun w' f => right_of (mayBe_Pinned m.a m.t m.j 1 _ m.lo m.xs w' (hx.fr f (fun _ _ _ _ _ q => q))))
      (fun w' f => of_of (v := .nilIface) (of_Pinned m.a m.t m.j 1 m.ua m.xs.length m.uc m.lo w'))
      (fun hb _ _ w' f => take_Pinned p j' m.a m.t m.j 1 m.ua m.uc m.lo m.xs w' (hJ.frN f) (hx.fr f (fun _ _ _ _ _ q => q)) (pinB_facts hb).2.1 (pinB_facts hb).2.2 hag hxp (pinB_facts hb).1.1 (pinB_facts hb).1.2)).mono ?_
    rintro e w' ⟨rfl, ⟨hno, f⟩ | ⟨⟨hb, ht, hj⟩, f, w1, f1, hq⟩⟩
    · have hp : j'.nm.pins m = false := pins_false hno
      rw [hear_3no hk hp, hearX_no hp]
      exact ⟨rfl, same w' f⟩
    · rcases hq with ⟨hno, hJ'⟩ | ⟨⟨h1, h2, h3⟩, ta, tc, hrd, hta, hJ'⟩
      · have hp : j'.nm.pins m = false := pins_false2 (by rw [at_nm]; exact hno)
        rw [hear_3no hk hp, hearX_no hp]
        exact ⟨rfl, JG.turn hT hpL hJ' f hag (fun _ => rfl), f⟩
      · have hp : j'.nm.pins m = true := pins_yes hk ht hj hb h1 (by rw [at_nm]; exact h2) (by rw [at_nm]; exact h3)
        rw [hear_3yes (j := j'.nm) hk hp ht hj]
        obtain ⟨⟨ha0, ha3⟩, _, hl4⟩ := pinB_facts hb
        refine ⟨rfl, ⟨_, hJ', pin_nm j' _ _ _, by rw [pin_ag]; exact hag, fun b hb4 => ?_⟩, f⟩
        rw [pin_told j' _ b _ _ (by omega) hb4]
        unfold JS.hearX
        rw [if_pos hp]
        by_cases hba : b = m.a.toNat
        · rw [if_pos hba]
          simp only [if_pos hba]
          exact ⟨hrd, hl4, fun _ g o e => hL g (by have := hta g o e; have := f1.size; omega)⟩
        · rw [if_neg hba]
          simp only [if_neg hba]
          obtain ⟨k1, k2, k3⟩ := hT b hb4
          exact ⟨k1.fr1 f (fun hne g o n c e q => hpL (by have := k3 hne g o (by injection e); unfold onlyB at q; rw [q] at this; exact this)), k2, k3⟩
  | k4 hk =>
    refine (hear_gen p j' _ (bGone m.a m.t m.j) m.t m.j (fun w1 w' => Jb w' p (j'.gon m.a.toNat)) w hJ
      (fun w' f => right_of (mayBe_Gone m.a m.t m.j w')) (fun w' f => of_of (v := .nilIface) (of_Gone m.a m.t m.j w'))
      (fun hb _ _ w' f => take_Gone p j' m.a m.t m.j w' (hJ.frN f) (bGone_facts hb).1 (bGone_facts hb).2)).mono ?_
    rw [hearX_no (pins_k (by omega))]
    rintro e w' ⟨rfl, ⟨hno, f⟩ | ⟨⟨hb, ht, hj⟩, f, w1, f1, hq⟩⟩
    · have : j'.nm.hear m = j'.nm := by
        by_cases hh : m.t = j'.nm.tr ∧ m.j = j'.nm.id
        · rw [hear_4 hk hh.1 hh.2, if_neg (fun q => hno ⟨q, hh⟩)]
        · exact hear_mis hh
      rw [this]
      exact ⟨rfl, same w' f⟩
    · rw [hear_4 (j := j'.nm) hk ht hj, if_pos hb, ← gon_nm]
      exact ⟨rfl, JG.turn hT hpL hq f (by rw [gon_ag]; exact hag) (fun a => gon_told j' _ a), f⟩
  | k8 hk =>
    refine (hear_gen p j' _ (bStored m.t m.j) m.t m.j (fun w1 w' => Jb w' p j'.sto) w hJ
      (fun w' f => right_of (mayBe_Stored m.t m.j w')) (fun w' f => of_of (v := .nilIface) (of_Stored m.t m.j w'))
      (fun hb _ _ w' f => take_Stored p j' m.t m.j w' (hJ.frN f))).mono ?_
    rw [hearX_no (pins_k (by omega))]
    rintro e w' ⟨rfl, ⟨hno, f⟩ | ⟨⟨hb, ht, hj⟩, f, w1, f1, hq⟩⟩
    · have : j'.nm.hear m = j'.nm := by
        by_cases hh : m.t = j'.nm.tr ∧ m.j = j'.nm.id
        · rw [hear_8 hk hh.1 hh.2, if_neg (fun q => hno ⟨q, hh⟩)]
        · exact hear_mis hh
      rw [this]
      exact ⟨rfl, same w' f⟩
    · rw [hear_8 (j := j'.nm) hk ht hj, if_pos hb, ← sto_nm]
      exact ⟨rfl, JG.turn hT hpL hq f (by rw [sto_ag]; exact hag) (fun a => sto_told j' a), f⟩
  | k10 hk =>
    refine (hear_gen p j' _ (bUnpinned m.a m.t m.j) m.t m.j (fun w1 w' => Jb w' p (j'.unp m.a.toNat)) w hJ
      (fun w' f => right_of (mayBe_Unpinned m.a m.t m.j w')) (fun w' f => of_of (v := .nilIface) (of_Unpinned m.a m.t m.j w'))
      (fun hb _ _ w' f => take_Unpinned p j' m.a m.t m.j w' (hJ.frN f) (bUnp_facts hb).1 (bUnp_facts hb).2)).mono ?_
    rw [hearX_no (pins_k (by omega))]
    rintro e w' ⟨rfl, ⟨hno, f⟩ | ⟨⟨hb, ht, hj⟩, f, w1, f1, hq⟩⟩
    · have : j'.nm.hear m = j'.nm := by
        by_cases hh : m.t = j'.nm.tr ∧ m.j = j'.nm.id
        · rw [hear_10 hk hh.1 hh.2, if_neg (fun q => hno ⟨q, hh⟩)]
        · exact hear_mis hh
      rw [this]
      exact ⟨rfl, same w' f⟩
    · rw [hear_10 (j := j'.nm) hk ht hj, if_pos hb, ← unp_nm]
      exact ⟨rfl, JG.turn hT hpL hq f (by rw [unp_ag]; exact hag) (fun a => unp_told j' _ a), f⟩
end Go.Proofs.YtidcoddefebdpaaGreat
