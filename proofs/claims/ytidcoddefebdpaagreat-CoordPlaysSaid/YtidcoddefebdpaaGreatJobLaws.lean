/-
  A message that a job hears twice changes nothing more; what stays so through all messages.
-/
import Derived.Test.YtidcoddefebdpaaGreatJobAny
set_option linter.unusedVariables false
set_option linter.unusedSimpArgs false
set_option maxRecDepth 100000
namespace Go.Proofs.YtidcoddefebdpaaGreat
open Go.RowKit Go Go.Lib

/-- its trace and its number -/
def JS.two (j : JS) : Int × Int := (j.tr, j.id)
theorem upd_two (j : JS) (a : Nat) (f : Vis → Vis) : (j.upd a f).two = j.two := by unfold JS.upd; split <;> rfl
theorem mark_two (j : JS) (x : Int) : (j.mark x).two = j.two := by
  unfold JS.mark
  split
  · exact upd_two j _ _
  · rfl
theorem marks_two (xs : List Int) : ∀ j : JS, (xs.foldl JS.mark j).two = j.two := by
  induction xs with
  | nil => intro j; rfl
  | cons x r ih => intro j; rw [List.foldl_cons, ih, mark_two]
theorem pin_two (j : JS) (a : Nat) (t : Told) (xs : List Int) : (j.pin a t xs).two = j.two := by
  have h1 : (j.pin1 a t xs).two = j.two := by unfold JS.pin1; rw [marks_two, upd_two]
  unfold JS.pin
  split
  · exact h1
  · exact h1
theorem gon_two (j : JS) (a : Nat) : (j.gon a).two = j.two := by unfold JS.gon; split <;> rfl
theorem sto_two (j : JS) : j.sto.two = j.two := by unfold JS.sto; split <;> rfl
theorem unp_two (j : JS) (a : Nat) : (j.unp a).two = j.two := by
  unfold JS.unp
  split
  · split
    · exact upd_two j a _
    · exact upd_two j a _
  · rfl
theorem hear_cases (P : JS → Prop) (j : JS) (m : OpJ) (h0 : P j) (h3 : j.pins m = true → P (j.pin m.a.toNat ⟨m.a, m.t, m.j, 1, none, m.xs.length, 0, m.lo⟩ m.xs)) (h4 : bGone m.a m.t m.j = true → P (j.gon m.a.toNat)) (h8 : P j.sto) (h10 : bUnpinned m.a m.t m.j = true → P (j.unp m.a.toNat)) : P (j.hear m) := by
  by_cases hc : m.t = j.tr ∧ m.j = j.id
  · by_cases k3 : m.k = 3
    · cases hp : j.pins m with
      | false => rw [hear_3no k3 hp]; exact h0
      | true => rw [hear_3yes k3 hp hc.1 hc.2]; exact h3 hp
    · by_cases k4 : m.k = 4
      · rw [hear_4 k4 hc.1 hc.2]
        by_cases q : bGone m.a m.t m.j = true
        · rw [if_pos q]; exact h4 q
        · rw [if_neg q]; exact h0
      · by_cases k8 : m.k = 8
        · rw [hear_8 k8 hc.1 hc.2]
          by_cases q : bStored m.t m.j = true
          · rw [if_pos q]; exact h8
          · rw [if_neg q]; exact h0
        · by_cases k10 : m.k = 10
          · rw [hear_10 k10 hc.1 hc.2]
            by_cases q : bUnpinned m.a m.t m.j = true
            · rw [if_pos q]; exact h10 q
            · rw [if_neg q]; exact h0
          · rw [hear_other k3 k4 k8 k10]; exact h0
  · rw [hear_mis hc]; exact h0
theorem hear_two (j : JS) (m : OpJ) : (j.hear m).two = j.two :=
  hear_cases (fun x => x.two = j.two) j m rfl (fun _ => pin_two j _ _ _) (fun _ => gon_two j _) (sto_two j) (fun _ => unp_two j _)

theorem upd_p (j : JS) (k b : Nat) (f : Vis → Vis) (h : ∀ v, (f v).p = v.p) (hk : b < 4) : ((j.upd k f).at b).p = (j.at b).p := by
  rcases (show b = 0 ∨ b = 1 ∨ b = 2 ∨ b = 3 by omega) with rfl | rfl | rfl | rfl <;>
  (match k with
   | 0 => first | exact h _ | rfl
   | 1 => first | exact h _ | rfl
   | 2 => first | exact h _ | rfl
   | k + 3 => first | exact h _ | rfl)
theorem mark_p (j : JS) (x : Int) (b : Nat) (hb : b < 4) : ((j.mark x).at b).p = (j.at b).p := by
  unfold JS.mark
  split
  · exact upd_p j _ b _ (fun v => rfl) hb
  · rfl
theorem marks_p (xs : List Int) (b : Nat) (hb : b < 4) : ∀ j : JS, ((xs.foldl JS.mark j).at b).p = (j.at b).p := by
  induction xs with
  | nil => intro j; rfl
  | cons x r ih => intro j; rw [List.foldl_cons, ih, mark_p _ _ _ hb]
theorem pin1_p (j : JS) (a : Nat) (t : Told) (xs : List Int) (ha : a < 4) : ((j.pin1 a t xs).at a).p = true := by
  unfold JS.pin1
  rw [marks_p xs a ha, at_upd j a a _ ha ha, if_pos rfl]
theorem pin_p (j : JS) (a : Nat) (t : Told) (xs : List Int) (ha : a < 4) : ((j.pin a t xs).at a).p = true := by
  unfold JS.pin
  split
  · rw [ph_at]; exact pin1_p j a t xs ha
  · exact pin1_p j a t xs ha

theorem pins_a {j : JS} {m : OpJ} (h : j.pins m = true) : m.k = 3 ∧ m.t = j.tr ∧ m.j = j.id ∧ m.a.toNat < 4 ∧ j.ph = 1 := by
  unfold JS.pins at h
  simp only [Bool.and_eq_true, decide_eq_true_eq] at h
  obtain ⟨⟨h0, h3⟩, _⟩ := pinB_facts h.2.2.2.1
  exact ⟨h.1, h.2.1, h.2.2.1, by omega, h.2.2.2.2.1⟩

theorem gon_gon (j : JS) (a : Nat) : (j.gon a).gon a = j.gon a := by
  unfold JS.gon
  by_cases h : (j.at a).v = true ∧ (j.ph = 1 ∨ j.ph = 2)
  · rw [if_pos h, if_neg]
    rintro ⟨_, q⟩
    have q' : (3 : Int) = 1 ∨ (3 : Int) = 2 := q
    omega
  · rw [if_neg h, if_neg h]
theorem sto_sto (j : JS) : j.sto.sto = j.sto := by
  unfold JS.sto
  by_cases h : j.ph = 2 ∨ j.ph = 3
  · rw [if_pos h]
    exact if_pos (Or.inr rfl)
  · rw [if_neg h, if_neg h]
theorem upd_upd (j : JS) (a : Nat) : ((j.upd a fun v => { v with f := true }).upd a fun v => { v with f := true }) = j.upd a fun v => { v with f := true } := by
  match a with
  | 0 => rfl
  | 1 => rfl
  | 2 => rfl
  | a + 3 => rfl
theorem unp_unp (j : JS) (a : Nat) : (j.unp a).unp a = j.unp a := by
  by_cases h : j.ph = 3 ∧ (j.at a).v = true
  · have e1 : j.unp a = if noneL (fun v => !v.f) (j.upd a fun v => { v with f := true }) then { (j.upd a fun v => { v with f := true }) with ph := 4 } else j.upd a fun v => { v with f := true } := by unfold JS.unp; rw [if_pos h]
    by_cases hn : noneL (fun v => !v.f) (j.upd a fun v => { v with f := true }) = true
    · rw [e1, if_pos hn]
      unfold JS.unp
      rw [if_neg]
      rintro ⟨q, _⟩
      have q' : (4 : Int) = 3 := q
      omega
    · rw [e1, if_neg hn]
      generalize hj1 : (j.upd a fun v => { v with f := true }) = j1 at *
      have hu : (j1.upd a fun v => { v with f := true }) = j1 := by rw [← hj1]; exact upd_upd j a
      unfold JS.unp
      rw [hu, if_neg hn]
      split <;> rfl
  · have e1 : j.unp a = j := by unfold JS.unp; rw [if_neg h]
    rw [e1, e1]

/-- heard twice it changes nothing more -/
theorem hear_hear (j : JS) (m : OpJ) : (j.hear m).hear m = j.hear m := by
  by_cases hc : m.t = j.tr ∧ m.j = j.id
  · have hc1 : m.t = (j.hear m).tr ∧ m.j = (j.hear m).id := by
      have := hear_two j m
      unfold JS.two at this
      simp only [Prod.mk.injEq] at this
      rw [this.1, this.2]; exact hc
    by_cases k3 : m.k = 3
    · refine hear_3no k3 ?_
      cases hp : j.pins m with
      | false => rw [hear_3no k3 hp]; exact hp
      | true =>
        rw [hear_3yes k3 hp hc.1 hc.2]
        exact pins_false2 (Or.inr (Or.inr (pin_p j _ _ _ (pins_a hp).2.2.2.1)))
    · by_cases k4 : m.k = 4
      · rw [hear_4 k4 hc1.1 hc1.2, hear_4 k4 hc.1 hc.2]
        by_cases q : bGone m.a m.t m.j = true
        · rw [if_pos q, if_pos q]; exact gon_gon j _
        · rw [if_neg q, if_neg q]
      · by_cases k8 : m.k = 8
        · rw [hear_8 k8 hc1.1 hc1.2, hear_8 k8 hc.1 hc.2]
          by_cases q : bStored m.t m.j = true
          · rw [if_pos q, if_pos q]; exact sto_sto j
          · rw [if_neg q, if_neg q]
        · by_cases k10 : m.k = 10
          · rw [hear_10 k10 hc1.1 hc1.2, hear_10 k10 hc.1 hc.2]
            by_cases q : bUnpinned m.a m.t m.j = true
            · rw [if_pos q, if_pos q]; exact unp_unp j _
            · rw [if_neg q, if_neg q]
          · rw [hear_other k3 k4 k8 k10]
  · rw [hear_mis hc, hear_mis hc]

/-- what stays so -/
def JS.inv (j : JS) : Prop := (j.ph = 1 ∨ j.ph = 2 ∨ j.ph = 3 ∨ j.ph = 4) ∧ (j.ph = 2 → noneL (fun v => !v.p) j = true)
theorem which_ph (so : Vis → Bool) (j : JS) (x : Int) : whichL so { j with ph := x } 4 = whichL so j 4 := rfl
theorem upd_ph (j : JS) (a : Nat) (f : Vis → Vis) : (j.upd a f).ph = j.ph := by unfold JS.upd; split <;> rfl
theorem pin1_ph (j : JS) (a : Nat) (t : Told) (xs : List Int) : (j.pin1 a t xs).ph = j.ph := by
  have hm : ∀ (xs : List Int) (j : JS), (xs.foldl JS.mark j).ph = j.ph := by
    intro xs
    induction xs with
    | nil => intro j; rfl
    | cons x r ih =>
      intro j
      rw [List.foldl_cons, ih]
      unfold JS.mark
      split
      · exact upd_ph j _ _
      · rfl
  unfold JS.pin1
  rw [hm, upd_ph]
theorem inv_pin {j : JS} (h : j.ph = 1) (a : Nat) (t : Told) (xs : List Int) : (j.pin a t xs).inv := by
  unfold JS.pin
  split
  · rename_i hn
    exact ⟨Or.inr (Or.inl rfl), fun _ => hn⟩
  · have := pin1_ph j a t xs
    exact ⟨Or.inl (by rw [this]; exact h), fun q => by rw [this, h] at q; omega⟩
theorem inv_hear {j : JS} (h : j.inv) (m : OpJ) : (j.hear m).inv := by
  refine hear_cases JS.inv j m h (fun hp => inv_pin (pins_a hp).2.2.2.2 _ _ _) (fun _ => ?_) ?_ (fun _ => ?_)
  · unfold JS.gon
    split
    · exact ⟨Or.inr (Or.inr (Or.inl rfl)), fun q => by have q' : (3 : Int) = 2 := q; omega⟩
    · exact h
  · unfold JS.sto
    split
    · exact ⟨Or.inr (Or.inr (Or.inl rfl)), fun q => by have q' : (3 : Int) = 2 := q; omega⟩
    · exact h
  · unfold JS.unp
    split
    · rename_i hc
      split
      · exact ⟨Or.inr (Or.inr (Or.inr rfl)), fun q => by have q' : (4 : Int) = 2 := q; omega⟩
      · exact ⟨Or.inr (Or.inr (Or.inl (by rw [upd_ph]; exact hc.1))), fun q => by rw [upd_ph, hc.1] at q; omega⟩
    · exact h

/-- how many it says -/
def JS.says (j : JS) : Nat := if j.ph = 1 then (whichL (fun v => !v.p) j 4).length else if j.ph = 2 then (whichL (fun _ => true) j 4).length + 1 else if j.ph = 3 then (whichL (fun v => !v.f) j 4).length else 0
theorem says_any (p : Nat) (L : Nat → Prop) (j : JS) (X : Nat → List Int) (w : World) (h : JG w p L j X) (hi : j.inv) :
    Calls Tryz.prog 25 #[.pointer (some ⟨p, 0, none⟩)] w fun e w' => ∃ a c, e = .returned (.slice a j.says c) ∧ Fr noB w w' := by
  obtain ⟨j', hJ, rfl, hag, hT⟩ := h
  have w1 := which_nm (fun v => !v.p) (fun v => rfl) j'
  have w2 := which_nm (fun _ => true) (fun v => rfl) j'
  have w3 := which_nm (fun v => !v.f) (fun v => rfl) j'
  have hph : j'.nm.ph = j'.ph := rfl
  unfold JS.says
  rw [w1, w2, w3, hph]
  obtain ⟨hp, h2⟩ := hi
  rw [hph] at hp
  rcases hp with hp | hp | hp | hp
  · rw [if_pos hp]
    refine (outs_1 p j' w hJ hp).mono ?_
    rintro e w' ⟨u, rfl, o, f⟩
    obtain ⟨a, c, rfl⟩ := ownsRow_slice o
    exact ⟨a, c, rfl, f⟩
  · rw [if_neg (by omega), if_pos hp]
    have hn := h2 hp
    rw [none_nm _ (fun v => rfl)] at hn
    refine (outs_2 p j' w hJ hp hn (fun a ha => ⟨_, (hT a ha).1, by have := (hT a ha).2.1; omega⟩)).mono ?_
    rintro e w' ⟨u, pa, pc, rfl, o, f⟩
    obtain ⟨a, c, rfl⟩ := ownsRow_slice o
    exact ⟨a, c, rfl, f⟩
  · rw [if_neg (by omega), if_neg (by omega), if_pos hp]
    refine (outs_3 p j' w hJ hp).mono ?_
    rintro e w' ⟨u, rfl, o, f⟩
    obtain ⟨a, c, rfl⟩ := ownsRow_slice o
    exact ⟨a, c, rfl, f⟩
  · rw [if_neg (by omega), if_neg (by omega), if_neg (by omega)]
    refine (outs_4 p j' w hJ hp).mono ?_
    rintro e w' ⟨rfl, rfl⟩
    exact ⟨none, 0, rfl, Fr.refl _ _⟩
theorem vis_any (p : Nat) (L : Nat → Prop) (j : JS) (X : Nat → List Int) (w : World) (h : JG w p L j X) :
    Calls Tryz.prog 46 #[.pointer (some ⟨p, 0, none⟩)] w fun e w' => ∃ v, e = .returned v ∧ w'.ownsRow w.heap.size 3 1 v (whichL (fun _ => true) j 4).length (rowV (whichL (fun _ => true) j 4)) ∧ Fr noB w w' := by
  obtain ⟨j', hJ, rfl, _⟩ := h
  rw [which_nm (fun _ => true) (fun v => rfl) j']
  exact visited_any p j' w hJ
theorem phase_jg (p : Nat) (L : Nat → Prop) (j : JS) (X : Nat → List Int) (w : World) (h : JG w p L j X) : Calls Tryz.prog 18 #[.pointer (some ⟨p, 0, none⟩)] w fun e w' => e = .returned (.int .i64 j.ph) ∧ w' = w := by
  obtain ⟨j', hJ, rfl, _⟩ := h
  exact phase_any p j' w hJ
/-- A new job. -/
theorem new_any (id t c : Int) (n q : Nat) (w : World) (h : bTrigger q t c = true) (hid : 1 ≤ id) (hid2 : id ≤ 1073741824) (hq : q < n) (hn : n ≤ 4) :
    Calls Tryz.prog 71 #[.int .i64 id, .int .i64 n, .agg #[.int .i64 q, .int .i64 t, .int .i64 c]] w fun e w' => ∃ p, e = .returned (.pointer (some ⟨p, 0, none⟩)) ∧ w.heap.size ≤ p ∧ (∀ L, JG w' p L (JS.new id t c n q) (fun _ => [])) ∧ Fr noB w w' := by
  have fin : ∀ (k : Nat), k < 4 → ∀ w' p, Jb w' p (JS.new id t c n k) → ∀ L, JG w' p L (JS.new id t c n k) (fun _ => []) := by
    intro k hk w' p hJ L
    refine ⟨_, hJ, ?_, ?_, fun a ha => ?_⟩
    · rcases (show k = 0 ∨ k = 1 ∨ k = 2 ∨ k = 3 by omega) with rfl | rfl | rfl | rfl <;> rfl
    · unfold JS.new
      rw [upd_ag]; exact hn
    · have ht : ((JS.new id t c n k).at a).t = told0 := by
        unfold JS.new
        rw [upd_told _ _ _ (fun v => { v with v := true }) (fun v => rfl)]
        rcases (show a = 0 ∨ a = 1 ∨ a = 2 ∨ a = 3 by omega) with rfl | rfl | rfl | rfl <;> rfl
      rw [ht]
      exact ⟨RdI.none _, Nat.zero_le _, fun h => absurd rfl h⟩
  rcases (show q = 0 ∨ q = 1 ∨ q = 2 ∨ q = 3 by omega) with rfl | rfl | rfl | rfl
  · exact (new_0 id t c n w h hid hid2 hq hn).mono fun e w' ⟨p, h1, h2, h3, h4⟩ => ⟨p, h1, h2, fin 0 (by omega) w' p h3, h4⟩
  · exact (new_1 id t c n w h hid hid2 hq hn).mono fun e w' ⟨p, h1, h2, h3, h4⟩ => ⟨p, h1, h2, fin 1 (by omega) w' p h3, h4⟩
  · exact (new_2 id t c n w h hid hid2 hq hn).mono fun e w' ⟨p, h1, h2, h3, h4⟩ => ⟨p, h1, h2, fin 2 (by omega) w' p h3, h4⟩
  · exact (new_3 id t c n w h hid hid2 hq hn).mono fun e w' ⟨p, h1, h2, h3, h4⟩ => ⟨p, h1, h2, fin 3 (by omega) w' p h3, h4⟩
theorem inv_new (id t c : Int) (n q : Nat) : (JS.new id t c n q).inv := by
  have : (JS.new id t c n q).ph = 1 := by unfold JS.new; rw [upd_ph]
  exact ⟨Or.inl this, fun h => by rw [this] at h; omega⟩
end Go.Proofs.YtidcoddefebdpaaGreat
