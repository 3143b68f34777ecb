/-
  How far a job comes, round by round: plain mathematics of its flags.
-/
import Derived.Test.YtidcoddefebdpaaGreatJobLaws
set_option linter.unusedVariables false
set_option linter.unusedSimpArgs false
set_option maxRecDepth 100000
namespace Go.Proofs.YtidcoddefebdpaaGreat
open Go.RowKit Go Go.Lib

theorem vis_at (j : JS) (i : Nat) (hi : i < 4) : j.vis.getD i vis0 = j.at i := by
  rcases (show i = 0 ∨ i = 1 ∨ i = 2 ∨ i = 3 by omega) with rfl | rfl | rfl | rfl <;> rfl
theorem which_mem {so : Vis → Bool} {j : JS} {x : Int} : x ∈ whichL so j 4 ↔ ∃ i : Nat, i < 4 ∧ x = (i : Int) ∧ (j.at i).v = true ∧ so (j.at i) = true := by
  unfold whichL
  rw [List.mem_map]
  constructor
  · rintro ⟨i, hi, rfl⟩
    obtain ⟨h1, h2⟩ := List.mem_filter.1 hi
    have h4 : i < 4 := List.mem_range.1 h1
    rw [vis_at j i h4, Bool.and_eq_true] at h2
    exact ⟨i, h4, rfl, h2.1, h2.2⟩
  · rintro ⟨i, h4, rfl, h1, h2⟩
    exact ⟨i, List.mem_filter.2 ⟨List.mem_range.2 h4, by rw [vis_at j i h4, h1, h2]; rfl⟩, rfl⟩
theorem which_nodup (so : Vis → Bool) (j : JS) : (whichL so j 4).Nodup := by
  unfold whichL
  have h0 : (List.filter (fun i => ((j.vis.getD i vis0).v && so (j.vis.getD i vis0))) (List.range 4)).Nodup := List.Nodup.sublist List.filter_sublist List.nodup_range
  unfold List.Nodup at *
  exact List.Pairwise.map Int.ofNat (fun a b (h : a ≠ b) q => h (Int.ofNat.inj q)) h0
theorem none_iff {so : Vis → Bool} {j : JS} : noneL so j = true ↔ ∀ i, i < 4 → (j.at i).v = true → so (j.at i) = false := by
  unfold noneL
  rw [decide_eq_true_eq]
  constructor
  · intro h i hi hv
    have h0 : whichL so j 4 = [] := List.eq_nil_of_length_eq_zero h
    cases hs : so (j.at i) with
    | false => rfl
    | true =>
      have : (i : Int) ∈ whichL so j 4 := which_mem.2 ⟨i, hi, rfl, hv, hs⟩
      rw [h0] at this; cases this
  · intro h
    cases hq : whichL so j 4 with
    | nil => rfl
    | cons x r =>
      have : x ∈ whichL so j 4 := by rw [hq]; exact List.mem_cons_self ..
      obtain ⟨i, hi, _, h1, h2⟩ := which_mem.1 this
      rw [h i hi h1] at h2; cases h2
theorem none_no {so : Vis → Bool} {j : JS} {i : Nat} (hi : i < 4) (h1 : (j.at i).v = true) (h2 : so (j.at i) = true) : noneL so j = false := by
  rw [Bool.eq_false_iff]
  intro q
  have := none_iff.1 q i hi h1
  rw [h2] at this; cases this

/-- the flags that marks leave -/
theorem mark_at (j : JS) (x : Int) (b : Nat) (hb : b < 4) (h0 : 0 ≤ x) (h3 : x ≤ 3) : (j.mark x).at b = if x = b ∧ x < j.ag then { j.at b with v := true } else j.at b := by
  unfold JS.mark
  by_cases h : x < j.ag
  · rw [if_pos h, at_upd j x.toNat b _ (by omega) hb]
    by_cases hx : x = b
    · rw [if_pos (by omega), if_pos ⟨hx, h⟩]
    · rw [if_neg (by omega), if_neg (fun q => hx q.1)]
  · rw [if_neg h, if_neg (fun q => h q.2)]
theorem marks_at (b : Nat) (hb : b < 4) : ∀ (xs : List Int) (j : JS), (∀ x ∈ xs, 0 ≤ x ∧ x ≤ 3) → (xs.foldl JS.mark j).at b = if (b : Int) ∈ xs ∧ b < j.ag then { j.at b with v := true } else j.at b
  | [], j, _ => by simp
  | x :: r, j, h => by
    rw [List.foldl_cons, marks_at b hb r (j.mark x) (fun y hy => h y (List.mem_cons_of_mem _ hy)), JS.mark_ag, mark_at j x b hb (h x (List.mem_cons_self ..)).1 (h x (List.mem_cons_self ..)).2]
    by_cases h1 : (b : Int) ∈ r ∧ b < j.ag
    · have h2 : (b : Int) ∈ x :: r ∧ b < j.ag := ⟨List.mem_cons_of_mem _ h1.1, h1.2⟩
      rw [if_pos h1, if_pos h2]
      by_cases h3 : x = b ∧ x < j.ag
      · rw [if_pos h3]
      · rw [if_neg h3]
    · rw [if_neg h1]
      by_cases h2 : x = b ∧ x < j.ag
      · rw [if_pos h2, if_pos ⟨by rw [h2.1]; exact List.mem_cons_self .., by have := h2.2; rw [h2.1] at this; omega⟩]
      · rw [if_neg h2, if_neg]
        rintro ⟨q1, q2⟩
        rcases List.mem_cons.1 q1 with q | q
        · exact h2 ⟨q.symm, by rw [← q]; omega⟩
        · exact h1 ⟨q, q2⟩
theorem pin1_at (j : JS) (a b : Nat) (t : Told) (xs : List Int) (ha : a < 4) (hb : b < 4) (h : ∀ x ∈ xs, 0 ≤ x ∧ x ≤ 3) :
    ((j.pin1 a t xs).at b).v = ((j.at b).v || decide ((b : Int) ∈ xs ∧ b < j.ag)) ∧ ((j.pin1 a t xs).at b).p = ((j.at b).p || decide (b = a)) ∧ ((j.pin1 a t xs).at b).f = (j.at b).f := by
  unfold JS.pin1
  rw [marks_at b hb xs _ h, upd_ag, at_upd j a b _ ha hb]
  by_cases h1 : (b : Int) ∈ xs ∧ b < j.ag
  · rw [if_pos h1, decide_eq_true h1]
    by_cases h2 : b = a
    · rw [if_pos h2, decide_eq_true h2]; simp
    · rw [if_neg h2, decide_eq_false h2]; simp
  · rw [if_neg h1, decide_eq_false h1]
    by_cases h2 : b = a
    · rw [if_pos h2, decide_eq_true h2]; simp
    · rw [if_neg h2, decide_eq_false h2]; simp
theorem pin_at (j : JS) (a b : Nat) (t : Told) (xs : List Int) : (j.pin a t xs).at b = (j.pin1 a t xs).at b := by
  unfold JS.pin
  split
  · exact ph_at _ _ _
  · rfl
theorem pin_ph (j : JS) (a : Nat) (t : Told) (xs : List Int) : (j.pin a t xs).ph = if noneL (fun v => !v.p) (j.pin1 a t xs) = true then 2 else j.ph := by
  unfold JS.pin
  by_cases h : noneL (fun v => !v.p) (j.pin1 a t xs) = true
  · rw [if_pos h, if_pos h]
  · rw [if_neg h, if_neg h]; exact pin1_ph j a t xs
theorem none_at {so : Vis → Bool} {j j' : JS} (h : ∀ b, b < 4 → j.at b = j'.at b) : noneL so j = noneL so j' := by
  rw [Bool.eq_iff_iff, none_iff, none_iff]
  constructor
  · intro q i hi; rw [← h i hi]; exact q i hi
  · intro q i hi; rw [h i hi]; exact q i hi
theorem pin_none (j : JS) (a : Nat) (t : Told) (xs : List Int) : noneL (fun v => !v.p) (j.pin a t xs) = noneL (fun v => !v.p) (j.pin1 a t xs) := none_at (fun b _ => pin_at j a b t xs)

/-- what holds of a job of n agents that pins, or ships -/
structure EInv (n : Nat) (j : JS) : Prop where
  ag : j.ag = n
  vn : ∀ b, b < 4 → (j.at b).v = true → b < n
  pv : ∀ b, b < 4 → (j.at b).p = true → (j.at b).v = true
  f0 : ∀ b, b < 4 → (j.at b).f = false
  one : ∃ b, b < 4 ∧ (j.at b).v = true
def bn (b : Bool) : Nat := if b then 1 else 0
def JS.cnt (j : JS) : Nat := bn (j.at 0).p + bn (j.at 1).p + bn (j.at 2).p + bn (j.at 3).p
theorem bn_le (b : Bool) : bn b ≤ 1 := by cases b <;> decide
theorem bn_false {b : Bool} (h : b = false) : bn b = 0 := by subst h; rfl
theorem cnt_le {n : Nat} {j : JS} (h : EInv n j) (hn : n ≤ 4) : j.cnt ≤ n := by
  have k : ∀ b, b < 4 → n ≤ b → bn (j.at b).p = 0 := fun b hb hnb => by
    cases hp : (j.at b).p with
    | false => rfl
    | true => have := h.vn b hb (h.pv b hb hp); omega
  have b0 := bn_le (j.at 0).p
  have b1 := bn_le (j.at 1).p
  have b2 := bn_le (j.at 2).p
  have b3 := bn_le (j.at 3).p
  have k0 := k 0 (by omega)
  have k1 := k 1 (by omega)
  have k2 := k 2 (by omega)
  have k3 := k 3 (by omega)
  unfold JS.cnt
  rcases (show n = 0 ∨ n = 1 ∨ n = 2 ∨ n = 3 ∨ n = 4 by omega) with rfl | rfl | rfl | rfl | rfl
  · have := k0 (by omega); have := k1 (by omega); have := k2 (by omega); have := k3 (by omega); omega
  · have := k1 (by omega); have := k2 (by omega); have := k3 (by omega); omega
  · have := k2 (by omega); have := k3 (by omega); omega
  · have := k3 (by omega); omega
  · omega
theorem cnt_lt {n : Nat} {j : JS} (h : EInv n j) (hn : n ≤ 4) {b : Nat} (hb : b < 4) (hv : (j.at b).v = true) (hp : (j.at b).p = false) : j.cnt + 1 ≤ n := by
  have hbn := h.vn b hb hv
  have k : ∀ b, b < 4 → n ≤ b → bn (j.at b).p = 0 := fun b hb hnb => by
    cases hp : (j.at b).p with
    | false => rfl
    | true => have := h.vn b hb (h.pv b hb hp); omega
  have b0 := bn_le (j.at 0).p
  have b1 := bn_le (j.at 1).p
  have b2 := bn_le (j.at 2).p
  have b3 := bn_le (j.at 3).p
  have hz := bn_false hp
  have k0 := k 0 (by omega)
  have k1 := k 1 (by omega)
  have k2 := k 2 (by omega)
  have k3 := k 3 (by omega)
  unfold JS.cnt
  rcases (show b = 0 ∨ b = 1 ∨ b = 2 ∨ b = 3 by omega) with rfl | rfl | rfl | rfl <;>
  rcases (show n = 0 ∨ n = 1 ∨ n = 2 ∨ n = 3 ∨ n = 4 by omega) with rfl | rfl | rfl | rfl | rfl <;> omega
theorem cnt_pin {j : JS} {a : Nat} {t : Told} {xs : List Int} (ha : a < 4) (h : ∀ x ∈ xs, 0 ≤ x ∧ x ≤ 3) (hp : (j.at a).p = false) : (j.pin a t xs).cnt = j.cnt + 1 := by
  have k : ∀ b, b < 4 → ((j.pin a t xs).at b).p = ((j.at b).p || decide (b = a)) := fun b hb => by rw [pin_at]; exact (pin1_at j a b t xs ha hb h).2.1
  unfold JS.cnt
  rw [k 0 (by omega), k 1 (by omega), k 2 (by omega), k 3 (by omega)]
  rcases (show a = 0 ∨ a = 1 ∨ a = 2 ∨ a = 3 by omega) with rfl | rfl | rfl | rfl <;> rw [hp] <;> simp [bn] <;> omega
theorem EInv.pin {n : Nat} {j : JS} (h : EInv n j) {a : Nat} {t : Told} {xs : List Int} (ha : a < 4) (hx : ∀ x ∈ xs, 0 ≤ x ∧ x ≤ 3) (hv : (j.at a).v = true) : EInv n (j.pin a t xs) := by
  have k : ∀ b, b < 4 → _ := fun b hb => pin1_at j a b t xs ha hb hx
  refine ⟨by rw [pin_ag]; exact h.ag, fun b hb q => ?_, fun b hb q => ?_, fun b hb => ?_, ?_⟩
  · rw [pin_at, (k b hb).1] at q
    simp only [Bool.or_eq_true, decide_eq_true_eq] at q
    rcases q with q | q
    · exact h.vn b hb q
    · have := q.2; rw [h.ag] at this; exact this
  · rw [pin_at] at q ⊢
    rw [(k b hb).2.1] at q
    rw [(k b hb).1]
    simp only [Bool.or_eq_true, decide_eq_true_eq] at q ⊢
    rcases q with q | q
    · exact Or.inl (h.pv b hb q)
    · subst q; exact Or.inl hv
  · rw [pin_at, (k b hb).2.2]; exact h.f0 b hb
  · obtain ⟨b, hb, q⟩ := h.one
    exact ⟨b, hb, by rw [pin_at, (k b hb).1, q]; rfl⟩

/-- Amid a round of a job that pins: i of those that it asked have told. -/
structure I1 (n c : Nat) (L : List Int) (i : Nat) (j : JS) : Prop where
  e : EInv n j
  rest : ∀ x ∈ L.drop i, ∃ b : Nat, b < 4 ∧ x = (b : Int) ∧ (j.at b).v = true ∧ (j.at b).p = false
  cnt : j.cnt = c + i
  ph : j.ph = 1 ∨ (j.ph = 2 ∧ noneL (fun v => !v.p) j = true)
  go : i < L.length → j.ph = 1
  stop : j.ph = 1 → noneL (fun v => !v.p) j = false
theorem I1.start {n : Nat} {j : JS} (h : EInv n j) (hp : j.ph = 1) (hn : noneL (fun v => !v.p) j = false) : I1 n j.cnt (whichL (fun v => !v.p) j 4) 0 j :=
  ⟨h, fun x hx => by
    obtain ⟨b, hb, e, h1, h2⟩ := which_mem.1 (by simpa using hx)
    exact ⟨b, hb, e, h1, by simpa using h2⟩, rfl, Or.inl hp, fun _ => hp, fun _ => hn⟩
theorem I1.step {n c i : Nat} {L : List Int} {j : JS} (h : I1 n c L i j) (hL : L.Nodup) (hi : i < L.length) {b : Nat} (hb : L.getD i 0 = (b : Int)) {t : Told} {xs : List Int} (hx : ∀ x ∈ xs, 0 ≤ x ∧ x ≤ 3) :
    b < 4 ∧ (j.at b).v = true ∧ (j.at b).p = false ∧ I1 n c L (i + 1) (j.pin b t xs) := by
  have hd : L.drop i = (b : Int) :: L.drop (i + 1) := by
    rw [List.drop_eq_getElem_cons hi]
    congr 1
    rw [← hb]; simp [List.getD, hi]
  obtain ⟨b', hb4, e, hv, hp⟩ := h.rest b (by rw [hd]; exact List.mem_cons_self ..)
  obtain rfl : b = b' := by omega
  have hnd : ((b : Int) :: L.drop (i + 1)).Nodup := by rw [← hd]; exact hL.sublist (List.drop_sublist _ _)
  have k : ∀ q, q < 4 → _ := fun q hq => pin1_at j b q t xs hb4 hq hx
  have hE := h.e.pin (t := t) hb4 hx hv
  have hrest : ∀ x ∈ L.drop (i + 1), ∃ q : Nat, q < 4 ∧ x = (q : Int) ∧ ((j.pin b t xs).at q).v = true ∧ ((j.pin b t xs).at q).p = false := by
    intro x hxm
    obtain ⟨q, hq4, e', hv', hp'⟩ := h.rest x (by rw [hd]; exact List.mem_cons_of_mem _ hxm)
    refine ⟨q, hq4, e', ?_, ?_⟩
    · rw [pin_at, (k q hq4).1, hv']; rfl
    · have hne : q ≠ b := by
        intro e2
        subst e2
        rw [e'] at hxm
        exact (List.nodup_cons.1 hnd).1 hxm
      rw [pin_at, (k q hq4).2.1, hp']; simp [hne]
  refine ⟨hb4, hv, hp, hE, hrest, by rw [cnt_pin hb4 hx hp, h.cnt]; omega, ?_, fun hi1 => ?_, fun hph => ?_⟩
  · rw [pin_ph, pin_none]
    by_cases hn : noneL (fun v => !v.p) (j.pin1 b t xs) = true
    · rw [if_pos hn]; exact Or.inr ⟨rfl, hn⟩
    · rw [if_neg hn]; exact Or.inl (h.go hi)
  · rw [pin_ph, if_neg]
    · exact h.go hi
    · intro hn
      have hmem : L[i + 1] ∈ L.drop (i + 1) := by rw [List.drop_eq_getElem_cons hi1]; exact List.mem_cons_self ..
      obtain ⟨q, hq4, _, hv', hp'⟩ := hrest _ hmem
      rw [← pin_none] at hn
      have := none_iff.1 hn q hq4 hv'
      rw [hp'] at this
      cases this
  · rw [pin_ph] at hph
    rw [pin_none]
    by_cases hn : noneL (fun v => !v.p) (j.pin1 b t xs) = true
    · rw [if_pos hn] at hph; omega
    · exact Bool.eq_false_iff.2 hn
/-- one agent less that is not free -/
theorem which_upd_f (j : JS) (b : Nat) (hb : b < 4) : whichL (fun v => !v.f) (j.upd b fun v => { v with f := true }) 4 = (whichL (fun v => !v.f) j 4).filter (fun x => decide (x ≠ (b : Int))) := by
  unfold whichL
  rw [List.filter_map, List.filter_filter]
  congr 1
  refine List.filter_congr fun i hi => ?_
  have hi4 : i < 4 := List.mem_range.1 hi
  rw [vis_at _ i hi4, vis_at _ i hi4, at_upd j b i _ hb hi4]
  by_cases h : i = b
  · subst h; simp
  · rw [if_neg h]
    have : ((i : Int) ≠ (b : Int)) := by omega
    simp [this]
theorem unp_step {j : JS} {L : List Int} {b : Nat} (hb : b < 4) (hw : whichL (fun v => !v.f) j 4 = (b : Int) :: L) (hp : j.ph = 3) :
    whichL (fun v => !v.f) (j.unp b) 4 = L ∧ (j.unp b).st = j.st ∧ (j.unp b).ph = if L = [] then 4 else 3 := by
  have hmem : (b : Int) ∈ whichL (fun v => !v.f) j 4 := by rw [hw]; exact List.mem_cons_self ..
  obtain ⟨b', hb4, e, hv, _⟩ := which_mem.1 hmem
  obtain rfl : b = b' := by omega
  have hnd := which_nodup (fun v => !v.f) j
  rw [hw] at hnd
  have hf : whichL (fun v => !v.f) (j.upd b fun v => { v with f := true }) 4 = L := by
    rw [which_upd_f j b hb, hw, List.filter_cons_of_neg (by simp), List.filter_eq_self]
    intro x hx
    have : x ≠ (b : Int) := fun q => by subst q; exact (List.nodup_cons.1 hnd).1 hx
    simpa using this
  have hst : (j.upd b fun v => { v with f := true }).st = j.st := by unfold JS.upd; split <;> rfl
  have hn : noneL (fun v => !v.f) (j.upd b fun v => { v with f := true }) = decide (L = []) := by
    unfold noneL; rw [hf]
    cases L <;> simp
  have e1 : j.unp b = if noneL (fun v => !v.f) (j.upd b fun v => { v with f := true }) then { (j.upd b fun v => { v with f := true }) with ph := 4 } else j.upd b fun v => { v with f := true } := by unfold JS.unp; rw [if_pos ⟨hp, hv⟩]
  rw [e1, hn]
  by_cases hl : L = []
  · rw [if_pos hl, if_pos (by simpa using hl)]
    exact ⟨hf, hst, rfl⟩
  · rw [if_neg hl, if_neg (by simpa using hl)]
    exact ⟨hf, hst, by rw [upd_ph]; exact hp⟩

/-- How far a job is behind r rounds. -/
def Far (n r : Nat) (j : JS) : Prop :=
  (EInv n j ∧ j.ph = 1 ∧ noneL (fun v => !v.p) j = false ∧ r ≤ j.cnt) ∨ (EInv n j ∧ j.ph = 2 ∧ noneL (fun v => !v.p) j = true ∧ r ≤ n) ∨
  (j.ph = 3 ∧ j.st = true ∧ whichL (fun v => !v.f) j 4 ≠ [] ∧ r ≤ n + 1) ∨ (j.ph = 4 ∧ j.st = true)
theorem Far.end {n : Nat} {j : JS} (h : Far n (n + 3) j) (hn : n ≤ 4) : j.ph = 4 ∧ j.st = true := by
  rcases h with ⟨e, _, _, h⟩ | ⟨_, _, _, h⟩ | ⟨_, _, _, h⟩ | h
  · have := cnt_le e hn; omega
  · omega
  · omega
  · exact h
theorem far_new (t c : Int) (n A : Nat) (hA : A < n) (hn : n ≤ 4) : Far n 0 (JS.new 1 t c n A) := by
  have hat : ∀ b, b < 4 → (JS.new 1 t c n A).at b = if b = A then { vis0 with v := true } else vis0 := by
    intro b hb
    unfold JS.new
    rw [at_upd _ A b _ (by omega) hb]
    rcases (show b = 0 ∨ b = 1 ∨ b = 2 ∨ b = 3 by omega) with rfl | rfl | rfl | rfl <;> rfl
  refine Or.inl ⟨⟨?_, fun b hb q => ?_, fun b hb q => ?_, fun b hb => ?_, A, by omega, ?_⟩, ?_, ?_, Nat.zero_le _⟩
  · unfold JS.new; rw [upd_ag]
  · rw [hat b hb] at q
    by_cases h : b = A
    · omega
    · rw [if_neg h] at q; cases q
  · rw [hat b hb] at q
    by_cases h : b = A
    · rw [if_pos h] at q; cases q
    · rw [if_neg h] at q; cases q
  · rw [hat b hb]
    split <;> rfl
  · rw [hat A (by omega), if_pos rfl]
  · unfold JS.new; rw [upd_ph]
  · exact none_no (i := A) (by omega) (by rw [hat A (by omega), if_pos rfl]) (by rw [hat A (by omega), if_pos rfl]; rfl)
theorem I1.far {n c r : Nat} {L : List Int} {j : JS} (h : I1 n c L L.length j) (hr : r ≤ c) (hn : n ≤ 4) (hl : 0 < L.length) : Far n (r + 1) j := by
  have hc := cnt_le h.e hn
  have := h.cnt
  rcases h.ph with q | ⟨q, qn⟩
  · exact Or.inl ⟨h.e, q, h.stop q, by omega⟩
  · exact Or.inr (Or.inl ⟨h.e, q, qn, by omega⟩)
end Go.Proofs.YtidcoddefebdpaaGreat
