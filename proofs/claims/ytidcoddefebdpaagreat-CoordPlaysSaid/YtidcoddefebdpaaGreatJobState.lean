/-
  A job by its numbers and what it was told, wherever that lies; what a message makes of it.
-/
import Derived.Test.YtidcoddefebdpaaGreatJobGone
import Derived.Test.YtidcoddefebdpaaGreatMsgIdle
import Derived.Test.YtidcoddefebdpaaGreatJobNilW
set_option linter.unusedVariables false
set_option linter.unusedSimpArgs false
set_option maxRecDepth 100000
namespace Go.Proofs.YtidcoddefebdpaaGreat
open Go.RowKit Go Go.Lib

def Told.nm (t : Told) : Told := { t with a := none, c := 0 }
def Vis.nm (v : Vis) : Vis := { v with t := v.t.nm }
def JS.nm (j : JS) : JS := { j with v0 := j.v0.nm, v1 := j.v1.nm, v2 := j.v2.nm, v3 := j.v3.nm }
theorem Told.nm_nm (t : Told) : t.nm.nm = t.nm := rfl
theorem JS.nm_nm (j : JS) : j.nm.nm = j.nm := rfl

theorem at_nm (j : JS) (k : Nat) : j.nm.at k = (j.at k).nm := by
  match k with
  | 0 => rfl
  | 1 => rfl
  | 2 => rfl
  | k + 3 => rfl
theorem upd_nm (j : JS) (k : Nat) (f g : Vis → Vis) (h : ∀ v, (f v).nm = g v.nm) : (j.upd k f).nm = j.nm.upd k g := by
  match k with
  | 0 => simp only [JS.upd, JS.nm, h]
  | 1 => simp only [JS.upd, JS.nm, h]
  | 2 => simp only [JS.upd, JS.nm, h]
  | k + 3 => simp only [JS.upd, JS.nm, h]
theorem which_nm (so : Vis → Bool) (h : ∀ v, so v.nm = so v) (j : JS) : whichL so j.nm 4 = whichL so j 4 := by
  unfold whichL
  congr 1
  refine List.filter_congr fun i hi => ?_
  have hi4 : i < 4 := List.mem_range.1 hi
  rcases (show i = 0 ∨ i = 1 ∨ i = 2 ∨ i = 3 by omega) with rfl | rfl | rfl | rfl
  · show (j.v0.nm.v && so j.v0.nm) = (j.v0.v && so j.v0); rw [h]; rfl
  · show (j.v1.nm.v && so j.v1.nm) = (j.v1.v && so j.v1); rw [h]; rfl
  · show (j.v2.nm.v && so j.v2.nm) = (j.v2.v && so j.v2); rw [h]; rfl
  · show (j.v3.nm.v && so j.v3.nm) = (j.v3.v && so j.v3); rw [h]; rfl
theorem none_nm (so : Vis → Bool) (h : ∀ v, so v.nm = so v) (j : JS) : noneL so j.nm = noneL so j := by unfold noneL; rw [which_nm so h]
theorem mark_nm (j : JS) (x : Int) : (j.mark x).nm = j.nm.mark x := by
  unfold JS.mark
  have hag : j.nm.ag = j.ag := rfl
  rw [hag]
  by_cases h : x < j.ag
  · rw [if_pos h, if_pos h]; exact upd_nm j _ _ _ (fun v => rfl)
  · rw [if_neg h, if_neg h]
theorem marks_nm (xs : List Int) : ∀ j : JS, (xs.foldl JS.mark j).nm = xs.foldl JS.mark j.nm := by
  induction xs with
  | nil => intro j; rfl
  | cons x r ih => intro j; rw [List.foldl_cons, List.foldl_cons, ih, mark_nm]
theorem pin1_nm (j : JS) (a : Nat) (t : Told) (xs : List Int) : (j.pin1 a t xs).nm = j.nm.pin1 a t.nm xs := by
  unfold JS.pin1
  rw [marks_nm, upd_nm j a _ (fun v => { v with p := true, t := t.nm }) (fun v => rfl)]
theorem ph_nm (j : JS) (x : Int) : ({ j with ph := x } : JS).nm = { j.nm with ph := x } := rfl
theorem pin_nm (j : JS) (a : Nat) (t : Told) (xs : List Int) : (j.pin a t xs).nm = j.nm.pin a t.nm xs := by
  unfold JS.pin
  rw [← pin1_nm, none_nm _ (fun v => rfl)]
  split
  · rfl
  · rfl
theorem sto_nm (j : JS) : j.sto.nm = j.nm.sto := by
  unfold JS.sto
  show (if j.ph = 2 ∨ j.ph = 3 then _ else _ : JS).nm = if j.ph = 2 ∨ j.ph = 3 then _ else _
  split <;> rfl
theorem gon_nm (j : JS) (a : Nat) : (j.gon a).nm = j.nm.gon a := by
  unfold JS.gon
  rw [at_nm]
  show (if (j.at a).v = true ∧ (j.ph = 1 ∨ j.ph = 2) then _ else _ : JS).nm = if (j.at a).v = true ∧ (j.ph = 1 ∨ j.ph = 2) then _ else _
  split <;> rfl
theorem unp_nm (j : JS) (a : Nat) : (j.unp a).nm = j.nm.unp a := by
  unfold JS.unp
  rw [at_nm, ← upd_nm j a (fun v => { v with f := true }) (fun v => { v with f := true }) (fun v => rfl), none_nm _ (fun v => rfl)]
  show (if j.ph = 3 ∧ (j.at a).v = true then _ else _ : JS).nm = if j.ph = 3 ∧ (j.at a).v = true then _ else _
  split
  · split <;> rfl
  · rfl

/-- what was told stays, whoever is marked -/
theorem upd_told (j : JS) (k b : Nat) (f : Vis → Vis) (h : ∀ v, (f v).t = v.t) : ((j.upd k f).at b).t = (j.at b).t := by
  match k, b with
  | 0, 0 => exact h _
  | 0, 1 => rfl
  | 0, 2 => rfl
  | 0, b + 3 => rfl
  | 1, 0 => rfl
  | 1, 1 => exact h _
  | 1, 2 => rfl
  | 1, b + 3 => rfl
  | 2, 0 => rfl
  | 2, 1 => rfl
  | 2, 2 => exact h _
  | 2, b + 3 => rfl
  | k + 3, 0 => rfl
  | k + 3, 1 => rfl
  | k + 3, 2 => rfl
  | k + 3, b + 3 => exact h _
theorem mark_told (j : JS) (x : Int) (b : Nat) : ((j.mark x).at b).t = (j.at b).t := by
  unfold JS.mark
  split
  · exact upd_told j _ b _ (fun v => rfl)
  · rfl
theorem marks_told (xs : List Int) (b : Nat) : ∀ j : JS, ((xs.foldl JS.mark j).at b).t = (j.at b).t := by
  induction xs with
  | nil => intro j; rfl
  | cons x r ih => intro j; rw [List.foldl_cons, ih, mark_told]
theorem ph_at (j : JS) (x : Int) (b : Nat) : ({ j with ph := x } : JS).at b = j.at b := by
  match b with
  | 0 => rfl
  | 1 => rfl
  | 2 => rfl
  | b + 3 => rfl
theorem at_upd (j : JS) (a b : Nat) (f : Vis → Vis) (ha : a < 4) (hb : b < 4) : (j.upd a f).at b = if b = a then f (j.at b) else j.at b := by
  rcases (show a = 0 ∨ a = 1 ∨ a = 2 ∨ a = 3 by omega) with rfl | rfl | rfl | rfl <;> rcases (show b = 0 ∨ b = 1 ∨ b = 2 ∨ b = 3 by omega) with rfl | rfl | rfl | rfl <;> rfl
theorem pin_told (j : JS) (a b : Nat) (t : Told) (xs : List Int) (ha : a < 4) (hb : b < 4) : ((j.pin a t xs).at b).t = if b = a then t else (j.at b).t := by
  have h1 : ((j.pin1 a t xs).at b).t = if b = a then t else (j.at b).t := by
    unfold JS.pin1
    rw [marks_told, at_upd j a b _ ha hb]
    split <;> rfl
  unfold JS.pin
  split
  · rw [ph_at]; exact h1
  · exact h1
theorem unp_told (j : JS) (a b : Nat) : ((j.unp a).at b).t = (j.at b).t := by
  unfold JS.unp
  split
  · split
    · rw [ph_at]; exact upd_told j a b _ (fun v => rfl)
    · exact upd_told j a b _ (fun v => rfl)
  · rfl
theorem st_at (j : JS) (b : Nat) : ({ j with st := true, ph := 3 } : JS).at b = j.at b := by
  match b with
  | 0 => rfl
  | 1 => rfl
  | 2 => rfl
  | b + 3 => rfl
theorem sto_told (j : JS) (b : Nat) : (j.sto.at b).t = (j.at b).t := by
  unfold JS.sto
  split
  · rw [st_at]
  · rfl
theorem gon_told (j : JS) (a b : Nat) : ((j.gon a).at b).t = (j.at b).t := by
  unfold JS.gon
  split
  · rw [ph_at]
  · rfl
theorem pin_ag (j : JS) (a : Nat) (t : Told) (xs : List Int) : (j.pin a t xs).ag = j.ag := by
  have h0 : (j.pin1 a t xs).ag = j.ag := by
    unfold JS.pin1
    rw [JS.marks_ag]
    unfold JS.upd
    split <;> rfl
  unfold JS.pin
  split
  · exact h0
  · exact h0
theorem upd_ag (j : JS) (a : Nat) (f : Vis → Vis) : (j.upd a f).ag = j.ag := by unfold JS.upd; split <;> rfl
theorem unp_ag (j : JS) (a : Nat) : (j.unp a).ag = j.ag := by
  unfold JS.unp
  split
  · split
    · exact upd_ag j a _
    · exact upd_ag j a _
  · rfl
theorem sto_ag (j : JS) : j.sto.ag = j.ag := by unfold JS.sto; split <;> rfl
theorem gon_ag (j : JS) (a : Nat) : (j.gon a).ag = j.ag := by unfold JS.gon; split <;> rfl

/-- A job at block p, whose rows of names lie from L on: j its numbers, X the names that each agent told. -/
def JG (w : World) (p : Nat) (L : Nat → Prop) (j : JS) (X : Nat → List Int) : Prop :=
  ∃ j', Jb w p j' ∧ j'.nm = j ∧ j'.ag ≤ 4 ∧ ∀ a, a < 4 → RdI w (.slice (j'.at a).t.a (j'.at a).t.n (j'.at a).t.c) (X a) ∧ (X a).length ≤ 4 ∧ (X a ≠ [] → ∀ g o, (j'.at a).t.a = some ⟨g, o, none⟩ → L g)
theorem JG.fr {w w' : World} {p : Nat} {L : Nat → Prop} {j : JS} {X : Nat → List Int} {S : Nat → Prop} (h : JG w p L j X) (hf : Fr S w w') (hp : ¬ S p) (hL : ∀ g, L g → ¬ S g) : JG w' p L j X := by
  obtain ⟨j', h1, h2, h3, h4⟩ := h
  refine ⟨j', hf.blk h1 hp, h2, h3, fun a ha => ?_⟩
  obtain ⟨k1, k2, k3⟩ := h4 a ha
  exact ⟨k1.fr1 hf (fun hne g o n c e => hL g (k3 hne g o (by injection e))), k2, k3⟩
theorem JG.monoL {w : World} {p : Nat} {L M : Nat → Prop} {j : JS} {X : Nat → List Int} (h : JG w p L j X) (hL : ∀ g, g < w.heap.size → L g → M g) : JG w p M j X := by
  obtain ⟨j', h1, h2, h3, h4⟩ := h
  refine ⟨j', h1, h2, h3, fun a ha => ?_⟩
  obtain ⟨k1, k2, k3⟩ := h4 a ha
  refine ⟨k1, k2, fun hne g o e => hL g ?_ (k3 hne g o e)⟩
  obtain ⟨b, c, e1, _, _, h5⟩ := k1
  injection e1 with e1 _ _
  obtain ⟨g', o', e2, hc⟩ := h5 0 (List.length_pos_iff.2 hne)
  rw [← e1, e] at e2
  injection e2 with e2
  injection e2 with e2 _ _
  rw [e2]
  exact lt_of_cell hc
theorem JG.frN {w w' : World} {p : Nat} {L : Nat → Prop} {j : JS} {X : Nat → List Int} (h : JG w p L j X) (hf : Fr noB w w') : JG w' p L j X := h.fr hf (fun q => q) (fun _ _ q => q)
theorem JG.ag {w : World} {p : Nat} {L : Nat → Prop} {j : JS} {X : Nat → List Int} (h : JG w p L j X) : j.ag ≤ 4 := by
  obtain ⟨j', _, h2, h3, _⟩ := h
  rw [← h2]; exact h3
theorem JG.lt {w : World} {p : Nat} {L : Nat → Prop} {j : JS} {X : Nat → List Int} (h : JG w p L j X) : p < w.heap.size := by
  obtain ⟨j', h1, _⟩ := h
  exact h1.lt

/-- does a message pin an agent? -/
def JS.pins (j : JS) (m : OpJ) : Bool := decide (m.k = 3) && (decide (m.t = j.tr) && (decide (m.j = j.id) && (pinB m.a m.t m.j 1 m.xs && (decide (j.ph = 1) && ((j.at m.a.toNat).v && !(j.at m.a.toNat).p)))))
/-- what a message makes of a job -/
def JS.hear (j : JS) (m : OpJ) : JS :=
  if m.t = j.tr ∧ m.j = j.id then
    (if m.k = 3 then (if j.pins m = true then j.pin m.a.toNat ⟨m.a, m.t, m.j, 1, none, m.xs.length, 0, m.lo⟩ m.xs else j)
     else if m.k = 4 then (if bGone m.a m.t m.j = true then j.gon m.a.toNat else j)
     else if m.k = 8 then (if bStored m.t m.j = true then j.sto else j)
     else if m.k = 10 then (if bUnpinned m.a m.t m.j = true then j.unp m.a.toNat else j)
     else j)
  else j
def JS.hearX (j : JS) (m : OpJ) (X : Nat → List Int) : Nat → List Int := if j.pins m = true then fun b => if b = m.a.toNat then m.xs else X b else X

def HearPost (p : Nat) (j : JS) (b : Bool) (t jb : Int) (R : World → World → Prop) (w w' : World) : Prop :=
  (¬ (b = true ∧ t = j.tr ∧ jb = j.id) ∧ Fr noB w w') ∨ ((b = true ∧ t = j.tr ∧ jb = j.id) ∧ Fr (onlyB p) w w' ∧ ∃ w1, Fr noB w w1 ∧ R w1 w')
/-- Hear, by what Right and Of answer. -/
theorem hear_gen (p : Nat) (j : JS) (m : Value) (b : Bool) (t jb : Int) (R : World → World → Prop) (w : World) (h : Jb w p j)
    (hr : ∀ w', Fr noB w w' → Calls Tryz.prog 33 #[m] w' fun e w'' => e = .returned (.bool b) ∧ Fr noB w' w'')
    (ho : ∀ w', Fr noB w w' → Calls Tryz.prog 54 #[m] w' fun e w'' => e = .returned (.tuple #[.int .i64 t, .int .i64 jb, .bool true]) ∧ Fr noB w' w'')
    (hk : b = true → t = j.tr → jb = j.id → ∀ w', Fr noB w w' → Calls Tryz.prog 73 #[.pointer (some ⟨p, 0, none⟩), m] w' fun e w'' => e = .returned (.tuple #[]) ∧ Fr (onlyB p) w' w'' ∧ R w' w'') :
    Calls Tryz.prog 55 #[.pointer (some ⟨p, 0, none⟩), m] w fun e w' => e = .returned (.tuple #[]) ∧ HearPost p j b t jb R w w' := by
  cases b with
  | false =>
    have hr0 := hr w (Fr.refl _ _)
    clear hr ho hk
    go_enter Tryz.func55, Tryz.ntmps55
    go_wp2_with fail
    refine hr0.mono ?_
    rintro e w1 ⟨rfl, f1⟩
    clear hr0
    go_wp2_with fail
    first | go_end0 | ((try simp only [Exit.inBlock, Exit.then]); refine bodyPost_ret (results_none rfl _ _ _) rfl ?_)
    exact ⟨rfl, Or.inl ⟨(fun q => by cases q.1), f1⟩⟩
  | true =>
    by_cases hb : t = j.tr ∧ jb = j.id
    · refine (hear_take p j m t jb R w h hr ho hb.1 hb.2 (hk rfl hb.1 hb.2)).mono ?_
      rintro e w' ⟨rfl, f, q⟩
      exact ⟨rfl, Or.inr ⟨⟨rfl, hb⟩, f, q⟩⟩
    · have hr0 := hr w (Fr.refl _ _)
      replace ho := Lib.hid ho
      clear hr hk
      by_cases ht : t = j.tr
      · have hj : (jb == j.id) = false := beq_eq_false_iff_ne.2 (fun q => hb ⟨ht, q⟩)
        have hjn := Lib.hid (fun q : jb = j.id => hb ⟨ht, q⟩)
        subst ht
        clear hb
        go_enter Tryz.func55, Tryz.ntmps55
        go_wp2_with fail
        refine hr0.mono ?_
        rintro e w1 ⟨rfl, f1⟩
        clear hr0
        go_wp2_with fail
        refine (ho.out w1 f1).mono ?_
        rintro e w2 ⟨rfl, f2⟩
        have g2 := f1.seqN f2
        have h2 := h.frN g2
        have c0 : w2.cell? ⟨p, 0, none⟩ = some (.int .i64 j.id) := h2.cell 0
        have c1 : w2.cell? ⟨p, 1, none⟩ = some (.int .i64 j.tr) := h2.cell 1
        clear ho f1 f2
        go_wp2_with fail
        first | go_end0 | ((try simp only [Exit.inBlock, Exit.then]); refine bodyPost_ret (results_none rfl _ _ _) rfl ?_)
        exact ⟨rfl, Or.inl ⟨(fun q => hjn.out q.2.2), g2⟩⟩
      · have hj : (t == j.tr) = false := beq_eq_false_iff_ne.2 ht
        replace hb := Lib.hid hb
        replace ht := Lib.hid ht
        go_enter Tryz.func55, Tryz.ntmps55
        go_wp2_with fail
        refine hr0.mono ?_
        rintro e w1 ⟨rfl, f1⟩
        clear hr0
        go_wp2_with fail
        refine (ho.out w1 f1).mono ?_
        rintro e w2 ⟨rfl, f2⟩
        have g2 := f1.seqN f2
        have h2 := h.frN g2
        have c0 : w2.cell? ⟨p, 0, none⟩ = some (.int .i64 j.id) := h2.cell 0
        have c1 : w2.cell? ⟨p, 1, none⟩ = some (.int .i64 j.tr) := h2.cell 1
        clear ho f1 f2
        go_wp2_with fail
        first | go_end0 | ((try simp only [Exit.inBlock, Exit.then]); refine bodyPost_ret (results_none rfl _ _ _) rfl ?_)
        exact ⟨rfl, Or.inl ⟨(fun q => ht.out q.2.1), g2⟩⟩
theorem right_some {m : Value} {w : World} (h : Calls Tryz.prog 52 #[m] w fun e w' => ∃ b, e = .returned (.bool b) ∧ Fr noB w w') :
    Calls Tryz.prog 33 #[m] w fun e w' => ∃ b, e = .returned (.bool b) ∧ Fr noB w w' := by
  go_enter Tryz.func33, Tryz.ntmps33
  go_wp2_with fail
  refine h.mono ?_
  rintro e w1 ⟨b, rfl, f1⟩
  clear h
  go_wp2_with fail
  go_ret
  exact ⟨b, rfl, f1⟩
theorem some_of {m : Value} {b : Bool} {w : World} (h : Calls Tryz.prog 52 #[m] w fun e w' => e = .returned (.bool b) ∧ Fr noB w w') :
    Calls Tryz.prog 52 #[m] w fun e w' => ∃ b, e = .returned (.bool b) ∧ Fr noB w w' := h.mono fun e w' ⟨h1, h2⟩ => ⟨b, h1, h2⟩
/-- Hear of what is not for it: nothing turns. -/
theorem hear_idle (p : Nat) (j : JS) (m : Value) (t jb : Int) (w : World) (h : Jb w p j)
    (hr0 : Calls Tryz.prog 33 #[m] w fun e w'' => ∃ b, e = .returned (.bool b) ∧ Fr noB w w'')
    (ho : ∀ w', Fr noB w w' → Calls Tryz.prog 54 #[m] w' fun e w'' => e = .returned (.tuple #[.int .i64 t, .int .i64 jb, .bool true]) ∧ Fr noB w' w'')
    (hk : ∀ w', Calls Tryz.prog 73 #[.pointer (some ⟨p, 0, none⟩), m] w' fun e w'' => e = .returned (.tuple #[]) ∧ Fr noB w' w'') :
    Calls Tryz.prog 55 #[.pointer (some ⟨p, 0, none⟩), m] w fun e w' => e = .returned (.tuple #[]) ∧ Fr noB w w' := by
  replace ho := Lib.hid ho
  replace hk := Lib.hid hk
  go_enter Tryz.func55, Tryz.ntmps55
  go_wp2_with fail
  refine hr0.mono ?_
  rintro e w1 ⟨b, rfl, f1⟩
  clear hr0
  cases b with
  | false =>
    go_wp2_with fail
    first | go_end0 | ((try simp only [Exit.inBlock, Exit.then]); refine bodyPost_ret (results_none rfl _ _ _) rfl ?_)
    exact ⟨rfl, f1⟩
  | true =>
    go_wp2_with fail
    refine (ho.out w1 f1).mono ?_
    rintro e w2 ⟨rfl, f2⟩
    have g2 := f1.seqN f2
    have h2 := h.frN g2
    have c0 : w2.cell? ⟨p, 0, none⟩ = some (.int .i64 j.id) := h2.cell 0
    have c1 : w2.cell? ⟨p, 1, none⟩ = some (.int .i64 j.tr) := h2.cell 1
    clear ho f1 f2
    by_cases ht : t = j.tr
    · subst ht
      by_cases hj : jb = j.id
      · subst hj
        go_wp2_with fail
        refine (hk.out w2).mono ?_
        rintro e w3 ⟨rfl, f3⟩
        have g3 := g2.seqN f3
        clear hk f3
        go_wp2_with fail
        first | go_end0 | ((try simp only [Exit.inBlock, Exit.then]); refine bodyPost_ret (results_none rfl _ _ _) rfl ?_)
        exact ⟨rfl, g3⟩
      · have hj' : (jb == j.id) = false := beq_eq_false_iff_ne.2 hj
        replace hj := Lib.hid hj
        go_wp2_with fail
        first | go_end0 | ((try simp only [Exit.inBlock, Exit.then]); refine bodyPost_ret (results_none rfl _ _ _) rfl ?_)
        exact ⟨rfl, g2⟩
    · have ht' : (t == j.tr) = false := beq_eq_false_iff_ne.2 ht
      replace ht := Lib.hid ht
      go_wp2_with fail
      first | go_end0 | ((try simp only [Exit.inBlock, Exit.then]); refine bodyPost_ret (results_none rfl _ _ _) rfl ?_)
      exact ⟨rfl, g2⟩
theorem hear_noright (p : Nat) (j : JS) (m : Value) (w : World)
    (hr0 : Calls Tryz.prog 33 #[m] w fun e w'' => e = .returned (.bool false) ∧ Fr noB w w'') :
    Calls Tryz.prog 55 #[.pointer (some ⟨p, 0, none⟩), m] w fun e w' => e = .returned (.tuple #[]) ∧ Fr noB w w' := by
  go_enter Tryz.func55, Tryz.ntmps55
  go_wp2_with fail
  refine hr0.mono ?_
  rintro e w1 ⟨rfl, f1⟩
  clear hr0
  go_wp2_with fail
  first | go_end0 | ((try simp only [Exit.inBlock, Exit.then]); refine bodyPost_ret (results_none rfl _ _ _) rfl ?_)
  exact ⟨rfl, f1⟩
end Go.Proofs.YtidcoddefebdpaaGreat
