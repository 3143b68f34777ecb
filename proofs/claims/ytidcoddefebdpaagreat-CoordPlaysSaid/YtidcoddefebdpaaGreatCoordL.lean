/-
  The coordinator by its numbers: plain mathematics.
-/
import Derived.Test.YtidcoddefebdpaaGreatJobM
import Derived.Test.YtidcoddefebdpaaGreatEndsL
set_option linter.unusedVariables false
set_option linter.unusedSimpArgs false
set_option maxRecDepth 100000
namespace Go.Proofs.YtidcoddefebdpaaGreat
open Go.RowKit Go Go.Lib

/-- a job of the coordinator's: where it lies, its number, its numbers, what it was told -/
structure JE where
  p : Nat
  n : Int
  j : JS
  X : Nat → List Int
structure CS where
  ag : Int
  mo : Int
  la : Int
  rf : Int
  Q : List JE
def CS.at (C : CS) (t : Int) : Option JE := C.Q.find? fun e => decide (e.j.tr = t)
def CS.put (C : CS) (e : JE) : CS := { C with Q := C.Q.map fun x => if x.j.tr = e.j.tr then e else x }
def CS.drop (C : CS) (t : Int) : CS := { C with Q := C.Q.filter fun x => decide (x.j.tr ≠ t) }
def JE.hear (e : JE) (m : Ms) : JE := { e with j := e.j.hearM m, X := e.j.hearXM m e.X }
/-- a message to a job that there is -/
def CS.told (C : CS) (e : JE) (m : Ms) : CS × Option JE :=
  if (e.j.hearM m).ph = 4 then (C.drop e.j.tr, none)
  else if (e.j.hearM m).ph = e.j.ph ∧ (e.j.hearM m).all = e.j.all then (C.put (e.hear m), none)
  else (C.put (e.hear m), some (e.hear m))
/-- a trigger; pn: where the new job would lie -/
def CS.begin (C : CS) (a t c : Int) (pn : Nat) : CS × Option JE :=
  if C.ag ≤ a ∨ (C.at t).isSome = true then (C, none)
  else if C.mo ≤ C.Q.length then ({ C with rf := C.rf + 1 }, none)
  else ({ C with la := C.la + 1, Q := C.Q ++ [⟨pn, C.la + 1, JS.new (C.la + 1) t c C.ag.toNat a.toNat, fun _ => []⟩] }, some ⟨pn, C.la + 1, JS.new (C.la + 1) t c C.ag.toNat a.toNat, fun _ => []⟩)
def CS.hear (C : CS) (m : Ms) (pn : Nat) : CS × Option JE :=
  if m.ok = false then (C, none)
  else match m with
    | .trigger a t c => C.begin a t c pn
    | m => match C.at m.tj.1 with
      | none => (C, none)
      | some e => C.told e m

/-- what stays so of the numbers -/
structure CS.wf (C : CS) : Prop where
  a1 : 1 ≤ C.ag
  a4 : C.ag ≤ 4
  m1 : 1 ≤ C.mo
  m8 : C.mo ≤ 8
  len : (C.Q.length : Int) ≤ C.mo
  nt : (C.Q.map fun e => e.j.tr).Nodup
  np : (C.Q.map (·.p)).Nodup
  nn : (C.Q.map (·.n)).Pairwise (· < ·)
  nl : ∀ e ∈ C.Q, 1 ≤ e.n ∧ e.n ≤ C.la ∧ e.j.id = e.n
  inv : ∀ e ∈ C.Q, e.j.inv
  l0 : 0 ≤ C.la
theorem at_some {C : CS} {t : Int} {e : JE} (h : C.at t = some e) : e ∈ C.Q ∧ e.j.tr = t := by
  unfold CS.at at h
  exact ⟨List.mem_of_find?_eq_some h, by have := List.find?_some h; simpa using this⟩
theorem at_none {C : CS} {t : Int} (h : C.at t = none) : ∀ e ∈ C.Q, e.j.tr ≠ t := by
  unfold CS.at at h
  intro e he
  have := List.find?_eq_none.1 h e he
  simpa using this
theorem hearM_tr (j : JS) (m : Ms) : (j.hearM m).tr = j.tr ∧ (j.hearM m).id = j.id := by
  have key : (j.hearM m).two = j.two := by
    cases m with
    | pinned p =>
      show (if _ then _ else _ : JS).two = _
      split
      · exact pin_two j _ _ _
      · rfl
    | gone a t n =>
      show (if _ then _ else _ : JS).two = _
      split
      · exact gon_two j _
      · rfl
    | stored t n =>
      show (if _ then _ else _ : JS).two = _
      split
      · exact sto_two j
      · rfl
    | unpinned a t n =>
      show (if _ then _ else _ : JS).two = _
      split
      · exact unp_two j _
      · rfl
    | _ => rfl
  unfold JS.two at key
  simp only [Prod.mk.injEq] at key
  exact key
theorem hearM_inv {j : JS} (h : j.inv) (m : Ms) : (j.hearM m).inv := by
  cases m with
  | pinned p =>
    show (if _ then _ else _ : JS).inv
    split
    · rename_i hp; exact inv_pin (pinsM_facts hp).2.2.2.1 _ _ _
    · exact h
  | gone a t n =>
    show (if _ then _ else _ : JS).inv
    split
    · unfold JS.gon
      split
      · exact ⟨Or.inr (Or.inr (Or.inl rfl)), fun q => by have q' : (3 : Int) = 2 := q; omega⟩
      · exact h
    · exact h
  | stored t n =>
    show (if _ then _ else _ : JS).inv
    split
    · unfold JS.sto
      split
      · exact ⟨Or.inr (Or.inr (Or.inl rfl)), fun q => by have q' : (3 : Int) = 2 := q; omega⟩
      · exact h
    · exact h
  | unpinned a t n =>
    show (if _ then _ else _ : JS).inv
    split
    · unfold JS.unp
      split
      · rename_i hc
        split
        · exact ⟨Or.inr (Or.inr (Or.inr rfl)), fun q => by have q' : (4 : Int) = 2 := q; omega⟩
        · exact ⟨Or.inr (Or.inr (Or.inl (by rw [upd_ph]; exact hc.1))), fun q => by rw [upd_ph, hc.1] at q; omega⟩
      · exact h
    · exact h
  | _ => exact h
theorem put_map {α : Type} (C : CS) (e : JE) (f : JE → α) (h : ∀ x ∈ C.Q, x.j.tr = e.j.tr → f x = f e) : (C.put e).Q.map f = C.Q.map f := by
  unfold CS.put
  rw [List.map_map]
  refine List.map_congr_left fun x hx => ?_
  show f (if _ then _ else _) = f x
  split
  · rename_i ht; exact (h x hx ht).symm
  · rfl
theorem tr_inj {C : CS} (h : C.wf) {x e : JE} (hx : x ∈ C.Q) (he : e ∈ C.Q) (ht : x.j.tr = e.j.tr) : x = e := by
  have key : ∀ (Q : List JE), (Q.map fun e => e.j.tr).Nodup → x ∈ Q → e ∈ Q → x = e := by
    intro Q
    induction Q with
    | nil => intro _ hx; cases hx
    | cons y r ih =>
      intro hn h1 h2
      rw [List.map_cons, List.nodup_cons] at hn
      rcases List.mem_cons.1 h1 with rfl | k1
      · rcases List.mem_cons.1 h2 with rfl | k2
        · rfl
        · exact absurd (show x.j.tr ∈ r.map (fun e => e.j.tr) from List.mem_map.2 ⟨e, k2, ht.symm⟩) hn.1
      · rcases List.mem_cons.1 h2 with rfl | k2
        · exact absurd (show e.j.tr ∈ r.map (fun e => e.j.tr) from List.mem_map.2 ⟨x, k1, ht⟩) hn.1
        · exact ih hn.2 k1 k2
  exact key C.Q h.nt hx he
/-- a job's numbers put in its place -/
theorem CS.wf.put {C : CS} (h : C.wf) {e e' : JE} (he : e ∈ C.Q) (hp : e'.p = e.p) (hn : e'.n = e.n) (ht : e'.j.tr = e.j.tr) (hid : e'.j.id = e.j.id) (hi : e'.j.inv) : (C.put e').wf := by
  have hf : ∀ x ∈ C.Q, x.j.tr = e'.j.tr → x = e := fun x hx h2 => tr_inj h hx he (h2.trans ht)
  have m1 := put_map C e' (fun x => x.j.tr) (fun x hx h2 => h2)
  have m2 := put_map C e' (·.p) (fun x hx h2 => by rw [hf x hx h2, hp])
  have m3 := put_map C e' (·.n) (fun x hx h2 => by rw [hf x hx h2, hn])
  have hmem : ∀ x ∈ (C.put e').Q, x = e' ∨ x ∈ C.Q := by
    intro x hx
    unfold CS.put at hx
    obtain ⟨y, hy, rfl⟩ := List.mem_map.1 hx
    split
    · exact Or.inl rfl
    · exact Or.inr hy
  refine ⟨h.a1, h.a4, h.m1, h.m8, ?_, by rw [m1]; exact h.nt, by rw [m2]; exact h.np, by rw [m3]; exact h.nn, fun x hx => ?_, fun x hx => ?_, h.l0⟩
  · show ((C.Q.map _).length : Int) ≤ C.mo
    rw [List.length_map]; exact h.len
  · rcases hmem x hx with rfl | hx
    · have := h.nl e he
      rw [hn, hid]; exact this
    · exact h.nl x hx
  · rcases hmem x hx with rfl | hx
    · exact hi
    · exact h.inv x hx
theorem CS.wf.drop {C : CS} (h : C.wf) (t : Int) : (C.drop t).wf := by
  have hs : (C.drop t).Q.Sublist C.Q := List.filter_sublist
  have hm : ∀ x ∈ (C.drop t).Q, x ∈ C.Q := fun x hx => hs.subset hx
  refine ⟨h.a1, h.a4, h.m1, h.m8, ?_, (hs.map _).nodup h.nt, (hs.map _).nodup h.np, List.Pairwise.sublist (hs.map _) h.nn, fun x hx => h.nl x (hm x hx), fun x hx => h.inv x (hm x hx), h.l0⟩
  have := hs.length_le
  have := h.len
  show ((C.drop t).Q.length : Int) ≤ C.mo
  omega
theorem CS.wf.told {C : CS} (h : C.wf) {e : JE} (he : e ∈ C.Q) (m : Ms) : (C.told e m).1.wf := by
  have ht := hearM_tr e.j m
  have hput : (C.put (e.hear m)).wf := h.put he rfl rfl ht.1 ht.2 (hearM_inv (h.inv e he) m)
  unfold CS.told
  split
  · exact h.drop _
  · split
    · exact hput
    · exact hput
theorem CS.wf.begin {C : CS} (h : C.wf) (a t c : Int) (pn : Nat) (hp : ∀ e ∈ C.Q, e.p ≠ pn) : (C.begin a t c pn).1.wf := by
  unfold CS.begin
  split
  · exact h
  · rename_i h1
    split
    · exact ⟨h.a1, h.a4, h.m1, h.m8, h.len, h.nt, h.np, h.nn, h.nl, h.inv, h.l0⟩
    · rename_i h2
      have hnone : C.at t = none := by
        cases hq : C.at t with
        | none => rfl
        | some e => exact absurd (Or.inr (by rw [hq]; rfl)) h1
      have htn : (JS.new (C.la + 1) t c C.ag.toNat a.toNat).tr = t := (upd_two _ _ _ |> fun e => (by unfold JS.two at e; simp only [Prod.mk.injEq] at e; exact e.1))
      have hin : (JS.new (C.la + 1) t c C.ag.toNat a.toNat).id = C.la + 1 := (upd_two _ _ _ |> fun e => (by unfold JS.two at e; simp only [Prod.mk.injEq] at e; exact e.2))
      have h0 := h.l0
      refine ⟨h.a1, h.a4, h.m1, h.m8, ?_, ?_, ?_, ?_, fun x hx => ?_, fun x hx => ?_, by show 0 ≤ C.la + 1; omega⟩
      · show (((C.Q ++ [_]).length : Nat) : Int) ≤ C.mo
        rw [List.length_append]
        simp
        omega
      · show ((C.Q ++ [_]).map _).Nodup
        rw [List.map_append, List.nodup_append]
        refine ⟨h.nt, by simp, fun x hx y hy => ?_⟩
        obtain ⟨e, he, rfl⟩ := List.mem_map.1 hx
        simp at hy
        rw [hy, htn]
        exact at_none hnone e he
      · show ((C.Q ++ [_]).map _).Nodup
        rw [List.map_append, List.nodup_append]
        refine ⟨h.np, by simp, fun x hx y hy => ?_⟩
        obtain ⟨e, he, rfl⟩ := List.mem_map.1 hx
        simp at hy
        rw [hy]
        exact hp e he
      · show ((C.Q ++ [_]).map _).Pairwise _
        rw [List.map_append, List.pairwise_append]
        refine ⟨h.nn, by simp, fun x hx y hy => ?_⟩
        obtain ⟨e, he, rfl⟩ := List.mem_map.1 hx
        simp at hy
        rw [hy]
        have := h.nl e he
        omega
      · rcases List.mem_append.1 hx with hx | hx
        · have := h.nl x hx
          exact ⟨this.1, by show x.n ≤ C.la + 1; omega, this.2.2⟩
        · simp at hx
          subst hx
          exact ⟨by show 1 ≤ C.la + 1; omega, by show C.la + 1 ≤ C.la + 1; omega, hin⟩
      · rcases List.mem_append.1 hx with hx | hx
        · exact h.inv x hx
        · simp at hx
          subst hx
          exact inv_new _ _ _ _ _
theorem CS.wf.hear {C : CS} (h : C.wf) (m : Ms) (pn : Nat) (hp : ∀ e ∈ C.Q, e.p ≠ pn) : (C.hear m pn).1.wf := by
  unfold CS.hear
  split
  · exact h
  · have key : ∀ (o : Option JE), C.at m.tj.1 = o → (match o with | none => (C, none) | some e => C.told e m : CS × Option JE).1.wf := by
      intro o ho
      cases o with
      | none => exact h
      | some e => exact h.told (at_some ho).1 m
    cases m with
    | trigger a t c => exact h.begin a t c pn hp
    | _ => exact key _ rfl
end Go.Proofs.YtidcoddefebdpaaGreat
