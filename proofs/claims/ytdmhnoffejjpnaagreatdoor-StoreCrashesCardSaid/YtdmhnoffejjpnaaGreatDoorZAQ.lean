/-
  A map of the call's own as a list of keys with plain elements: whatever order, each key once.
  Stage 18: a name only.
  Stage 18: a name only.
  msg: a Manifest read.
  What came of a record so far: the program's, by its numbers, and where it lies.
-/
import Derived.Test.YtdmhnoffejjpnaaGreatDoorZAA
import Derived.Maps.OwnSet
import Derived.Maps.OwnOps
import Derived.Maps.RangeWalk
import Derived.Maps.Ext
import Derived.Test.YtdmhnoffejjpnaaGreatDoorZAM
section
set_option linter.unusedVariables false
set_option linter.unusedSimpArgs false
set_option maxRecDepth 100000
set_option linter.unusedSectionVars false
namespace Go.Proofs.YtdmhnoffejjpnaaGreatDoor
open Go.RowKit Go Go.Maps

section
variable {α κ : Type}
/-- how an element reads: as itself -/
noncomputable def heldR (mk : α → Value) (v : Value) : Option (DataW α × List MemPlace) :=
  open Classical in if h : ∃ x, v = mk x then some (.held h.choose, []) else none

theorem heldR_mk {mk : α → Value} (hi : ∀ x y, mk x = mk y → x = y) (x : α) : heldR mk (mk x) = some (.held x, []) := by
  unfold heldR
  have h : ∃ y, mk x = mk y := ⟨x, rfl⟩
  rw [dif_pos h]
  rw [← hi _ _ h.choose_spec]
theorem heldR_inv {mk : α → Value} {v : Value} {z : DataW α × List MemPlace} (h : heldR mk v = some z) : ∃ x, v = mk x ∧ z = (.held x, []) := by
  unfold heldR at h
  split at h
  · rename_i hx
    cases h
    exact ⟨_, hx.choose_spec, rfl⟩
  · cases h

variable [DecidableEq κ]
/-- what a list of keys has at a key -/
def look (L : List (κ × α)) (k : κ) : Option α := (L.find? fun p => decide (p.1 = k)).map (·.2)
/-- a list without a key -/
def without (L : List (κ × α)) (k : κ) : List (κ × α) := L.filter fun p => decide (p.1 ≠ k)
/-- a list with an element at a key -/
def withKey (L : List (κ × α)) (k : κ) (x : α) : List (κ × α) := (k, x) :: without L k

theorem look_some {L : List (κ × α)} {k : κ} {x : α} (h : look L k = some x) : (k, x) ∈ L := by
  unfold look at h
  obtain ⟨p, hp, rfl⟩ := Option.map_eq_some_iff.1 h
  have := List.find?_some hp
  simp at this
  subst this
  exact List.mem_of_find?_eq_some hp
theorem look_none {L : List (κ × α)} {k : κ} (h : look L k = none) : ∀ p ∈ L, p.1 ≠ k := by
  unfold look at h
  simp only [Option.map_eq_none_iff, List.find?_eq_none] at h
  intro p hp
  simpa using h p hp
theorem look_mem {L : List (κ × α)} (hn : (L.map (·.1)).Nodup) {k : κ} {x : α} (h : (k, x) ∈ L) : look L k = some x := by
  cases hl : look L k with
  | none => exact absurd rfl (look_none hl _ h)
  | some y =>
    have h2 := look_some hl
    induction L with
    | nil => simp at h
    | cons p r ih =>
      simp only [List.map_cons, List.nodup_cons] at hn
      unfold look at hl
      simp only [List.find?_cons] at hl
      by_cases hp : p.1 = k
      · simp only [hp, decide_true] at hl
        simp at hl
        rcases List.mem_cons.1 h with h3 | h3
        · rw [← h3] at hl; simp at hl; rw [hl]
        · exact absurd (List.mem_map.2 ⟨_, h3, hp.symm⟩) hn.1
      · simp only [hp, decide_false] at hl
        refine ih hn.2 ?_ hl ?_
        · rcases List.mem_cons.1 h with h3 | h3
          · rw [← h3] at hp; exact absurd rfl hp
          · exact h3
        · rcases List.mem_cons.1 h2 with h3 | h3
          · rw [← h3] at hp; exact absurd rfl hp
          · exact h3
theorem look_without_same (L : List (κ × α)) (k : κ) : look (without L k) k = none := by
  unfold look without
  simp [List.find?_filter]
theorem look_without_other (L : List (κ × α)) {k j : κ} (h : j ≠ k) : look (without L k) j = look L j := by
  unfold look without
  congr 1
  rw [List.find?_filter]
  congr 1
  funext p
  by_cases hp : p.1 = j
  · simp [hp, h]
  · simp [hp]
theorem look_withKey_same (L : List (κ × α)) (k : κ) (x : α) : look (withKey L k x) k = some x := by
  simp [look, withKey]
theorem look_withKey_other (L : List (κ × α)) {k j : κ} (x : α) (h : j ≠ k) : look (withKey L k x) j = look L j := by
  have := look_without_other L h
  unfold look at *
  unfold withKey
  rw [List.find?_cons]
  simp only [show decide (k = j) = false by simp; exact fun q => h q.symm]
  exact this
theorem nodup_without {L : List (κ × α)} (h : (L.map (·.1)).Nodup) (k : κ) : ((without L k).map (·.1)).Nodup :=
  h.sublist (List.Sublist.map _ List.filter_sublist)
theorem nodup_withKey {L : List (κ × α)} (h : (L.map (·.1)).Nodup) (k : κ) (x : α) : ((withKey L k x).map (·.1)).Nodup := by
  unfold withKey
  rw [List.map_cons, List.nodup_cons]
  refine ⟨?_, nodup_without h k⟩
  intro hm
  obtain ⟨p, hp, hk⟩ := List.mem_map.1 hm
  simp [without] at hp
  exact hp.2 hk
theorem length_without {L : List (κ × α)} (hn : (L.map (·.1)).Nodup) (k : κ) : (without L k).length + (if (look L k).isSome then 1 else 0) = L.length := by
  induction L with
  | nil => simp [without, look]
  | cons p r ih =>
    simp only [List.map_cons, List.nodup_cons] at hn
    have := ih hn.2
    by_cases hp : p.1 = k
    · have h1 : look r k = none := by
        cases hl : look r k with
        | none => rfl
        | some y => exact absurd (List.mem_map.2 ⟨_, look_some hl, hp.symm⟩) hn.1
      rw [h1] at this
      simp [without, look, hp] at this ⊢
      exact this
    · have h2 : look (p :: r) k = look r k := by simp [look, List.find?_cons, hp]
      rw [h2]
      have h3 : without (p :: r) k = p :: without r k := by simp [without, hp]
      rw [h3]
      simp only [List.length_cons]
      omega

variable {P : Program}
/-- how keys read -/
structure KeyLit (P : Program) (K : TypeId) (kv : κ → Value) (kl : κ → Lit) (ok : κ → Prop) : Prop where
  keyed : Keyed P K
  inj : ∀ a b, kl a = kl b → a = b
  isKey : ∀ a, WideAt.IsKeyLit (kl a)
  reads : ∀ a, ok a → keyOf P K (kv a) = some (kl a)

/-- Block b is a map of at most n entries: those of L. -/
def Mp (P : Program) (K : TypeId) (kl : κ → Lit) (mk : α → Value) (w : World) (b n : Nat) (L : List (κ × α)) : Prop :=
  ∃ es, w.ownsMap P K (heldR mk) b n (.map es) ∧ es.Perm (L.map fun p => (kl p.1, .held p.2)) ∧ (L.map (·.1)).Nodup

variable {K : TypeId} {kv : κ → Value} {kl : κ → Lit} {ok : κ → Prop} {mk : α → Value} {w : World} {b n : Nat} {L : List (κ × α)}

theorem Mp.made (w : World) : Mp P K kl mk (w.alloc (.map #[] 0)) w.heap.size 0 ([] : List (κ × α)) :=
  ⟨[], World.ownsMap_made _ _ _ _, by simp, by simp⟩
theorem Mp.lt (h : Mp P K kl mk w b n L) : b < w.heap.size := by obtain ⟨_, h, _⟩ := h; exact h.lt
theorem Mp.mono (h : Mp P K kl mk w b n L) {m : Nat} (hm : n ≤ m) : Mp P K kl mk w b m L := by
  obtain ⟨es, h1, h2⟩ := h; exact ⟨es, h1.mono hm, h2⟩
theorem Mp.block {w' : World} (h : Mp P K kl mk w b n L) (hb : w'.heap[b]? = w.heap[b]?) : Mp P K kl mk w' b n L := by
  obtain ⟨es, ⟨e, c, h1, h2, h3, h4⟩, h5⟩ := h
  exact ⟨es, ⟨e, c, hb.trans h1, h2, h3, h4⟩, h5⟩
theorem Mp.fr {w' : World} {S : Nat → Prop} (h : Mp P K kl mk w b n L) (hf : Fr S w w') (hn : ¬ S b) : Mp P K kl mk w' b n L :=
  h.block (hf.block b h.lt hn)
theorem Mp.perm {L' : List (κ × α)} (h : Mp P K kl mk w b n L) (hp : L.Perm L') : Mp P K kl mk w b n L' := by
  obtain ⟨es, h1, h2, h3⟩ := h
  exact ⟨es, h1, h2.trans (hp.map _), (hp.map _).nodup_iff.1 h3⟩
theorem Mp.nodup (h : Mp P K kl mk w b n L) : (L.map (·.1)).Nodup := by obtain ⟨_, _, _, h⟩ := h; exact h
theorem Mp.length (h : Mp P K kl mk w b n L) : L.length ≤ n := by
  obtain ⟨es, h1, h2, _⟩ := h
  have := h1.size_le
  rw [Maps.size_eq, h2.length_eq] at this
  simpa using this

theorem Mp.tight (h : Mp P K kl mk w b n L) {m : Nat} (hm : L.length ≤ m) : Mp P K kl mk w b m L := by
  obtain ⟨es, ⟨e, c, h1, h2, h3, h4⟩, h5, h6⟩ := h
  refine ⟨es, ⟨e, c, h1, h2, ?_, h4⟩, h5, h6⟩
  have : es.length = e.size := by
    cases h4
    rw [length_sorted]; simp
  rw [← this, h5.length_eq]
  simpa using hm

theorem Mp.atKey (KL : KeyLit P K kv kl ok) (h : Mp P K kl mk w b n L) {es : List (Lit × DataW α)} (ho : w.ownsMap P K (heldR mk) b n (.map es)) (hp : es.Perm (L.map fun p => (kl p.1, .held p.2))) (k : κ) (z : DataW α) :
    (DataW.map es).atKey (kl k) z = ((look L k).map .held).getD z ∧ Maps.has (.map es) (kl k) = (look L k).isSome := by
  obtain ⟨es2, he, hap, hkl⟩ := ho.entries KL.keyed
  cases he
  cases hl : look L k with
  | some x =>
    have hm : (kl k, DataW.held x) ∈ es := hp.mem_iff.2 (List.mem_map.2 ⟨_, look_some hl, rfl⟩)
    refine ⟨by simpa using WideAt.atKey_mem z (KL.isKey k) hap hm, ?_⟩
    rw [Maps.has_eq]
    simp only [Option.isSome_some, List.any_eq_true]
    exact ⟨_, hm, WideAt.sameKey_self (KL.isKey k)⟩
  | none =>
    have hh : Maps.has (.map es) (kl k) = false := by
      rw [Maps.has_eq]
      rw [List.any_eq_false]
      intro p hpm hs
      obtain ⟨q, hq, rfl⟩ := List.mem_map.1 (hp.mem_iff.1 hpm)
      exact look_none hl q hq (KL.inj _ _ (WideAt.sameKey_eq hs))
    exact ⟨by simpa using Maps.atKey_of_not_has hh z, by simpa using hh⟩

/-- 'm[k]', as an equation for the walk -/
theorem Mp.run_look (KL : KeyLit P K kv kl ok) (h : Mp P K kl mk w b n L) {t e : TypeId} (ht : P.underlying t = some (.map K e)) {x0 : α} (hz : (zeroValue e).run P w = .ok (mk x0) w) (hi : ∀ x y, mk x = mk y → x = y) (k : κ) (hk : ok k) :
    (Instr.lookup t (.map (some b)) (kv k) false).run P w = .ok (mk ((look L k).getD x0)) w := by
  obtain ⟨es, ho, hp, hn⟩ := id h
  obtain ⟨v, ps, hr, hv⟩ := ho.lookup KL.keyed ht hz (heldR_mk hi x0) (KL.reads k hk)
  obtain ⟨x, rfl, hx⟩ := heldR_inv hv
  have := (Mp.atKey KL h ho hp k (.held x0)).1
  rw [hr]
  congr 1
  congr 1
  simp only [Prod.mk.injEq] at hx
  rw [this] at hx
  cases hl : look L k with
  | none => rw [hl] at hx; simp at hx; simp [hx.1]
  | some y => rw [hl] at hx; simp at hx; simp [hx.1]
/-- 'v, ok := m[k]' -/
theorem Mp.run_look_ok (KL : KeyLit P K kv kl ok) (h : Mp P K kl mk w b n L) {t e : TypeId} (ht : P.underlying t = some (.map K e)) {x0 : α} (hz : (zeroValue e).run P w = .ok (mk x0) w) (hi : ∀ x y, mk x = mk y → x = y) (k : κ) (hk : ok k) :
    (Instr.lookup t (.map (some b)) (kv k) true).run P w = .ok (.tuple #[mk ((look L k).getD x0), .bool (look L k).isSome]) w := by
  obtain ⟨es, ho, hp, hn⟩ := id h
  obtain ⟨v, ps, hr, hv⟩ := ho.look_ok KL.keyed ht hz (heldR_mk hi x0) (KL.reads k hk)
  obtain ⟨x, rfl, hx⟩ := heldR_inv hv
  have h2 := Mp.atKey KL h ho hp k (.held x0)
  rw [hr, h2.2]
  congr 4
  simp only [Prod.mk.injEq] at hx
  rw [h2.1] at hx
  cases hl : look L k with
  | none => rw [hl] at hx; simp at hx; simp [hx.1]
  | some y => rw [hl] at hx; simp at hx; simp [hx.1]
/-- 'len(m)' -/
theorem Mp.run_len (h : Mp P K kl mk w b n L) {t e : TypeId} (ht : P.underlying t = some (.map K e)) (ty : TypeId) :
    (Builtin.len_ #[t] ty #[.map (some b)]).run P w = .ok (.int .i64 L.length) w := by
  obtain ⟨es, ho, hp, _⟩ := h
  rw [ho.len ht, Maps.size_eq, hp.length_eq]
  simp

theorem Mp.put (KL : KeyLit P K kv kl ok) {w' : World} {es : List (Lit × DataW α)} {k : κ} {x : α} {m : Nat} (hp : es.Perm (L.map fun p => (kl p.1, .held p.2))) (hn : (L.map (·.1)).Nodup)
    (h : w'.ownsMap P K (heldR mk) b m ((DataW.map es).put (kl k) (.held x))) : Mp P K kl mk w' b m (withKey L k x) := by
  refine ⟨_, h, ?_, nodup_withKey hn k x⟩
  refine (WideShapes.insert_perm _ _).trans ?_
  unfold withKey without
  rw [List.map_cons]
  refine List.Perm.cons _ ?_
  refine (hp.filter _).trans ?_
  rw [List.filter_map]
  refine List.Perm.map _ (List.Perm.of_eq ?_)
  refine List.filter_congr fun p _ => ?_
  simp only [Function.comp]
  by_cases hk : p.1 = k
  · simp [hk, WideAt.sameKey_self (KL.isKey k)]
  · rw [Maps.sameKey_ne (fun q => hk (KL.inj _ _ q))]
    simp [hk]
theorem Mp.run_put (KL : KeyLit P K kv kl ok) (h : Mp P K kl mk w b n L) {t e : TypeId} (ht : P.underlying t = some (.map K e)) (hi : ∀ x y, mk x = mk y → x = y) (hn : n < maxLen) (k : κ) (y : α) (hk : ok k) :
    ∃ w', (Instr.mapUpdate t (.map (some b)) (kv k) (mk y)).run P w = .ok () w' ∧ Mp P K kl mk w' b (n + 1) (withKey L k y) ∧ Fr (onlyB b) w w' := by
  obtain ⟨es, ho, hp, hn2⟩ := h
  obtain ⟨w', h1, h2, h3⟩ := ho.update KL.keyed ht hn (KL.reads k hk) (heldR_mk hi y)
  exact ⟨w', h1, Mp.put KL hp hn2 h2, (Fr.refl (onlyB b) w).grown h3 (fun q hq _ => by cases hq; rfl)⟩
theorem Mp.dele (KL : KeyLit P K kv kl ok) {w' : World} {es : List (Lit × DataW α)} {k : κ} {m : Nat} (hp : es.Perm (L.map fun p => (kl p.1, .held p.2))) (hn : (L.map (·.1)).Nodup)
    (h : w'.ownsMap P K (heldR mk) b m ((DataW.map es).del (kl k))) : Mp P K kl mk w' b m (without L k) := by
  refine ⟨_, h, ?_, nodup_without hn k⟩
  unfold without
  refine (hp.filter _).trans ?_
  rw [List.filter_map]
  refine List.Perm.map _ (List.Perm.of_eq ?_)
  refine List.filter_congr fun p _ => ?_
  simp only [Function.comp]
  by_cases hk : p.1 = k
  · simp [hk, WideAt.sameKey_self (KL.isKey k)]
  · rw [Maps.sameKey_ne (fun q => hk (KL.inj _ _ q))]
    simp [hk]
end

section
variable {α κ : Type} [DecidableEq κ] {P : Program} {K : TypeId} {kv : κ → Value} {kl : κ → Lit} {ok : κ → Prop} {mk : α → Value} {b n : Nat} {L : List (κ × α)}
variable (w : World) {ops : Array Oper} {rest : List Oper} {o : Oper} {a : Act} {Q : Exit → Act → World → Prop}
/-- 'm[k] = v', an arm: '(at_mapUpdate; refine wpList_put_mp _ rfl _ _ _ T rfl KL ht hi h (by omega) k x hk rfl rfl rfl ?_; intro w1 m1 f1)' -/
theorem wpList_put_mp (hg : o.guard = none) (m x v : Operand) (t : TypeId) (hop : o.op = Op.mapUpdate t m x v) (KL : KeyLit P K kv kl ok) {e : TypeId} (ht : P.underlying t = some (.map K e)) (hi : ∀ x y, mk x = mk y → x = y)
    (h : Mp P K kl mk w b n L) (hn : n < maxLen) (k : κ) (y : α) (hk : ok k) (hm : a.eval m = .map (some b)) (hx : a.eval x = kv k) (hv : a.eval v = mk y)
    (hK : ∀ w', Mp P K kl mk w' b (n + 1) (withKey L k y) → Fr (onlyB b) w w' → wpList P ops Q rest (a.put o.dst undef) w') : wpList P ops Q (o :: rest) a w := by
  obtain ⟨es, ho, hp, hn2⟩ := h
  refine wpList_mapUpdate_own w hg m x v t hop K e KL.keyed ht _ b n _ hm ho hn _ _ _ hx hv (KL.reads k hk) _ _ (heldR_mk hi y) fun w' h1 h2 => ?_
  exact hK w' (Mp.put KL hp hn2 h1) ((Fr.refl (onlyB b) w).grown h2 (fun q hq _ => by cases hq; rfl))
/-- 'delete(m, k)': '(at_delete; refine wpList_del_mp _ rfl _ _ T K rfl KL ht h k hk rfl rfl ?_; intro w1 m1 f1)' -/
theorem wpList_del_mp (hg : o.guard = none) (m x : Operand) (t K' : TypeId) (hop : o.op = Op.call { callee := Callee.builtin Builtin.delete, args := #[m, x], argTypes := #[t, K] }) (KL : KeyLit P K kv kl ok) {e : TypeId} (ht : P.underlying t = some (.map K e))
    (h : Mp P K kl mk w b n L) (k : κ) (hk : ok k) (hm : a.eval m = .map (some b)) (hx : a.eval x = kv k)
    (hK : ∀ w', Mp P K kl mk w' b n (without L k) → Fr (onlyB b) w w' → wpList P ops Q rest (a.put o.dst (.tuple #[])) w') : wpList P ops Q (o :: rest) a w := by
  obtain ⟨es, ho, hp, hn2⟩ := h
  refine wpList_delete_own w hg m x t K hop e KL.keyed ht _ b n _ hm ho _ _ hx (KL.reads k hk) fun w' h1 h2 => ?_
  exact hK w' (Mp.dele KL hp hn2 h1) ((Fr.refl (onlyB b) w).grown h2.grown (fun q hq _ => by cases hq; rfl))
end

section
variable {α κ : Type} [DecidableEq κ] {P : Program} {K : TypeId} {kv : κ → Value} {kl : κ → Lit} {ok : κ → Prop} {mk : α → Value} {b r n : Nat} {L td : List (κ × α)}
/-- A range over the map is under way: td is still to come. -/
def Rg (P : Program) (K : TypeId) (kl : κ → Lit) (mk : α → Value) (w : World) (b r n : Nat) (L td : List (κ × α)) : Prop :=
  ∃ es left cnt, w.ranges P K (heldR mk) b r n (.map es) left cnt ∧ es.Perm (L.map fun p => (kl p.1, .held p.2)) ∧ (L.map (·.1)).Nodup ∧ (td.map (·.1)).Nodup ∧ (∀ p ∈ td, p ∈ L) ∧ ∀ k, left (kl k) = (look td k).isSome
variable {w : World}
theorem Rg.mp (h : Rg P K kl mk w b r n L td) : Mp P K kl mk w b n L := by
  obtain ⟨es, left, cnt, h1, h2, h3, _⟩ := h
  exact ⟨es, h1.owns, h2, h3⟩
theorem Rg.ne (h : Rg P K kl mk w b r n L td) : r ≠ b := by obtain ⟨es, left, cnt, h1, _⟩ := h; exact h1.ne
theorem Rg.lt (h : Rg P K kl mk w b r n L td) : r < w.heap.size := by obtain ⟨es, left, cnt, h1, _⟩ := h; exact h1.lt
theorem Rg.fr {w' : World} {S : Nat → Prop} (h : Rg P K kl mk w b r n L td) (hf : Fr S w w') (hb : ¬ S b) (hr : ¬ S r) : Rg P K kl mk w' b r n L td ∧ w'.rangeLeft b r = w.rangeLeft b r := by
  have e1 := hf.block b h.mp.lt hb
  have e2 := hf.block r h.lt hr
  obtain ⟨es, left, cnt, ⟨es0, c, s, se, c0, q1, q2, q3, q4, q5, q6⟩, h2⟩ := h
  refine ⟨⟨es, left, cnt, ⟨es0, c, s, se, c0, e1.trans q1, q2, q3, q4, e2.trans q5, q6⟩, h2⟩, ?_⟩
  unfold World.rangeLeft
  rw [e1, e2]
theorem look_isSome_iff {k : κ} : (look td k).isSome = true ↔ ∃ x, (k, x) ∈ td := by
  constructor
  · intro h
    obtain ⟨x, hx⟩ := Option.isSome_iff_exists.1 h
    exact ⟨x, look_some hx⟩
  · rintro ⟨x, hx⟩
    cases h : look td k with
    | some _ => rfl
    | none => exact absurd rfl (look_none h _ hx)
theorem look_nil_of {L : List (κ × α)} (h : ∀ k, (look L k).isSome = false) : L = [] := by
  cases L with
  | nil => rfl
  | cons p r =>
    have := h p.1
    simp [look, List.find?_cons] at this
theorem left_without (KL : KeyLit P K kv kl ok) {left : Lit → Bool} (h : ∀ k, left (kl k) = (look td k).isSome) (x k : κ) : (left (kl k) && !(kl k).sameKey (kl x)) = (look (without td x) k).isSome := by
  by_cases hk : k = x
  · subst hk
    rw [look_without_same, WideAt.sameKey_self (KL.isKey k)]
    simp
  · rw [look_without_other _ hk, Maps.sameKey_ne (fun q => hk (KL.inj _ _ q)), h]
    simp
theorem without_twice (x : κ) : without (without td x) x = without td x := by
  unfold without
  rw [List.filter_filter]
  simp
theorem mem_without {x : κ} {p : κ × α} : p ∈ without td x ↔ p ∈ td ∧ p.1 ≠ x := by simp [without]
end
section
variable {α κ : Type} [DecidableEq κ] {P : Program} {K : TypeId} {kv : κ → Value} {kl : κ → Lit} {ok : κ → Prop} {mk : α → Value} {b r n : Nat} {L td : List (κ × α)}
variable (w : World) {ops : Array Oper} {rest : List Oper} {o : Oper} {a : Act} {Q : Exit → Act → World → Prop}
/-- 'range m': '(at_range; refine wpList_range_mp _ rfl _ T rfl KL ht h rfl ?_; intro w1 r1 f1 s1)', then go_frame -/
theorem wpList_range_mp (hg : o.guard = none) (m : Operand) (t : TypeId) (hop : o.op = Op.range t m) (KL : KeyLit P K kv kl ok) {e : TypeId} (ht : P.underlying t = some (.map K e))
    (h : Mp P K kl mk w b n L) (hm : a.eval m = .map (some b))
    (hK : ∀ w', Rg P K kl mk w' b w.heap.size n L L → Fr noB w w' → w'.heap.size = w.heap.size + 1 → wpList P ops Q rest (a.put o.dst (.pointer (some ⟨w.heap.size, 0, none⟩))) w') : wpList P ops Q (o :: rest) a w := by
  have h0 := h
  obtain ⟨es, ho, hp, hn2⟩ := h
  refine wpList_range_own w hg m t hop K e KL.keyed ht _ b n _ hm ho fun w' h1 h2 h3 => ?_
  exact hK w' ⟨es, _, _, h1, hp, hn2, hn2, fun p hp => hp, fun k => (Mp.atKey KL h0 ho hp k (.map [])).2⟩ ((Fr.refl noB w).grown h2 (fun q hq => by cases hq)) h3
/-- the step; keys are ints -/
theorem wpList_next_rg {L td : List (Int × α)} {kvi : Int → Value} {kli : Int → Lit} {oki : Int → Prop} (e1 : kvi = fun k => .int .i64 k) (e2 : kli = fun k => .int .i64 k) (hg : o.guard = none) (it : Operand) (hop : o.op = Op.next it false) (KL : KeyLit P K kvi kli oki) (hk : P.underlying K = some (.int .i64)) (hi : ∀ x y, mk x = mk y → x = y)
    (h : Rg P K kli mk w b r n L td) (hit : a.eval it = .pointer (some ⟨r, 0, none⟩))
    (hDone : td = [] → wpList P ops Q rest (a.put o.dst (.tuple #[.bool false])) w)
    (hMore : ∀ (x : Int) (c : α) (w' : World), (Lit.int .i64 x).wf = true → (x, c) ∈ td → Rg P K kli mk w' b r n L (without td x) → w'.rangeLeft b r < w.rangeLeft b r → Fr (onlyB r) w w' → w'.heap.size = w.heap.size →
      (Instr.entry (.pointer (some ⟨r, 0, none⟩))).run P w' = .ok (.tuple #[.int .i64 x, mk c]) w' → wpList P ops Q rest (a.put o.dst (.tuple #[.bool true, .int .i64 x, mk c])) w') : wpList P ops Q (o :: rest) a w := by
  subst e1 e2
  obtain ⟨es, left, cnt, hr, hp, hn1, hn2, hsub, hl⟩ := h
  have hr0 := hr
  refine wpList_next_ranges w hg it hop K KL.keyed (heldR mk) (Value.int .i64) mk (fun key kl hkey => by obtain ⟨x, rfl, _⟩ := Maps.keyOf_int_inv hk hkey; exact ⟨x, rfl⟩)
    (fun v y hv => by obtain ⟨c, rfl, _⟩ := heldR_inv hv; exact ⟨c, rfl⟩) b r n _ left cnt hit hr (fun h0 hlf => hDone (look_nil_of fun k => by rw [← hl]; exact hlf _))
    (fun x c kl y w' cnt' hkey hlk hv hat hrg hlt hgr hsz hen => ?_)
  obtain ⟨x', ex, rfl, hwx⟩ := Maps.keyOf_int_inv hk hkey
  cases ex
  rw [heldR_mk hi c] at hv
  cases hv
  have h1 : (look td x).isSome = true := by rw [← hl]; exact hlk
  obtain ⟨c', hc'⟩ := look_isSome_iff.1 h1
  have h2 := look_mem hn1 (hsub _ hc')
  have h3 := (Mp.atKey KL ⟨es, hr0.owns, hp, hn1⟩ hr0.owns hp x (.map [])).1
  rw [hat, h2] at h3
  simp at h3
  subst h3
  refine hMore x c w' hwx hc' ⟨es, _, _, hrg, hp, hn1, nodup_without hn2 x, fun p hp => hsub p (mem_without.1 hp).1, fun k => left_without KL hl x k⟩ ?_ ((Fr.refl (onlyB r) w).grown hgr (fun q hq _ => by cases hq; rfl)) hsz hen
  rw [hrg.left_eq, hr0.left_eq]
  exact hlt
/-- 'delete(m, k)' in the round -/
theorem wpList_del_rg (hg : o.guard = none) (m x : Operand) (t : TypeId) (hop : o.op = Op.call { callee := Callee.builtin Builtin.delete, args := #[m, x], argTypes := #[t, K] }) (KL : KeyLit P K kv kl ok) {e : TypeId} (ht : P.underlying t = some (.map K e))
    (h : Rg P K kl mk w b r n L td) (k : κ) (hk : ok k) (hm : a.eval m = .map (some b)) (hx : a.eval x = kv k)
    (hK : ∀ w', Rg P K kl mk w' b r n (without L k) (without td k) → w'.rangeLeft b r ≤ w.rangeLeft b r → Fr (onlyB b) w w' → wpList P ops Q rest (a.put o.dst (.tuple #[])) w') : wpList P ops Q (o :: rest) a w := by
  obtain ⟨es, left, cnt, hr, hp, hn1, hn2, hsub, hl⟩ := h
  refine wpList_delete_ranges w hg m x t K hop e KL.keyed ht _ b r n _ left cnt hm hr _ _ hx (KL.reads k hk) fun w' cnt' h1 h2 h3 => ?_
  have hM : Mp P K kl mk w' b n (without L k) := Mp.dele KL hp hn1 h1.owns
  refine hK w' ⟨_, _, _, h1, ?_, nodup_without hn1 k, nodup_without hn2 k, fun p hp => mem_without.2 ⟨hsub p (mem_without.1 hp).1, (mem_without.1 hp).2⟩, fun k' => left_without KL hl k k'⟩ ?_ ((Fr.refl (onlyB b) w).grown h3.grown (fun q hq _ => by cases hq; rfl))
  · unfold without
    refine (hp.filter _).trans ?_
    rw [List.filter_map]
    refine List.Perm.map _ (List.Perm.of_eq ?_)
    refine List.filter_congr fun p _ => ?_
    simp only [Function.comp]
    by_cases hk : p.1 = k
    · simp [hk, WideAt.sameKey_self (KL.isKey k)]
    · rw [Maps.sameKey_ne (fun q => hk (KL.inj _ _ q))]
      simp [hk]
  · rw [h1.left_eq, hr.left_eq]; exact h2
end
/-- distinct members of a list are no more than it has -/
theorem nodup_le {κ : Type} [DecidableEq κ] : ∀ {l G : List κ}, l.Nodup → (∀ k ∈ l, k ∈ G) → l.length ≤ G.length
  | [], _, _, _ => Nat.zero_le _
  | x :: l, G, hn, hs => by
    rw [List.nodup_cons] at hn
    have hx : x ∈ G := hs x (by simp)
    have h1 := nodup_le (l := l) (G := G.erase x) hn.2 (fun k hk => (List.mem_erase_of_ne (fun e => hn.1 (by rw [← e]; exact hk))).2 (hs k (by simp [hk])))
    rw [List.length_erase_of_mem hx] at h1
    have : 0 < G.length := List.length_pos_of_mem hx
    simp only [List.length_cons]
    omega
/-- nodup lists with the same answers are the same but for the order -/
theorem perm_of_look {α κ : Type} [DecidableEq κ] {L M : List (κ × α)} (h1 : (L.map (·.1)).Nodup) (h2 : (M.map (·.1)).Nodup) (h : ∀ k, look L k = look M k) : L.Perm M := by
  have n1 : L.Nodup := List.Pairwise.of_map (S := (· ≠ ·)) (fun p : κ × α => p.1) (fun a b h e => h (by rw [e])) h1
  have n2 : M.Nodup := List.Pairwise.of_map (S := (· ≠ ·)) (fun p : κ × α => p.1) (fun a b h e => h (by rw [e])) h2
  refine (List.perm_ext_iff_of_nodup n1 n2).2 fun p => ?_
  constructor
  · intro hp; exact look_some ((h p.1).symm.trans (look_mem h1 hp))
  · intro hp; exact look_some ((h p.1).trans (look_mem h2 hp))
/-- keys that are ints -/
def kvI (k : Int) : Value := .int .i64 k
def klI (k : Int) : Lit := .int .i64 k
def okI (k : Int) : Prop := (Lit.int .i64 k).wf = true
theorem keyLit_int {P : Program} {K : TypeId} (h : P.underlying K = some (.int .i64)) : KeyLit P K kvI klI okI :=
  ⟨int_keyed h, fun a b e => by cases e; rfl, fun _ => trivial, fun a ha => keyOf_int_mk h ha⟩
/-- keys that are texts -/
def kvS (s : ByteArray) : Value := .string s
def klS (s : ByteArray) : Lit := .string s.data.toList
def okS (s : ByteArray) : Prop := s.size ≤ maxLen
theorem keyLit_str {P : Program} {K : TypeId} (h : P.underlying K = some .string) : KeyLit P K kvS klS okS :=
  ⟨string_keyed h, fun a b e => by
      cases a; cases b
      simp only [klS, Lit.string.injEq] at e
      rw [Array.toList_inj.1 e], fun _ => trivial, fun a ha => Go.WideMaps.keyOf_string_mk h ha⟩
theorem okI_of {k : Int} (h0 : -9223372036854775808 ≤ k) (h1 : k ≤ 9223372036854775807) : okI k := by
  simpa [okI, Lit.wf, IntKind.min, IntKind.max, IntKind.signed, IntKind.bits] using And.intro h0 h1
end Go.Proofs.YtdmhnoffejjpnaaGreatDoor
end

section

end

section

end

section
set_option linter.unusedVariables false
set_option linter.unusedSimpArgs false
set_option maxRecDepth 100000
set_option maxRecDepth 100000
namespace Go.Proofs.YtdmhnoffejjpnaaGreatDoor
open Go.RowKit Go Go.Lib

theorem own_apartm {w : World} {B B' e e' k k' n m : Nat} {v u : Value} {xs ys : List Value} (h : w.ownsRow B e k v n xs) (h' : w.ownsRow B' e' k' u m ys) (he : e ≠ e') : ∀ g, v.ownBlock = some g → ¬ rowB u g := by
  intro g hg q
  unfold rowB at q
  rcases h.2 with ⟨rfl, _⟩ | ⟨g1, cap, cur, rfl, _, hh, _⟩
  · simp [Value.ownBlock] at hg
  rcases h'.2 with ⟨rfl, _⟩ | ⟨g2, cap2, cur2, rfl, _, hh2, _⟩
  · simp [Value.ownBlock] at q
  simp [Value.ownBlock] at hg q
  subst hg
  subst q
  rw [hh] at hh2
  simp only [Option.some.injEq, Obj.cells.injEq] at hh2
  exact he hh2.2.1
/-- a part, and where its crumbs lie -/
structure PU where
  p : Pn
  a : Option Addr
  c : Nat
def PU.v (q : PU) : Value := .slice q.a q.p.cr.length q.c
def PU.cs (q : PU) : List Value := pnC q.p q.v
theorem PU.len (P : List PU) : (P.flatMap PU.cs).length = P.length * 6 := by
  induction P with
  | nil => rfl
  | cons s L ih =>
    rw [List.flatMap_cons, List.length_append, ih, List.length_cons]
    simp [PU.cs, pnC]
    omega
theorem PU.get : ∀ (L : List PU) (i q : Nat) (m : PU), L[i]? = some m → q < 6 → (L.flatMap PU.cs)[i * 6 + q]? = m.cs[q]?
  | [], i, q, m, h, _ => by simp at h
  | x :: r, 0, q, m, h, hq => by
    simp at h; subst h
    rw [List.flatMap_cons, List.getElem?_append_left (by simp [PU.cs, pnC]; omega)]
    congr 1; omega
  | x :: r, i + 1, q, m, h, hq => by
    have hl : x.cs.length = 6 := rfl
    rw [List.flatMap_cons, List.getElem?_append_right (by rw [hl]; omega), hl, show (i + 1) * 6 + q - 6 = i * 6 + q by omega]
    exact PU.get r i q m (by simpa using h) hq
def OwnPU (w : World) (B : Nat) (P : List PU) : Prop := ∀ q ∈ P, w.ownsRow B 3 1 q.v q.p.cr.length (q.p.cr.map (Value.int .i64))
theorem OwnPU.fr {w w' : World} {B : Nat} {S : Nat → Prop} {P : List PU} (h : OwnPU w B P) (f : Fr S w w') (hS : ∀ q ∈ P, ∀ g, q.v.ownBlock = some g → ¬ S g) : OwnPU w' B P := fun p hp => ownsRow_fr (h p hp) f (hS p hp)
theorem RdPs.of_own {w : World} {B n : Nat} {v : Value} {P : List PU} {ps : List Pn} (h : w.ownsRow B 70 6 v n (P.flatMap PU.cs)) (ho : OwnPU w B P) (hp : P.map PU.p = ps) (hn : P.length = n) (hb : n ≤ 1000000) : RdPs w v ps := by
  have hl : ps.length = n := by rw [← hp, List.length_map]; exact hn
  rcases h.2 with ⟨rfl, h1⟩ | ⟨g, cap, cur, rfl, hb, hg, hnc, hcm, hcs, htake⟩
  · refine ⟨none, 0, by rw [hl, h1], by omega, by omega, fun i p hi => ?_⟩
    rw [List.eq_nil_of_length_eq_zero (by omega : ps.length = 0)] at hi
    simp at hi
  · refine ⟨_, cap, by rw [hl], by omega, by omega, fun i p hi => ?_⟩
    rw [← hp, List.getElem?_map] at hi
    cases hq : P[i]? with
    | none => rw [hq] at hi; cases hi
    | some u =>
      rw [hq] at hi
      simp at hi
      subst hi
      refine ⟨g, 0, u.a, u.c, rfl, fun q x hx => ?_, RdI.of_own (ho u (List.mem_of_getElem? hq))⟩
      have hq6 : q < 6 := (List.getElem?_eq_some_iff.1 hx).1
      have h2 := PU.get P i q u hq hq6
      have h3 := h.cells (g := g) rfl (i * 6 + q) x (by rw [h2]; exact hx)
      rw [add_none] at h3
      exact h3
theorem Tryz.infoPinned : (Tryz.prog.info? 70).map (fun i => (i.zero, i.size, i.bytes)) = some (some (.agg #[.int .i64 0, .int .i64 0, .int .i64 0, .int .i64 0, .slice none 0 0, .bool false]), 6, 64) := by kernel_rfl
theorem pu_one (q : PU) : ∀ u ∈ q.cs, u.oneCell' = true := by
  intro u hu
  unfold PU.cs pnC PU.v at hu
  simp only [List.mem_cons, List.not_mem_nil, or_false] at hu
  rcases hu with rfl | rfl | rfl | rfl | rfl | rfl <;> rfl

end Go.Proofs.YtdmhnoffejjpnaaGreatDoor
end

section
set_option linter.unusedVariables false
set_option linter.unusedSimpArgs false
set_option maxRecDepth 100000
set_option maxRecDepth 100000
namespace Go.Proofs.YtdmhnoffejjpnaaGreatDoor
open Go.RowKit Go Go.Maps Go.Lib

abbrev SV := Option Addr × Nat × Nat
def mkS (s : SV) : Value := .slice s.1 s.2.1 s.2.2
theorem mkS_inj (x y : SV) (h : mkS x = mkS y) : x = y := by obtain ⟨a, b, c⟩ := x; obtain ⟨d, e, f⟩ := y; simp only [mkS, Value.slice.injEq] at h; obtain ⟨rfl, rfl, rfl⟩ := h; rfl
theorem zeroSp (w : World) : (zeroValue 29).run Tryz.prog w = .ok (mkS (none, 0, 0)) w := by kernel_rfl
/-- an agent's: how many chunks in all, and the map of those that came -/
def mkC (x : Int × Option Nat) : Value := .agg #[.int .i64 x.1, .map x.2]
theorem mkC_inj (x y : Int × Option Nat) (h : mkC x = mkC y) : x = y := by
  obtain ⟨a, b⟩ := x; obtain ⟨c, d⟩ := y
  simp only [mkC, Value.agg.injEq, Array.mk.injEq, List.cons.injEq, Value.int.injEq, Value.map.injEq, true_and, and_true] at h
  obtain ⟨rfl, rfl⟩ := h; rfl
theorem zeroC (w : World) : (zeroValue 198).run Tryz.prog w = .ok (mkC (0, none)) w := by kernel_rfl

abbrev EN := Int × (SV × List Sp)
structure OA where
  a : Int
  t : Int
  m : Nat
  E : List EN
def OA.kv (o : OA) : Int × (Int × Option Nat) := (o.a, (o.t, some o.m))
def enL (E : List EN) : List (Int × SV) := E.map fun e => (e.1, e.2.1)
def enS (E : List EN) : List (Int × List Sp) := E.map fun e => (e.1, e.2.2)
structure AP where
  tr : Int
  jb : Int
  man : Option (Int × List Pn)
  O : List OA
theorem RdSp.fr1 {w w' : World} {v : Value} {L : List Sp} {S : Nat → Prop} (h : RdSp w v L) (hf : Fr S w w') (hS : L ≠ [] → ∀ g o n c, v = .slice (some ⟨g, o, none⟩) n c → ¬ S g) : RdSp w' v L := by
  obtain ⟨a, c, rfl, hl, hc, hn, h1⟩ := h
  refine ⟨a, c, rfl, hl, hc, hn, fun i s hi => ?_⟩
  obtain ⟨g, o, rfl, c0, c1, c2⟩ := h1 i s hi
  have := hS (fun e => by rw [e] at hi; simp at hi) g o _ _ rfl
  exact ⟨g, o, rfl, hf.cell c0 this, hf.cell c1 this, hf.cell c2 this⟩
theorem RdI.fr1 {w w' : World} {v : Value} {xs : List Int} {S : Nat → Prop} (h : RdI w v xs) (hf : Fr S w w') (hS : xs ≠ [] → ∀ g o n c, v = .slice (some ⟨g, o, none⟩) n c → ¬ S g) : RdI w' v xs := by
  obtain ⟨a, c, rfl, h1, h2, h3⟩ := h
  refine ⟨a, c, rfl, h1, h2, fun i hi => ?_⟩
  obtain ⟨g, o, rfl, h4⟩ := h3 i hi
  exact ⟨g, o, rfl, hf.cell h4 (hS (fun e => by subst e; exact absurd hi (Nat.not_lt_zero _)) _ _ _ _ rfl)⟩
/-- parts that lie among the blocks of D -/
def RdPsD (w : World) (D : Nat → Prop) (v : Value) (ps : List Pn) : Prop :=
  ∃ a c, v = .slice a ps.length c ∧ ps.length ≤ c ∧ ps.length ≤ 1000000 ∧ ∀ i p, ps[i]? = some p → ∃ g ua uc, a = some ⟨g, 0, none⟩ ∧ D g ∧ (∀ q x, (pnC p (.slice ua p.cr.length uc))[q]? = some x → w.cell? ⟨g, i * 6 + q, none⟩ = some x) ∧ RdI w (.slice ua p.cr.length uc) p.cr ∧ (p.cr ≠ [] → ∀ g' o', ua = some ⟨g', o', none⟩ → D g')
theorem RdPsD.fr {w w' : World} {D S : Nat → Prop} {v : Value} {ps : List Pn} (h : RdPsD w D v ps) (hf : Fr S w w') (hS : ∀ g, D g → ¬ S g) : RdPsD w' D v ps := by
  obtain ⟨a, c, rfl, h1, h2, h3⟩ := h
  refine ⟨a, c, rfl, h1, h2, fun i p hi => ?_⟩
  obtain ⟨g, ua, uc, e, hd, h4, h5, h6⟩ := h3 i p hi
  exact ⟨g, ua, uc, e, hd, fun q x hq => hf.cell (h4 q x hq) (hS g hd), h5.fr1 hf (fun hne g' o n c e => hS g' (h6 hne g' o (by injection e))), h6⟩
theorem RdPsD.mono {w : World} {D D' : Nat → Prop} {v : Value} {ps : List Pn} (h : RdPsD w D v ps) (hD : ∀ g, D g → D' g) : RdPsD w D' v ps := by
  obtain ⟨a, c, rfl, h1, h2, h3⟩ := h
  refine ⟨a, c, rfl, h1, h2, fun i p hi => ?_⟩
  obtain ⟨g, ua, uc, e, hd, h4, h5, h6⟩ := h3 i p hi
  exact ⟨g, ua, uc, e, hD g hd, h4, h5, fun hne g' o' e => hD g' (h6 hne g' o' e)⟩
theorem RdPsD.ps {w : World} {D : Nat → Prop} {v : Value} {ps : List Pn} (h : RdPsD w D v ps) : RdPs w v ps := by
  obtain ⟨a, c, rfl, h1, h2, h3⟩ := h
  refine ⟨a, c, rfl, h1, by omega, fun i p hi => ?_⟩
  obtain ⟨g, ua, uc, e, hd, h4, h5, h6⟩ := h3 i p hi
  exact ⟨g, 0, ua, uc, e, fun q x hq => by rw [Nat.zero_add]; exact h4 q x hq, h5⟩

/-- an agent's chunks lie so -/
structure OAp (w : World) (D : Nat → Prop) (o : OA) : Prop where
  mp : Mp Tryz.prog 3 klI mkS w o.m (enL o.E).length (enL o.E)
  rd : ∀ e ∈ o.E, RdSp w (mkS e.2.1) e.2.2 ∧ (e.2.2 ≠ [] → ∀ g q, e.2.1.1 = some ⟨g, q, none⟩ → D g)
  dm : D o.m
  t0 : 1 ≤ o.t
  t5 : o.t ≤ 500
  ix : ∀ e ∈ o.E, 0 ≤ e.1 ∧ e.1 < 500 ∧ e.2.2.length ≤ 2
def AP.mp (A : AP) (mb : Nat) : Option Addr := match A.man with | none => none | some _ => some ⟨mb, 0, none⟩
/-- what came of a record so far, at block p; its blocks are those of D -/
structure AsmP (w : World) (p bm mb : Nat) (D : Nat → Prop) (A : AP) : Prop where
  blk : Blk w p 181 [.int .i64 A.tr, .int .i64 A.jb, .pointer (A.mp mb), .map (some bm)]
  man : ∀ c ps, A.man = some (c, ps) → (∃ v, Blk w mb 73 [.int .i64 A.tr, .int .i64 A.jb, .int .i64 c, v] ∧ RdPsD w D v ps) ∧ D mb ∧ mb ≠ p ∧ ps.length ≤ 4 ∧ ∀ q ∈ ps, pnB q = true
  om : Mp Tryz.prog 3 klI mkC w bm A.O.length (A.O.map OA.kv)
  inn : ∀ o ∈ A.O, OAp w D o ∧ o.m ≠ p ∧ o.m ≠ bm ∧ o.m ≠ mb ∧ 0 ≤ o.a ∧ o.a ≤ 3
  nm : (A.O.map (·.m)).Nodup
  dp : D p
  db : D bm
  nb : p ≠ bm ∧ bm ≠ mb ∧ D mb
  lt : ∀ g, D g → g < w.heap.size
theorem OAp.fr {w w' : World} {D S : Nat → Prop} {o : OA} (h : OAp w D o) (hf : Fr S w w') (hS : ∀ g, D g → ¬ S g) : OAp w' D o :=
  ⟨h.mp.fr hf (hS _ h.dm), fun e he => ⟨(h.rd e he).1.fr1 hf (fun hne g q n c e' => hS g ((h.rd e he).2 hne g q (by unfold mkS at e'; injection e'))), (h.rd e he).2⟩, h.dm, h.t0, h.t5, h.ix⟩
theorem OAp.mono {w : World} {D D' : Nat → Prop} {o : OA} (h : OAp w D o) (hD : ∀ g, D g → D' g) : OAp w D' o :=
  ⟨h.mp, fun e he => ⟨(h.rd e he).1, fun hne g q e' => hD g ((h.rd e he).2 hne g q e')⟩, hD _ h.dm, h.t0, h.t5, h.ix⟩
theorem AsmP.fr {w w' : World} {p bm mb : Nat} {D S : Nat → Prop} {A : AP} (h : AsmP w p bm mb D A) (hf : Fr S w w') (hS : ∀ g, D g → ¬ S g) : AsmP w' p bm mb D A :=
  ⟨hf.blk h.blk (hS _ h.dp), fun c ps e => by
    obtain ⟨⟨v, h1, h2⟩, h3, h4⟩ := h.man c ps e
    exact ⟨⟨v, hf.blk h1 (hS _ h3), h2.fr hf hS⟩, h3, h4⟩, h.om.fr hf (hS _ h.db), fun o ho => ⟨(h.inn o ho).1.fr hf hS, (h.inn o ho).2⟩, h.nm, h.dp, h.db, h.nb, fun g hg => Nat.lt_of_lt_of_le (h.lt g hg) hf.size⟩
theorem AsmP.frN {w w' : World} {p bm mb : Nat} {D : Nat → Prop} {A : AP} (h : AsmP w p bm mb D A) (hf : Fr noB w w') : AsmP w' p bm mb D A := h.fr hf (fun _ _ q => q)
/-! ### looking things up -/
theorem look_map {α β κ : Type} [DecidableEq κ] (f : α → β) (L : List (κ × α)) (k : κ) : look (L.map fun p => (p.1, f p.2)) k = (look L k).map f := by
  induction L with
  | nil => rfl
  | cons p r ih =>
    unfold look at ih ⊢
    rw [List.map_cons, List.find?_cons, List.find?_cons]
    by_cases h : p.1 = k
    · simp [h]
    · simp only [h, decide_false]
      exact ih
def AP.at (A : AP) (a : Int) : Option OA := A.O.find? fun o => decide (o.a = a)
theorem ap_some {A : AP} {a : Int} {o : OA} (h : A.at a = some o) : o ∈ A.O ∧ o.a = a := by
  unfold AP.at at h
  exact ⟨List.mem_of_find?_eq_some h, by have := List.find?_some h; simpa using this⟩
theorem ap_look (A : AP) (a : Int) : look (A.O.map OA.kv) a = (A.at a).map fun o => (o.t, some o.m) := by
  unfold AP.at look
  induction A.O with
  | nil => rfl
  | cons o r ih =>
    rw [List.map_cons, List.find?_cons, List.find?_cons]
    show Option.map _ (match decide (o.a = a) with | true => some o.kv | false => _) = _
    by_cases h : o.a = a
    · simp [h, OA.kv]
    · simp only [h, decide_false]
      exact ih
theorem en_look (E : List EN) (i : Int) : look (enL E) i = (look E i).map (·.1) := look_map (fun x : SV × List Sp => x.1) E i
theorem ens_look (E : List EN) (i : Int) : look (enS E) i = (look E i).map (·.2) := look_map (fun x : SV × List Sp => x.2) E i
theorem enL_len (E : List EN) : (enL E).length = E.length := by unfold enL; simp
theorem key_len {w : World} {D : Nat → Prop} {o : OA} (h : OAp w D o) : o.E.length ≤ 500 := by
  have hn := h.mp.nodup
  have hk : ∀ k ∈ (enL o.E).map (·.1), k ∈ (List.range 500).map Int.ofNat := by
    intro k hk
    obtain ⟨x, hx, rfl⟩ := List.mem_map.1 hk
    unfold enL at hx
    obtain ⟨e, he, rfl⟩ := List.mem_map.1 hx
    obtain ⟨h0, h5, _⟩ := h.ix e he
    exact List.mem_map.2 ⟨e.1.toNat, List.mem_range.2 (by omega), by show ((e.1.toNat : Nat) : Int) = e.1; omega⟩
  have := nodup_le hn hk
  simp at this
  rw [enL_len] at this
  exact this
theorem ag_len {w : World} {p bm mb : Nat} {D : Nat → Prop} {A : AP} (h : AsmP w p bm mb D A) : A.O.length ≤ 4 := by
  have hn := h.om.nodup
  have hk : ∀ k ∈ (A.O.map OA.kv).map (·.1), k ∈ (List.range 4).map Int.ofNat := by
    intro k hk
    obtain ⟨x, hx, rfl⟩ := List.mem_map.1 hk
    obtain ⟨o, ho, rfl⟩ := List.mem_map.1 hx
    obtain ⟨_, _, _, _, h0, h3⟩ := h.inn o ho
    exact List.mem_map.2 ⟨o.a.toNat, List.mem_range.2 (by omega), by show ((o.a.toNat : Nat) : Int) = o.a; omega⟩
  have := nodup_le hn hk
  simpa using this
end Go.Proofs.YtdmhnoffejjpnaaGreatDoor
end
