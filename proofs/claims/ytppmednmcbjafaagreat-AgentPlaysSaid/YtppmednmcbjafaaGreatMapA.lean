/-
  A map of the call's own as a list of keys with plain elements: whatever order, each key once.
-/
import Derived.Test.YtppmednmcbjafaaGreatBase
import Derived.Maps.OwnSet
import Derived.Maps.OwnOps
import Derived.Maps.RangeWalk
import Derived.Maps.Ext
set_option linter.unusedVariables false
set_option linter.unusedSimpArgs false
set_option maxRecDepth 100000
set_option linter.unusedSectionVars false
namespace Go.Proofs.YtppmednmcbjafaaGreat
open Go.RowKit Go Go.Maps

section
variable {α κ : Type}
/-- how an element reads: as itself -/
noncomputable def heldR (mk : α → Value) (v : Value) : Option (DataW α × List MemPlace) :=
  open Classical in if h : ∃ x, v = mk x then some (.held h.choose, []) else none

theorem heldR_mk {mk : α → Value} (hi : ∀ x y, mk x = mk y → x = y) (x : α) : heldR mk (mk x) = some (.held x, []) := by
  unfold heldR
  have h : ∃ y, mk x = mk y := ⟨x, rfl⟩
  rw [dif_pos h]
  rw [← hi _ _ h.choose_spec]
theorem heldR_inv {mk : α → Value} {v : Value} {z : DataW α × List MemPlace} (h : heldR mk v = some z) : ∃ x, v = mk x ∧ z = (.held x, []) := by
  unfold heldR at h
  split at h
  · rename_i hx
    cases h
    exact ⟨_, hx.choose_spec, rfl⟩
  · cases h

variable [DecidableEq κ]
/-- what a list of keys has at a key -/
def look (L : List (κ × α)) (k : κ) : Option α := (L.find? fun p => decide (p.1 = k)).map (·.2)
/-- a list without a key -/
def without (L : List (κ × α)) (k : κ) : List (κ × α) := L.filter fun p => decide (p.1 ≠ k)
/-- a list with an element at a key -/
def withKey (L : List (κ × α)) (k : κ) (x : α) : List (κ × α) := (k, x) :: without L k

theorem look_some {L : List (κ × α)} {k : κ} {x : α} (h : look L k = some x) : (k, x) ∈ L := by
  unfold look at h
  obtain ⟨p, hp, rfl⟩ := Option.map_eq_some_iff.1 h
  have := List.find?_some hp
  simp at this
  subst this
  exact List.mem_of_find?_eq_some hp
theorem look_none {L : List (κ × α)} {k : κ} (h : look L k = none) : ∀ p ∈ L, p.1 ≠ k := by
  unfold look at h
  simp only [Option.map_eq_none_iff, List.find?_eq_none] at h
  intro p hp
  simpa using h p hp
theorem look_mem {L : List (κ × α)} (hn : (L.map (·.1)).Nodup) {k : κ} {x : α} (h : (k, x) ∈ L) : look L k = some x := by
  cases hl : look L k with
  | none => exact absurd rfl (look_none hl _ h)
  | some y =>
    have h2 := look_some hl
    induction L with
    | nil => simp at h
    | cons p r ih =>
      simp only [List.map_cons, List.nodup_cons] at hn
      unfold look at hl
      simp only [List.find?_cons] at hl
      by_cases hp : p.1 = k
      · simp only [hp, decide_true] at hl
        simp at hl
        rcases List.mem_cons.1 h with h3 | h3
        · rw [← h3] at hl; simp at hl; rw [hl]
        · exact absurd (List.mem_map.2 ⟨_, h3, hp.symm⟩) hn.1
      · simp only [hp, decide_false] at hl
        refine ih hn.2 ?_ hl ?_
        · rcases List.mem_cons.1 h with h3 | h3
          · rw [← h3] at hp; exact absurd rfl hp
          · exact h3
        · rcases List.mem_cons.1 h2 with h3 | h3
          · rw [← h3] at hp; exact absurd rfl hp
          · exact h3
theorem look_without_same (L : List (κ × α)) (k : κ) : look (without L k) k = none := by
  unfold look without
  simp [List.find?_filter]
theorem look_without_other (L : List (κ × α)) {k j : κ} (h : j ≠ k) : look (without L k) j = look L j := by
  unfold look without
  congr 1
  rw [List.find?_filter]
  congr 1
  funext p
  by_cases hp : p.1 = j
  · simp [hp, h]
  · simp [hp]
theorem look_withKey_same (L : List (κ × α)) (k : κ) (x : α) : look (withKey L k x) k = some x := by
  simp [look, withKey]
theorem look_withKey_other (L : List (κ × α)) {k j : κ} (x : α) (h : j ≠ k) : look (withKey L k x) j = look L j := by
  have := look_without_other L h
  unfold look at *
  unfold withKey
  rw [List.find?_cons]
  simp only [show decide (k = j) = false by simp; exact fun q => h q.symm]
  exact this
theorem nodup_without {L : List (κ × α)} (h : (L.map (·.1)).Nodup) (k : κ) : ((without L k).map (·.1)).Nodup :=
  h.sublist (List.Sublist.map _ List.filter_sublist)
theorem nodup_withKey {L : List (κ × α)} (h : (L.map (·.1)).Nodup) (k : κ) (x : α) : ((withKey L k x).map (·.1)).Nodup := by
  unfold withKey
  rw [List.map_cons, List.nodup_cons]
  refine ⟨?_, nodup_without h k⟩
  intro hm
  obtain ⟨p, hp, hk⟩ := List.mem_map.1 hm
  simp [without] at hp
  exact hp.2 hk
theorem length_without {L : List (κ × α)} (hn : (L.map (·.1)).Nodup) (k : κ) : (without L k).length + (if (look L k).isSome then 1 else 0) = L.length := by
  induction L with
  | nil => simp [without, look]
  | cons p r ih =>
    simp only [List.map_cons, List.nodup_cons] at hn
    have := ih hn.2
    by_cases hp : p.1 = k
    · have h1 : look r k = none := by
        cases hl : look r k with
        | none => rfl
        | some y => exact absurd (List.mem_map.2 ⟨_, look_some hl, hp.symm⟩) hn.1
      rw [h1] at this
      simp [without, look, hp] at this ⊢
      exact this
    · have h2 : look (p :: r) k = look r k := by simp [look, List.find?_cons, hp]
      rw [h2]
      have h3 : without (p :: r) k = p :: without r k := by simp [without, hp]
      rw [h3]
      simp only [List.length_cons]
      omega

variable {P : Program}
/-- how keys read -/
structure KeyLit (P : Program) (K : TypeId) (kv : κ → Value) (kl : κ → Lit) (ok : κ → Prop) : Prop where
  keyed : Keyed P K
  inj : ∀ a b, kl a = kl b → a = b
  isKey : ∀ a, WideAt.IsKeyLit (kl a)
  reads : ∀ a, ok a → keyOf P K (kv a) = some (kl a)

/-- Block b is a map of at most n entries: those of L. -/
def Mp (P : Program) (K : TypeId) (kl : κ → Lit) (mk : α → Value) (w : World) (b n : Nat) (L : List (κ × α)) : Prop :=
  ∃ es, w.ownsMap P K (heldR mk) b n (.map es) ∧ es.Perm (L.map fun p => (kl p.1, .held p.2)) ∧ (L.map (·.1)).Nodup

variable {K : TypeId} {kv : κ → Value} {kl : κ → Lit} {ok : κ → Prop} {mk : α → Value} {w : World} {b n : Nat} {L : List (κ × α)}

theorem Mp.made (w : World) : Mp P K kl mk (w.alloc (.map #[] 0)) w.heap.size 0 ([] : List (κ × α)) :=
  ⟨[], World.ownsMap_made _ _ _ _, by simp, by simp⟩
theorem Mp.lt (h : Mp P K kl mk w b n L) : b < w.heap.size := by obtain ⟨_, h, _⟩ := h; exact h.lt
theorem Mp.mono (h : Mp P K kl mk w b n L) {m : Nat} (hm : n ≤ m) : Mp P K kl mk w b m L := by
  obtain ⟨es, h1, h2⟩ := h; exact ⟨es, h1.mono hm, h2⟩
theorem Mp.block {w' : World} (h : Mp P K kl mk w b n L) (hb : w'.heap[b]? = w.heap[b]?) : Mp P K kl mk w' b n L := by
  obtain ⟨es, ⟨e, c, h1, h2, h3, h4⟩, h5⟩ := h
  exact ⟨es, ⟨e, c, hb.trans h1, h2, h3, h4⟩, h5⟩
theorem Mp.fr {w' : World} {S : Nat → Prop} (h : Mp P K kl mk w b n L) (hf : Fr S w w') (hn : ¬ S b) : Mp P K kl mk w' b n L :=
  h.block (hf.block b h.lt hn)
theorem Mp.perm {L' : List (κ × α)} (h : Mp P K kl mk w b n L) (hp : L.Perm L') : Mp P K kl mk w b n L' := by
  obtain ⟨es, h1, h2, h3⟩ := h
  exact ⟨es, h1, h2.trans (hp.map _), (hp.map _).nodup_iff.1 h3⟩
theorem Mp.nodup (h : Mp P K kl mk w b n L) : (L.map (·.1)).Nodup := by obtain ⟨_, _, _, h⟩ := h; exact h
theorem Mp.length (h : Mp P K kl mk w b n L) : L.length ≤ n := by
  obtain ⟨es, h1, h2, _⟩ := h
  have := h1.size_le
  rw [Maps.size_eq, h2.length_eq] at this
  simpa using this

theorem Mp.tight (h : Mp P K kl mk w b n L) {m : Nat} (hm : L.length ≤ m) : Mp P K kl mk w b m L := by
  obtain ⟨es, ⟨e, c, h1, h2, h3, h4⟩, h5, h6⟩ := h
  refine ⟨es, ⟨e, c, h1, h2, ?_, h4⟩, h5, h6⟩
  have : es.length = e.size := by
    cases h4
    rw [length_sorted]; simp
  rw [← this, h5.length_eq]
  simpa using hm

theorem Mp.atKey (KL : KeyLit P K kv kl ok) (h : Mp P K kl mk w b n L) {es : List (Lit × DataW α)} (ho : w.ownsMap P K (heldR mk) b n (.map es)) (hp : es.Perm (L.map fun p => (kl p.1, .held p.2))) (k : κ) (z : DataW α) :
    (DataW.map es).atKey (kl k) z = ((look L k).map .held).getD z ∧ Maps.has (.map es) (kl k) = (look L k).isSome := by
  obtain ⟨es2, he, hap, hkl⟩ := ho.entries KL.keyed
  cases he
  cases hl : look L k with
  | some x =>
    have hm : (kl k, DataW.held x) ∈ es := hp.mem_iff.2 (List.mem_map.2 ⟨_, look_some hl, rfl⟩)
    refine ⟨by simpa using WideAt.atKey_mem z (KL.isKey k) hap hm, ?_⟩
    rw [Maps.has_eq]
    simp only [Option.isSome_some, List.any_eq_true]
    exact ⟨_, hm, WideAt.sameKey_self (KL.isKey k)⟩
  | none =>
    have hh : Maps.has (.map es) (kl k) = false := by
      rw [Maps.has_eq]
      rw [List.any_eq_false]
      intro p hpm hs
      obtain ⟨q, hq, rfl⟩ := List.mem_map.1 (hp.mem_iff.1 hpm)
      exact look_none hl q hq (KL.inj _ _ (WideAt.sameKey_eq hs))
    exact ⟨by simpa using Maps.atKey_of_not_has hh z, by simpa using hh⟩

/-- 'm[k]', as an equation for the walk -/
theorem Mp.run_look (KL : KeyLit P K kv kl ok) (h : Mp P K kl mk w b n L) {t e : TypeId} (ht : P.underlying t = some (.map K e)) {x0 : α} (hz : (zeroValue e).run P w = .ok (mk x0) w) (hi : ∀ x y, mk x = mk y → x = y) (k : κ) (hk : ok k) :
    (Instr.lookup t (.map (some b)) (kv k) false).run P w = .ok (mk ((look L k).getD x0)) w := by
  obtain ⟨es, ho, hp, hn⟩ := id h
  obtain ⟨v, ps, hr, hv⟩ := ho.lookup KL.keyed ht hz (heldR_mk hi x0) (KL.reads k hk)
  obtain ⟨x, rfl, hx⟩ := heldR_inv hv
  have := (Mp.atKey KL h ho hp k (.held x0)).1
  rw [hr]
  congr 1
  congr 1
  simp only [Prod.mk.injEq] at hx
  rw [this] at hx
  cases hl : look L k with
  | none => rw [hl] at hx; simp at hx; simp [hx.1]
  | some y => rw [hl] at hx; simp at hx; simp [hx.1]
/-- 'v, ok := m[k]' -/
theorem Mp.run_look_ok (KL : KeyLit P K kv kl ok) (h : Mp P K kl mk w b n L) {t e : TypeId} (ht : P.underlying t = some (.map K e)) {x0 : α} (hz : (zeroValue e).run P w = .ok (mk x0) w) (hi : ∀ x y, mk x = mk y → x = y) (k : κ) (hk : ok k) :
    (Instr.lookup t (.map (some b)) (kv k) true).run P w = .ok (.tuple #[mk ((look L k).getD x0), .bool (look L k).isSome]) w := by
  obtain ⟨es, ho, hp, hn⟩ := id h
  obtain ⟨v, ps, hr, hv⟩ := ho.look_ok KL.keyed ht hz (heldR_mk hi x0) (KL.reads k hk)
  obtain ⟨x, rfl, hx⟩ := heldR_inv hv
  have h2 := Mp.atKey KL h ho hp k (.held x0)
  rw [hr, h2.2]
  congr 4
  simp only [Prod.mk.injEq] at hx
  rw [h2.1] at hx
  cases hl : look L k with
  | none => rw [hl] at hx; simp at hx; simp [hx.1]
  | some y => rw [hl] at hx; simp at hx; simp [hx.1]
/-- 'len(m)' -/
theorem Mp.run_len (h : Mp P K kl mk w b n L) {t e : TypeId} (ht : P.underlying t = some (.map K e)) (ty : TypeId) :
    (Builtin.len_ #[t] ty #[.map (some b)]).run P w = .ok (.int .i64 L.length) w := by
  obtain ⟨es, ho, hp, _⟩ := h
  rw [ho.len ht, Maps.size_eq, hp.length_eq]
  simp

theorem Mp.put (KL : KeyLit P K kv kl ok) {w' : World} {es : List (Lit × DataW α)} {k : κ} {x : α} {m : Nat} (hp : es.Perm (L.map fun p => (kl p.1, .held p.2))) (hn : (L.map (·.1)).Nodup)
    (h : w'.ownsMap P K (heldR mk) b m ((DataW.map es).put (kl k) (.held x))) : Mp P K kl mk w' b m (withKey L k x) := by
  refine ⟨_, h, ?_, nodup_withKey hn k x⟩
  refine (WideShapes.insert_perm _ _).trans ?_
  unfold withKey without
  rw [List.map_cons]
  refine List.Perm.cons _ ?_
  refine (hp.filter _).trans ?_
  rw [List.filter_map]
  refine List.Perm.map _ (List.Perm.of_eq ?_)
  refine List.filter_congr fun p _ => ?_
  simp only [Function.comp]
  by_cases hk : p.1 = k
  · simp [hk, WideAt.sameKey_self (KL.isKey k)]
  · rw [Maps.sameKey_ne (fun q => hk (KL.inj _ _ q))]
    simp [hk]
theorem Mp.run_put (KL : KeyLit P K kv kl ok) (h : Mp P K kl mk w b n L) {t e : TypeId} (ht : P.underlying t = some (.map K e)) (hi : ∀ x y, mk x = mk y → x = y) (hn : n < maxLen) (k : κ) (y : α) (hk : ok k) :
    ∃ w', (Instr.mapUpdate t (.map (some b)) (kv k) (mk y)).run P w = .ok () w' ∧ Mp P K kl mk w' b (n + 1) (withKey L k y) ∧ Fr (onlyB b) w w' := by
  obtain ⟨es, ho, hp, hn2⟩ := h
  obtain ⟨w', h1, h2, h3⟩ := ho.update KL.keyed ht hn (KL.reads k hk) (heldR_mk hi y)
  exact ⟨w', h1, Mp.put KL hp hn2 h2, (Fr.refl (onlyB b) w).grown h3 (fun q hq _ => by cases hq; rfl)⟩
theorem Mp.dele (KL : KeyLit P K kv kl ok) {w' : World} {es : List (Lit × DataW α)} {k : κ} {m : Nat} (hp : es.Perm (L.map fun p => (kl p.1, .held p.2))) (hn : (L.map (·.1)).Nodup)
    (h : w'.ownsMap P K (heldR mk) b m ((DataW.map es).del (kl k))) : Mp P K kl mk w' b m (without L k) := by
  refine ⟨_, h, ?_, nodup_without hn k⟩
  unfold without
  refine (hp.filter _).trans ?_
  rw [List.filter_map]
  refine List.Perm.map _ (List.Perm.of_eq ?_)
  refine List.filter_congr fun p _ => ?_
  simp only [Function.comp]
  by_cases hk : p.1 = k
  · simp [hk, WideAt.sameKey_self (KL.isKey k)]
  · rw [Maps.sameKey_ne (fun q => hk (KL.inj _ _ q))]
    simp [hk]
end

section
variable {α κ : Type} [DecidableEq κ] {P : Program} {K : TypeId} {kv : κ → Value} {kl : κ → Lit} {ok : κ → Prop} {mk : α → Value} {b n : Nat} {L : List (κ × α)}
variable (w : World) {ops : Array Oper} {rest : List Oper} {o : Oper} {a : Act} {Q : Exit → Act → World → Prop}
/-- 'm[k] = v', an arm: '(at_mapUpdate; refine wpList_put_mp _ rfl _ _ _ T rfl KL ht hi h (by omega) k x hk rfl rfl rfl ?_; intro w1 m1 f1)' -/
theorem wpList_put_mp (hg : o.guard = none) (m x v : Operand) (t : TypeId) (hop : o.op = Op.mapUpdate t m x v) (KL : KeyLit P K kv kl ok) {e : TypeId} (ht : P.underlying t = some (.map K e)) (hi : ∀ x y, mk x = mk y → x = y)
    (h : Mp P K kl mk w b n L) (hn : n < maxLen) (k : κ) (y : α) (hk : ok k) (hm : a.eval m = .map (some b)) (hx : a.eval x = kv k) (hv : a.eval v = mk y)
    (hK : ∀ w', Mp P K kl mk w' b (n + 1) (withKey L k y) → Fr (onlyB b) w w' → wpList P ops Q rest (a.put o.dst undef) w') : wpList P ops Q (o :: rest) a w := by
  obtain ⟨es, ho, hp, hn2⟩ := h
  refine wpList_mapUpdate_own w hg m x v t hop K e KL.keyed ht _ b n _ hm ho hn _ _ _ hx hv (KL.reads k hk) _ _ (heldR_mk hi y) fun w' h1 h2 => ?_
  exact hK w' (Mp.put KL hp hn2 h1) ((Fr.refl (onlyB b) w).grown h2 (fun q hq _ => by cases hq; rfl))
/-- 'delete(m, k)': '(at_delete; refine wpList_del_mp _ rfl _ _ T K rfl KL ht h k hk rfl rfl ?_; intro w1 m1 f1)' -/
theorem wpList_del_mp (hg : o.guard = none) (m x : Operand) (t K' : TypeId) (hop : o.op = Op.call { callee := Callee.builtin Builtin.delete, args := #[m, x], argTypes := #[t, K] }) (KL : KeyLit P K kv kl ok) {e : TypeId} (ht : P.underlying t = some (.map K e))
    (h : Mp P K kl mk w b n L) (k : κ) (hk : ok k) (hm : a.eval m = .map (some b)) (hx : a.eval x = kv k)
    (hK : ∀ w', Mp P K kl mk w' b n (without L k) → Fr (onlyB b) w w' → wpList P ops Q rest (a.put o.dst (.tuple #[])) w') : wpList P ops Q (o :: rest) a w := by
  obtain ⟨es, ho, hp, hn2⟩ := h
  refine wpList_delete_own w hg m x t K hop e KL.keyed ht _ b n _ hm ho _ _ hx (KL.reads k hk) fun w' h1 h2 => ?_
  exact hK w' (Mp.dele KL hp hn2 h1) ((Fr.refl (onlyB b) w).grown h2.grown (fun q hq _ => by cases hq; rfl))
end

section
variable {α κ : Type} [DecidableEq κ] {P : Program} {K : TypeId} {kv : κ → Value} {kl : κ → Lit} {ok : κ → Prop} {mk : α → Value} {b r n : Nat} {L td : List (κ × α)}
/-- A range over the map is under way: td is still to come. -/
def Rg (P : Program) (K : TypeId) (kl : κ → Lit) (mk : α → Value) (w : World) (b r n : Nat) (L td : List (κ × α)) : Prop :=
  ∃ es left cnt, w.ranges P K (heldR mk) b r n (.map es) left cnt ∧ es.Perm (L.map fun p => (kl p.1, .held p.2)) ∧ (L.map (·.1)).Nodup ∧ (td.map (·.1)).Nodup ∧ (∀ p ∈ td, p ∈ L) ∧ ∀ k, left (kl k) = (look td k).isSome
variable {w : World}
theorem Rg.mp (h : Rg P K kl mk w b r n L td) : Mp P K kl mk w b n L := by
  obtain ⟨es, left, cnt, h1, h2, h3, _⟩ := h
  exact ⟨es, h1.owns, h2, h3⟩
theorem Rg.ne (h : Rg P K kl mk w b r n L td) : r ≠ b := by obtain ⟨es, left, cnt, h1, _⟩ := h; exact h1.ne
theorem Rg.lt (h : Rg P K kl mk w b r n L td) : r < w.heap.size := by obtain ⟨es, left, cnt, h1, _⟩ := h; exact h1.lt
theorem Rg.fr {w' : World} {S : Nat → Prop} (h : Rg P K kl mk w b r n L td) (hf : Fr S w w') (hb : ¬ S b) (hr : ¬ S r) : Rg P K kl mk w' b r n L td ∧ w'.rangeLeft b r = w.rangeLeft b r := by
  have e1 := hf.block b h.mp.lt hb
  have e2 := hf.block r h.lt hr
  obtain ⟨es, left, cnt, ⟨es0, c, s, se, c0, q1, q2, q3, q4, q5, q6⟩, h2⟩ := h
  refine ⟨⟨es, left, cnt, ⟨es0, c, s, se, c0, e1.trans q1, q2, q3, q4, e2.trans q5, q6⟩, h2⟩, ?_⟩
  unfold World.rangeLeft
  rw [e1, e2]
theorem look_isSome_iff {k : κ} : (look td k).isSome = true ↔ ∃ x, (k, x) ∈ td := by
  constructor
  · intro h
    obtain ⟨x, hx⟩ := Option.isSome_iff_exists.1 h
    exact ⟨x, look_some hx⟩
  · rintro ⟨x, hx⟩
    cases h : look td k with
    | some _ => rfl
    | none => exact absurd rfl (look_none h _ hx)
theorem look_nil_of {L : List (κ × α)} (h : ∀ k, (look L k).isSome = false) : L = [] := by
  cases L with
  | nil => rfl
  | cons p r =>
    have := h p.1
    simp [look, List.find?_cons] at this
theorem left_without (KL : KeyLit P K kv kl ok) {left : Lit → Bool} (h : ∀ k, left (kl k) = (look td k).isSome) (x k : κ) : (left (kl k) && !(kl k).sameKey (kl x)) = (look (without td x) k).isSome := by
  by_cases hk : k = x
  · subst hk
    rw [look_without_same, WideAt.sameKey_self (KL.isKey k)]
    simp
  · rw [look_without_other _ hk, Maps.sameKey_ne (fun q => hk (KL.inj _ _ q)), h]
    simp
theorem without_twice (x : κ) : without (without td x) x = without td x := by
  unfold without
  rw [List.filter_filter]
  simp
theorem mem_without {x : κ} {p : κ × α} : p ∈ without td x ↔ p ∈ td ∧ p.1 ≠ x := by simp [without]
end
section
variable {α κ : Type} [DecidableEq κ] {P : Program} {K : TypeId} {kv : κ → Value} {kl : κ → Lit} {ok : κ → Prop} {mk : α → Value} {b r n : Nat} {L td : List (κ × α)}
variable (w : World) {ops : Array Oper} {rest : List Oper} {o : Oper} {a : Act} {Q : Exit → Act → World → Prop}
/-- 'range m': '(at_range; refine wpList_range_mp _ rfl _ T rfl KL ht h rfl ?_; intro w1 r1 f1 s1)', then go_frame -/
theorem wpList_range_mp (hg : o.guard = none) (m : Operand) (t : TypeId) (hop : o.op = Op.range t m) (KL : KeyLit P K kv kl ok) {e : TypeId} (ht : P.underlying t = some (.map K e))
    (h : Mp P K kl mk w b n L) (hm : a.eval m = .map (some b))
    (hK : ∀ w', Rg P K kl mk w' b w.heap.size n L L → Fr noB w w' → w'.heap.size = w.heap.size + 1 → wpList P ops Q rest (a.put o.dst (.pointer (some ⟨w.heap.size, 0, none⟩))) w') : wpList P ops Q (o :: rest) a w := by
  have h0 := h
  obtain ⟨es, ho, hp, hn2⟩ := h
  refine wpList_range_own w hg m t hop K e KL.keyed ht _ b n _ hm ho fun w' h1 h2 h3 => ?_
  exact hK w' ⟨es, _, _, h1, hp, hn2, hn2, fun p hp => hp, fun k => (Mp.atKey KL h0 ho hp k (.map [])).2⟩ ((Fr.refl noB w).grown h2 (fun q hq => by cases hq)) h3
/-- the step; keys are ints -/
theorem wpList_next_rg {L td : List (Int × α)} {kvi : Int → Value} {kli : Int → Lit} {oki : Int → Prop} (e1 : kvi = fun k => .int .i64 k) (e2 : kli = fun k => .int .i64 k) (hg : o.guard = none) (it : Operand) (hop : o.op = Op.next it false) (KL : KeyLit P K kvi kli oki) (hk : P.underlying K = some (.int .i64)) (hi : ∀ x y, mk x = mk y → x = y)
    (h : Rg P K kli mk w b r n L td) (hit : a.eval it = .pointer (some ⟨r, 0, none⟩))
    (hDone : td = [] → wpList P ops Q rest (a.put o.dst (.tuple #[.bool false])) w)
    (hMore : ∀ (x : Int) (c : α) (w' : World), (Lit.int .i64 x).wf = true → (x, c) ∈ td → Rg P K kli mk w' b r n L (without td x) → w'.rangeLeft b r < w.rangeLeft b r → Fr (onlyB r) w w' → w'.heap.size = w.heap.size →
      (Instr.entry (.pointer (some ⟨r, 0, none⟩))).run P w' = .ok (.tuple #[.int .i64 x, mk c]) w' → wpList P ops Q rest (a.put o.dst (.tuple #[.bool true, .int .i64 x, mk c])) w') : wpList P ops Q (o :: rest) a w := by
  subst e1 e2
  obtain ⟨es, left, cnt, hr, hp, hn1, hn2, hsub, hl⟩ := h
  have hr0 := hr
  refine wpList_next_ranges w hg it hop K KL.keyed (heldR mk) (Value.int .i64) mk (fun key kl hkey => by obtain ⟨x, rfl, _⟩ := Maps.keyOf_int_inv hk hkey; exact ⟨x, rfl⟩)
    (fun v y hv => by obtain ⟨c, rfl, _⟩ := heldR_inv hv; exact ⟨c, rfl⟩) b r n _ left cnt hit hr (fun h0 hlf => hDone (look_nil_of fun k => by rw [← hl]; exact hlf _))
    (fun x c kl y w' cnt' hkey hlk hv hat hrg hlt hgr hsz hen => ?_)
  obtain ⟨x', ex, rfl, hwx⟩ := Maps.keyOf_int_inv hk hkey
  cases ex
  rw [heldR_mk hi c] at hv
  cases hv
  have h1 : (look td x).isSome = true := by rw [← hl]; exact hlk
  obtain ⟨c', hc'⟩ := look_isSome_iff.1 h1
  have h2 := look_mem hn1 (hsub _ hc')
  have h3 := (Mp.atKey KL ⟨es, hr0.owns, hp, hn1⟩ hr0.owns hp x (.map [])).1
  rw [hat, h2] at h3
  simp at h3
  subst h3
  refine hMore x c w' hwx hc' ⟨es, _, _, hrg, hp, hn1, nodup_without hn2 x, fun p hp => hsub p (mem_without.1 hp).1, fun k => left_without KL hl x k⟩ ?_ ((Fr.refl (onlyB r) w).grown hgr (fun q hq _ => by cases hq; rfl)) hsz hen
  rw [hrg.left_eq, hr0.left_eq]
  exact hlt
/-- 'delete(m, k)' in the round -/
theorem wpList_del_rg (hg : o.guard = none) (m x : Operand) (t : TypeId) (hop : o.op = Op.call { callee := Callee.builtin Builtin.delete, args := #[m, x], argTypes := #[t, K] }) (KL : KeyLit P K kv kl ok) {e : TypeId} (ht : P.underlying t = some (.map K e))
    (h : Rg P K kl mk w b r n L td) (k : κ) (hk : ok k) (hm : a.eval m = .map (some b)) (hx : a.eval x = kv k)
    (hK : ∀ w', Rg P K kl mk w' b r n (without L k) (without td k) → w'.rangeLeft b r ≤ w.rangeLeft b r → Fr (onlyB b) w w' → wpList P ops Q rest (a.put o.dst (.tuple #[])) w') : wpList P ops Q (o :: rest) a w := by
  obtain ⟨es, left, cnt, hr, hp, hn1, hn2, hsub, hl⟩ := h
  refine wpList_delete_ranges w hg m x t K hop e KL.keyed ht _ b r n _ left cnt hm hr _ _ hx (KL.reads k hk) fun w' cnt' h1 h2 h3 => ?_
  have hM : Mp P K kl mk w' b n (without L k) := Mp.dele KL hp hn1 h1.owns
  refine hK w' ⟨_, _, _, h1, ?_, nodup_without hn1 k, nodup_without hn2 k, fun p hp => mem_without.2 ⟨hsub p (mem_without.1 hp).1, (mem_without.1 hp).2⟩, fun k' => left_without KL hl k k'⟩ ?_ ((Fr.refl (onlyB b) w).grown h3.grown (fun q hq _ => by cases hq; rfl))
  · unfold without
    refine (hp.filter _).trans ?_
    rw [List.filter_map]
    refine List.Perm.map _ (List.Perm.of_eq ?_)
    refine List.filter_congr fun p _ => ?_
    simp only [Function.comp]
    by_cases hk : p.1 = k
    · simp [hk, WideAt.sameKey_self (KL.isKey k)]
    · rw [Maps.sameKey_ne (fun q => hk (KL.inj _ _ q))]
      simp [hk]
  · rw [h1.left_eq, hr.left_eq]; exact h2
end
/-- distinct members of a list are no more than it has -/
theorem nodup_le {κ : Type} [DecidableEq κ] : ∀ {l G : List κ}, l.Nodup → (∀ k ∈ l, k ∈ G) → l.length ≤ G.length
  | [], _, _, _ => Nat.zero_le _
  | x :: l, G, hn, hs => by
    rw [List.nodup_cons] at hn
    have hx : x ∈ G := hs x (by simp)
    have h1 := nodup_le (l := l) (G := G.erase x) hn.2 (fun k hk => (List.mem_erase_of_ne (fun e => hn.1 (by rw [← e]; exact hk))).2 (hs k (by simp [hk])))
    rw [List.length_erase_of_mem hx] at h1
    have : 0 < G.length := List.length_pos_of_mem hx
    simp only [List.length_cons]
    omega
/-- nodup lists with the same answers are the same but for the order -/
theorem perm_of_look {α κ : Type} [DecidableEq κ] {L M : List (κ × α)} (h1 : (L.map (·.1)).Nodup) (h2 : (M.map (·.1)).Nodup) (h : ∀ k, look L k = look M k) : L.Perm M := by
  have n1 : L.Nodup := List.Pairwise.of_map (S := (· ≠ ·)) (fun p : κ × α => p.1) (fun a b h e => h (by rw [e])) h1
  have n2 : M.Nodup := List.Pairwise.of_map (S := (· ≠ ·)) (fun p : κ × α => p.1) (fun a b h e => h (by rw [e])) h2
  refine (List.perm_ext_iff_of_nodup n1 n2).2 fun p => ?_
  constructor
  · intro hp; exact look_some ((h p.1).symm.trans (look_mem h1 hp))
  · intro hp; exact look_some ((h p.1).trans (look_mem h2 hp))
/-- keys that are ints -/
def kvI (k : Int) : Value := .int .i64 k
def klI (k : Int) : Lit := .int .i64 k
def okI (k : Int) : Prop := (Lit.int .i64 k).wf = true
theorem keyLit_int {P : Program} {K : TypeId} (h : P.underlying K = some (.int .i64)) : KeyLit P K kvI klI okI :=
  ⟨int_keyed h, fun a b e => by cases e; rfl, fun _ => trivial, fun a ha => keyOf_int_mk h ha⟩
/-- keys that are texts -/
def kvS (s : ByteArray) : Value := .string s
def klS (s : ByteArray) : Lit := .string s.data.toList
def okS (s : ByteArray) : Prop := s.size ≤ maxLen
theorem keyLit_str {P : Program} {K : TypeId} (h : P.underlying K = some .string) : KeyLit P K kvS klS okS :=
  ⟨string_keyed h, fun a b e => by
      cases a; cases b
      simp only [klS, Lit.string.injEq] at e
      rw [Array.toList_inj.1 e], fun _ => trivial, fun a ha => Go.WideMaps.keyOf_string_mk h ha⟩
theorem okI_of {k : Int} (h0 : -9223372036854775808 ≤ k) (h1 : k ≤ 9223372036854775807) : okI k := by
  simpa [okI, Lit.wf, IntKind.min, IntKind.max, IntKind.signed, IntKind.bits] using And.intro h0 h1
end Go.Proofs.YtppmednmcbjafaaGreat
