/-
  What the program keeps and what the reference keeps, plainly.
-/
import Derived.Test.YtdfkjigkpcgngaaAsmAnyL
set_option linter.unusedVariables false
set_option linter.unusedSimpArgs false
set_option maxRecDepth 100000
namespace Go.Proofs.Ytdfkjigkpcgngaa
open Go.RowKit Go Go.Maps Go.Lib

/-- a chunk that the reference keeps -/
structure Kp where
  a : Int
  i : Int
  n : Int
  sp : List Sp
/-- the maps and the list tell the same -/
structure CK (C : CH) (K : List Kp) : Prop where
  no : ∀ a, look C a = none → ∀ c ∈ K, c.a ≠ a
  yes : ∀ a t L, look C a = some (t, L) → (∀ c ∈ K, c.a = a → c.n = t ∧ look L c.i = some c.sp) ∧ (∀ i sp, look L i = some sp → ⟨a, i, t, sp⟩ ∈ K) ∧ (L.map (·.1)).Nodup ∧ L ≠ [] ∧ ∀ k ∈ L.map (·.1), 0 ≤ k ∧ k < t
  ix : ∀ c ∈ K, 0 ≤ c.i ∧ c.i < c.n
  un : K.Pairwise fun c d => ¬ (c.a = d.a ∧ c.i = d.i)
theorem CK.nil : CK [] [] := ⟨fun _ _ c hc => (by cases hc), fun a t L h => (by cases h), fun c hc => (by cases hc), List.Pairwise.nil⟩
/-- does the reference refuse a chunk? -/
def refuses (K : List Kp) (a i n : Int) : Bool := K.any fun c => decide (c.a = a) && (decide (c.n ≠ n) || decide (c.i = i))
theorem refuses_iff (K : List Kp) (a i n : Int) : refuses K a i n = true ↔ ∃ c ∈ K, c.a = a ∧ (c.n ≠ n ∨ c.i = i) := by
  unfold refuses
  rw [List.any_eq_true]
  constructor
  · rintro ⟨c, h1, h2⟩
    simp only [Bool.and_eq_true, Bool.or_eq_true, decide_eq_true_eq] at h2
    exact ⟨c, h1, h2⟩
  · rintro ⟨c, h1, h2⟩
    refine ⟨c, h1, ?_⟩
    simp only [Bool.and_eq_true, Bool.or_eq_true, decide_eq_true_eq]
    exact h2
theorem look_mem1 {α : Type} {L : List (Int × α)} {k : Int} (h : (look L k).isSome = true) : k ∈ L.map (·.1) := by
  cases hl : look L k with
  | none => rw [hl] at h; cases h
  | some x => exact List.mem_map.2 ⟨_, look_some hl, rfl⟩
theorem look_isNone {α : Type} {L : List (Int × α)} {k : Int} (h : look L k = none) : k ∉ L.map (·.1) := fun hm => by
  obtain ⟨p, hp, rfl⟩ := List.mem_map.1 hm
  exact look_none h p hp rfl
/-- both refuse the same chunks -/
theorem refuse_eq {C : CH} {K : List Kp} (h : CK C K) (a i n : Int) (sp : List Sp) (hi : 0 ≤ i ∧ i < n) : (chunkC C a i n sp).1 = !refuses K a i n := by
  unfold chunkC
  cases hl : look C a with
  | none =>
    have : refuses K a i n = false := by
      rw [Bool.eq_false_iff]
      intro q
      obtain ⟨c, h1, h2, _⟩ := (refuses_iff K a i n).1 q
      exact h.no a hl c h1 h2
    rw [this]; rfl
  | some x =>
    obtain ⟨t, L⟩ := x
    obtain ⟨y1, y2, y3, y4, y5⟩ := h.yes a t L hl
    dsimp only
    by_cases hq : (look L i).isSome = true ∨ n ≠ t
    · rw [if_pos hq]
      have : refuses K a i n = true := by
        rw [refuses_iff]
        rcases hq with hq | hq
        · cases hk : look L i with
          | none => rw [hk] at hq; cases hq
          | some s => exact ⟨_, y2 i s hk, rfl, Or.inr rfl⟩
        · by_cases hx : ∃ c ∈ K, c.a = a
          · obtain ⟨c, h1, h2⟩ := hx
            exact ⟨c, h1, h2, Or.inl (by rw [(y1 c h1 h2).1]; exact fun e => hq e.symm)⟩
          · cases L with
            | nil => exact absurd rfl y4
            | cons e r => exact ⟨_, y2 e.1 e.2 (by rw [show e :: r = (e.1, e.2) :: r from rfl, look_cons, if_pos rfl]), rfl, Or.inl (fun e' => hq e'.symm)⟩
      rw [this]; rfl
    · rw [if_neg hq]
      have : refuses K a i n = false := by
        rw [Bool.eq_false_iff]
        intro q
        obtain ⟨c, h1, h2, h3⟩ := (refuses_iff K a i n).1 q
        obtain ⟨z1, z2⟩ := y1 c h1 h2
        rcases h3 with h3 | h3
        · exact hq (Or.inr (fun e => h3 (z1.trans e.symm)))
        · rw [h3] at z2
          exact hq (Or.inl (by rw [z2]; rfl))
      rw [this]; rfl
/-- too few of them: one is missing -/
theorem few_iff {L : List (Int × List Sp)} {t : Nat} (hn : (L.map (·.1)).Nodup) (hk : ∀ k ∈ L.map (·.1), 0 ≤ k ∧ k < (t : Int)) : L.length < t ↔ ∃ i : Nat, i < t ∧ look L (i : Int) = none := by
  constructor
  · intro hlt
    by_cases hx : ∃ i : Nat, i < t ∧ look L (i : Int) = none
    · exact hx
    · exfalso
      have hnd : ((List.range t).map Int.ofNat).Nodup := List.Pairwise.map Int.ofNat (fun a b hab e => hab (Int.ofNat.inj e)) List.nodup_range
      have := nodup_le (G := L.map (·.1)) hnd (fun x hx' => by
        obtain ⟨k, hk', rfl⟩ := List.mem_map.1 hx'
        refine look_mem1 ?_
        cases hl : look L (Int.ofNat k) with
        | none => exact absurd ⟨k, List.mem_range.1 hk', hl⟩ hx
        | some s => rfl)
      simp at this
      omega
  · rintro ⟨i, hi, hl⟩
    have hni := look_isNone hl
    have := nodup_le (G := ((List.range t).filter fun k => decide (k ≠ i)).map Int.ofNat) hn (fun x hx => by
      obtain ⟨h0, h1⟩ := hk x hx
      refine List.mem_map.2 ⟨x.toNat, List.mem_filter.2 ⟨List.mem_range.2 (by omega), ?_⟩, by show ((x.toNat : Nat) : Int) = x; omega⟩
      have : x.toNat ≠ i := fun e => hni (by rw [show ((i : Nat) : Int) = x by omega]; exact hx)
      simpa using this)
    rw [List.length_map, List.length_map] at this
    have h2 : ((List.range t).filter fun k => decide (k ≠ i)).length < (List.range t).length := by
      have hle := List.length_filter_le (fun k => decide (k ≠ i)) (List.range t)
      rcases Nat.lt_or_ge ((List.range t).filter fun k => decide (k ≠ i)).length (List.range t).length with q | q
      · exact q
      · exfalso
        have := (List.length_filter_eq_length_iff (p := fun k => decide (k ≠ i)) (l := List.range t)).1 (by omega) i (List.mem_range.2 hi)
        simp at this
    rw [List.length_range] at h2
    omega
theorem refuses_no {K : List Kp} {a i n : Int} (h : refuses K a i n = false) : ∀ c ∈ K, c.a = a → c.n = n ∧ c.i ≠ i := fun c hc ha => by
  have : ¬ ∃ c ∈ K, c.a = a ∧ (c.n ≠ n ∨ c.i = i) := fun q => by rw [(refuses_iff K a i n).2 q] at h; cases h
  refine ⟨?_, fun e => this ⟨c, hc, ha, Or.inr e⟩⟩
  by_cases e : c.n = n
  · exact e
  · exact absurd ⟨c, hc, ha, Or.inl e⟩ this
/-- a chunk that both keep -/
theorem keep_ok {C : CH} {K : List Kp} (h : CK C K) {a i n : Int} (sp : List Sp) (hi : 0 ≤ i ∧ i < n) (hr : refuses K a i n = false) : CK (chunkC C a i n sp).2 (K ++ [⟨a, i, n, sp⟩]) := by
  have hno := refuses_no hr
  have h1 := refuse_eq h a i n sp hi
  rw [hr] at h1
  have hix : ∀ c ∈ K ++ [⟨a, i, n, sp⟩], 0 ≤ c.i ∧ c.i < c.n := fun c hc => by
    rcases List.mem_append.1 hc with q | q
    · exact h.ix c q
    · obtain rfl := List.mem_singleton.1 q; exact hi
  have hun : List.Pairwise (fun c d : Kp => ¬ (c.a = d.a ∧ c.i = d.i)) (K ++ [(⟨a, i, n, sp⟩ : Kp)]) := by
    rw [List.pairwise_append]
    refine ⟨h.un, List.pairwise_singleton _ _, fun c hc d hd q => ?_⟩
    obtain rfl := List.mem_singleton.1 hd
    exact (hno c hc q.1).2 q.2
  unfold chunkC at h1 ⊢
  cases hl : look C a with
  | none =>
    refine ⟨fun b hb c hc e => ?_, fun b t L hb => ?_, hix, hun⟩
    · have hb' : look ((a, n, [(i, sp)]) :: C) b = none := hb
      rw [look_cons] at hb'
      by_cases q : a = b
      · rw [if_pos q] at hb'; cases hb'
      · rw [if_neg q] at hb'
        rcases List.mem_append.1 hc with hc | hc
        · exact h.no b hb' c hc e
        · obtain rfl := List.mem_singleton.1 hc; exact q e
    · have hb' : look ((a, n, [(i, sp)]) :: C) b = some (t, L) := hb
      rw [look_cons] at hb'
      by_cases q : a = b
      · rw [if_pos q] at hb'
        injection hb' with hb'
        injection hb' with e1 e2
        subst e1 e2 q
        refine ⟨fun c hc e => ?_, fun j s hs => ?_, by simp, by simp, fun k hk => ?_⟩
        · rcases List.mem_append.1 hc with hc | hc
          · exact absurd e (h.no a hl c hc)
          · obtain rfl := List.mem_singleton.1 hc
            exact ⟨rfl, by rw [look_cons, if_pos rfl]⟩
        · rw [look_cons] at hs
          by_cases q2 : i = j
          · rw [if_pos q2] at hs; injection hs with hs; subst q2 hs; exact List.mem_append_right _ (List.mem_singleton.2 rfl)
          · rw [if_neg q2] at hs; cases hs
        · simp at hk; subst hk; exact hi
      · rw [if_neg q] at hb'
        obtain ⟨y1, y2, y3, y4, y5⟩ := h.yes b t L hb'
        refine ⟨fun c hc e => ?_, fun j s hs => List.mem_append_left _ (y2 j s hs), y3, y4, y5⟩
        rcases List.mem_append.1 hc with hc | hc
        · exact y1 c hc e
        · obtain rfl := List.mem_singleton.1 hc; exact absurd e q
  | some x =>
    obtain ⟨t, L⟩ := x
    rw [hl] at h1
    obtain ⟨y1, y2, y3, y4, y5⟩ := h.yes a t L hl
    dsimp only at h1 ⊢
    by_cases hq : (look L i).isSome = true ∨ n ≠ t
    · rw [if_pos hq] at h1; cases h1
    · rw [if_neg hq]
      have hnt : n = t := Classical.not_not.1 fun e => hq (Or.inr e)
      have hni : look L i = none := by
        cases hk : look L i with
        | none => rfl
        | some s => exact absurd (Or.inl (by rw [hk]; rfl)) hq
      have hlk : ∀ b : Int, look (C.map fun c => if c.1 = a then (c.1, c.2.1, (i, sp) :: c.2.2) else c) b = if b = a then (look C b).map (fun x => (x.1, (i, sp) :: x.2)) else look C b := fun b => look_upd C a (fun x => (x.1, (i, sp) :: x.2)) b
      refine ⟨fun b hb c hc e => ?_, fun b t' L' hb => ?_, hix, hun⟩
      · have hb' : look (C.map fun c => if c.1 = a then (c.1, c.2.1, (i, sp) :: c.2.2) else c) b = none := hb
        rw [hlk] at hb'
        by_cases q : b = a
        · rw [if_pos q, q, hl] at hb'; cases hb'
        · rw [if_neg q] at hb'
          rcases List.mem_append.1 hc with hc | hc
          · exact h.no b hb' c hc e
          · obtain rfl := List.mem_singleton.1 hc; exact q e.symm
      · have hb' : look (C.map fun c => if c.1 = a then (c.1, c.2.1, (i, sp) :: c.2.2) else c) b = some (t', L') := hb
        rw [hlk] at hb'
        by_cases q : b = a
        · rw [if_pos q, q, hl] at hb'
          injection hb' with hb'
          injection hb' with e1 e2
          subst e1 e2 q
          refine ⟨fun c hc e => ?_, fun j s hs => ?_, ?_, by simp, fun k hk => ?_⟩
          · show _ ∧ look ((i, sp) :: L) c.i = some c.sp
            rw [look_cons]
            rcases List.mem_append.1 hc with hc | hc
            · obtain ⟨z1, z2⟩ := y1 c hc e
              refine ⟨z1, ?_⟩
              rw [if_neg (fun e' => (hno c hc e).2 e'.symm)]
              exact z2
            · obtain rfl := List.mem_singleton.1 hc
              exact ⟨hnt, by rw [if_pos rfl]⟩
          · have hs' : look ((i, sp) :: L) j = some s := hs
            rw [look_cons] at hs'
            by_cases q2 : i = j
            · rw [if_pos q2] at hs'; injection hs' with hs'; subst q2 hs'
              exact List.mem_append_right _ (List.mem_singleton.2 (by rw [hnt]))
            · rw [if_neg q2] at hs'; exact List.mem_append_left _ (y2 j s hs')
          · show (((i, sp) :: L).map (·.1)).Nodup
            rw [List.map_cons, List.nodup_cons]
            exact ⟨look_isNone hni, y3⟩
          · have hk' : k ∈ ((i, sp) :: L).map (·.1) := hk
            rw [List.map_cons] at hk'
            rcases List.mem_cons.1 hk' with rfl | hk'
            · show 0 ≤ k ∧ k < t; omega
            · exact y5 k hk'
        · rw [if_neg q] at hb'
          obtain ⟨z1, z2, z3, z4, z5⟩ := h.yes b t' L' hb'
          refine ⟨fun c hc e => ?_, fun j s hs => List.mem_append_left _ (z2 j s hs), z3, z4, z5⟩
          rcases List.mem_append.1 hc with hc | hc
          · exact z1 c hc e
          · obtain rfl := List.mem_singleton.1 hc; exact absurd e.symm q
/-! ### a part, as the reference gathers it -/
theorem ck_find {C : CH} {K : List Kp} (h : CK C K) {a t : Int} {L : List (Int × List Sp)} (hl : look C a = some (t, L)) (i : Int) : look L i = none ↔ ∀ c ∈ K, ¬ (c.a = a ∧ c.i = i) := by
  obtain ⟨y1, y2, y3, y4, y5⟩ := h.yes a t L hl
  constructor
  · rintro hn c hc ⟨e1, e2⟩
    obtain ⟨_, z⟩ := y1 c hc e1
    rw [e2, hn] at z
    cases z
  · intro hno
    cases hk : look L i with
    | none => rfl
    | some s => exact absurd ⟨rfl, rfl⟩ (hno _ (y2 i s hk))
theorem ck_t {C : CH} {K : List Kp} (h : CK C K) {a t : Int} {L : List (Int × List Sp)} (hl : look C a = some (t, L)) : 1 ≤ t := by
  obtain ⟨y1, y2, y3, y4, y5⟩ := h.yes a t L hl
  cases L with
  | nil => exact absurd rfl y4
  | cons e r => have := y5 e.1 (by simp); omega
/-- no chunk of the agent: the part isn't there -/
theorem part_no (tr : Int) {C : CH} (p : Pn) (hl : look C p.a = none) : partOf tr C p = none := by unfold partOf; rw [hl]
/-- one of its chunks is missing: the part isn't there -/
theorem part_miss (tr : Int) {C : CH} {K : List Kp} (h : CK C K) (p : Pn) {t : Int} {L : List (Int × List Sp)} (hl : look C p.a = some (t, L)) {i : Nat} (hi : (i : Int) < t) (hn : look L (i : Int) = none) : partOf tr C p = none := by
  obtain ⟨y1, y2, y3, y4, y5⟩ := h.yes _ t L hl
  have ht := ck_t h hl
  have := (few_iff (t := t.toNat) y3 (fun k hk => by have := y5 k hk; omega)).2 ⟨i, by omega, hn⟩
  unfold partOf
  rw [hl]
  show (if _ then _ else _) = _
  rw [if_pos (by omega)]
/-- all of them are there: their spans, if they are as many as counted and in order -/
theorem part_full (tr : Int) {C : CH} {K : List Kp} (h : CK C K) (p : Pn) {t : Int} {L : List (Int × List Sp)} (hl : look C p.a = some (t, L)) (hall : ∀ i : Nat, (i : Int) < t → look L (i : Int) ≠ none) :
    partOf tr C p = if ((rowsOf L t.toNat).flatten.length : Int) = p.n ∧ rowF tr 0 (rowsOf L t.toNat).flatten = true then some (rowsOf L t.toNat).flatten else none := by
  obtain ⟨y1, y2, y3, y4, y5⟩ := h.yes _ t L hl
  have ht := ck_t h hl
  have hlen : ¬ L.length < t.toNat := fun q => by
    obtain ⟨i, hi, hn⟩ := (few_iff (t := t.toNat) y3 (fun k hk => by have := y5 k hk; omega)).1 q
    exact hall i (by omega) hn
  unfold partOf
  rw [hl]
  show (if _ then _ else _) = _
  rw [if_neg (by omega)]
end Go.Proofs.Ytdfkjigkpcgngaa
