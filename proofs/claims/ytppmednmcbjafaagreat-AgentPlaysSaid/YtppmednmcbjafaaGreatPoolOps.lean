/-
  What a pool's write, drop and traces make of the rows of texts: plain mathematics.
-/
import Derived.Test.YtppmednmcbjafaaGreatPoolL
import Derived.Lib.SlicesCompact
set_option linter.unusedVariables false
set_option linter.unusedSimpArgs false
set_option maxRecDepth 100000
namespace Go.Proofs.YtppmednmcbjafaaGreat
open Go.RowKit Go Go.Lib

theorem split_at {L : List Bf} {i : Nat} {b : Bf} (h : L[i]? = some b) : L = L.take i ++ b :: L.drop (i + 1) := by
  obtain ⟨hi, rfl⟩ := List.getElem?_eq_some_iff.1 h
  rw [List.getElem_cons_drop, List.take_append_drop]
theorem set_at {L : List Bf} {i : Nat} {b : Bf} (y : Bf) (h : L[i]? = some b) : L.set i y = L.take i ++ y :: L.drop (i + 1) := by
  have hi := (List.getElem?_eq_some_iff.1 h).1
  rw [List.set_eq_take_append_cons_drop, if_pos hi]
theorem put_n (b : Bf) (s : Sp) : (b.put s).n = b.n + 1 := rfl
theorem put_a (b : Bf) (s : Sp) : (b.put s).a = if b.n = 0 then s else b.a := by
  unfold Bf.put Bf.at
  match b with
  | ⟨0, _, _, _⟩ => rfl
  | ⟨1, _, _, _⟩ => rfl
  | ⟨n + 2, _, _, _⟩ => simp
theorem put_l (b : Bf) (s : Sp) (h : b.n < 3) : (b.put s).l = b.l ++ [s] := by
  unfold Bf.put Bf.at Bf.l
  match b, h with
  | ⟨0, _, _, _⟩, _ => rfl
  | ⟨1, _, _, _⟩, _ => rfl
  | ⟨2, _, _, _⟩, _ => rfl
theorem put_t {b : Bf} {s : Sp} (h : b.of s.t = true ∨ b.n = 0) : (b.put s).of s.t = true := by
  rw [of_iff, put_n, put_a]
  refine ⟨by omega, ?_⟩
  split
  · rfl
  · rcases h with h | h
    · exact (of_iff.1 h).2
    · omega
theorem allOf_app (A B : List Bf) (t : Int) : allOf (A ++ B) t = allOf A t ++ allOf B t := by unfold allOf; rw [List.filter_append, List.flatMap_append]
theorem allOf_cons (b : Bf) (B : List Bf) (t : Int) : allOf (b :: B) t = (if b.of t = true then b.l else []) ++ allOf B t := by
  unfold allOf
  rw [List.filter_cons]
  split
  · rw [List.flatMap_cons]
  · rfl
theorem oneB_symm {a b : Bf} (h : oneB a b) : oneB b a := fun h1 h2 h3 => (h h2 h1 h3.symm).symm

/-- A span more, in its trace's buffer that isn't full, or in a free one, if there is none such. -/
theorem PI.write {N i : Nat} {L : List Bf} {P : TP} {b : Bf} (h : PI N L P) (hi : L[i]? = some b) (t : Int) (x : ByteArray) (ht : 1 ≤ t ∧ t ≤ 65535)
    (hb : (b.of t = true ∧ b.n < 3) ∨ (b.n = 0 ∧ ∀ c ∈ L, c.of t = true → c.n = 3)) :
    PI N (L.set i (b.put ⟨t, ((txt P t).length : Int) + 1, x⟩)) (addT P t x) := by
  have h3 : b.n < 3 := by rcases hb with q | q <;> omega
  have hbt : b.of t = true ∨ b.n = 0 := by rcases hb with q | q; exact Or.inl q.1; exact Or.inr q.1
  obtain ⟨s, hs⟩ : ∃ s : Sp, s = ⟨t, ((txt P t).length : Int) + 1, x⟩ := ⟨_, rfl⟩
  have hst : s.t = t := by rw [hs]
  rw [← hs]
  have hsp := split_at hi
  have hpt : (b.put s).of t = true := by have := put_t (b := b) (s := s) (by rw [hst]; exact hbt); rwa [hst] at this
  have hmem : b ∈ L := List.mem_of_getElem? hi
  refine ⟨by rw [List.length_set]; exact h.n, fun c hc => ?_, ris_add P t x h.ris, fun p hp => ?_, fun p hp => ?_, fun u => ?_, ?_⟩
  · rcases List.mem_or_eq_of_mem_set hc with q | q
    · exact h.n3 c q
    · rw [q, put_n]; omega
  · have hk := ris_add P t x h.ris
    have hl := txt_of_mem hk (show (p.1, p.2) ∈ addT P t x from hp)
    by_cases hpt : p.1 = t
    · rw [hpt, txt_add_same P t x h.ris] at hl
      rw [← hl]; simp
    · rcases mem_add P t x p hp with q | q
      · exact absurd q hpt
      · exact h.ne p q
  · rcases mem_add P t x p hp with q | q
    · rw [q]; exact ht
    · exact h.rng p q
  · rw [set_at _ hi, allOf_app, allOf_cons]
    have hp := h.perm u
    rw [hsp, allOf_app, allOf_cons] at hp
    by_cases hu : u = t
    · subst hu
      rw [if_pos hpt, put_l b s h3, txt_add_same P u x h.ris, spansOf_snoc, ← hs]
      have hbl : (if b.of u = true then b.l else []) = b.l := by
        split
        · rfl
        · rename_i q
          rcases hbt with q2 | q2
          · exact absurd q2 q
          · unfold Bf.l; rw [q2]; rfl
      rw [hbl] at hp
      refine List.Perm.trans ?_ (hp.append_right [s])
      rw [List.append_assoc, List.append_assoc, List.append_assoc]
      refine List.Perm.append_left _ (List.Perm.append_left _ ?_)
      exact List.perm_append_comm
    · have h1 : (b.put s).of u = false := by
        cases hq : (b.put s).of u with
        | false => rfl
        | true => exact absurd ((of_iff.1 hq).2.symm.trans (of_iff.1 hpt).2) hu
      have h2 : b.of u = false := by
        cases hq : b.of u with
        | false => rfl
        | true =>
          rcases hbt with q | q
          · exact absurd ((of_iff.1 hq).2.symm.trans (of_iff.1 q).2) hu
          · have := (of_iff.1 hq).1; omega
      rw [h2] at hp
      rw [h1, txt_add_other P t u x hu]
      exact hp
  · have ho := h.one
    rw [hsp, List.pairwise_append, List.pairwise_cons] at ho
    rw [set_at _ hi, List.pairwise_append, List.pairwise_cons]
    have key : ∀ c ∈ L, (c ∈ L.take i ∨ c ∈ L.drop (i + 1)) → oneB c b → oneB c (b.put s) := by
      intro c hc _ hcb h1 h2 h3'
      rw [(of_iff.1 hpt).2] at h3'
      rcases hb with q | q
      · rcases hcb h1 (of_iff.1 q.1).1 (h3'.trans (of_iff.1 q.1).2.symm) with e | e
        · exact Or.inl e
        · omega
      · exact Or.inl (q.2 c hc (of_iff.2 ⟨h1, h3'⟩))
    refine ⟨ho.1, ⟨fun c hc => oneB_symm (key c (List.mem_of_mem_drop hc) (Or.inr hc) (oneB_symm (ho.2.1.1 c hc))), ho.2.1.2⟩, fun a ha c hc => ?_⟩
    rcases List.mem_cons.1 hc with rfl | hc
    · exact key a (List.mem_of_mem_take ha) (Or.inl ha) (ho.2.2 a ha b (List.mem_cons_self ..))
    · exact ho.2.2 a ha c (List.mem_cons_of_mem _ hc)

/-- is there room? just if its last buffer isn't full, or one is free -/
theorem PI.full {N : Nat} {L : List Bf} {P : TP} (h : PI N L P) (t : Int) : (∀ c ∈ L, c.of t = true → c.n = 3) ↔ (txt P t).length % 3 = 0 := by
  have hc := h.cnt t
  have hl := (h.perm t).length_eq
  rw [spansOf_len] at hl
  have gen : ∀ G : List Bf, (∀ b ∈ G, b.n ≤ 3) → (G.flatMap Bf.l).length ≤ 3 * G.length ∧ ((∀ b ∈ G, b.n = 3) ↔ (G.flatMap Bf.l).length = 3 * G.length) := by
    intro G
    induction G with
    | nil => intro _; simp
    | cons b r ih =>
      intro hn
      obtain ⟨i1, i2⟩ := ih (fun x hx => hn x (List.mem_cons_of_mem _ hx))
      have hb := hn b (List.mem_cons_self ..)
      rw [List.flatMap_cons, List.length_append, l_len hb, List.length_cons]
      refine ⟨by omega, ⟨fun q => ?_, fun q => ?_⟩⟩
      · have h1 := q b (List.mem_cons_self ..)
        have h2 := i2.1 (fun x hx => q x (List.mem_cons_of_mem _ hx))
        omega
      · intro x hx
        rcases List.mem_cons.1 hx with rfl | hx
        · omega
        · exact i2.2 (by omega) x hx
  have g := gen (L.filter fun b => b.of t) (fun b hb => h.n3 b (List.mem_filter.1 hb).1)
  unfold allOf at hl
  rw [hl] at g
  unfold Go.Proofs.YtppmednmcbjafaaGreat.cnt at hc
  have e : (∀ c ∈ L, c.of t = true → c.n = 3) ↔ ∀ b ∈ L.filter (fun b => b.of t), b.n = 3 :=
    ⟨fun q b hb => q b (List.mem_filter.1 hb).1 (List.mem_filter.1 hb).2, fun q c hc h1 => q c (List.mem_filter.2 ⟨hc, h1⟩)⟩
  rw [e, g.2, hc]
  omega
theorem nz_all {L : List Bf} : (∀ c ∈ L, 0 < c.n) ↔ nz L = L.length := by
  unfold nz
  rw [List.length_filter_eq_length_iff]
  simp
theorem PI.none {N : Nat} {L : List Bf} {P : TP} (h : PI N L P) : (∀ c ∈ L, 0 < c.n) ↔ Go.Proofs.YtppmednmcbjafaaGreat.used P = N := by rw [nz_all, h.used, h.n]
theorem PI.le {N : Nat} {L : List Bf} {P : TP} (h : PI N L P) : Go.Proofs.YtppmednmcbjafaaGreat.used P ≤ N := by rw [← h.used, ← h.n]; exact nz_le L

/-- A trace's buffers are free again. -/
def dropB (t : Int) (b : Bf) : Bf := if b.of t = true then bf0 else b
theorem dropB_of (t u : Int) (b : Bf) : (dropB t b).of u = (b.of u && !(b.of t)) := by
  unfold dropB
  split
  · rename_i q; rw [q]; simp [Bf.of, bf0]
  · rename_i q; simp [q]
theorem PI.drop {N : Nat} {L : List Bf} {P : TP} (h : PI N L P) (t : Int) : PI N (L.map (dropB t)) (without P t) := by
  have hof : ∀ u, allOf (L.map (dropB t)) u = if u = t then [] else allOf L u := by
    intro u
    unfold allOf
    clear h
    induction L with
    | nil => simp
    | cons b r ih =>
      rw [List.map_cons, List.filter_cons, List.filter_cons]
      have hd := dropB_of t u b
      by_cases hu : u = t
      · subst hu
        rw [if_pos rfl] at ih ⊢
        rw [hd]
        simp [ih]
      · rw [if_neg hu] at ih ⊢
        by_cases hb : b.of u = true
        · have ht : b.of t = false := by
            cases hq : b.of t with
            | false => rfl
            | true => exact absurd ((of_iff.1 hb).2.symm.trans (of_iff.1 hq).2) hu
          have hb' : dropB t b = b := by unfold dropB; rw [ht]; rfl
          rw [hb', if_pos hb, if_pos hb, List.flatMap_cons, List.flatMap_cons, ih]
        · rw [hd]
          simp [hb, ih]
  refine ⟨by rw [List.length_map]; exact h.n, fun b hb => ?_, ris_drop h.ris t, fun p hp => h.ne p (mem_without.1 hp).1, fun p hp => h.rng p (mem_without.1 hp).1, fun u => ?_, ?_⟩
  · obtain ⟨c, hc, rfl⟩ := List.mem_map.1 hb
    unfold dropB
    split
    · simp [bf0]
    · exact h.n3 c hc
  · rw [hof]
    by_cases hu : u = t
    · subst hu; rw [if_pos rfl, txt_drop_same]; exact List.Perm.refl _
    · rw [if_neg hu, txt_drop_other P hu]; exact h.perm u
  · rw [List.pairwise_map]
    refine h.one.imp ?_
    intro a b hab
    unfold dropB
    split
    · intro q; simp [bf0] at q
    · split
      · intro _ q; simp [bf0] at q
      · exact hab
theorem cnt_pos {N : Nat} {L : List Bf} {P : TP} (h : PI N L P) (t : Int) (ht : txt P t ≠ []) : 0 < Go.Proofs.YtppmednmcbjafaaGreat.cnt L t := by
  rw [h.cnt]
  have := List.length_pos_iff.2 ht
  omega

/-! ### Which traces there are -/
def tracesOf (L : List Bf) : List Int := (L.filter fun b => decide (0 < b.n)).map fun b => b.a.t
theorem PI.mem {N : Nat} {L : List Bf} {P : TP} (h : PI N L P) (t : Int) : t ∈ tracesOf L ↔ t ∈ P.map (·.1) := by
  unfold tracesOf
  rw [List.mem_map]
  constructor
  · rintro ⟨b, hb, rfl⟩
    rw [List.mem_filter] at hb
    exact List.mem_map_of_mem (txt_mem (h.key hb.1 (by simpa using hb.2)))
  · intro ht
    obtain ⟨p, hp, rfl⟩ := List.mem_map.1 ht
    have h1 := txt_of_mem h.ris (show (p.1, p.2) ∈ P from hp)
    have h2 := cnt_pos h p.1 (by rw [h1]; exact h.ne p hp)
    unfold Go.Proofs.YtppmednmcbjafaaGreat.cnt at h2
    obtain ⟨b, hb⟩ := List.exists_mem_of_length_pos h2
    rw [List.mem_filter] at hb
    exact ⟨b, List.mem_filter.2 ⟨hb.1, by simpa using (of_iff.1 hb.2).1⟩, (of_iff.1 hb.2).2⟩
theorem up_eq : ∀ (A B : List Int), A.Pairwise (· < ·) → B.Pairwise (· < ·) → (∀ i, i ∈ A ↔ i ∈ B) → A = B
  | [], [], _, _, _ => rfl
  | [], y :: s, _, _, h => by have := (h y).2 (List.mem_cons_self ..); cases this
  | x :: r, [], _, _, h => by have := (h x).1 (List.mem_cons_self ..); cases this
  | x :: r, y :: s, ha, hb, h => by
    rw [List.pairwise_cons] at ha hb
    have hxy : x = y := by
      have h1 := (h x).1 (List.mem_cons_self ..)
      have h2 := (h y).2 (List.mem_cons_self ..)
      rcases List.mem_cons.1 h1 with e | e
      · exact e
      · rcases List.mem_cons.1 h2 with e2 | e2
        · exact e2.symm
        · have := hb.1 x e; have := ha.1 y e2; omega
    subst hxy
    rw [up_eq r s ha.2 hb.2 fun i => ?_]
    constructor
    · intro hi
      rcases List.mem_cons.1 ((h i).1 (List.mem_cons_of_mem _ hi)) with e | e
      · subst e; have := ha.1 i hi; omega
      · exact e
    · intro hi
      rcases List.mem_cons.1 ((h i).2 (List.mem_cons_of_mem _ hi)) with e | e
      · subst e; have := hb.1 i hi; omega
      · exact e

/-- slices.Compact of what is sorted: rising, the same numbers. -/
theorem compact_up (d : Array Int) (hs : ∀ i j, i < j → j < d.size → d[i]! ≤ d[j]!) : ∀ m, m ≤ d.size → (compactUpTo d m).Pairwise (· < ·) ∧ (∀ x, x ∈ compactUpTo d m ↔ ∃ j, j < m ∧ d[j]! = x)
  | 0, _ => ⟨List.Pairwise.nil, fun x => by simp [compactUpTo]⟩
  | m + 1, hm => by
    obtain ⟨h1, h2⟩ := compact_up d hs m (by omega)
    rw [compactUpTo_succ]
    by_cases hk : keeps d m = true
    · rw [if_pos hk]
      refine ⟨List.pairwise_append.2 ⟨h1, List.pairwise_singleton _ _, fun a ha b hb => ?_⟩, fun x => ?_⟩
      · simp at hb; subst hb
        obtain ⟨j, hj, rfl⟩ := (h2 a).1 ha
        have hm0 : 0 < m := by omega
        have hne : d[m]! ≠ d[m - 1]! := by
          unfold keeps at hk
          simp only [decide_eq_true_eq] at hk
          rcases hk with q | q
          · omega
          · exact q
        have h3 : d[j]! ≤ d[m - 1]! := by
          by_cases e : j = m - 1
          · rw [e]; exact Int.le_refl _
          · exact hs j (m - 1) (by omega) (by omega)
        have h4 := hs (m - 1) m (by omega) (by omega)
        omega
      · rw [List.mem_append, h2]
        constructor
        · rintro (⟨j, hj, e⟩ | e)
          · exact ⟨j, by omega, e⟩
          · simp at e; exact ⟨m, by omega, e.symm⟩
        · rintro ⟨j, hj, e⟩
          by_cases hjm : j = m
          · subst hjm; exact Or.inr (by simp [e])
          · exact Or.inl ⟨j, by omega, e⟩
    · rw [if_neg hk, List.append_nil]
      refine ⟨h1, fun x => ?_⟩
      rw [h2]
      constructor
      · rintro ⟨j, hj, e⟩; exact ⟨j, by omega, e⟩
      · rintro ⟨j, hj, e⟩
        by_cases hjm : j = m
        · subst hjm
          unfold keeps at hk
          simp only [decide_eq_true_eq, not_or, Decidable.not_not] at hk
          exact ⟨j - 1, by omega, by rw [← hk.2]; exact e⟩
        · exact ⟨j, by omega, e⟩
theorem compact_sorted {zs : List Int} (hs : zs.Pairwise (· ≤ ·)) {B : List Int} (hb : B.Pairwise (· < ·)) (hm : ∀ i, i ∈ zs ↔ i ∈ B) : compact zs = B := by
  have hg : ∀ i, i < zs.length → zs.toArray[i]! = zs.getD i 0 := fun i hi => by simp [List.getD, hi]
  obtain ⟨h1, h2⟩ := compact_up zs.toArray (fun i j hij hj => by
    have hj' : j < zs.length := by simpa using hj
    rw [hg i (by omega), hg j hj']
    have := (List.pairwise_iff_getElem.1 hs) i j (by omega) hj' hij
    simpa [List.getD, hj', show i < zs.length by omega] using this) zs.length (by simp)
  refine up_eq _ _ h1 hb fun i => ?_
  unfold compact
  rw [h2, ← hm]
  constructor
  · rintro ⟨j, hj, e⟩
    rw [hg j hj] at e
    rw [← e]
    simp [List.getD, hj]
  · intro hi
    obtain ⟨j, hj, e⟩ := List.getElem_of_mem hi
    exact ⟨j, hj, by rw [hg j hj]; simp [List.getD, hj, e]⟩
end Go.Proofs.YtppmednmcbjafaaGreat
