/-
  The leases and the plain leases, side by side: plain lists alone.
-/
import Derived.Test.YtomgkegjdkkhoaaLeaseTime
import Derived.Test.YtomgkegjdkkhoaaLeaseRefTick
set_option linter.unusedVariables false
set_option linter.unusedSimpArgs false
namespace Go.Proofs.Ytomgkegjdkkhoaa
open Go.RowKit Go Go.Lib

/-- a plain lease as a hold -/
def hOf (now : Int) (m : PL) : Int × (Int × Int) := (m.1, (m.2.1, now + m.2.2))
structure Sm (H : List (Int × (Int × Int))) (O : List (Int × Int)) (now T : Int) (L Ov : List PL) : Prop where
  so : L.Pairwise (fun a b => a.1 < b.1)
  hp : H.Perm (L.map (hOf now))
  lb : ∀ m ∈ L, 1 ≤ m.2.2 ∧ m.2.2 ≤ T
  ov : ∀ t, (look O t).getD 0 = lastL Ov t

theorem keys_nodup {L : List PL} (h : L.Pairwise (fun a b => a.1 < b.1)) (now : Int) : ((L.map (hOf now)).map (·.1)).Nodup := by
  rw [List.map_map]
  exact List.Pairwise.map _ (fun a b hab he => by simp only [Function.comp, hOf] at he; omega) h
theorem Sm.nodup {H : List (Int × (Int × Int))} {O : List (Int × Int)} {now T : Int} {L Ov : List PL} (h : Sm H O now T L Ov) : (H.map (·.1)).Nodup :=
  (h.hp.map _).nodup_iff.2 (keys_nodup h.so now)
theorem Sm.look_iff {H : List (Int × (Int × Int))} {O : List (Int × Int)} {now T : Int} {L Ov : List PL} (h : Sm H O now T L Ov) (k : Int) (x : Int × Int) : look H k = some x ↔ ∃ m ∈ L, m.1 = k ∧ x = (m.2.1, now + m.2.2) := by
  constructor
  · intro hl
    obtain ⟨m, hm, he⟩ := List.mem_map.1 (h.hp.mem_iff.1 (look_some hl))
    simp only [hOf, Prod.mk.injEq] at he
    exact ⟨m, hm, he.1, he.2.symm⟩
  · rintro ⟨m, hm, rfl, rfl⟩
    exact look_mem h.nodup (h.hp.mem_iff.2 (List.mem_map.2 ⟨m, hm, rfl⟩))
theorem uniq {L : List PL} (h : L.Pairwise (fun a b => a.1 < b.1)) {a b : PL} (ha : a ∈ L) (hb : b ∈ L) (e : a.1 = b.1) : a = b := by
  induction L with
  | nil => cases ha
  | cons x r ih =>
    rw [List.pairwise_cons] at h
    rcases List.mem_cons.1 ha with ea | ha
    · rcases List.mem_cons.1 hb with eb | hb
      · rw [ea, eb]
      · have := h.1 _ hb; rw [← ea] at this; omega
    · rcases List.mem_cons.1 hb with eb | hb
      · have := h.1 _ ha; rw [← eb] at this; omega
      · exact ih h.2 ha hb
theorem Sm.len {H : List (Int × (Int × Int))} {O : List (Int × Int)} {now T : Int} {L Ov : List PL} (h : Sm H O now T L Ov) : H.length = L.length := by
  have := h.hp.length_eq
  simpa using this
theorem Sm.of {H : List (Int × (Int × Int))} {O : List (Int × Int)} {now T : Int} {L Ov : List PL} (h : Sm H O now T L Ov) (t : Int) : (ofL L t).2.1 = ((look H t).getD (0, 0)).1 ∧ (ofL L t).2.2 = leftOf now (look H t) := by
  unfold ofL
  cases hf : L.find? (fun m => decide (m.1 = t)) with
  | none =>
    have hl : look H t = none := by
      cases hl : look H t with
      | none => rfl
      | some x =>
        obtain ⟨m, hm, he, _⟩ := (h.look_iff t x).1 hl
        have := List.find?_eq_none.1 hf m hm
        simp [he] at this
    rw [hl]; exact ⟨rfl, rfl⟩
  | some m =>
    have h1 := List.mem_of_find?_eq_some hf
    have h2 := List.find?_some hf
    simp at h2
    have hl := (h.look_iff t _).2 ⟨m, h1, h2, rfl⟩
    rw [hl]
    exact ⟨rfl, by simp only [leftOf, Option.getD_some]; omega⟩
theorem insL_cons (y : PL) (l : List PL) (x : PL) : insL (y :: l) x = if x.1 < y.1 then x :: y :: l else y :: insL l x := by
  unfold insL
  by_cases h : x.1 < y.1
  · simp [List.takeWhile_cons, List.dropWhile_cons, h]
  · simp [List.takeWhile_cons, List.dropWhile_cons, h]
theorem mem_insL {l : List PL} {x m : PL} : m ∈ insL l x ↔ m = x ∨ m ∈ l := by
  induction l with
  | nil => simp [insL]
  | cons y l ih =>
    rw [insL_cons]
    split
    · simp
    · simp only [List.mem_cons, ih]
      constructor
      · rintro (h | h | h)
        · exact Or.inr (Or.inl h)
        · exact Or.inl h
        · exact Or.inr (Or.inr h)
      · rintro (h | h | h)
        · exact Or.inr (Or.inl h)
        · exact Or.inl h
        · exact Or.inr (Or.inr h)
theorem insL_sorted {l : List PL} {x : PL} (h : l.Pairwise (fun a b => a.1 < b.1)) (hx : ∀ m ∈ l, m.1 ≠ x.1) : (insL l x).Pairwise (fun a b => a.1 < b.1) := by
  induction l with
  | nil => simp [insL]
  | cons y l ih =>
    rw [insL_cons]
    have hc := List.pairwise_cons.1 h
    split
    · rename_i hlt
      refine List.pairwise_cons.2 ⟨fun m hm => ?_, h⟩
      rcases List.mem_cons.1 hm with rfl | hm
      · exact hlt
      · have := hc.1 m hm; omega
    · rename_i hlt
      have hne := hx y (by simp)
      refine List.pairwise_cons.2 ⟨fun m hm => ?_, ih hc.2 (fun m hm => hx m (by simp [hm]))⟩
      rcases mem_insL.1 hm with rfl | hm
      · omega
      · exact hc.1 m hm
theorem Sm.grant {H : List (Int × (Int × Int))} {O : List (Int × Int)} {now T : Int} {L Ov : List PL} (h : Sm H O now T L Ov) (t j : Int) (hT : 1 ≤ T) : Sm (withKey H t (j, now + T)) O now T (insL (L.filter fun m => decide (m.1 ≠ t)) (t, j, T)) Ov := by
  have hs : (insL (L.filter fun m => decide (m.1 ≠ t)) (t, j, T)).Pairwise (fun a b => a.1 < b.1) :=
    insL_sorted (h.so.sublist List.filter_sublist) (fun m hm => by simpa using (List.mem_filter.1 hm).2)
  refine ⟨hs, perm_of_look (nodup_withKey h.nodup t _) (keys_nodup hs now) fun k => ?_, fun m hm => ?_, h.ov⟩
  · apply Option.ext
    intro x
    have h2 : look ((insL (L.filter fun m => decide (m.1 ≠ t)) (t, j, T)).map (hOf now)) k = some x ↔ ∃ m, (m = (t, j, T) ∨ (m ∈ L ∧ m.1 ≠ t)) ∧ hOf now m = (k, x) := by
      constructor
      · intro hl
        obtain ⟨m, hm, he⟩ := List.mem_map.1 (look_some hl)
        refine ⟨m, ?_, he⟩
        rcases mem_insL.1 hm with rfl | hm
        · exact Or.inl rfl
        · exact Or.inr ⟨(List.mem_filter.1 hm).1, by simpa using (List.mem_filter.1 hm).2⟩
      · rintro ⟨m, hm, he⟩
        refine look_mem (keys_nodup hs now) (List.mem_map.2 ⟨m, ?_, he⟩)
        rcases hm with rfl | hm
        · exact mem_insL.2 (Or.inl rfl)
        · exact mem_insL.2 (Or.inr (List.mem_filter.2 ⟨hm.1, by simpa using hm.2⟩))
    rw [h2]
    by_cases hk : k = t
    · subst hk
      rw [look_withKey_same]
      constructor
      · intro he; cases he; exact ⟨_, Or.inl rfl, rfl⟩
      · rintro ⟨m, hm, he⟩
        rcases hm with rfl | ⟨_, hm⟩
        · simp only [hOf, Prod.mk.injEq, true_and] at he; rw [← he]
        · simp only [hOf, Prod.mk.injEq] at he; exact absurd he.1 hm
    · rw [look_withKey_other _ _ hk, h.look_iff]
      constructor
      · rintro ⟨m, hm, he, hx⟩
        exact ⟨m, Or.inr ⟨hm, by omega⟩, by simp [hOf, he, hx]⟩
      · rintro ⟨m, hm, he⟩
        simp only [hOf, Prod.mk.injEq] at he
        rcases hm with rfl | ⟨hm, _⟩
        · exact absurd he.1.symm hk
        · exact ⟨m, hm, he.1, he.2.symm⟩
  · rcases mem_insL.1 hm with rfl | hm
    · simp only; omega
    · exact h.lb m (List.mem_filter.1 hm).1
theorem Sm.stop {H : List (Int × (Int × Int))} {O : List (Int × Int)} {now T : Int} {L Ov : List PL} (h : Sm H O now T L Ov) (t : Int) : Sm (without H t) O now T (L.filter fun m => decide (m.1 ≠ t)) Ov := by
  have hs : (L.filter fun m => decide (m.1 ≠ t)).Pairwise (fun a b => a.1 < b.1) := h.so.sublist List.filter_sublist
  refine ⟨hs, ?_, fun m hm => h.lb m (List.mem_filter.1 hm).1, h.ov⟩
  unfold without
  refine (h.hp.filter _).trans (List.Perm.of_eq ?_)
  rw [List.filter_map]
  rfl
theorem lastL_append (O R : List PL) (t : Int) : lastL (O ++ R) t = R.foldl (fun n m => if m.1 = t ∧ n < m.2.1 then m.2.1 else n) (lastL O t) := by
  unfold lastL
  rw [List.foldl_append]
theorem fold_last {R : List PL} (h : R.Pairwise (fun a b => a.1 < b.1)) (t n : Int) : R.foldl (fun n m => if m.1 = t ∧ n < m.2.1 then m.2.1 else n) n = match R.find? (fun m => decide (m.1 = t)) with | none => n | some m => max m.2.1 n := by
  induction R generalizing n with
  | nil => rfl
  | cons y R ih =>
    have hc := List.pairwise_cons.1 h
    rw [List.foldl_cons, ih hc.2, List.find?_cons]
    by_cases hy : y.1 = t
    · have hn : R.find? (fun m => decide (m.1 = t)) = none := by
        rw [List.find?_eq_none]
        intro m hm
        have := hc.1 m hm
        simp; omega
      rw [hn]
      simp only [hy, decide_true]
      simp only [true_and]
      rw [Int.max_def]
      split <;> split <;> omega
    · simp [hy]
theorem dec_fst (m : PL) : (decP m).1 = m.1 := rfl
theorem mem_outL {L : List PL} {m : PL} : m ∈ outL L ↔ ∃ a ∈ L, a.2.2 = 1 ∧ m = decP a := by
  unfold outL
  rw [List.mem_filter, List.mem_map]
  constructor
  · rintro ⟨⟨a, ha, rfl⟩, h⟩
    refine ⟨a, ha, ?_, rfl⟩
    have h2 := of_decide_eq_true h
    simp only [decP] at h2; omega
  · rintro ⟨a, ha, h, rfl⟩
    exact ⟨⟨a, ha, rfl⟩, by simp [decP, h]⟩
theorem dec_sorted {L : List PL} (h : L.Pairwise (fun a b => a.1 < b.1)) : (L.map decP).Pairwise (fun a b => a.1 < b.1) := List.Pairwise.map _ (fun a b hab => hab) h
theorem Sm.tick {H : List (Int × (Int × Int))} {O O2 : List (Int × Int)} {now T : Int} {L Ov : List PL} {E : List Int} (h : Sm H O now T L Ov) (ht : Ticked H O (now + 1) E O2) :
    E = (outL L).map (·.1) ∧ Sm (goneOf H (now + 1)) O2 (now + 1) T ((L.map decP).filter fun m => decide (m.1 ∉ (outL L).map (·.1))) (Ov ++ outL L) := by
  have hos : (outL L).Pairwise (fun a b => a.1 < b.1) := (dec_sorted h.so).sublist List.filter_sublist
  have hE : E = (outL L).map (·.1) := by
    refine ht.eq (List.Pairwise.map _ (fun a b hab => by omega) hos) (List.Pairwise.map _ (fun a b hab he => by omega) hos) fun k => ?_
    constructor
    · intro hk
      obtain ⟨m, hm, rfl⟩ := List.mem_map.1 hk
      obtain ⟨a, ha, h1, rfl⟩ := mem_outL.1 hm
      exact ⟨_, (h.look_iff a.1 _).2 ⟨a, ha, rfl, rfl⟩, by simp only; omega⟩
    · rintro ⟨x, hx, hx2⟩
      obtain ⟨m, hm, rfl, rfl⟩ := (h.look_iff k x).1 hx
      have := h.lb m hm
      simp only at hx2
      exact List.mem_map.2 ⟨decP m, mem_outL.2 ⟨m, hm, by omega, rfl⟩, rfl⟩
  have hin : ∀ m ∈ L, m.1 ∈ (outL L).map (·.1) ↔ m.2.2 = 1 := fun m hm => by
    constructor
    · intro hk
      obtain ⟨q, hq, he⟩ := List.mem_map.1 hk
      obtain ⟨a, ha, h1, rfl⟩ := mem_outL.1 hq
      rw [← uniq h.so ha hm he]; exact h1
    · intro h1
      exact List.mem_map.2 ⟨decP m, mem_outL.2 ⟨m, hm, h1, rfl⟩, rfl⟩
  have hs : ((L.map decP).filter fun m => decide (m.1 ∉ (outL L).map (·.1))).Pairwise (fun a b => a.1 < b.1) := (dec_sorted h.so).sublist List.filter_sublist
  refine ⟨hE, hs, perm_of_look (h.nodup.sublist (List.Sublist.map _ List.filter_sublist)) (keys_nodup hs _) fun k => ?_, fun m hm => ?_, fun t => ?_⟩
  · apply Option.ext
    intro x
    rw [look_gone h.nodup, h.look_iff]
    constructor
    · rintro ⟨⟨m, hm, rfl, rfl⟩, hlt⟩
      refine look_mem (keys_nodup hs _) (List.mem_map.2 ⟨decP m, List.mem_filter.2 ⟨List.mem_map_of_mem hm, ?_⟩, ?_⟩)
      · exact decide_eq_true (fun hc => by have := (hin m hm).1 hc; simp only at hlt; omega)
      · simp only [hOf, decP, Prod.mk.injEq, true_and]; omega
    · intro hl
      obtain ⟨q, hq, he⟩ := List.mem_map.1 (look_some hl)
      obtain ⟨hq1, hq2⟩ := List.mem_filter.1 hq
      obtain ⟨m, hm, rfl⟩ := List.mem_map.1 hq1
      have hq3 := of_decide_eq_true hq2
      have hq4 : m.2.2 ≠ 1 := fun h1 => hq3 ((hin m hm).2 h1)
      have := h.lb m hm
      simp only [hOf, decP, Prod.mk.injEq] at he
      exact ⟨⟨m, hm, he.1, by rw [← he.2]; simp; omega⟩, by rw [← he.2]; simp; omega⟩
  · obtain ⟨hq1, hq2⟩ := List.mem_filter.1 hm
    obtain ⟨a, ha, rfl⟩ := List.mem_map.1 hq1
    have hq3 := of_decide_eq_true hq2
    have hq4 : a.2.2 ≠ 1 := fun h1 => hq3 ((hin a ha).2 h1)
    have := h.lb a ha
    simp only [decP]; omega
  · rw [ht.o t, lastL_append, fold_last hos, hE]
    cases hf : (outL L).find? (fun m => decide (m.1 = t)) with
    | none =>
      have : t ∉ (outL L).map (·.1) := by
        intro hk
        obtain ⟨m, hm, he⟩ := List.mem_map.1 hk
        have := List.find?_eq_none.1 hf m hm
        simp [he] at this
      rw [if_neg this, h.ov t]
    | some m =>
      have h1 := List.mem_of_find?_eq_some hf
      have h2 : m.1 = t := by simpa using List.find?_some hf
      rw [if_pos (List.mem_map.2 ⟨m, h1, h2⟩), h.ov t]
      obtain ⟨a, ha, h3, rfl⟩ := mem_outL.1 h1
      have hl := (h.look_iff t _).2 ⟨a, ha, h2, rfl⟩
      simp only [jobOf, hl, Option.getD_some, decP]
end Go.Proofs.Ytomgkegjdkkhoaa
