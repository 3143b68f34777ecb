import Derived.Test.YtppmednmcbjafaaGreatHashMoreN
set_option linter.unusedVariables false
set_option linter.unusedSimpArgs false
set_option maxRecDepth 100000
namespace Go.Proofs.YtppmednmcbjafaaGreat
open Go.RowKit Go

theorem ints_nil (w : World) : Ints w (.slice none 0 0) [] := ⟨none, 0, rfl, ⟨Nat.le_refl _, fun _ => rfl⟩, Nat.zero_le _, fun i m hm => by simp at hm⟩

/-- a row of one's own, as a []int that can be read -/
theorem Ints.own {w : World} {base : Nat} {v : Value} {n : Nat} {xs : List Int} (h : w.ownsRow base 3 1 v n (xs.map (Value.int .i64))) (hx : ∀ t ∈ xs, I64 t) : Ints w v xs := by
  have hlen : xs.length = n := by have := h.1; simpa using this
  subst hlen
  rcases h.2 with ⟨rfl, h0⟩ | ⟨g, cap, cur, rfl, h2, h3, h4, h5, h6⟩
  · have : xs = [] := List.eq_nil_of_length_eq_zero h0
    subst this
    exact ints_nil w
  · refine ⟨_, cap, rfl, ⟨h4, fun q => by cases q⟩, h5, fun i m hm => ?_⟩
    have hi : i < xs.length := by
      rcases Nat.lt_or_ge i xs.length with h | h
      · exact h
      · rw [List.getElem?_eq_none h] at hm; cases hm
    refine ⟨g, 0, [.int .i64 m], rfl, rfl, ⟨rfl, ?_⟩, fun j u hu => ?_⟩
    · have hI := hx m (by obtain ⟨hi', rfl⟩ := List.getElem?_eq_some_iff.1 hm; exact List.getElem_mem hi')
      unfold I64 at hI
      simp [Lit.wf, IntKind.min, IntKind.max, IntKind.signed, IntKind.bits]
      exact hI
    · match j, hu with
      | 0, hu =>
        simp at hu; subst hu
        have := h.cells (g := g) rfl i (.int .i64 m) (by simp [hm])
        rw [show (⟨g, 0, none⟩ : Addr).add i = ⟨g, 0 + (i * 1 + 0), none⟩ by unfold Addr.add; split <;> simp_all] at this
        exact this
      | j + 1, hu => simp at hu

set_option maxHeartbeats 1000000 in
theorem lessB_iff (seed a b : Int) : lessB seed a b = true ↔ (prio seed a < prio seed b ∨ prio seed a = prio seed b ∧ a < b) := by
  unfold lessB
  generalize prio seed a = p
  generalize prio seed b = q
  simp
theorem lessB_irrefl (seed a : Int) : lessB seed a a = false := by
  rw [Bool.eq_false_iff, Ne, lessB_iff]; omega
theorem lessB_asymm (seed a b : Int) (h : lessB seed a b = true) : lessB seed b a = false := by
  rw [lessB_iff] at h
  rw [Bool.eq_false_iff, Ne, lessB_iff]
  omega
theorem lessB_total (seed a b : Int) (h : a ≠ b) (h2 : lessB seed a b = false) : lessB seed b a = true := by
  rw [Bool.eq_false_iff, Ne, lessB_iff] at h2
  rw [lessB_iff]
  omega
theorem lessB_trans (seed a b c : Int) (h : lessB seed a b = true) (h2 : lessB seed b c = true) : lessB seed a c = true := by
  rw [lessB_iff] at *
  omega
/-- none is worth less than the least -/
theorem minP_min (seed m : Int) (l : List Int) : ∀ n, n = m ∨ n ∈ l → lessB seed n (minP (lessB seed) m l) = false := by
  induction l generalizing m with
  | nil =>
    intro n hn
    rcases hn with rfl | h
    · exact lessB_irrefl _ _
    · cases h
  | cons t r ih =>
    intro n hn
    show lessB seed n (minP (lessB seed) (if lessB seed t m then t else m) r) = false
    have h0 := ih (if lessB seed t m then t else m)
    by_cases hlt : lessB seed t m = true
    · rw [if_pos hlt] at h0 ⊢
      rcases hn with rfl | h
      · have h1 := h0 t (Or.inl rfl)
        rw [Bool.eq_false_iff, Ne, lessB_iff] at h1 ⊢
        rw [lessB_iff] at hlt
        omega
      · rcases List.mem_cons.1 h with rfl | h
        · exact h0 n (Or.inl rfl)
        · exact h0 n (Or.inr h)
    · rw [if_neg hlt] at h0 ⊢
      rcases hn with rfl | h
      · exact h0 n (Or.inl rfl)
      · rcases List.mem_cons.1 h with rfl | h
        · have h1 := h0 m (Or.inl rfl)
          rw [Bool.eq_false_iff, Ne, lessB_iff] at h1 ⊢
          rw [lessB_iff] at hlt
          omega
        · exact h0 n (Or.inr h)
theorem minP_mem (L : Int → Int → Bool) (m : Int) (l : List Int) : minP L m l = m ∨ minP L m l ∈ l := by
  induction l generalizing m with
  | nil => exact Or.inl rfl
  | cons t r ih =>
    show minP L (if L t m then t else m) r = m ∨ _
    rcases ih (if L t m then t else m) with h | h
    · by_cases hlt : L t m = true
      · rw [if_pos hlt] at h
        exact Or.inr (by show minP L (if L t m then t else m) r ∈ _; rw [if_pos hlt, h]; simp)
      · rw [if_neg hlt] at h
        exact Or.inl (by rw [if_neg hlt, h])
    · exact Or.inr (List.mem_cons_of_mem _ h)
/-- the least is worth less than all others -/
theorem least_all (seed x : Int) (l : List Int) (n : Int) (hn : n ∈ x :: l) : n = leastS seed (x :: l) ∨ lessB seed (leastS seed (x :: l)) n = true := by
  have h := minP_min seed x l n (by simpa using hn)
  by_cases he : n = leastS seed (x :: l)
  · exact Or.inl he
  · exact Or.inr (lessB_total seed n _ he h)

theorem least_mem (seed : Int) (xs : List Int) (hx : xs ≠ []) : leastS seed xs ∈ xs := by
  cases xs with
  | nil => exact absurd rfl hx
  | cons x r =>
    rcases minP_mem (lessB seed) x r with h | h
    · show minP (lessB seed) x r ∈ _; rw [h]; simp
    · exact List.mem_cons_of_mem _ h
end Go.Proofs.YtppmednmcbjafaaGreat
