/-
  The pool by its rows of texts, trace by trace: each call's contract.
-/
import Derived.Test.YtppmednmcbjafaaGreatPoolWrite2
set_option linter.unusedVariables false
set_option linter.unusedSimpArgs false
set_option maxRecDepth 100000
namespace Go.Proofs.YtppmednmcbjafaaGreat
open Go.RowKit Go Go.Lib Go.Sort

def Po (w : World) (g N : Nat) (P : TP) : Prop := ∃ bs, Pl w g N bs ∧ PI N (bs.take N) P
theorem Po.fr {w w' : World} {g N : Nat} {P : TP} {S : Nat → Prop} (h : Po w g N P) (hf : Fr S w w') (hS : ¬ S g) : Po w' g N P := by
  obtain ⟨bs, h1, h2⟩ := h
  exact ⟨bs, h1.fr hf hS, h2⟩
theorem Po.frN {w w' : World} {g N : Nat} {P : TP} (h : Po w g N P) (hf : Fr noB w w') : Po w' g N P := h.fr hf (fun q => q)
theorem Po.lt {w : World} {g N : Nat} {P : TP} (h : Po w g N P) : g < w.heap.size := by
  obtain ⟨bs, h1, _⟩ := h
  exact h1.lt
theorem Po.le {w : World} {g N : Nat} {P : TP} (h : Po w g N P) : used P ≤ N := by
  obtain ⟨bs, _, h2⟩ := h
  exact h2.le
theorem Po.n16 {w : World} {g N : Nat} {P : TP} (h : Po w g N P) : 1 ≤ N ∧ N ≤ 16 := by
  obtain ⟨bs, h1, _⟩ := h
  exact ⟨h1.n1, h1.n16⟩
theorem Po.ris {w : World} {g N : Nat} {P : TP} (h : Po w g N P) : risT P := by
  obtain ⟨bs, _, h2⟩ := h
  exact h2.ris
theorem Po.rng {w : World} {g N : Nat} {P : TP} (h : Po w g N P) : ∀ p ∈ P, 1 ≤ p.1 ∧ p.1 ≤ 65535 := by
  obtain ⟨bs, _, h2⟩ := h
  exact h2.rng
theorem Po.ne {w : World} {g N : Nat} {P : TP} (h : Po w g N P) : ∀ p ∈ P, p.2 ≠ [] := by
  obtain ⟨bs, _, h2⟩ := h
  exact h2.ne
theorem Po.len {w : World} {g N : Nat} {P : TP} (h : Po w g N P) (t : Int) : (txt P t).length ≤ 48 := by
  obtain ⟨bs, h1, h2⟩ := h
  have := (h2.perm t).length_eq
  rw [spansOf_len] at this
  have := allOf_len h1.n3 t N
  have := h1.n16
  omega
/-- no more traces than buffers -/
theorem len_used : ∀ P : TP, (∀ p ∈ P, p.2 ≠ []) → P.length ≤ used P
  | [], _ => Nat.zero_le _
  | p :: r, h => by
    rw [used_cons, List.length_cons]
    have h1 := len_used r (fun q hq => h q (List.mem_cons_of_mem _ hq))
    have h2 := List.length_pos_iff.2 (h p (List.mem_cons_self ..))
    omega
theorem Po.pl {w : World} {g N : Nat} {P : TP} (h : Po w g N P) : P.length ≤ 16 := by
  have := len_used P h.ne
  have := h.le
  have := h.n16
  omega
theorem pi_new (n : Nat) (h : n ≤ 16) : PI n (buf0s.take n) [] := by
  have hz : ∀ b ∈ buf0s.take n, b.n = 0 := fun b hb => by
    have := List.mem_of_mem_take hb
    unfold buf0s at this
    rw [(List.mem_replicate.1 this).2]; rfl
  refine ⟨by rw [List.length_take]; simp [buf0s]; omega, fun b hb => by rw [hz b hb]; omega, List.Pairwise.nil, by simp, by simp, fun t => ?_, ?_⟩
  · have : allOf (buf0s.take n) t = [] := by
      unfold allOf
      rw [List.filter_eq_nil_iff.2 (fun b hb => by rw [Bool.not_eq_true]; cases hq : b.of t with | false => rfl | true => have h1 := hz b hb; have h2 := (of_iff.1 hq).1; omega)]
      rfl
    rw [this]
    exact List.Perm.refl _
  · rw [List.pairwise_iff_getElem]
    intro i j hi hj hij h1
    have := hz _ (List.getElem_mem hi)
    omega
theorem pnew_p (n : Nat) (w : World) (h0 : 1 ≤ n) (h1 : n ≤ 16) : Calls Tryz.prog 82 #[.int .i64 n] w fun e w' => e = .returned (.tuple #[.pointer (some ⟨w.heap.size, 0, none⟩), .int .i64 0]) ∧ Po w' w.heap.size n [] ∧ Fr noB w w' :=
  (pnew_any n w h0 h1).mono fun e w' ⟨he, hp, hf⟩ => ⟨he, ⟨_, hp, pi_new n h1⟩, hf⟩
theorem psize_p (g N : Nat) (P : TP) (w : World) (h : Po w g N P) : Calls Tryz.prog 103 #[.pointer (some ⟨g, 0, none⟩)] w fun e w' => e = .returned (.int .i64 N) ∧ w' = w := by
  obtain ⟨bs, h1, _⟩ := h
  exact psize_any g N bs w h1
theorem pfree_p (g N : Nat) (P : TP) (w : World) (h : Po w g N P) : Calls Tryz.prog 104 #[.pointer (some ⟨g, 0, none⟩)] w fun e w' => e = .returned (.int .i64 ((N - used P : Nat))) ∧ w' = w := by
  obtain ⟨bs, h1, h2⟩ := h
  have e : freeC bs N = N - used P := by
    have := free_nz (bs.take N)
    rw [h2.used, h2.n] at this
    unfold freeC
    omega
  rw [← e]
  exact pfree_any g N bs w h1
theorem pspans_p (g N : Nat) (P : TP) (t : Int) (w : World) (h : Po w g N P) : Calls Tryz.prog 101 #[.pointer (some ⟨g, 0, none⟩), .int .i64 t] w fun e w' => ∃ u, e = .returned u ∧ w'.ownsRow w.heap.size 38 3 u (txt P t).length ((spansOf t (txt P t)).flatMap spC) ∧ Fr noB w w' := by
  obtain ⟨bs, h1, h2⟩ := h
  refine (pspans_any g N bs t w h1).mono ?_
  rintro e w' ⟨u, d, rfl, hp, hs, o, f⟩
  have hd := perm_sorted d (spansOf t (txt P t)) (hp.trans (h2.perm t)) hs (spansOf_sorted t (txt P t))
  rw [hd, spansOf_len] at o
  exact ⟨u, rfl, o, f⟩
theorem ptraces_p (g N : Nat) (P : TP) (w : World) (h : Po w g N P) : Calls Tryz.prog 109 #[.pointer (some ⟨g, 0, none⟩)] w fun e w' => ∃ u, e = .returned u ∧ w'.ownsRow w.heap.size 3 1 u (P.map (·.1)).length (rowV (P.map (·.1))) ∧ Fr noB w w' := by
  obtain ⟨bs, h1, h2⟩ := h
  have e : compact (sortI (tracesOf (bs.take N))) = P.map (·.1) := compact_sorted (sortI_sorted _) h2.ris (fun i => by rw [(sortI_perm _).mem_iff]; exact h2.mem i)
  rw [← e]
  exact ptraces_any g N bs w h1
theorem pdrop_p (g N : Nat) (P : TP) (t : Int) (w : World) (h : Po w g N P) : Calls Tryz.prog 111 #[.pointer (some ⟨g, 0, none⟩), .int .i64 t] w fun e w' => (∃ m : Int, e = .returned (.int .i64 m)) ∧ Po w' g N (without P t) ∧ Fr (onlyB g) w w' := by
  obtain ⟨bs, h1, h2⟩ := h
  refine (pdrop_any g N bs t w h1).mono ?_
  rintro e w' ⟨he, hp, hf⟩
  exact ⟨he, ⟨_, hp, by rw [dropTo_take (by rw [h1.len]; exact h1.n16)]; exact h2.drop t⟩, hf⟩

theorem fullTo_take {bs : List Bf} {t : Int} {N : Nat} (h : N ≤ bs.length) : fullTo bs t N ↔ ∀ c ∈ bs.take N, c.of t = true → c.n = 3 := by
  constructor
  · intro q c hc ho
    obtain ⟨i, hi, rfl⟩ := List.getElem_of_mem hc
    have hi' : i < N := by rw [List.length_take] at hi; omega
    rw [List.getElem_take] at ho ⊢
    exact q i _ hi' (List.getElem?_eq_getElem (by omega)) ho
  · intro q i c hi hc ho
    refine q c ?_ ho
    obtain ⟨hl, rfl⟩ := List.getElem?_eq_some_iff.1 hc
    exact List.mem_take_iff_getElem.2 ⟨i, by omega, rfl⟩
theorem nfree_take {bs : List Bf} {N : Nat} (h : N ≤ bs.length) : (∀ i b, i < N → bs[i]? = some b → 0 < b.n) ↔ ∀ c ∈ bs.take N, 0 < c.n := by
  constructor
  · intro q c hc
    obtain ⟨i, hi, rfl⟩ := List.getElem_of_mem hc
    have hi' : i < N := by rw [List.length_take] at hi; omega
    rw [List.getElem_take]
    exact q i _ hi' (List.getElem?_eq_getElem (by omega))
  · intro q i c hi hc
    refine q c ?_
    obtain ⟨hl, rfl⟩ := List.getElem?_eq_some_iff.1 hc
    exact List.mem_take_iff_getElem.2 ⟨i, by omega, rfl⟩
/-- is there no room for a span more of the trace? -/
def noRoom (N : Nat) (P : TP) (t : Int) : Prop := (txt P t).length % 3 = 0 ∧ used P = N
instance (N : Nat) (P : TP) (t : Int) : Decidable (noRoom N P t) := by unfold noRoom; infer_instance
theorem pwrite_p0 (g N : Nat) (P : TP) (t : Int) (x : ByteArray) (w : World) (h : Po w g N P) (hb : mayB t x = false) :
    Calls Tryz.prog 84 #[.pointer (some ⟨g, 0, none⟩), .int .i64 t, .string x] w fun e w' => e = .returned (.tuple #[span0, .int .i64 1]) ∧ Fr noB w w' := by
  obtain ⟨bs, h1, h2⟩ := h
  exact pwrite_bad g N bs t x w h1 hb
theorem pwrite_p6 (g N : Nat) (P : TP) (t : Int) (x : ByteArray) (w : World) (h : Po w g N P) (hb : mayB t x = true) (hn : noRoom N P t) :
    Calls Tryz.prog 84 #[.pointer (some ⟨g, 0, none⟩), .int .i64 t, .string x] w fun e w' => e = .returned (.tuple #[span0, .int .i64 6]) ∧ Fr noB w w' := by
  obtain ⟨bs, h1, h2⟩ := h
  have hl : N ≤ bs.length := by rw [h1.len]; exact h1.n16
  exact pwrite_full g N bs t x w h1 hb ((fullTo_take hl).2 ((h2.full t).2 hn.1)) ((nfree_take hl).2 (h2.none.2 hn.2))
theorem mayB_rng {t : Int} {x : ByteArray} (h : mayB t x = true) : 1 ≤ t ∧ t ≤ 65535 ∧ x.size ≤ 40 := by
  unfold mayB at h
  simpa using h
theorem pwrite_p (g N : Nat) (P : TP) (t : Int) (x : ByteArray) (w : World) (h : Po w g N P) (hb : mayB t x = true) (hn : ¬ noRoom N P t) :
    Calls Tryz.prog 84 #[.pointer (some ⟨g, 0, none⟩), .int .i64 t, .string x] w fun e w' => e = .returned (.tuple #[.agg #[.int .i64 t, .int .i64 (((txt P t).length : Int) + 1), .string x], .int .i64 0]) ∧ Po w' g N (addT P t x) ∧ Fr (onlyB g) w w' := by
  obtain ⟨bs, h1, h2⟩ := h
  have hl : N ≤ bs.length := by rw [h1.len]; exact h1.n16
  have hlen : (allOf (bs.take N) t).length = (txt P t).length := by rw [(h2.perm t).length_eq, spansOf_len]
  have hm := mayB_rng hb
  have hroom : ∃ i c, i < N ∧ bs[i]? = some c ∧ ((c.of t = true ∧ c.n < 3) ∨ c.n = 0) := by
    by_cases q : (txt P t).length % 3 = 0
    · have q2 : ¬ used P = N := fun e => hn ⟨q, e⟩
      rw [← h2.none, ← nfree_take hl] at q2
      simp only [Classical.not_forall] at q2
      obtain ⟨i, c, hi, hc, hz⟩ := q2
      exact ⟨i, c, hi, hc, Or.inr (by omega)⟩
    · rw [← h2.full t, ← fullTo_take hl] at q
      unfold fullTo at q
      simp only [Classical.not_forall] at q
      obtain ⟨i, c, hi, hc, ho, hz⟩ := q
      have := h1.n3 c (List.mem_of_getElem? hc)
      exact ⟨i, c, hi, hc, Or.inl ⟨ho, by omega⟩⟩
  refine (pwrite_any g N bs t x w h1 hb hroom).mono ?_
  rw [hlen]
  rintro e w' ⟨he, ⟨k, b, hk, hbk, hkb, hp⟩, hf⟩
  refine ⟨he, ⟨_, hp, ?_⟩, hf⟩
  have hbk' : (bs.take N)[k]? = some b := by rw [List.getElem?_take_of_lt hk]; exact hbk
  rw [List.take_set]
  refine h2.write hbk' t x ⟨hm.1, hm.2.1⟩ ?_
  rcases hkb with q | ⟨q1, q2⟩
  · exact Or.inl q
  · exact Or.inr ⟨q1, (fullTo_take hl).1 q2⟩
end Go.Proofs.YtppmednmcbjafaaGreat
