/-
  The document's pool, by definition: how a new trace is put in order; plain mathematics, and rows of rows of spans.
-/
import Derived.Test.YtnecglghinpgmaaPoolOps
import Derived.Test.YtnecglghinpgmaaInts
set_option linter.unusedVariables false
set_option linter.unusedSimpArgs false
namespace Go.Proofs.Ytnecglghinpgmaa
open Go.RowKit Go Go.Maps Go.Lib

def anyT (l : TP) (t : Int) : Bool := l.any fun y => decide (t < y.1)
theorem anyT_snoc (l : TP) (t : Int) (m : Int × List ByteArray) : anyT (l ++ [m]) t = (anyT l t || decide (t < m.1)) := by simp [anyT]
theorem addT_none : ∀ {l : TP} {t : Int} {x : ByteArray}, anyT l t = false → (∀ p ∈ l, p.1 ≠ t) → addT l t x = l ++ [(t, [x])]
  | [], t, x, _, _ => rfl
  | (k, a) :: r, t, x, h, hn => by
    simp only [anyT, List.any_cons, Bool.or_eq_false_iff, decide_eq_false_iff_not] at h
    have hk : ¬ t = k := fun e => hn _ (List.mem_cons_self ..) e.symm
    unfold addT
    rw [if_neg hk, if_neg h.1, addT_none h.2 (fun p hp => hn p (List.mem_cons_of_mem _ hp))]; rfl
theorem addT_snoc : ∀ {l : TP} {t : Int} {x : ByteArray} (m : Int × List ByteArray), anyT l t = true → (∀ p ∈ l, p.1 ≠ t) → addT (l ++ [m]) t x = addT l t x ++ [m]
  | [], t, x, m, h, _ => by simp [anyT] at h
  | (k, a) :: r, t, x, m, h, hn => by
    have hk : ¬ t = k := fun e => hn _ (List.mem_cons_self ..) e.symm
    by_cases ha : t < k
    · simp [addT, ha, hk]
    · simp only [anyT, List.any_cons, Bool.or_eq_true, decide_eq_true_eq] at h
      have := addT_snoc (x := x) m (h.resolve_left ha) (fun p hp => hn p (List.mem_cons_of_mem _ hp))
      simp only [List.cons_append, addT, if_neg hk, if_neg ha, this]
theorem addT_here : ∀ {l : TP} {t : Int} {x : ByteArray} {m : Int × List ByteArray}, anyT l t = false → (∀ p ∈ l, p.1 ≠ t) → t < m.1 → addT (l ++ [m]) t x = l ++ [(t, [x])] ++ [m]
  | [], t, x, (k, a), _, _, hm => by
    have hk : ¬ t = k := fun e => by simp only at hm; omega
    simp only at hm
    simp [addT, hm, hk]
  | (k, a) :: r, t, x, m, h, hn, hm => by
    simp only [anyT, List.any_cons, Bool.or_eq_false_iff, decide_eq_false_iff_not] at h
    have hk : ¬ t = k := fun e => hn _ (List.mem_cons_self ..) e.symm
    have := addT_here (x := x) h.2 (fun p hp => hn p (List.mem_cons_of_mem _ hp)) hm
    simp only [List.cons_append, addT, if_neg hk, if_neg h.1, this]
/-- what has been put so far -/
def outT (l : TP) (t : Int) (x : ByteArray) : TP := if anyT l t then addT l t x else l
theorem addT_len_le : ∀ (l : TP) (t : Int) (x : ByteArray), (addT l t x).length ≤ l.length + 1
  | [], t, x => by simp [addT]
  | (k, a) :: r, t, x => by
    have := addT_len_le r t x
    unfold addT
    split
    · simp
    · split
      · simp
      · simp; omega
theorem outT_len (l : TP) (t : Int) (x : ByteArray) : (outT l t x).length ≤ l.length + 1 := by
  unfold outT; split
  · exact addT_len_le l t x
  · exact Nat.le_succ _
theorem take_next {α : Type} {E : List α} {k : Nat} {m : α} (hm : E[k]? = some m) : E.take (k + 1) = E.take k ++ [m] := by
  obtain ⟨hk, e⟩ := List.getElem?_eq_some_iff.1 hm
  rw [List.take_succ_eq_append_getElem hk, e]

/-- a row of spans of a trace -/
def SpRow (w : World) (B : Nat) (v : Value) (p : Int × List ByteArray) : Prop := w.ownsRow B 35 3 v p.2.length ((spansOf p.1 p.2).flatMap spC)
theorem SpRow.fr {w w' : World} {S : Nat → Prop} {B : Nat} {v : Value} {p : Int × List ByteArray} (h : SpRow w B v p) (hf : Fr S w w') (hS : ∀ g, v.ownBlock = some g → ¬ S g) : SpRow w' B v p := ownsRow_fr h hf hS
/-- rows of spans, trace by trace -/
def Rows2 (w : World) (B : Nat) (F : TP) (V : List Value) : Prop := V.length = F.length ∧ ∀ (i : Nat) (p : Int × List ByteArray) (v : Value), F[i]? = some p → V[i]? = some v → SpRow w B v p
theorem Rows2.nil (w : World) (B : Nat) : Rows2 w B [] [] := ⟨rfl, fun i p v h => by simp at h⟩
theorem Rows2.snoc {w : World} {B : Nat} {F : TP} {V : List Value} {p : Int × List ByteArray} {v : Value} (h : Rows2 w B F V) (hv : SpRow w B v p) : Rows2 w B (F ++ [p]) (V ++ [v]) := by
  refine ⟨by simp [h.1], fun i q u hq hu => ?_⟩
  rcases Nat.lt_trichotomy i F.length with hi | hi | hi
  · rw [List.getElem?_append_left hi] at hq
    rw [List.getElem?_append_left (by rw [h.1]; exact hi)] at hu
    exact h.2 i q u hq hu
  · subst hi
    rw [List.getElem?_append_right (Nat.le_refl _)] at hq
    rw [List.getElem?_append_right (by rw [h.1]; exact Nat.le_refl _), h.1] at hu
    simp at hq hu
    subst hq; subst hu; exact hv
  · rw [List.getElem?_eq_none (by simp; omega)] at hq; cases hq
theorem Rows2.fr {w w' : World} {S : Nat → Prop} {B : Nat} {F : TP} {V : List Value} (h : Rows2 w B F V) (hf : Fr S w w') (hS : ∀ v ∈ V, ∀ g, v.ownBlock = some g → ¬ S g) : Rows2 w' B F V :=
  ⟨h.1, fun i p v hp hv => (h.2 i p v hp hv).fr hf (hS v (List.mem_of_getElem? hv))⟩
theorem Rows2.frN {w w' : World} {B : Nat} {F : TP} {V : List Value} (h : Rows2 w B F V) (hf : Fr noB w w') : Rows2 w' B F V := h.fr hf (fun _ _ _ _ q => q)
theorem Rows2.erase {w : World} {B : Nat} {F : TP} {V : List Value} (h : Rows2 w B F V) {k : Nat} (hk : k < F.length) : Rows2 w B (F.take k ++ F.drop (k + 1)) (V.take k ++ V.drop (k + 1)) := by
  have hl := h.1
  refine ⟨by simp; omega, fun i p v hp hv => ?_⟩
  by_cases hi : i < k
  · rw [List.getElem?_append_left (by simp; omega), List.getElem?_take_of_lt hi] at hp hv
    exact h.2 i p v hp hv
  · rw [List.getElem?_append_right (by simp; omega), List.getElem?_drop] at hp hv
    rw [List.length_take, Nat.min_eq_left (by omega)] at hp hv
    exact h.2 _ p v hp hv
theorem Rows2.set {w : World} {B : Nat} {F : TP} {V : List Value} (h : Rows2 w B F V) (k : Nat) {p : Int × List ByteArray} {v : Value} (hv : SpRow w B v p) : Rows2 w B (F.set k p) (V.set k v) := by
  refine ⟨by simp [h.1], fun i q u hq hu => ?_⟩
  rw [List.getElem?_set] at hq hu
  by_cases hi : k = i
  · subst hi
    rw [if_pos rfl] at hq hu
    by_cases hk : k < F.length
    · rw [if_pos hk] at hq
      rw [if_pos (by rw [h.1]; exact hk)] at hu
      cases hq; cases hu; exact hv
    · rw [if_neg hk] at hq; cases hq
  · rw [if_neg hi] at hq hu
    exact h.2 i q u hq hu
/-- what has been put so far, and its rows -/
structure Pt (w : World) (B : Nat) (P : TP) (t : Int) (x : ByteArray) (k : Nat) (d : Bool) (F : TP) (V : List Value) : Prop where
  any : d = anyT (P.take k) t
  eq : F = outT (P.take k) t x
  rd : Rows2 w B F V
theorem key_take {P : TP} {t : Int} (h : ∀ p ∈ P, p.1 ≠ t) (k : Nat) : ∀ p ∈ P.take k, p.1 ≠ t := fun p hp => h p (List.mem_of_mem_take hp)
theorem Pt.yes {w : World} {B : Nat} {P : TP} {t : Int} {x : ByteArray} {k : Nat} {F : TP} {V : List Value} {m : Int × List ByteArray} {u : Value} (h : Pt w B P t x k true F V) (hn : ∀ p ∈ P, p.1 ≠ t) (hm : P[k]? = some m) (hu : SpRow w B u m) : Pt w B P t x (k + 1) true (F ++ [m]) (V ++ [u]) := by
  obtain ⟨h1, h2, h3⟩ := h
  have h7 : anyT (P.take k ++ [m]) t = true := by rw [anyT_snoc, ← h1]; rfl
  refine ⟨by rw [take_next hm, h7], ?_, h3.snoc hu⟩
  rw [take_next hm]
  unfold outT at h2 ⊢
  rw [h2, if_pos h1.symm, if_pos h7, addT_snoc m h1.symm (key_take hn k)]
theorem Pt.here {w : World} {B : Nat} {P : TP} {t : Int} {x : ByteArray} {k : Nat} {F : TP} {V : List Value} {m : Int × List ByteArray} {u l : Value} (h : Pt w B P t x k false F V) (hn : ∀ p ∈ P, p.1 ≠ t) (hm : P[k]? = some m) (hp : t < m.1) (hu : SpRow w B u m) (hl : SpRow w B l (t, [x])) : Pt w B P t x (k + 1) true (F ++ [(t, [x])] ++ [m]) (V ++ [l] ++ [u]) := by
  obtain ⟨h1, h2, h3⟩ := h
  have h7 : anyT (P.take k ++ [m]) t = true := by rw [anyT_snoc]; simp [hp]
  refine ⟨by rw [take_next hm, h7], ?_, (h3.snoc hl).snoc hu⟩
  rw [take_next hm]
  unfold outT at h2 ⊢
  rw [← h1] at h2
  simp only [Bool.false_eq_true, if_false] at h2
  rw [h2, if_pos h7, addT_here h1.symm (key_take hn k) hp]
theorem Pt.no {w : World} {B : Nat} {P : TP} {t : Int} {x : ByteArray} {k : Nat} {F : TP} {V : List Value} {m : Int × List ByteArray} {u : Value} (h : Pt w B P t x k false F V) (hm : P[k]? = some m) (hp : ¬ t < m.1) (hu : SpRow w B u m) : Pt w B P t x (k + 1) false (F ++ [m]) (V ++ [u]) := by
  obtain ⟨h1, h2, h3⟩ := h
  have h7 : anyT (P.take k ++ [m]) t = false := by rw [anyT_snoc, ← h1]; simp; omega
  refine ⟨by rw [take_next hm, h7], ?_, h3.snoc hu⟩
  rw [take_next hm]
  unfold outT at h2 ⊢
  rw [← h1] at h2
  rw [h7]
  simp only [Bool.false_eq_true, if_false] at h2 ⊢
  rw [h2]
theorem Pt.len_le {w : World} {B : Nat} {P : TP} {t : Int} {x : ByteArray} {k : Nat} {d : Bool} {F : TP} {V : List Value} (h : Pt w B P t x k d F V) : F.length ≤ k + 1 := by
  rw [h.eq]; exact Nat.le_trans (outT_len _ _ _) (by have := List.length_take_le k P; omega)
theorem Pt.fr {w w' : World} {B : Nat} {P : TP} {t : Int} {x : ByteArray} {k : Nat} {d : Bool} {F : TP} {V : List Value} {S : Nat → Prop} (h : Pt w B P t x k d F V) (hf : Fr S w w') (hS : ∀ v ∈ V, ∀ g, v.ownBlock = some g → ¬ S g) : Pt w' B P t x k d F V := ⟨h.any, h.eq, h.rd.fr hf hS⟩
theorem Pt.done_yes {w : World} {B : Nat} {P : TP} {t : Int} {x : ByteArray} {F : TP} {V : List Value} (h : Pt w B P t x P.length true F V) : F = addT P t x := by
  obtain ⟨h1, h2, h3⟩ := h
  rw [List.take_length] at h1 h2
  unfold outT at h2
  rw [h2, if_pos h1.symm]
theorem Pt.done_no {w : World} {B : Nat} {P : TP} {t : Int} {x : ByteArray} {F : TP} {V : List Value} (h : Pt w B P t x P.length false F V) (hn : ∀ p ∈ P, p.1 ≠ t) : F ++ [(t, [x])] = addT P t x := by
  obtain ⟨h1, h2, h3⟩ := h
  rw [List.take_length] at h1 h2
  unfold outT at h2
  rw [← h1] at h2
  rw [addT_none h1.symm hn, h2]; rfl

/-- a trace's place -/
theorem key_at {P : TP} (hr : risT P) {i : Nat} {p : Int × List ByteArray} (hi : P[i]? = some p) : ∀ j q, j ≠ i → P[j]? = some q → q.1 ≠ p.1 := by
  intro j q hj hq e
  unfold risT at hr
  rw [List.pairwise_iff_getElem] at hr
  obtain ⟨hi1, hi2⟩ := List.getElem?_eq_some_iff.1 hi
  obtain ⟨hj1, hj2⟩ := List.getElem?_eq_some_iff.1 hq
  rcases Nat.lt_or_gt_of_ne hj with h | h
  · have := hr j i (by simpa using hj1) (by simpa using hi1) h
    simp [hi2, hj2] at this; omega
  · have := hr i j (by simpa using hi1) (by simpa using hj1) h
    simp [hi2, hj2] at this; omega
theorem erase_without : ∀ {P : TP} {i : Nat} {p : Int × List ByteArray}, risT P → P[i]? = some p → P.take i ++ P.drop (i + 1) = without P p.1
  | [], i, p, _, h => by simp at h
  | a :: r, 0, p, hr, h => by
    simp at h; subst h
    simp only [List.take_zero, List.drop_succ_cons, List.drop_zero, List.nil_append]
    unfold without
    rw [List.filter_cons]
    simp only [ne_eq, not_true_eq_false, decide_false, Bool.false_eq_true, if_false]
    symm
    refine List.filter_eq_self.2 fun q hq => ?_
    have := risT_head hr q hq
    simp; omega
  | a :: r, i + 1, p, hr, h => by
    rw [List.getElem?_cons_succ] at h
    have hne : a.1 ≠ p.1 := by have := risT_head hr p (List.mem_of_getElem? h); omega
    have := erase_without (risT_tail hr) h
    rw [List.take_succ_cons, List.drop_succ_cons, List.cons_append, this]
    unfold without
    rw [List.filter_cons]
    simp [hne]
theorem set_addT : ∀ {P : TP} {i : Nat} {p : Int × List ByteArray} (x : ByteArray), risT P → P[i]? = some p → P.set i (p.1, p.2 ++ [x]) = addT P p.1 x
  | [], i, p, x, _, h => by simp at h
  | (k, l) :: r, 0, p, x, hr, h => by
    simp at h; subst h
    simp [addT]
  | (k, l) :: r, i + 1, p, x, hr, h => by
    rw [List.getElem?_cons_succ] at h
    have hlt := risT_head hr p (List.mem_of_getElem? h)
    simp only at hlt
    have h1 : ¬ p.1 = k := by omega
    have h2 : ¬ p.1 < k := by omega
    rw [List.set_cons_succ, set_addT x (risT_tail hr) h]
    unfold addT
    rw [if_neg h1, if_neg h2]
    cases r with
    | nil => simp at h
    | cons b s => rfl
end Go.Proofs.Ytnecglghinpgmaa
