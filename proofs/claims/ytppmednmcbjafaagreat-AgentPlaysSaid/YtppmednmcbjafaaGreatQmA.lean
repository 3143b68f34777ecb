/-
  The document's pool, by definition: how a new trace is put in order; plain mathematics, and rows of rows of spans.
  The document's pool, by definition: its state, and where it lies.
  The document's pool, by definition: the calls that only look.
  The document's pool, by definition: what a write refuses.
  The document's pool, by definition: a new trace's first span.
  The document's pool, by definition: a trace is dropped.
  The document's keeper, by definition: its state; whether a number is in a list; a list without a number.
  The document's keeper, by definition: Pin, Unpin, Forget.
  The least of a list: a word more.
-/
import Derived.Test.YtppmednmcbjafaaGreatPoolOps
import Derived.Test.YtppmednmcbjafaaGreatInts
import Derived.Test.YtppmednmcbjafaaGreatKeepOp
import Derived.Deep.Cut
import Derived.Deep.DeepCutAuto
import Derived.Shelf.RegionOpenPlain
import Derived.Test.YtppmednmcbjafaaGreatHashL
section
set_option linter.unusedVariables false
set_option linter.unusedSimpArgs false
namespace Go.Proofs.YtppmednmcbjafaaGreat.KR
open Go.RowKit Go Go.Maps Go.Lib

def anyT (l : TP) (t : Int) : Bool := l.any fun y => decide (t < y.1)
theorem anyT_snoc (l : TP) (t : Int) (m : Int × List ByteArray) : anyT (l ++ [m]) t = (anyT l t || decide (t < m.1)) := by simp [anyT]
theorem addT_none : ∀ {l : TP} {t : Int} {x : ByteArray}, anyT l t = false → (∀ p ∈ l, p.1 ≠ t) → addT l t x = l ++ [(t, [x])]
  | [], t, x, _, _ => rfl
  | (k, a) :: r, t, x, h, hn => by
    simp only [anyT, List.any_cons, Bool.or_eq_false_iff, decide_eq_false_iff_not] at h
    have hk : ¬ t = k := fun e => hn _ (List.mem_cons_self ..) e.symm
    unfold addT
    rw [if_neg hk, if_neg h.1, addT_none h.2 (fun p hp => hn p (List.mem_cons_of_mem _ hp))]; rfl
theorem addT_snoc : ∀ {l : TP} {t : Int} {x : ByteArray} (m : Int × List ByteArray), anyT l t = true → (∀ p ∈ l, p.1 ≠ t) → addT (l ++ [m]) t x = addT l t x ++ [m]
  | [], t, x, m, h, _ => by simp [anyT] at h
  | (k, a) :: r, t, x, m, h, hn => by
    have hk : ¬ t = k := fun e => hn _ (List.mem_cons_self ..) e.symm
    by_cases ha : t < k
    · simp [addT, ha, hk]
    · simp only [anyT, List.any_cons, Bool.or_eq_true, decide_eq_true_eq] at h
      have := addT_snoc (x := x) m (h.resolve_left ha) (fun p hp => hn p (List.mem_cons_of_mem _ hp))
      simp only [List.cons_append, addT, if_neg hk, if_neg ha, this]
theorem addT_here : ∀ {l : TP} {t : Int} {x : ByteArray} {m : Int × List ByteArray}, anyT l t = false → (∀ p ∈ l, p.1 ≠ t) → t < m.1 → addT (l ++ [m]) t x = l ++ [(t, [x])] ++ [m]
  | [], t, x, (k, a), _, _, hm => by
    have hk : ¬ t = k := fun e => by simp only at hm; omega
    simp only at hm
    simp [addT, hm, hk]
  | (k, a) :: r, t, x, m, h, hn, hm => by
    simp only [anyT, List.any_cons, Bool.or_eq_false_iff, decide_eq_false_iff_not] at h
    have hk : ¬ t = k := fun e => hn _ (List.mem_cons_self ..) e.symm
    have := addT_here (x := x) h.2 (fun p hp => hn p (List.mem_cons_of_mem _ hp)) hm
    simp only [List.cons_append, addT, if_neg hk, if_neg h.1, this]
/-- what has been put so far -/
def outT (l : TP) (t : Int) (x : ByteArray) : TP := if anyT l t then addT l t x else l
theorem addT_len_le : ∀ (l : TP) (t : Int) (x : ByteArray), (addT l t x).length ≤ l.length + 1
  | [], t, x => by simp [addT]
  | (k, a) :: r, t, x => by
    have := addT_len_le r t x
    unfold addT
    split
    · simp
    · split
      · simp
      · simp; omega
theorem outT_len (l : TP) (t : Int) (x : ByteArray) : (outT l t x).length ≤ l.length + 1 := by
  unfold outT; split
  · exact addT_len_le l t x
  · exact Nat.le_succ _
theorem take_next {α : Type} {E : List α} {k : Nat} {m : α} (hm : E[k]? = some m) : E.take (k + 1) = E.take k ++ [m] := by
  obtain ⟨hk, e⟩ := List.getElem?_eq_some_iff.1 hm
  rw [List.take_succ_eq_append_getElem hk, e]

/-- a row of spans of a trace -/
def SpRow (w : World) (B : Nat) (v : Value) (p : Int × List ByteArray) : Prop := w.ownsRow B 38 3 v p.2.length ((spansOf p.1 p.2).flatMap spC)
theorem SpRow.fr {w w' : World} {S : Nat → Prop} {B : Nat} {v : Value} {p : Int × List ByteArray} (h : SpRow w B v p) (hf : Fr S w w') (hS : ∀ g, v.ownBlock = some g → ¬ S g) : SpRow w' B v p := ownsRow_fr h hf hS
/-- rows of spans, trace by trace -/
def Rows2 (w : World) (B : Nat) (F : TP) (V : List Value) : Prop := V.length = F.length ∧ ∀ (i : Nat) (p : Int × List ByteArray) (v : Value), F[i]? = some p → V[i]? = some v → SpRow w B v p
theorem Rows2.nil (w : World) (B : Nat) : Rows2 w B [] [] := ⟨rfl, fun i p v h => by simp at h⟩
theorem Rows2.snoc {w : World} {B : Nat} {F : TP} {V : List Value} {p : Int × List ByteArray} {v : Value} (h : Rows2 w B F V) (hv : SpRow w B v p) : Rows2 w B (F ++ [p]) (V ++ [v]) := by
  refine ⟨by simp [h.1], fun i q u hq hu => ?_⟩
  rcases Nat.lt_trichotomy i F.length with hi | hi | hi
  · rw [List.getElem?_append_left hi] at hq
    rw [List.getElem?_append_left (by rw [h.1]; exact hi)] at hu
    exact h.2 i q u hq hu
  · subst hi
    rw [List.getElem?_append_right (Nat.le_refl _)] at hq
    rw [List.getElem?_append_right (by rw [h.1]; exact Nat.le_refl _), h.1] at hu
    simp at hq hu
    subst hq; subst hu; exact hv
  · rw [List.getElem?_eq_none (by simp; omega)] at hq; cases hq
theorem Rows2.fr {w w' : World} {S : Nat → Prop} {B : Nat} {F : TP} {V : List Value} (h : Rows2 w B F V) (hf : Fr S w w') (hS : ∀ v ∈ V, ∀ g, v.ownBlock = some g → ¬ S g) : Rows2 w' B F V :=
  ⟨h.1, fun i p v hp hv => (h.2 i p v hp hv).fr hf (hS v (List.mem_of_getElem? hv))⟩
theorem Rows2.frN {w w' : World} {B : Nat} {F : TP} {V : List Value} (h : Rows2 w B F V) (hf : Fr noB w w') : Rows2 w' B F V := h.fr hf (fun _ _ _ _ q => q)
theorem Rows2.erase {w : World} {B : Nat} {F : TP} {V : List Value} (h : Rows2 w B F V) {k : Nat} (hk : k < F.length) : Rows2 w B (F.take k ++ F.drop (k + 1)) (V.take k ++ V.drop (k + 1)) := by
  have hl := h.1
  refine ⟨by simp; omega, fun i p v hp hv => ?_⟩
  by_cases hi : i < k
  · rw [List.getElem?_append_left (by simp; omega), List.getElem?_take_of_lt hi] at hp hv
    exact h.2 i p v hp hv
  · rw [List.getElem?_append_right (by simp; omega), List.getElem?_drop] at hp hv
    rw [List.length_take, Nat.min_eq_left (by omega)] at hp hv
    exact h.2 _ p v hp hv
theorem Rows2.set {w : World} {B : Nat} {F : TP} {V : List Value} (h : Rows2 w B F V) (k : Nat) {p : Int × List ByteArray} {v : Value} (hv : SpRow w B v p) : Rows2 w B (F.set k p) (V.set k v) := by
  refine ⟨by simp [h.1], fun i q u hq hu => ?_⟩
  rw [List.getElem?_set] at hq hu
  by_cases hi : k = i
  · subst hi
    rw [if_pos rfl] at hq hu
    by_cases hk : k < F.length
    · rw [if_pos hk] at hq
      rw [if_pos (by rw [h.1]; exact hk)] at hu
      cases hq; cases hu; exact hv
    · rw [if_neg hk] at hq; cases hq
  · rw [if_neg hi] at hq hu
    exact h.2 i q u hq hu
/-- what has been put so far, and its rows -/
structure Pt (w : World) (B : Nat) (P : TP) (t : Int) (x : ByteArray) (k : Nat) (d : Bool) (F : TP) (V : List Value) : Prop where
  any : d = anyT (P.take k) t
  eq : F = outT (P.take k) t x
  rd : Rows2 w B F V
theorem key_take {P : TP} {t : Int} (h : ∀ p ∈ P, p.1 ≠ t) (k : Nat) : ∀ p ∈ P.take k, p.1 ≠ t := fun p hp => h p (List.mem_of_mem_take hp)
theorem Pt.yes {w : World} {B : Nat} {P : TP} {t : Int} {x : ByteArray} {k : Nat} {F : TP} {V : List Value} {m : Int × List ByteArray} {u : Value} (h : Pt w B P t x k true F V) (hn : ∀ p ∈ P, p.1 ≠ t) (hm : P[k]? = some m) (hu : SpRow w B u m) : Pt w B P t x (k + 1) true (F ++ [m]) (V ++ [u]) := by
  obtain ⟨h1, h2, h3⟩ := h
  have h7 : anyT (P.take k ++ [m]) t = true := by rw [anyT_snoc, ← h1]; rfl
  refine ⟨by rw [take_next hm, h7], ?_, h3.snoc hu⟩
  rw [take_next hm]
  unfold outT at h2 ⊢
  rw [h2, if_pos h1.symm, if_pos h7, addT_snoc m h1.symm (key_take hn k)]
theorem Pt.here {w : World} {B : Nat} {P : TP} {t : Int} {x : ByteArray} {k : Nat} {F : TP} {V : List Value} {m : Int × List ByteArray} {u l : Value} (h : Pt w B P t x k false F V) (hn : ∀ p ∈ P, p.1 ≠ t) (hm : P[k]? = some m) (hp : t < m.1) (hu : SpRow w B u m) (hl : SpRow w B l (t, [x])) : Pt w B P t x (k + 1) true (F ++ [(t, [x])] ++ [m]) (V ++ [l] ++ [u]) := by
  obtain ⟨h1, h2, h3⟩ := h
  have h7 : anyT (P.take k ++ [m]) t = true := by rw [anyT_snoc]; simp [hp]
  refine ⟨by rw [take_next hm, h7], ?_, (h3.snoc hl).snoc hu⟩
  rw [take_next hm]
  unfold outT at h2 ⊢
  rw [← h1] at h2
  simp only [Bool.false_eq_true, if_false] at h2
  rw [h2, if_pos h7, addT_here h1.symm (key_take hn k) hp]
theorem Pt.no {w : World} {B : Nat} {P : TP} {t : Int} {x : ByteArray} {k : Nat} {F : TP} {V : List Value} {m : Int × List ByteArray} {u : Value} (h : Pt w B P t x k false F V) (hm : P[k]? = some m) (hp : ¬ t < m.1) (hu : SpRow w B u m) : Pt w B P t x (k + 1) false (F ++ [m]) (V ++ [u]) := by
  obtain ⟨h1, h2, h3⟩ := h
  have h7 : anyT (P.take k ++ [m]) t = false := by rw [anyT_snoc, ← h1]; simp; omega
  refine ⟨by rw [take_next hm, h7], ?_, h3.snoc hu⟩
  rw [take_next hm]
  unfold outT at h2 ⊢
  rw [← h1] at h2
  rw [h7]
  simp only [Bool.false_eq_true, if_false] at h2 ⊢
  rw [h2]
theorem Pt.len_le {w : World} {B : Nat} {P : TP} {t : Int} {x : ByteArray} {k : Nat} {d : Bool} {F : TP} {V : List Value} (h : Pt w B P t x k d F V) : F.length ≤ k + 1 := by
  rw [h.eq]; exact Nat.le_trans (outT_len _ _ _) (by have := List.length_take_le k P; omega)
theorem Pt.fr {w w' : World} {B : Nat} {P : TP} {t : Int} {x : ByteArray} {k : Nat} {d : Bool} {F : TP} {V : List Value} {S : Nat → Prop} (h : Pt w B P t x k d F V) (hf : Fr S w w') (hS : ∀ v ∈ V, ∀ g, v.ownBlock = some g → ¬ S g) : Pt w' B P t x k d F V := ⟨h.any, h.eq, h.rd.fr hf hS⟩
theorem Pt.done_yes {w : World} {B : Nat} {P : TP} {t : Int} {x : ByteArray} {F : TP} {V : List Value} (h : Pt w B P t x P.length true F V) : F = addT P t x := by
  obtain ⟨h1, h2, h3⟩ := h
  rw [List.take_length] at h1 h2
  unfold outT at h2
  rw [h2, if_pos h1.symm]
theorem Pt.done_no {w : World} {B : Nat} {P : TP} {t : Int} {x : ByteArray} {F : TP} {V : List Value} (h : Pt w B P t x P.length false F V) (hn : ∀ p ∈ P, p.1 ≠ t) : F ++ [(t, [x])] = addT P t x := by
  obtain ⟨h1, h2, h3⟩ := h
  rw [List.take_length] at h1 h2
  unfold outT at h2
  rw [← h1] at h2
  rw [addT_none h1.symm hn, h2]; rfl

/-- a trace's place -/
theorem key_at {P : TP} (hr : risT P) {i : Nat} {p : Int × List ByteArray} (hi : P[i]? = some p) : ∀ j q, j ≠ i → P[j]? = some q → q.1 ≠ p.1 := by
  intro j q hj hq e
  unfold risT at hr
  rw [List.pairwise_iff_getElem] at hr
  obtain ⟨hi1, hi2⟩ := List.getElem?_eq_some_iff.1 hi
  obtain ⟨hj1, hj2⟩ := List.getElem?_eq_some_iff.1 hq
  rcases Nat.lt_or_gt_of_ne hj with h | h
  · have := hr j i (by simpa using hj1) (by simpa using hi1) h
    simp [hi2, hj2] at this; omega
  · have := hr i j (by simpa using hi1) (by simpa using hj1) h
    simp [hi2, hj2] at this; omega
theorem erase_without : ∀ {P : TP} {i : Nat} {p : Int × List ByteArray}, risT P → P[i]? = some p → P.take i ++ P.drop (i + 1) = without P p.1
  | [], i, p, _, h => by simp at h
  | a :: r, 0, p, hr, h => by
    simp at h; subst h
    simp only [List.take_zero, List.drop_succ_cons, List.drop_zero, List.nil_append]
    unfold without
    rw [List.filter_cons]
    simp only [ne_eq, not_true_eq_false, decide_false, Bool.false_eq_true, if_false]
    symm
    refine List.filter_eq_self.2 fun q hq => ?_
    have := risT_head hr q hq
    simp; omega
  | a :: r, i + 1, p, hr, h => by
    rw [List.getElem?_cons_succ] at h
    have hne : a.1 ≠ p.1 := by have := risT_head hr p (List.mem_of_getElem? h); omega
    have := erase_without (risT_tail hr) h
    rw [List.take_succ_cons, List.drop_succ_cons, List.cons_append, this]
    unfold without
    rw [List.filter_cons]
    simp [hne]
theorem set_addT : ∀ {P : TP} {i : Nat} {p : Int × List ByteArray} (x : ByteArray), risT P → P[i]? = some p → P.set i (p.1, p.2 ++ [x]) = addT P p.1 x
  | [], i, p, x, _, h => by simp at h
  | (k, l) :: r, 0, p, x, hr, h => by
    simp at h; subst h
    simp [addT]
  | (k, l) :: r, i + 1, p, x, hr, h => by
    rw [List.getElem?_cons_succ] at h
    have hlt := risT_head hr p (List.mem_of_getElem? h)
    simp only at hlt
    have h1 : ¬ p.1 = k := by omega
    have h2 : ¬ p.1 < k := by omega
    rw [List.set_cons_succ, set_addT x (risT_tail hr) h]
    unfold addT
    rw [if_neg h1, if_neg h2]
    cases r with
    | nil => simp at h
    | cons b s => rfl
end Go.Proofs.YtppmednmcbjafaaGreat.KR
end

section
set_option linter.unusedVariables false
set_option linter.unusedSimpArgs false
namespace Go.Proofs.YtppmednmcbjafaaGreat.KR
open Go.RowKit Go Go.Maps Go.Lib

/-- The reference's pool at block g, its rows from B on. -/
structure Rq (w : World) (g B N : Nat) (P : TP) (vt vs : Value) (V : List Value) : Prop where
  blk : Blk w g 126 [.int .i64 N, vt, vs]
  rt : w.ownsRow B 3 1 vt P.length (rowV (P.map (·.1)))
  rs : w.ownsRow B 71 1 vs P.length V
  rd : Rows2 w B P V
  gB : g < B
  Bw : B ≤ w.heap.size
  ris : risT P
  ne : ∀ p ∈ P, p.2 ≠ []
  le : used P ≤ N
  n16 : N ≤ 16
theorem len_used2 : ∀ P : TP, (∀ p ∈ P, p.2 ≠ []) → P.length ≤ used P
  | [], _ => Nat.le_refl _
  | p :: r, h => by
    have h1 := len_used2 r (fun q hq => h q (List.mem_cons_of_mem _ hq))
    have h2 := List.length_pos_iff.2 (h p (List.mem_cons_self ..))
    rw [used_cons, List.length_cons]
    omega
/-- what it holds -/
def rqS (g : Nat) (vt vs : Value) (V : List Value) : Nat → Prop := fun q => q = g ∨ vt.ownBlock = some q ∨ vs.ownBlock = some q ∨ ∃ v ∈ V, v.ownBlock = some q
theorem Rq.fr {w w' : World} {g B N : Nat} {P : TP} {vt vs : Value} {V : List Value} {S : Nat → Prop} (h : Rq w g B N P vt vs V) (hf : Fr S w w') (hS : ∀ q, rqS g vt vs V q → ¬ S q) : Rq w' g B N P vt vs V :=
  ⟨hf.blk h.blk (hS _ (Or.inl rfl)), ownsRow_fr h.rt hf (fun q hq => hS _ (Or.inr (Or.inl hq))), ownsRow_fr h.rs hf (fun q hq => hS _ (Or.inr (Or.inr (Or.inl hq)))),
   h.rd.fr hf (fun v hv q hq => hS _ (Or.inr (Or.inr (Or.inr ⟨v, hv, hq⟩)))), h.gB, Nat.le_trans h.Bw hf.size, h.ris, h.ne, h.le, h.n16⟩
theorem Rq.frN {w w' : World} {g B N : Nat} {P : TP} {vt vs : Value} {V : List Value} (h : Rq w g B N P vt vs V) (hf : Fr noB w w') : Rq w' g B N P vt vs V := h.fr hf (fun _ _ q => q)
theorem Rq.low {w : World} {g B N : Nat} {P : TP} {vt vs : Value} {V : List Value} (h : Rq w g B N P vt vs V) {q : Nat} (hq : rqS g vt vs V q) : q < w.heap.size := by
  rcases hq with e | e | e | ⟨v, hv, e⟩
  · have := h.gB; have := h.Bw; omega
  · exact (h.rt.lt q e).2
  · exact (h.rs.lt q e).2
  · obtain ⟨i, hi, rfl⟩ := List.getElem_of_mem hv
    have h1 := List.getElem?_eq_getElem hi
    have h2 := h.rd.1
    exact ((h.rd.2 i _ _ (List.getElem?_eq_getElem (show i < P.length by omega)) h1).lt q e).2
theorem Rq.pl {w : World} {g B N : Nat} {P : TP} {vt vs : Value} {V : List Value} (h : Rq w g B N P vt vs V) : P.length ≤ 16 := by
  have := len_used2 P h.ne
  have := h.le
  have := h.n16
  omega
theorem Rq.xl {w : World} {g B N : Nat} {P : TP} {vt vs : Value} {V : List Value} (h : Rq w g B N P vt vs V) {p : Int × List ByteArray} (hp : p ∈ P) : p.2.length ≤ 48 := by
  have h1 : ∀ Q : TP, p ∈ Q → (p.2.length + 2) / 3 ≤ used Q := by
    intro Q
    induction Q with
    | nil => intro q; cases q
    | cons a r ih =>
      intro q
      rw [used_cons]
      rcases List.mem_cons.1 q with e | e
      · subst e; omega
      · have := ih e; omega
  have := h1 P hp
  have := h.le
  have := h.n16
  omega
theorem own_at {w : World} {B n c : Nat} {t : TypeId} {a : Option Addr} {xs : List Value} (h : w.ownsRow B t 1 (.slice a n c) n xs) {i : Nat} {x : Value} (hx : xs[i]? = some x) : ∃ g, a = some ⟨g, 0, none⟩ ∧ w.cell? ⟨g, i, none⟩ = some x := by
  have hi : i < xs.length := (List.getElem?_eq_some_iff.1 hx).1
  have hn : 0 < n := by have := h.1; omega
  obtain ⟨g, cap, e, _⟩ := ownsRow_some h hn
  cases e
  refine ⟨g, rfl, ?_⟩
  have := h.cells (g := g) rfl i x hx
  rwa [show (⟨g, 0, none⟩ : Addr).add i = ⟨g, i, none⟩ by unfold Addr.add; split <;> simp_all] at this
theorem row_typeR {w : World} {B : Nat} {e : TypeId} {k n : Nat} {v : Value} {xs : List Value} (h : w.ownsRow B e k v n xs) {q : Nat} (hq : v.ownBlock = some q) : ∃ cs, w.heap[q]? = some (.cells cs e (0, 0)) := by
  rcases h.2 with ⟨rfl, _⟩ | ⟨g, cap, cur, rfl, _, hg, _⟩
  · cases hq
  · cases hq; exact ⟨_, hg⟩
/-- rows of two types lie in two blocks -/
theorem rows_apart {w : World} {B B' : Nat} {e e' : TypeId} {k k' n n' : Nat} {v v' : Value} {xs xs' : List Value} (h : w.ownsRow B e k v n xs) (h' : w.ownsRow B' e' k' v' n' xs') (he : e ≠ e') : ∀ g, v.ownBlock = some g → v'.ownBlock ≠ some g := fun g hg hg' => by
  obtain ⟨c, hc⟩ := row_typeR h hg
  obtain ⟨c', hc'⟩ := row_typeR h' hg'
  rw [hc] at hc'
  simp only [Option.some.injEq, Obj.cells.injEq] at hc'
  exact he hc'.2.1
/-- The pool, its blocks among S. -/
def Rp (w : World) (g B N : Nat) (P : TP) (S : Nat → Prop) : Prop := ∃ vt vs V, Rq w g B N P vt vs V ∧ ∀ q, rqS g vt vs V q → S q
/-- S, and what is new -/
def nx (S : Nat → Prop) (w w' : World) : Nat → Prop := fun q => S q ∨ (w.heap.size ≤ q ∧ q < w'.heap.size)
theorem Rp.fr {w w' : World} {g B N : Nat} {P : TP} {S T : Nat → Prop} (h : Rp w g B N P S) (hf : Fr T w w') (hS : ∀ q, S q → ¬ T q) : Rp w' g B N P S := by
  obtain ⟨vt, vs, V, h1, h2⟩ := h
  exact ⟨vt, vs, V, h1.fr hf (fun q hq => hS q (h2 q hq)), h2⟩
theorem Rp.frN {w w' : World} {g B N : Nat} {P : TP} {S : Nat → Prop} (h : Rp w g B N P S) (hf : Fr noB w w') : Rp w' g B N P S := h.fr hf (fun _ _ q => q)
theorem Rp.mono {w : World} {g B N : Nat} {P : TP} {S T : Nat → Prop} (h : Rp w g B N P S) (hS : ∀ q, q < w.heap.size → S q → T q) : Rp w g B N P T := by
  obtain ⟨vt, vs, V, h1, h2⟩ := h
  exact ⟨vt, vs, V, h1, fun q hq => hS q (h1.low hq) (h2 q hq)⟩
end Go.Proofs.YtppmednmcbjafaaGreat.KR
end

section
set_option linter.unusedVariables false
set_option linter.unusedSimpArgs false
namespace Go.Proofs.YtppmednmcbjafaaGreat.KR
open Go.RowKit Go Go.Maps Go.Lib

/-- a trace's place -/
def AtT (P : TP) (t : Int) (r : Int) : Prop := (∃ (j : Nat) (p : Int × List ByteArray), P[j]? = some p ∧ p.1 = t ∧ r = j) ∨ ((∀ p ∈ P, p.1 ≠ t) ∧ r = -1)
theorem AtT.ex (P : TP) (t : Int) : ∃ r, AtT P t r := by
  by_cases h : ∃ p ∈ P, p.1 = t
  · obtain ⟨p, hp, e⟩ := h
    obtain ⟨j, hj, rfl⟩ := List.getElem_of_mem hp
    exact ⟨j, Or.inl ⟨j, _, List.getElem?_eq_getElem hj, e, rfl⟩⟩
  · exact ⟨-1, Or.inr ⟨fun p hp e => h ⟨p, hp, e⟩, rfl⟩⟩
theorem AtT.here {P : TP} {t r : Int} (h : AtT P t r) (hr : risT P) {k : Nat} {m : Int × List ByteArray} (hm : P[k]? = some m) (ht : m.1 = t) : r = k := by
  rcases h with ⟨j, p, hj, hp, rfl⟩ | ⟨h, rfl⟩
  · by_cases e : j = k
    · rw [e]
    · exact absurd (hp.trans ht.symm) (key_at hr hm j p e hj)
  · exact absurd ht (h m (List.mem_of_getElem? hm))
theorem AtT.none {P : TP} {t r : Int} (h : AtT P t r) (hn : ∀ p ∈ P, p.1 ≠ t) : r = -1 := by
  rcases h with ⟨j, p, hj, hp, rfl⟩ | ⟨h, rfl⟩
  · exact absurd hp (hn p (List.mem_of_getElem? hj))
  · rfl

set_option maxHeartbeats 1000000 in
set_option maxRecDepth 10000 in
theorem rfind_any (g B N : Nat) (P : TP) (vt vs : Value) (V : List Value) (t r : Int) (w : World) (h : Rq w g B N P vt vs V) (hr : AtT P t r) :
    Calls Tryz.prog 75 #[.pointer (some ⟨g, 0, none⟩), .int .i64 t] w fun e w' => e = .returned (.int .i64 r) ∧ w' = w := by
  obtain ⟨aT, cT, rfl⟩ := ownsRow_slice h.rt
  have hpl := h.pl
  have c1 : w.cell? ⟨g, 1, none⟩ = some (.slice aT P.length cT) := h.blk.cell 1
  have hrt := h.rt
  have hat := fun (k : Nat) (m : Int × List ByteArray) => hr.here (k := k) (m := m) h.ris
  have hno := hr.none
  generalize hn : P.length = n at *
  replace hn := Lib.hid hn
  replace hrt := Lib.hid hrt
  replace hat := Lib.hid hat
  replace hno := Lib.hid hno
  replace hr := Lib.hid hr
  clear h
  go_enter Tryz.func75, Tryz.ntmps75
  go_wp2_with fail
  go_loop [5] (fun i => ∃ k : Nat, k ≤ n ∧ i = .int .i64 k ∧ Hid (∀ p ∈ P.take k, p.1 ≠ t)) (fun i => n - (RowKit.intOf i).toNat)
  case atStart => exact ⟨0, by omega, rfl, Lib.hid (by simp)⟩
  case round =>
    obtain ⟨k, hk, rfl, hkt⟩ := hrel
    by_cases hlt : k < n
    · obtain ⟨m, hm⟩ : ∃ m, P[k]? = some m := ⟨_, List.getElem?_eq_getElem (by rw [hn.out]; exact hlt)⟩
      obtain ⟨gT, rfl, e1⟩ := own_at hrt.out (i := k) (x := .int .i64 m.1) (by simp [rowV, hm])
      by_cases hmt : m.1 = t
      · have hb1 : (m.1 == t) = true := by simpa using hmt
        have hrk := hat.out k m hm hmt
        subst hrk
        replace hm := Lib.hid hm
        generalize m.1 = x at *
        clear hmt
        go_wp2_with fail
        go_ret
        exact ⟨rfl, rfl⟩
      · have hb1 : (m.1 == t) = false := by simpa using hmt
        have hk2 : Hid (∀ p ∈ P.take (k + 1), p.1 ≠ t) := Lib.hid (by
          rw [take_next hm]
          intro p hp
          rcases List.mem_append.1 hp with hp | hp
          · exact hkt.out p hp
          · rw [List.mem_singleton.1 hp]; exact hmt)
        replace hm := Lib.hid hm
        generalize m.1 = x at *
        clear hmt hkt
        go_wp2_with fail
        go_round
        case rel => exact ⟨k + 1, by omega, by go_num, hk2⟩
        case measure => simp [RowKit.intOf]; omega
    · obtain rfl : k = n := by omega
      have hr1 := hno.out (fun p hp => hkt.out p (by rw [List.take_of_length_le (by have := hn.out; omega)]; exact hp))
      subst hr1
      go_wp2_with fail
      go_ret
      exact ⟨rfl, rfl⟩

theorem buffers_any (n : Nat) (w : World) (hn : n ≤ 1000) : Calls Tryz.prog 80 #[.int .i64 n] w fun e w' => e = .returned (.int .i64 (((n + 2) / 3 : Nat))) ∧ w' = w := by
  have e1 : ((n : Int) + 2) / 3 = (((n + 2) / 3 : Nat) : Int) := by omega
  go_enter Tryz.func80, Tryz.ntmps80
  go_wp2_with fail
  go_ret
  exact ⟨by first | (rw [e1]; done) | rfl | (simp), rfl⟩

set_option maxHeartbeats 1000000 in
theorem rof_no (g B N : Nat) (P : TP) (vt vs : Value) (V : List Value) (t : Int) (w : World) (h : Rq w g B N P vt vs V) (ht : ∀ p ∈ P, p.1 ≠ t) :
    Calls Tryz.prog 29 #[.pointer (some ⟨g, 0, none⟩), .int .i64 t] w fun e w' => e = .returned (.slice none 0 0) ∧ w' = w := by
  have hf := rfind_any g B N P vt vs V t (-1) w h (Or.inr ⟨ht, rfl⟩)
  clear h ht
  go_enter Tryz.func29, Tryz.ntmps29
  go_wp2_with fail
  refine hf.mono ?_
  rintro e w1 ⟨rfl, hw1⟩
  obtain rfl := hw1.symm
  clear hf hw1
  go_wp2_with fail
  go_ret
  exact ⟨rfl, rfl⟩
set_option maxHeartbeats 1000000 in
theorem rof_at (g B N : Nat) (P : TP) (vt vs : Value) (V : List Value) (j : Nat) (p : Int × List ByteArray) (v : Value) (w : World) (h : Rq w g B N P vt vs V) (hp : P[j]? = some p) (hv : V[j]? = some v) :
    Calls Tryz.prog 29 #[.pointer (some ⟨g, 0, none⟩), .int .i64 p.1] w fun e w' => e = .returned v ∧ w' = w := by
  have hf := rfind_any g B N P vt vs V p.1 j w h (Or.inl ⟨j, p, hp, rfl, rfl⟩)
  obtain ⟨aS, cS, rfl⟩ := ownsRow_slice h.rs
  have hpl := h.pl
  have hj := (List.getElem?_eq_some_iff.1 hp).1
  have c1 : w.cell? ⟨g, 2, none⟩ = some (.slice aS P.length cS) := h.blk.cell 2
  obtain ⟨gS, rfl, e1⟩ := own_at h.rs hv
  have hb0 : (0 : Int) ≤ j := by omega
  have hb1 : (j : Int) < P.length := by omega
  clear h hp hv
  generalize P.length = n at *
  generalize p.1 = t at *
  go_enter Tryz.func29, Tryz.ntmps29
  go_wp2_with fail
  refine hf.mono ?_
  rintro e w1 ⟨rfl, hw1⟩
  obtain rfl := hw1.symm
  clear hf hw1
  go_wp2_with fail
  go_ret
  exact ⟨rfl, rfl⟩

theorem used_take_next {P : TP} {k : Nat} {m : Int × List ByteArray} (hm : P[k]? = some m) : used (P.take (k + 1)) = used (P.take k) + (m.2.length + 2) / 3 := by
  rw [take_next hm]
  unfold used
  rw [List.map_append, List.sum_append]
  simp
theorem used_take (P : TP) (k : Nat) : used (P.take k) ≤ used P := by
  have e := List.take_append_drop k P
  have : used P = used (P.take k) + used (P.drop k) := by
    conv => lhs; rw [← e]
    unfold used
    rw [List.map_append, List.sum_append]
  omega
theorem SpRow.form {w : World} {B : Nat} {v : Value} {p : Int × List ByteArray} (h : SpRow w B v p) : ∃ a c, v = .slice a p.2.length c := ownsRow_slice h

set_option maxHeartbeats 1000000 in
set_option maxRecDepth 10000 in
theorem rfree_any (g B N : Nat) (P : TP) (vt vs : Value) (V : List Value) (w : World) (h : Rq w g B N P vt vs V) :
    Calls Tryz.prog 37 #[.pointer (some ⟨g, 0, none⟩)] w fun e w' => e = .returned (.int .i64 ((N - used P : Nat))) ∧ w' = w := by
  obtain ⟨aS, cS, rfl⟩ := ownsRow_slice h.rs
  have hpl := h.pl
  have hxl := fun p (hp : p ∈ P) => h.xl hp
  have c0 : w.cell? ⟨g, 0, none⟩ = some (.int .i64 N) := h.blk.cell 0
  have c2 : w.cell? ⟨g, 2, none⟩ = some (.slice aS P.length cS) := h.blk.cell 2
  have hrs := h.rs
  have hrd := h.rd
  have hle := h.le
  have h16 := h.n16
  have hus := used_take P
  have hul : used (P.take P.length) = used P := by rw [List.take_length]
  have hVl : V.length = P.length := h.rd.1
  generalize hn : P.length = n at *
  replace hn := Lib.hid hn
  replace hrs := Lib.hid hrs
  replace hrd := Lib.hid hrd
  replace hxl := Lib.hid hxl
  replace hus := Lib.hid hus
  replace hul := Lib.hid hul
  replace hVl := Lib.hid hVl
  clear h
  generalize hU : used P = U at *
  replace hU := Lib.hid hU
  go_enter Tryz.func37, Tryz.ntmps37
  go_wp2_with fail
  go_loop [3, 4] (fun s i => ∃ (k u : Nat), k ≤ n ∧ i = .int .i64 k ∧ s = .int .i64 ((N : Int) - u) ∧ Hid (u = used (P.take k)) ∧ u ≤ U) (fun _ i => n - (RowKit.intOf i).toNat)
  case atStart => exact ⟨0, 0, by omega, rfl, by simp, Lib.hid (by simp [used]), by omega⟩
  case round =>
    obtain ⟨k, u, hk, rfl, rfl, hu, huU⟩ := hrel
    by_cases hlt : k < n
    · obtain ⟨m, hm⟩ : ∃ m, P[k]? = some m := ⟨_, List.getElem?_eq_getElem (by rw [hn.out]; exact hlt)⟩
      obtain ⟨v, hv⟩ : ∃ v, V[k]? = some v := ⟨_, List.getElem?_eq_getElem (by rw [hVl.out]; exact hlt)⟩
      obtain ⟨gS, rfl, e1⟩ := own_at hrs.out hv
      obtain ⟨av, cv, rfl⟩ := (hrd.out.2 k m v hm hv).form
      have hml := hxl.out m (List.mem_of_getElem? hm)
      have hst := used_take_next hm
      have hle2 := hus.out (k + 1)
      rw [hst, ← hu.out] at hle2
      have hu2 : Hid (u + (m.2.length + 2) / 3 = used (P.take (k + 1))) := Lib.hid (by rw [hst, hu.out])
      have hb := buffers_any m.2.length w (by omega)
      replace hm := Lib.hid hm
      replace hv := Lib.hid hv
      clear hst
      obtain ⟨b, hb3⟩ : ∃ b, b = (m.2.length + 2) / 3 := ⟨_, rfl⟩
      rw [← hb3] at hb hu2 hle2
      generalize m.2.length = ml at *
      have hb9 : b ≤ 16 := by omega
      replace hb3 := Lib.hid hb3
      go_wp2_with fail
      refine hb.mono ?_
      rintro e w1 ⟨rfl, hw1⟩
      obtain rfl := hw1.symm
      clear hb hw1
      go_wp2_with fail
      go_round
      case rel => exact ⟨k + 1, u + b, by omega, by go_num, by first | (congr 1; omega) | go_num, hu2, by have := hU.out; omega⟩
      case measure => simp [RowKit.intOf]; omega
    · obtain rfl : k = n := by omega
      have hu1 := hu.out
      rw [hul.out] at hu1
      subst hu1
      have e9 : (N : Int) - (u : Int) = ((N - u : Nat) : Int) := by omega
      replace e9 := Lib.hid e9

      go_wp2_with fail
      go_ret
      exact ⟨by first | rfl | (rw [e9.out]; rfl) | (rw [e9.out]), rfl⟩
end Go.Proofs.YtppmednmcbjafaaGreat.KR
end

section
set_option linter.unusedVariables false
set_option linter.unusedSimpArgs false
namespace Go.Proofs.YtppmednmcbjafaaGreat.KR
open Go.RowKit Go Go.Maps Go.Lib

set_option maxHeartbeats 1000000 in
set_option maxRecDepth 10000 in
theorem rpwrite_bad (g : Nat) (t : Int) (x : ByteArray) (w : World) (hb : mayB t x = false) :
    Calls Tryz.prog 47 #[.pointer (some ⟨g, 0, none⟩), .int .i64 t, .string x] w fun e w' => e = .returned (.tuple #[span0, .int .i64 1]) ∧ Fr noB w w' := by
  have fX := (Fr.refl noB w).alloc (.cells #[.int .i64 0, .int .i64 0, .string (ByteArray.mk #[])] 38)
  have bR := Blk.new w 38 [.int .i64 0, .int .i64 0, .string (ByteArray.mk #[])]
  have tR := Lib.hid (thereN (i := 0) (n := 3) bR (by simp))
  obtain ⟨b1, b2, b3, hd1, hd2, hd3, hor⟩ : ∃ b1 b2 b3, decide (t < 1) = b1 ∧ decide ((65535 : Int) < t) = b2 ∧ decide ((40 : Int) < (x.size : Int)) = b3 ∧ (b1 || (b2 || b3)) = true := by
    refine ⟨_, _, _, rfl, rfl, rfl, ?_⟩
    unfold mayB at hb
    simp only [Bool.and_eq_false_iff, decide_eq_false_iff_not, Bool.or_eq_true, decide_eq_true_eq] at hb ⊢
    omega
  have key : Calls Tryz.prog 47 #[.pointer (some ⟨g, 0, none⟩), .int .i64 t, .string x] w fun e w' => e = .returned (.tuple #[span0, .int .i64 1]) ∧ Fr noB w w' := by
    clear hb
    rcases b1 with _ | _ <;> rcases b2 with _ | _ <;> rcases b3 with _ | _ <;> first | (exact absurd hor (by decide)) | (
      clear hor
      go_enter Tryz.func47, Tryz.ntmps47
      go_wp2_with (first
        | (refine wpList_store_mid rfl 38 (.tmp 6) (.tmp 26) rfl w.heap.size 0 #[.int .i64 0, .int .i64 0, .string (ByteArray.mk #[])] rfl rfl tR.out size_span (one_span _ _ _) ?_; obtain ⟨w9, hw9, f9, h9⟩ := store3 (w.alloc (.cells #[.int .i64 0, .int .i64 0, .string (ByteArray.mk #[])] 38)) w.heap.size 0 (.int .i64 0) (.int .i64 0) (.string (ByteArray.mk #[])); rw [← hw9]; clear hw9; have h9 := h9 _ _ bR; have r0 : w9.cell? ⟨w.heap.size, 0, none⟩ = some (.int .i64 0) := h9.cell 0; have r1 : w9.cell? ⟨w.heap.size, 1, none⟩ = some (.int .i64 0) := h9.cell 1; have r2 : w9.cell? ⟨w.heap.size, 2, none⟩ = some (.string (ByteArray.mk #[])) := h9.cell 2)
        | fail)
      try simp only [Exit.inBlock, Exit.then]
      refine bodyPost_ret (by simp [results, Tryz.results47, go_sem, r0, r1, r2]; try rfl) rfl ?_
      exact ⟨rfl, fX.trans f9 (fun _ _ q => q) (fun _ hi q => by unfold onlyB at q; omega)⟩)
  exact key

theorem txt_at {P : TP} (hr : risT P) {j : Nat} {p : Int × List ByteArray} (hp : P[j]? = some p) : txt P p.1 = p.2 := txt_of_mem hr (show (p.1, p.2) ∈ P from List.mem_of_getElem? hp)
theorem txt_no {P : TP} {t : Int} (h : ∀ p ∈ P, p.1 ≠ t) : txt P t = [] := by
  by_cases e : txt P t = []
  · exact e
  · exact absurd rfl (h _ (txt_mem e))
/-- Of: a slice as long as the trace has texts -/
theorem rof_len (g B N : Nat) (P : TP) (vt vs : Value) (V : List Value) (t : Int) (w : World) (h : Rq w g B N P vt vs V) :
    Calls Tryz.prog 29 #[.pointer (some ⟨g, 0, none⟩), .int .i64 t] w fun e w' => (∃ a c, e = .returned (.slice a (txt P t).length c)) ∧ w' = w := by
  obtain ⟨r, hr⟩ := AtT.ex P t
  rcases hr with ⟨j, p, hj, hp, _⟩ | ⟨hn, _⟩
  · subst hp
    have hjl := (List.getElem?_eq_some_iff.1 hj).1
    have hv : V[j]? = some (V[j]'(by rw [h.rd.1]; exact hjl)) := List.getElem?_eq_getElem _
    refine (rof_at g B N P vt vs V j p _ w h hj hv).mono ?_
    rintro e w' ⟨rfl, hw⟩
    obtain ⟨a, c, e⟩ := (h.rd.2 j p _ hj hv).form
    rw [e, txt_at h.ris hj]
    exact ⟨⟨a, c, rfl⟩, hw⟩
  · refine (rof_no g B N P vt vs V t w h hn).mono ?_
    rintro e w' ⟨rfl, hw⟩
    rw [txt_no hn]
    exact ⟨⟨none, 0, rfl⟩, hw⟩
theorem txt_len48 {w : World} {g B N : Nat} {P : TP} {vt vs : Value} {V : List Value} (h : Rq w g B N P vt vs V) (t : Int) : (txt P t).length ≤ 48 := by
  by_cases e : txt P t = []
  · rw [e]; simp
  · exact h.xl (txt_mem e)

set_option maxHeartbeats 1000000 in
set_option maxRecDepth 10000 in
theorem rpwrite_full (g B N : Nat) (P : TP) (vt vs : Value) (V : List Value) (t : Int) (x : ByteArray) (w : World) (h : Rq w g B N P vt vs V) (hb : mayB t x = true) (hn : noRoom N P t) :
    Calls Tryz.prog 47 #[.pointer (some ⟨g, 0, none⟩), .int .i64 t, .string x] w fun e w' => e = .returned (.tuple #[span0, .int .i64 6]) ∧ Fr noB w w' := by
  have fX := (Fr.refl noB w).alloc (.cells #[.int .i64 0, .int .i64 0, .string (ByteArray.mk #[])] 38)
  have bR := Blk.new w 38 [.int .i64 0, .int .i64 0, .string (ByteArray.mk #[])]
  have tR := Lib.hid (thereN (i := 0) (n := 3) bR (by simp))
  have hm : 1 ≤ t ∧ t ≤ 65535 ∧ x.size ≤ 40 := by
    unfold mayB at hb; simp only [Bool.and_eq_true, decide_eq_true_eq] at hb; exact hb
  have d1 : decide (t < 1) = false := by simp; omega
  have d2 : decide ((65535 : Int) < t) = false := by simp; omega
  have d3 : decide ((40 : Int) < (x.size : Int)) = false := by simp; omega
  have h1 := h.frN fX
  have hof := rof_len g B N P vt vs V t _ h1
  have hfr := rfree_any g B N P vt vs V _ h1
  obtain ⟨hn1, hn2⟩ := hn
  rw [hn2, Nat.sub_self] at hfr
  have h48 := txt_len48 h t
  generalize (txt P t).length = L at *
  have d4 : (((L : Int) % 3) == 0) = true := by simp; omega
  clear hm hb h h1 hn2
  replace hn1 := Lib.hid hn1
  go_enter Tryz.func47, Tryz.ntmps47
  go_wp2_with fail
  refine hof.mono ?_
  rintro e w1 ⟨⟨a, c, rfl⟩, hw1⟩
  obtain rfl := hw1.symm
  clear hof hw1
  go_wp2_with fail
  refine hfr.mono ?_
  rintro e w1 ⟨rfl, hw1⟩
  obtain rfl := hw1.symm
  clear hfr hw1
  go_wp2_with (first
    | (refine wpList_store_mid rfl 38 (.tmp 6) (.tmp 39) rfl w.heap.size 0 #[.int .i64 0, .int .i64 0, .string (ByteArray.mk #[])] rfl rfl tR.out size_span (one_span _ _ _) ?_; obtain ⟨w9, hw9, f9, h9⟩ := store3 (w.alloc (.cells #[.int .i64 0, .int .i64 0, .string (ByteArray.mk #[])] 38)) w.heap.size 0 (.int .i64 0) (.int .i64 0) (.string (ByteArray.mk #[])); rw [← hw9]; clear hw9; have h9 := h9 _ _ bR; have r0 : w9.cell? ⟨w.heap.size, 0, none⟩ = some (.int .i64 0) := h9.cell 0; have r1 : w9.cell? ⟨w.heap.size, 1, none⟩ = some (.int .i64 0) := h9.cell 1; have r2 : w9.cell? ⟨w.heap.size, 2, none⟩ = some (.string (ByteArray.mk #[])) := h9.cell 2)
    | fail)
  try simp only [Exit.inBlock, Exit.then]
  refine bodyPost_ret (by simp [results, Tryz.results47, go_sem, r0, r1, r2]; try rfl) rfl ?_
  exact ⟨rfl, fX.trans f9 (fun _ _ q => q) (fun _ hi q => by unfold onlyB at q; omega)⟩
end Go.Proofs.YtppmednmcbjafaaGreat.KR
end

section
set_option linter.unusedVariables false
set_option linter.unusedSimpArgs false
namespace Go.Proofs.YtppmednmcbjafaaGreat.KR
open Go.RowKit Go Go.Maps Go.Lib

theorem infoSlSp : (Tryz.prog.info? 71).map (fun i => (i.zero, i.size, i.bytes)) = some (some (.slice none 0 0), 1, 24) := by kernel_rfl
theorem Rows2.other {w w' : World} {B B' k n : Nat} {e : TypeId} {F : TP} {V : List Value} {u : Value} {xs : List Value} (h : Rows2 w B F V) (hu : w.ownsRow B' e k u n xs) (he : 38 ≠ e) (hg : w.grownBy w' u.ownBlock) : Rows2 w' B F V :=
  ⟨h.1, fun i p v hp hv => ownsRow_other (h.2 i p v hp hv) hg (rows_apart (h.2 i p v hp hv) hu he)⟩
theorem growT2 {w wr w1 : World} {B D n x : Nat} {tv av : Value} {xs V V2 : List Value} {F : TP} {o : Obj} (hD : Hid (w.heap.size = D)) (fr : Fr noB w wr) (hA : (wr.alloc o).ownsRow D 3 1 tv n xs) (oA : wr.ownsRow D 71 1 av x V) (rd : Rows2 wr B F V2) (gr : (wr.alloc o).grownBy w1 tv.ownBlock) :
    w1.ownsRow D 71 1 av x V ∧ Rows2 w1 B F V2 ∧ Fr noB w w1 := by
  have fX := (Fr.refl noB wr).alloc o
  have oAX := ownsRow_fr oA fX (fun _ _ q => q)
  exact ⟨ownsRow_other oAX gr (rows_apart oAX hA (by decide)), (rd.frN fX).other hA (by decide) gr, (fr.alloc _).grown gr (fun q hq hlt => by have := (hA.lt q hq).1; have := hD.out; omega)⟩
theorem growA2 {w wr wX w1 : World} {B D n x : Nat} {tv av : Value} {xs V V2 : List Value} {F : TP} (hD : Hid (w.heap.size = D)) (fr : Fr noB w wr) (fX : Fr noB wr wX) (hA : wX.ownsRow D 71 1 av n V) (oT : wr.ownsRow D 3 1 tv x xs) (rd : Rows2 wr B F V2) (gr : wX.grownBy w1 av.ownBlock) :
    w1.ownsRow D 3 1 tv x xs ∧ Rows2 w1 B F V2 ∧ Fr noB w w1 := by
  have oTX := ownsRow_fr oT fX (fun _ _ q => q)
  exact ⟨ownsRow_other oTX gr (rows_apart oTX hA (by decide)), (rd.frN fX).other hA (by decide) gr, (fr.seqN fX).grown gr (fun q hq hlt => by have := (hA.lt q hq).1; have := hD.out; omega)⟩
theorem SpRow.other {w w' : World} {B B' k n : Nat} {e : TypeId} {v u : Value} {p : Int × List ByteArray} {xs : List Value} (h : SpRow w B v p) (hu : w.ownsRow B' e k u n xs) (he : 38 ≠ e) (hg : w.grownBy w' u.ownBlock) : SpRow w' B v p := ownsRow_other h hg (rows_apart h hu he)
theorem snoc_row {w : World} {D : Nat} {tv av : Value} {F : TP} {V : List Value} {m : Int × List ByteArray} {u : Value} (h1 : w.ownsRow D 3 1 tv (F.length + 1) (rowV (F.map (·.1)) ++ [.int .i64 m.1])) (h2 : w.ownsRow D 71 1 av (F.length + 1) (V ++ [u])) :
    w.ownsRow D 3 1 tv (F ++ [m]).length (rowV ((F ++ [m]).map (·.1))) ∧ w.ownsRow D 71 1 av (F ++ [m]).length (V ++ [u]) := by
  have e1 : (F ++ [m]).length = F.length + 1 := by simp
  have e2 : rowV ((F ++ [m]).map (·.1)) = rowV (F.map (·.1)) ++ [.int .i64 m.1] := by simp [rowV]
  rw [e1, e2]; exact ⟨h1, h2⟩
/-- a row of one span, newly made -/
theorem SpRow.one {w : World} {B : Nat} (t : Int) (x : ByteArray) (hB : B ≤ w.heap.size) : SpRow (w.alloc (.cells #[.int .i64 t, .int .i64 1, .string x] 38)) B (.slice (some ⟨w.heap.size, 0, none⟩) 1 1) (t, [x]) := by
  have := own_new w 38 [.int .i64 t, .int .i64 1, .string x] 3 1 rfl (by unfold maxLen; omega)
  exact ownsRow_mono this hB
theorem one_slice (a : Option Addr) (n c : Nat) : ∀ z ∈ [Value.slice a n c], z.oneCell' = true := by intro z hz; simp at hz; subst hz; rfl
/-- the new state's rows lie where the old ones lay, or in new blocks -/
def VFrom (D : Nat) (VA V : List Value) : Prop := ∀ z ∈ V, z ∈ VA ∨ ∀ q, z.ownBlock = some q → D ≤ q
theorem VFrom.nil (D : Nat) (VA : List Value) : VFrom D VA [] := fun z hz => by cases hz
theorem VFrom.old {D : Nat} {VA V : List Value} {u : Value} (h : VFrom D VA V) (hu : u ∈ VA) : VFrom D VA (V ++ [u]) := fun z hz => by
  rcases List.mem_append.1 hz with q | q
  · exact h z q
  · rw [List.mem_singleton.1 q]; exact Or.inl hu
theorem VFrom.new {D g n c : Nat} {VA V : List Value} (h : VFrom D VA V) (hg : D ≤ g) : VFrom D VA (V ++ [.slice (some ⟨g, 0, none⟩) n c]) := fun z hz => by
  rcases List.mem_append.1 hz with q | q
  · exact h z q
  · rw [List.mem_singleton.1 q]; exact Or.inr (fun b hb => by cases hb; exact hg)
/-- what is put at the end -/
theorem rq_fin {g D B N : Nat} {P P' : TP} {vt vs vt' vs' : Value} {VA V : List Value} {S : Nat → Prop} {w0 wr wz : World} {rb : Nat} (h : Rq w0 g B N P vt vs VA) (hS : ∀ q, rqS g vt vs VA q → S q)
    (hrb : w0.heap.size ≤ rb) (hD : w0.heap.size ≤ D) (fr : Fr noB w0 wr) (oT : wr.ownsRow D 3 1 vt' P'.length (rowV (P'.map (·.1)))) (oA : wr.ownsRow D 71 1 vs' P'.length V) (rd : Rows2 wr B P' V) (hV : VFrom w0.heap.size VA V)
    (hvt : rb ≠ g) (hrbt : ∀ q, (vt'.ownBlock = some q ∨ vs'.ownBlock = some q ∨ ∃ v ∈ V, v.ownBlock = some q) → q ≠ rb)
    (hr : risT P') (hne : ∀ p ∈ P', p.2 ≠ []) (hle : used P' ≤ N)
    (fz : Fr (onlyB rb) ((wr.setCell ⟨g, 1, none⟩ vt').setCell ⟨g, 2, none⟩ vs') wz) : Rp wz g B N P' (nx S w0 wz) ∧ Fr S w0 wz := by
  have hgw : g < w0.heap.size := by have := h.gB; have := h.Bw; omega
  have b0 := fr.blk h.blk (fun q => q)
  have b2 := (b0.set 1 vt').set 2 vs'
  have g1 : Fr (onlyB g) wr (wr.setCell ⟨g, 1, none⟩ vt') := (Fr.refl _ wr).store rfl
  have g2 : Fr (onlyB g) (wr.setCell ⟨g, 1, none⟩ vt') ((wr.setCell ⟨g, 1, none⟩ vt').setCell ⟨g, 2, none⟩ vs') := (Fr.refl _ _).store rfl
  have g3 := g1.seqB g2 (fun _ => rfl)
  have b3 := fz.blk b2 (fun q => hvt q.symm)
  have hVg : ∀ v ∈ V, ∀ q, v.ownBlock = some q → q ≠ g := fun v hv q hq e => by
    subst e
    obtain ⟨i, hi, rfl⟩ := List.getElem_of_mem hv
    have h2 := rd.1
    obtain ⟨cs, hc⟩ := row_typeR (rd.2 i _ _ (List.getElem?_eq_getElem (show i < P'.length by omega)) (List.getElem?_eq_getElem hi)) hq
    have hb0 := b0
    unfold Blk at hb0
    rw [hc] at hb0
    simp at hb0
  have o1 := ownsRow_fr (ownsRow_fr oT g3 (fun q hq e => by have := (oT.lt q hq).1; unfold onlyB at e; omega)) fz (fun q hq e => hrbt q (Or.inl hq) e)
  have o2 := ownsRow_fr (ownsRow_fr oA g3 (fun q hq e => by have := (oA.lt q hq).1; unfold onlyB at e; omega)) fz (fun q hq e => hrbt q (Or.inr (Or.inl hq)) e)
  have r3 := (rd.fr g3 (fun v hv q hq e => hVg v hv q hq e)).fr fz (fun v hv q hq e => hrbt q (Or.inr (Or.inr ⟨v, hv, hq⟩)) e)
  have hs : w0.heap.size ≤ wz.heap.size := Nat.le_trans fr.size (Nat.le_trans g3.size fz.size)
  have key : Rq wz g B N P' vt' vs' V := ⟨b3, ownsRow_mono o1 (by have := h.Bw; omega), ownsRow_mono o2 (by have := h.Bw; omega), r3, h.gB, by have := h.Bw; omega, hr, hne, hle, h.n16⟩
  have F1 : Fr S w0 ((wr.setCell ⟨g, 1, none⟩ vt').setCell ⟨g, 2, none⟩ vs') := fr.trans g3 (fun _ _ q => False.elim q) (fun q _ e => hS q (Or.inl e))
  refine ⟨⟨vt', vs', V, key, fun q hq => ?_⟩, F1.trans fz (fun _ _ q => q) (fun q hq e => by unfold onlyB at e; omega)⟩
  have hlt := key.low hq
  rcases hq with e | e | e | ⟨v, hv, e⟩
  · exact Or.inl (hS q (Or.inl e))
  · have := (oT.lt q e).1; exact Or.inr ⟨by omega, hlt⟩
  · have := (oA.lt q e).1; exact Or.inr ⟨by omega, hlt⟩
  · rcases hV v hv with q1 | q1
    · exact Or.inl (hS q (Or.inr (Or.inr (Or.inr ⟨v, q1, e⟩))))
    · exact Or.inr ⟨q1 q e, hlt⟩

set_option maxHeartbeats 4000000 in
set_option maxRecDepth 10000 in
theorem rpwrite_new (g B N : Nat) (P : TP) (vt vs : Value) (VA : List Value) (S : Nat → Prop) (t : Int) (x : ByteArray) (w0 : World) (h : Rq w0 g B N P vt vs VA) (hS : ∀ q, rqS g vt vs VA q → S q) (hb : mayB t x = true) (hn : ¬ noRoom N P t) (hno : ∀ p ∈ P, p.1 ≠ t) :
    Calls Tryz.prog 47 #[.pointer (some ⟨g, 0, none⟩), .int .i64 t, .string x] w0 fun e w' => e = .returned (.tuple #[.agg #[.int .i64 t, .int .i64 1, .string x], .int .i64 0]) ∧ Rp w' g B N (addT P t x) (nx S w0 w') ∧ Fr S w0 w' := by
  obtain ⟨i0, hi0, hz0, hz1, hz2⟩ : ∃ i0, Tryz.prog.info? 3 = some i0 ∧ i0.zero = some (.int .i64 0) ∧ i0.size = 1 ∧ i0.bytes = 8 := by
    have hI := infoIntR
    cases hq : Tryz.prog.info? 3 with
    | none => rw [hq] at hI; cases hI
    | some k => rw [hq] at hI; simp at hI; exact ⟨k, rfl, hI⟩
  obtain ⟨j0, hj0, hy0, hy1, hy2⟩ : ∃ i0, Tryz.prog.info? 71 = some i0 ∧ i0.zero = some (.slice none 0 0) ∧ i0.size = 1 ∧ i0.bytes = 24 := by
    have hI := infoSlSp
    cases hq : Tryz.prog.info? 71 with
    | none => rw [hq] at hI; cases hI
    | some k => rw [hq] at hI; simp at hI; exact ⟨k, rfl, hI⟩
  have hm : 1 ≤ t ∧ t ≤ 65535 ∧ x.size ≤ 40 := by
    unfold mayB at hb; simp only [Bool.and_eq_true, decide_eq_true_eq] at hb; exact hb
  have d1 : decide (t < 1) = false := by simp; omega
  have d2 : decide ((65535 : Int) < t) = false := by simp; omega
  have d3 : decide ((40 : Int) < (x.size : Int)) = false := by simp; omega
  have htx := txt_no hno
  have hnu : used P ≠ N := fun e => hn ⟨by rw [htx]; rfl, e⟩
  have hle := h.le
  have fX := (Fr.refl noB w0).alloc (.cells #[.int .i64 0, .int .i64 0, .string (ByteArray.mk #[])] 38)
  have h1 := h.frN fX
  have hof := rof_no g B N P vt vs VA t _ h1 hno
  have hfr := rfree_any g B N P vt vs VA _ h1
  have d40 : N - used P ≠ 0 := by omega
  have hadd := Lib.hid (used_add P t x h.ris)
  rw [htx] at hadd
  have hris' := Lib.hid (ris_add P t x h.ris)
  have hne' : Hid (∀ p ∈ addT P t x, p.2 ≠ []) := Lib.hid (fun p hp => by
    have hk := ris_add P t x h.ris
    rcases mem_add P t x p hp with q | q
    · have hl := txt_of_mem hk (show (p.1, p.2) ∈ addT P t x from hp)
      rw [q, txt_add_same P t x h.ris] at hl
      rw [← hl]; simp
    · exact h.ne p q)
  have hle' : Hid (used (addT P t x) ≤ N) := Lib.hid (by rw [hadd.out]; simp; omega)
  generalize (N - used P : Nat) = FRE at *
  have d4 : ((FRE : Int) == 0) = false := by simp; omega
  replace d40 := Lib.hid d40
  clear hnu hle htx hadd hm hn hb
  go_enter Tryz.func47, Tryz.ntmps47
  go_wp2_with fail
  refine hof.mono ?_
  rintro e w1 ⟨rfl, hw1⟩
  obtain rfl := hw1.symm
  clear hof hw1
  go_wp2_with fail
  refine hfr.mono ?_
  rintro e w1 ⟨rfl, hw1⟩
  obtain rfl := hw1.symm
  clear hfr hw1 d1 d2 d3
  have fY := (Fr.refl noB (w0.alloc (.cells #[.int .i64 0, .int .i64 0, .string (ByteArray.mk #[])] 38))).alloc (.cells #[.int .i64 t, .int .i64 1, .string x] 38)
  have h2 := h1.frN fY
  have hfi := rfind_any g B N P vt vs VA t (-1) _ h2 (Or.inr ⟨hno, rfl⟩)
  have bR0 := fY.blk (Blk.new w0 38 [.int .i64 0, .int .i64 0, .string (ByteArray.mk #[])]) (fun q => q)
  have bS0 := Blk.new (w0.alloc (.cells #[.int .i64 0, .int .i64 0, .string (ByteArray.mk #[])] 38)) 38 [.int .i64 t, .int .i64 1, .string x]
  have hsz : (w0.alloc (.cells #[.int .i64 0, .int .i64 0, .string (ByteArray.mk #[])] 38)).heap.size = w0.heap.size + 1 := by simp
  rw [hsz] at bS0
  have f0 : Fr noB w0 _ := fX.seqN fY
  clear h1 fX fY
  replace h2 := Lib.hid h2
  go_wp2_with fail
  refine hfi.mono ?_
  rintro e w ⟨rfl, hw1⟩
  rw [← hw1] at bR0 bS0 f0 h2
  clear hfi hw1 hsz d4
  obtain ⟨sb, hsb⟩ : ∃ sb, sb = w0.heap.size + 1 := ⟨_, rfl⟩
  rw [← hsb]
  rw [← hsb] at bS0
  replace hsb := Lib.hid hsb
  have hR2 := h2.out
  have hpl := hR2.pl
  obtain ⟨hbk, hrT, hrA, hrd, hgB, hBw, hris, hne, hle, h16⟩ := hR2
  obtain ⟨aT, cT, rfl⟩ := ownsRow_slice hrT
  obtain ⟨aA, cA, rfl⟩ := ownsRow_slice hrA
  have hVl : VA.length = P.length := hrd.1
  generalize hnn : P.length = n at *
  have hn9 : n ≤ 16 := hpl
  replace hnn := Lib.hid hnn
  replace hVl := Lib.hid hVl
  replace hbk := Lib.hid hbk
  replace hrT := Lib.hid hrT
  replace hrA := Lib.hid hrA
  replace hrd := Lib.hid hrd
  replace bR0 := Lib.hid bR0
  replace bS0 := Lib.hid bS0
  replace f0 := Lib.hid f0
  replace hno := Lib.hid hno
  replace hS := Lib.hid hS
  replace h := Lib.hid h
  clear hne hris hle h2 hpl
  generalize hD : w.heap.size = D at *
  have hD0 : w0.heap.size ≤ D := by rw [← hD]; exact f0.out.size
  have hBD : B ≤ D := hBw
  replace hD := Lib.hid hD
  have hD2 : w0.heap.size + 2 ≤ D := by have h7 := bS0.out.lt; have h8 := hD.out; have h9 := hsb.out; omega
  go_wp2_with fail
  go_loopw [11, 12, 13, 14] (fun tv av dn i wr => ∃ (k : Nat) (F : TP) (V : List Value) (d : Bool), k ≤ n ∧ i = .int .i64 k ∧ dn = .bool d ∧ wr.ownsRow D 3 1 tv F.length (rowV (F.map (·.1))) ∧ wr.ownsRow D 71 1 av F.length V ∧ Hid (Pt wr B P t x k d F V) ∧ Hid (VFrom D VA V) ∧ Fr noB w wr) (fun _ _ _ i _ => n - (RowKit.intOf i).toNat)
  case atStart => exact ⟨0, [], [], false, by omega, rfl, rfl, World.ownsRow_nil _ _ _ _, World.ownsRow_nil _ _ _ _, Lib.hid ⟨by simp [anyT], by simp [outT, anyT], Rows2.nil _ _⟩, Lib.hid (VFrom.nil _ _), Fr.refl _ _⟩
  case round =>
    obtain ⟨k, F, V, d, hk, rfl, rfl, oT, oA, hK, hsub, fr⟩ := hrel
    have c1 : wr.cell? ⟨g, 1, none⟩ = some (.slice aT n cT) := (fr.blk hbk.out (fun q => q)).cell 1
    have c2 : wr.cell? ⟨g, 2, none⟩ = some (.slice aA n cA) := (fr.blk hbk.out (fun q => q)).cell 2
    have hFl := hK.out.len_le
    by_cases hlt : k < n
    · obtain ⟨m, hm⟩ : ∃ m, P[k]? = some m := ⟨_, List.getElem?_eq_getElem (by rw [hnn.out]; exact hlt)⟩
      obtain ⟨u, hu⟩ : ∃ u, VA[k]? = some u := ⟨_, List.getElem?_eq_getElem (by rw [hVl.out]; exact hlt)⟩
      obtain ⟨gT, rfl, e1⟩ := own_at hrT.out (i := k) (x := .int .i64 m.1) (by simp [rowV, hm])
      obtain ⟨gA, rfl, e2⟩ := own_at hrA.out hu
      have hru : ∀ w', Fr noB w w' → SpRow w' B u m := fun w' f => (hrd.out.2 k m u hm hu).fr f (fun _ _ q => q)
      obtain ⟨au, cu, rfl⟩ := (hrd.out.2 k m u hm hu).form
      have huV : Value.slice au m.2.length cu ∈ VA := List.mem_of_getElem? hu
      have e3 := fr.cell e1 (fun q => q)
      obtain ⟨lu, hlu⟩ : ∃ lu, lu = m.2.length := ⟨_, rfl⟩
      rw [← hlu] at hru huV e2
      replace hru := Lib.hid hru
      replace huV := Lib.hid huV
      replace e1 := Lib.hid e1
      replace e2 := Lib.hid e2
      replace hu := Lib.hid hu
      replace hlu := Lib.hid hlu
      cases d with
      | true =>
        have hs1 := Lib.hid (hsub.out.old huV.out)
        obtain ⟨y, z⟩ := m
        simp only at e3
        have c1 := c1

        have hA : (wr.alloc (.cells #[.int .i64 y] 3)).ownsRow D 3 1 u11 F.length (rowV (F.map (·.1))) := ownsRow_fr oT ((Fr.refl noB wr).alloc _) (fun _ _ q => q)
        have hN := cell_new wr (.int .i64 y) 3
        have hDW : D ≤ wr.heap.size := by rw [← hD.out]; exact fr.size
        go_wp2_with (first
          | (at_builtin; go_must (refine wpList_append_at _ rfl (.tmp 82) (.tmp 90) 57 rfl D 3 i0 _ 1 8 Tryz.underlying57 hi0 hz0 hz1 hz2 rfl (by omega) _ F.length _ rfl hA ⟨wr.heap.size, 0, none⟩ 1 1 [.int .i64 y] rfl rfl hN (one_int _ _) ?_ ?_ ?_ ?_))
          | fail)
        · unfold maxLen; omega
        · omega
        · have := ((Fr.refl noB wr).alloc (.cells #[.int .i64 y] 3)).size; omega
        intro tvwa1 wa1 oTwa1 grwa1 _
        obtain ⟨oAwa1, rdwa1, frwa1⟩ := growT2 hD fr hA oA hK.out.rd grwa1
        clear hA hN grwa1 hDW

        have dw1 : wa1.cell? ⟨g, 2, none⟩ = some (.slice (some ⟨gA, 0, none⟩) n cA) := (frwa1.blk hbk.out (fun q => q)).cell 2
        have ew1 := frwa1.cell e2.out (fun q => q)

        have hA : (wa1.alloc (.cells #[.slice au lu cu] 71)).ownsRow D 71 1 u12 F.length V := ownsRow_fr oAwa1 ((Fr.refl noB wa1).alloc _) (fun _ _ q => q)
        have hN := cell_new wa1 (.slice au lu cu) 71
        have hDW : D ≤ wa1.heap.size := by rw [← hD.out]; exact frwa1.size
        have hone := one_slice au lu cu
        go_wp2_with (first
          | (at_builtin; go_must (refine wpList_append_at _ rfl (.tmp 92) (.tmp 100) 124 rfl D 71 j0 _ 1 24 Tryz.underlying124 hj0 hy0 hy1 hy2 rfl (by omega) _ F.length _ rfl hA ⟨wa1.heap.size, 0, none⟩ 1 1 [.slice au lu cu] rfl rfl hN hone ?_ ?_ ?_ ?_))
          | fail)
        · unfold maxLen; omega
        · omega
        · have := ((Fr.refl noB wa1).alloc (.cells #[.slice au lu cu] 71)).size; omega
        intro avwa2 wa2 oAwa2 grwa2 _
        obtain ⟨oTwa2, rdwa2, frwa2⟩ := growA2 hD frwa1 ((Fr.refl noB wa1).alloc _) hA oTwa1 rdwa1 grwa2
        clear hA hN grwa2 hDW hone
        clear dw1 ew1 oTwa1 oAwa1 rdwa1

        have hK1 : Hid (Pt wa2 B P t x (k + 1) true (F ++ [(y, z)]) (V ++ [.slice au lu cu])) := Lib.hid ((Pt.mk hK.out.any hK.out.eq rdwa2).yes hno.out hm (hru.out _ frwa2))
        obtain ⟨pT, pA⟩ := snoc_row (m := (y, z)) oTwa2 oAwa2
        clear oTwa2 oAwa2 rdwa2 c1 c2 e3 hm

        go_wp2_with fail
        go_roundw
        case rel => exact ⟨k + 1, F ++ [(y, z)], V ++ [.slice au lu cu], true, by omega, by go_num, rfl, pT, pA, hK1, hs1, frwa2⟩
        case measure => simp [RowKit.intOf]; omega
      | false =>
        by_cases hxy : t < m.1
        · have hb1 : decide (t < m.1) = true := by simpa using hxy
          obtain ⟨y, z⟩ := m
          simp only at e3 hb1 hxy
          replace hxy := Lib.hid hxy

          have hA : (wr.alloc (.cells #[.int .i64 t] 3)).ownsRow D 3 1 u11 F.length (rowV (F.map (·.1))) := ownsRow_fr oT ((Fr.refl noB wr).alloc _) (fun _ _ q => q)
          have hN := cell_new wr (.int .i64 t) 3
          have hDW : D ≤ wr.heap.size := by rw [← hD.out]; exact fr.size
          go_wp2_with (first
            | (at_builtin; go_must (refine wpList_append_at _ rfl (.tmp 73) (.tmp 75) 57 rfl D 3 i0 _ 1 8 Tryz.underlying57 hi0 hz0 hz1 hz2 rfl (by omega) _ F.length _ rfl hA ⟨wr.heap.size, 0, none⟩ 1 1 [.int .i64 t] rfl rfl hN (one_int _ _) ?_ ?_ ?_ ?_))
            | fail)
          · unfold maxLen; omega
          · omega
          · have := ((Fr.refl noB wr).alloc (.cells #[.int .i64 t] 3)).size; omega
          intro tvwa1 wa1 oTwa1 grwa1 _
          obtain ⟨oAwa1, rdwa1, frwa1⟩ := growT2 hD fr hA oA hK.out.rd grwa1
          clear hA hN grwa1 hDW

          clear c1 c2 e3

          have s0 : wa1.cell? ⟨sb, 0, none⟩ = some (.int .i64 t) := (frwa1.blk bS0.out (fun q => q)).cell 0
          have s1 : wa1.cell? ⟨sb, 1, none⟩ = some (.int .i64 1) := (frwa1.blk bS0.out (fun q => q)).cell 1
          have s2 : wa1.cell? ⟨sb, 2, none⟩ = some (.string x) := (frwa1.blk bS0.out (fun q => q)).cell 2
          have hDW : D ≤ wa1.heap.size := by rw [← hD.out]; exact frwa1.size
          have hl0 : SpRow (wa1.alloc (.cells #[.int .i64 t, .int .i64 1, .string x] 38)) B (.slice (some ⟨wa1.heap.size, 0, none⟩) 1 1) (t, [x]) := SpRow.one t x (by omega)
          have fL := ((Fr.refl noB wa1).alloc (.cells #[.int .i64 t, .int .i64 1, .string x] 38)).alloc (.cells #[.slice (some ⟨wa1.heap.size, 0, none⟩) 1 1] 71)
          have hl1 : SpRow ((wa1.alloc (.cells #[.int .i64 t, .int .i64 1, .string x] 38)).alloc (.cells #[.slice (some ⟨wa1.heap.size, 0, none⟩) 1 1] 71)) B (.slice (some ⟨wa1.heap.size, 0, none⟩) 1 1) (t, [x]) := hl0.fr ((Fr.refl noB (wa1.alloc (.cells #[.int .i64 t, .int .i64 1, .string x] 38))).alloc _) (fun _ _ q => q)
          have hA : ((wa1.alloc (.cells #[.int .i64 t, .int .i64 1, .string x] 38)).alloc (.cells #[.slice (some ⟨wa1.heap.size, 0, none⟩) 1 1] 71)).ownsRow D 71 1 u12 F.length V := ownsRow_fr oAwa1 fL (fun _ _ q => q)
          have hN := cell_new (wa1.alloc (.cells #[.int .i64 t, .int .i64 1, .string x] 38)) (.slice (some ⟨wa1.heap.size, 0, none⟩) 1 1) 71
          have hzW : (wa1.alloc (.cells #[.int .i64 t, .int .i64 1, .string x] 38)).heap.size = wa1.heap.size + 1 := by simp
          rw [hzW] at hN
          have hone := one_slice (some ⟨wa1.heap.size, 0, none⟩) 1 1
          replace hl1 := Lib.hid hl1
          replace fL := Lib.hid fL
          clear hl0 hzW
          go_wp2_with (first
            | (at_builtin; go_must (refine wpList_append_at _ rfl (.tmp 77) (.tmp 80) 124 rfl D 71 j0 _ 1 24 Tryz.underlying124 hj0 hy0 hy1 hy2 rfl (by omega) _ F.length _ rfl hA ⟨wa1.heap.size + 1, 0, none⟩ 1 1 [.slice (some ⟨wa1.heap.size, 0, none⟩) 1 1] rfl rfl hN hone ?_ ?_ ?_ ?_))
            | fail)
          · unfold maxLen; omega
          · omega
          · have := fL.out.size; omega
          intro avwa2 wa2 oAwa2 grwa2 _
          obtain ⟨oTwa2, rdwa2, frwa2⟩ := growA2 hD frwa1 fL.out hA oTwa1 rdwa1 grwa2
          have hlwa2 : SpRow wa2 B (.slice (some ⟨wa1.heap.size, 0, none⟩) 1 1) (t, [x]) := hl1.out.other hA (by decide) grwa2
          clear hA hN grwa2 hone hl1 fL s0 s1 s2

          obtain ⟨pT, pA⟩ := snoc_row (m := (t, [x])) oTwa2 oAwa2
          have rd2 := rdwa2.snoc hlwa2
          have hs0 : Hid (VFrom D VA (V ++ [.slice (some ⟨wa1.heap.size, 0, none⟩) 1 1])) := Lib.hid (hsub.out.new hDW)
          have hs1 := Lib.hid (hs0.out.old huV.out)
          clear oTwa2 oAwa2 rdwa2 oTwa1 oAwa1 rdwa1 hDW
          have hP1 : (F ++ [(t, [x])]).length ≤ k + 2 := by simp; omega
          have c1 : wa2.cell? ⟨g, 1, none⟩ = some (.slice (some ⟨gT, 0, none⟩) n cT) := (frwa2.blk hbk.out (fun q => q)).cell 1
          have e3 := frwa2.cell e1.out (fun q => q)
          replace hlwa2 := Lib.hid hlwa2
          generalize hG : F ++ [(t, [x])] = G at *
          generalize hO : V ++ [Value.slice (some ⟨wa1.heap.size, 0, none⟩) 1 1] = O at *
          replace hG := Lib.hid hG
          replace hO := Lib.hid hO

          have hA : (wa2.alloc (.cells #[.int .i64 y] 3)).ownsRow D 3 1 tvwa1 G.length (rowV (G.map (·.1))) := ownsRow_fr pT ((Fr.refl noB wa2).alloc _) (fun _ _ q => q)
          have hN := cell_new wa2 (.int .i64 y) 3
          have hDW : D ≤ wa2.heap.size := by rw [← hD.out]; exact frwa2.size
          go_wp2_with (first
            | (at_builtin; go_must (refine wpList_append_at _ rfl (.tmp 82) (.tmp 90) 57 rfl D 3 i0 _ 1 8 Tryz.underlying57 hi0 hz0 hz1 hz2 rfl (by omega) _ G.length _ rfl hA ⟨wa2.heap.size, 0, none⟩ 1 1 [.int .i64 y] rfl rfl hN (one_int _ _) ?_ ?_ ?_ ?_))
            | fail)
          · unfold maxLen; omega
          · omega
          · have := ((Fr.refl noB wa2).alloc (.cells #[.int .i64 y] 3)).size; omega
          intro tvwb1 wb1 oTwb1 grwb1 _
          obtain ⟨oAwb1, rdwb1, frwb1⟩ := growT2 hD frwa2 hA pA rd2 grwb1
          clear hA hN grwb1 hDW

          have dw1 : wb1.cell? ⟨g, 2, none⟩ = some (.slice (some ⟨gA, 0, none⟩) n cA) := (frwb1.blk hbk.out (fun q => q)).cell 2
          have ew1 := frwb1.cell e2.out (fun q => q)

          have hA : (wb1.alloc (.cells #[.slice au lu cu] 71)).ownsRow D 71 1 avwa2 G.length O := ownsRow_fr oAwb1 ((Fr.refl noB wb1).alloc _) (fun _ _ q => q)
          have hN := cell_new wb1 (.slice au lu cu) 71
          have hDW : D ≤ wb1.heap.size := by rw [← hD.out]; exact frwb1.size
          have hone := one_slice au lu cu
          go_wp2_with (first
            | (at_builtin; go_must (refine wpList_append_at _ rfl (.tmp 92) (.tmp 100) 124 rfl D 71 j0 _ 1 24 Tryz.underlying124 hj0 hy0 hy1 hy2 rfl (by omega) _ G.length _ rfl hA ⟨wb1.heap.size, 0, none⟩ 1 1 [.slice au lu cu] rfl rfl hN hone ?_ ?_ ?_ ?_))
            | fail)
          · unfold maxLen; omega
          · omega
          · have := ((Fr.refl noB wb1).alloc (.cells #[.slice au lu cu] 71)).size; omega
          intro avwb2 wb2 oAwb2 grwb2 _
          obtain ⟨oTwb2, rdwb2, frwb2⟩ := growA2 hD frwb1 ((Fr.refl noB wb1).alloc _) hA oTwb1 rdwb1 grwb2
          clear hA hN grwb2 hDW hone
          clear dw1 ew1 oTwb1 oAwb1 rdwb1

          have hK1 : Hid (Pt wb2 B P t x (k + 1) true (G ++ [(y, z)]) (O ++ [.slice au lu cu])) := by
            have h9 := rdwb2
            have hq := hru.out _ frwb2
            refine Lib.hid ?_
            have h7 : anyT (P.take k ++ [(y, z)]) t = true := by rw [anyT_snoc]; simp [hxy.out]
            refine ⟨by rw [take_next hm, h7], ?_, h9.snoc hq⟩
            rw [take_next hm, ← hG.out]
            have ha := hK.out.any
            have he := hK.out.eq
            unfold outT at he ⊢
            rw [← ha] at he
            simp only [Bool.false_eq_true, if_false] at he
            rw [if_pos h7, he, addT_here ha.symm (key_take hno.out k) hxy.out]
          obtain ⟨qT, qA⟩ := snoc_row (m := (y, z)) oTwb2 oAwb2
          clear oTwb2 oAwb2 rdwb2 c1 e3 hm pT pA rd2

          go_wp2_with fail
          go_roundw
          case rel => exact ⟨k + 1, G ++ [(y, z)], O ++ [.slice au lu cu], true, by omega, by go_num, rfl, qT, qA, hK1, hs1, frwb2⟩
          case measure => simp [RowKit.intOf]; omega
        · have hb1 : decide (t < m.1) = false := by simpa using hxy
          have hs1 := Lib.hid (hsub.out.old huV.out)
          obtain ⟨y, z⟩ := m
          simp only at e3 hb1 hxy
          replace hxy := Lib.hid hxy

          have hA : (wr.alloc (.cells #[.int .i64 y] 3)).ownsRow D 3 1 u11 F.length (rowV (F.map (·.1))) := ownsRow_fr oT ((Fr.refl noB wr).alloc _) (fun _ _ q => q)
          have hN := cell_new wr (.int .i64 y) 3
          have hDW : D ≤ wr.heap.size := by rw [← hD.out]; exact fr.size
          go_wp2_with (first
            | (at_builtin; go_must (refine wpList_append_at _ rfl (.tmp 82) (.tmp 90) 57 rfl D 3 i0 _ 1 8 Tryz.underlying57 hi0 hz0 hz1 hz2 rfl (by omega) _ F.length _ rfl hA ⟨wr.heap.size, 0, none⟩ 1 1 [.int .i64 y] rfl rfl hN (one_int _ _) ?_ ?_ ?_ ?_))
            | fail)
          · unfold maxLen; omega
          · omega
          · have := ((Fr.refl noB wr).alloc (.cells #[.int .i64 y] 3)).size; omega
          intro tvwa1 wa1 oTwa1 grwa1 _
          obtain ⟨oAwa1, rdwa1, frwa1⟩ := growT2 hD fr hA oA hK.out.rd grwa1
          clear hA hN grwa1 hDW

          have dw1 : wa1.cell? ⟨g, 2, none⟩ = some (.slice (some ⟨gA, 0, none⟩) n cA) := (frwa1.blk hbk.out (fun q => q)).cell 2
          have ew1 := frwa1.cell e2.out (fun q => q)

          have hA : (wa1.alloc (.cells #[.slice au lu cu] 71)).ownsRow D 71 1 u12 F.length V := ownsRow_fr oAwa1 ((Fr.refl noB wa1).alloc _) (fun _ _ q => q)
          have hN := cell_new wa1 (.slice au lu cu) 71
          have hDW : D ≤ wa1.heap.size := by rw [← hD.out]; exact frwa1.size
          have hone := one_slice au lu cu
          go_wp2_with (first
            | (at_builtin; go_must (refine wpList_append_at _ rfl (.tmp 92) (.tmp 100) 124 rfl D 71 j0 _ 1 24 Tryz.underlying124 hj0 hy0 hy1 hy2 rfl (by omega) _ F.length _ rfl hA ⟨wa1.heap.size, 0, none⟩ 1 1 [.slice au lu cu] rfl rfl hN hone ?_ ?_ ?_ ?_))
            | fail)
          · unfold maxLen; omega
          · omega
          · have := ((Fr.refl noB wa1).alloc (.cells #[.slice au lu cu] 71)).size; omega
          intro avwa2 wa2 oAwa2 grwa2 _
          obtain ⟨oTwa2, rdwa2, frwa2⟩ := growA2 hD frwa1 ((Fr.refl noB wa1).alloc _) hA oTwa1 rdwa1 grwa2
          clear hA hN grwa2 hDW hone
          clear dw1 ew1 oTwa1 oAwa1 rdwa1

          have hK1 : Hid (Pt wa2 B P t x (k + 1) false (F ++ [(y, z)]) (V ++ [.slice au lu cu])) := Lib.hid ((Pt.mk hK.out.any hK.out.eq rdwa2).no hm (by have := hxy.out; simp only; omega) (hru.out _ frwa2))
          obtain ⟨pT, pA⟩ := snoc_row (m := (y, z)) oTwa2 oAwa2
          clear oTwa2 oAwa2 rdwa2 c1 c2 e3 hm

          go_wp2_with fail
          go_roundw
          case rel => exact ⟨k + 1, F ++ [(y, z)], V ++ [.slice au lu cu], false, by omega, by go_num, rfl, pT, pA, hK1, hs1, frwa2⟩
          case measure => simp [RowKit.intOf]; omega
    · obtain rfl : k = n := by omega
      cases d with
      | true =>
        have hF : F = addT P t x := (show Pt wr B P t x P.length true F V by rw [hnn.out]; exact hK.out).done_yes
        replace hF := Lib.hid hF
        clear c1 c2

        obtain ⟨aT', cT', rfl⟩ := ownsRow_slice oT
        obtain ⟨aA', cA', rfl⟩ := ownsRow_slice oA
        have hfrz := f0.out.seqN fr
        have z0 := (fr.blk hbk.out (fun q => q)).frozen 1
        have z1 := ((fr.blk hbk.out (fun q => q)).set 1 (.slice aT' F.length cT')).frozen 2
        have c1 : wr.cell? ⟨g, 1, none⟩ = some (.slice aT k cT) := (fr.blk hbk.out (fun q => q)).cell 1
        have c2 : (wr.setCell ⟨g, 1, none⟩ (.slice aT' F.length cT')).cell? ⟨g, 2, none⟩ = some (.slice aA k cA) := ((fr.blk hbk.out (fun q => q)).set 1 (.slice aT' F.length cT')).cell 2
        have g1 : Fr (onlyB g) wr (wr.setCell ⟨g, 1, none⟩ (.slice aT' F.length cT')) := (Fr.refl _ wr).store rfl
        have g2 : Fr (onlyB g) (wr.setCell ⟨g, 1, none⟩ (.slice aT' F.length cT')) ((wr.setCell ⟨g, 1, none⟩ (.slice aT' F.length cT')).setCell ⟨g, 2, none⟩ (.slice aA' F.length cA')) := (Fr.refl _ _).store rfl
        have g3 := g1.seqB g2 (fun _ => rfl)
        have hgw : g < w0.heap.size := by have := h.out.gB; have := h.out.Bw; omega
        have bS3 := g3.blk (fr.blk bS0.out (fun q => q)) (fun q => by unfold onlyB at q; have := hsb.out; omega)
        have bR3 := g3.blk (fr.blk bR0.out (fun q => q)) (fun q => by unfold onlyB at q; omega)
        generalize hw5 : ((wr.setCell ⟨g, 1, none⟩ (.slice aT' F.length cT')).setCell ⟨g, 2, none⟩ (.slice aA' F.length cA')) = w5 at *
        replace hw5 := Lib.hid hw5
        have s0 : w5.cell? ⟨sb, 0, none⟩ = some (.int .i64 t) := bS3.cell 0
        have s1 : w5.cell? ⟨sb, 1, none⟩ = some (.int .i64 1) := bS3.cell 1
        have s2 : w5.cell? ⟨sb, 2, none⟩ = some (.string x) := bS3.cell 2
        have tR := Lib.hid (thereN (i := 0) (n := 3) bR3 (by simp))
        replace bR3 := Lib.hid bR3
        replace g3 := Lib.hid g3
        clear g1 g2 bS3
        go_upto_region 26 with fail
        rw [hw5.out]
        go_wp2_with (first
          | (refine wpList_store_mid rfl 38 (.tmp 6) (.tmp 121) rfl w0.heap.size 0 #[.int .i64 t, .int .i64 1, .string x] rfl rfl tR.out size_span (one_span _ _ _) ?_; obtain ⟨w9, hw9, f9, h9⟩ := store3 w5 w0.heap.size 0 (.int .i64 t) (.int .i64 1) (.string x); rw [← hw9]; clear hw9; have h9 := h9 _ _ bR3.out; have r0 : w9.cell? ⟨w0.heap.size, 0, none⟩ = some (.int .i64 t) := h9.cell 0; have r1 : w9.cell? ⟨w0.heap.size, 1, none⟩ = some (.int .i64 1) := h9.cell 1; have r2 : w9.cell? ⟨w0.heap.size, 2, none⟩ = some (.string x) := h9.cell 2; clear h9; replace f9 := Lib.hid f9)
          | fail)
        try simp only [Exit.inBlock, Exit.then]
        refine bodyPost_ret (by simp [results, Tryz.results47, go_sem, r0, r1, r2]; try rfl) rfl ?_
        have hVF := hsub.out
        have hFe := hF.out
        rw [← hFe]
        refine ⟨rfl, rq_fin (P := P) (P' := F) (V := V) (wr := wr) (rb := w0.heap.size) h.out hS.out (Nat.le_refl _) (show w0.heap.size ≤ D by omega) hfrz oT oA hK.out.rd (fun z hz => (hVF z hz).imp id (fun q b hb => by have := q b hb; omega)) (by omega) ?_ (by rw [hFe]; exact hris'.out) (by rw [hFe]; exact hne'.out) (by rw [hFe]; exact hle'.out) (by rw [hw5.out]; exact f9.out)⟩
        intro q hq e
        rcases hq with e1 | e1 | ⟨v, hv, e1⟩
        · have := (oT.lt q e1).1; omega
        · have := (oA.lt q e1).1; omega
        · rcases hVF v hv with q1 | q1
          · have := h.out.low (Or.inr (Or.inr (Or.inr ⟨v, q1, e1⟩))); omega
          · have := q1 q e1; omega
      | false =>
        have hF : F ++ [(t, [x])] = addT P t x := (show Pt wr B P t x P.length false F V by rw [hnn.out]; exact hK.out).done_no hno.out
        replace hF := Lib.hid hF
        clear c2

        have hA : (wr.alloc (.cells #[.int .i64 t] 3)).ownsRow D 3 1 u11 F.length (rowV (F.map (·.1))) := ownsRow_fr oT ((Fr.refl noB wr).alloc _) (fun _ _ q => q)
        have hN := cell_new wr (.int .i64 t) 3
        have hDW : D ≤ wr.heap.size := by rw [← hD.out]; exact fr.size
        go_wp2_with (first
          | (at_builtin; go_must (refine wpList_append_at _ rfl (.tmp 104) (.tmp 106) 57 rfl D 3 i0 _ 1 8 Tryz.underlying57 hi0 hz0 hz1 hz2 rfl (by omega) _ F.length _ rfl hA ⟨wr.heap.size, 0, none⟩ 1 1 [.int .i64 t] rfl rfl hN (one_int _ _) ?_ ?_ ?_ ?_))
          | fail)
        · unfold maxLen; omega
        · omega
        · have := ((Fr.refl noB wr).alloc (.cells #[.int .i64 t] 3)).size; omega
        intro tvwa1 wa1 oTwa1 grwa1 _
        obtain ⟨oAwa1, rdwa1, frwa1⟩ := growT2 hD fr hA oA hK.out.rd grwa1
        clear hA hN grwa1 hDW

        clear c1

        have s0 : wa1.cell? ⟨sb, 0, none⟩ = some (.int .i64 t) := (frwa1.blk bS0.out (fun q => q)).cell 0
        have s1 : wa1.cell? ⟨sb, 1, none⟩ = some (.int .i64 1) := (frwa1.blk bS0.out (fun q => q)).cell 1
        have s2 : wa1.cell? ⟨sb, 2, none⟩ = some (.string x) := (frwa1.blk bS0.out (fun q => q)).cell 2
        have hDW : D ≤ wa1.heap.size := by rw [← hD.out]; exact frwa1.size
        have hl0 : SpRow (wa1.alloc (.cells #[.int .i64 t, .int .i64 1, .string x] 38)) B (.slice (some ⟨wa1.heap.size, 0, none⟩) 1 1) (t, [x]) := SpRow.one t x (by omega)
        have fL := ((Fr.refl noB wa1).alloc (.cells #[.int .i64 t, .int .i64 1, .string x] 38)).alloc (.cells #[.slice (some ⟨wa1.heap.size, 0, none⟩) 1 1] 71)
        have hl1 : SpRow ((wa1.alloc (.cells #[.int .i64 t, .int .i64 1, .string x] 38)).alloc (.cells #[.slice (some ⟨wa1.heap.size, 0, none⟩) 1 1] 71)) B (.slice (some ⟨wa1.heap.size, 0, none⟩) 1 1) (t, [x]) := hl0.fr ((Fr.refl noB (wa1.alloc (.cells #[.int .i64 t, .int .i64 1, .string x] 38))).alloc _) (fun _ _ q => q)
        have hA : ((wa1.alloc (.cells #[.int .i64 t, .int .i64 1, .string x] 38)).alloc (.cells #[.slice (some ⟨wa1.heap.size, 0, none⟩) 1 1] 71)).ownsRow D 71 1 u12 F.length V := ownsRow_fr oAwa1 fL (fun _ _ q => q)
        have hN := cell_new (wa1.alloc (.cells #[.int .i64 t, .int .i64 1, .string x] 38)) (.slice (some ⟨wa1.heap.size, 0, none⟩) 1 1) 71
        have hzW : (wa1.alloc (.cells #[.int .i64 t, .int .i64 1, .string x] 38)).heap.size = wa1.heap.size + 1 := by simp
        rw [hzW] at hN
        have hone := one_slice (some ⟨wa1.heap.size, 0, none⟩) 1 1
        replace hl1 := Lib.hid hl1
        replace fL := Lib.hid fL
        clear hl0 hzW
        go_wp2_with (first
          | (at_builtin; go_must (refine wpList_append_at _ rfl (.tmp 108) (.tmp 111) 124 rfl D 71 j0 _ 1 24 Tryz.underlying124 hj0 hy0 hy1 hy2 rfl (by omega) _ F.length _ rfl hA ⟨wa1.heap.size + 1, 0, none⟩ 1 1 [.slice (some ⟨wa1.heap.size, 0, none⟩) 1 1] rfl rfl hN hone ?_ ?_ ?_ ?_))
          | fail)
        · unfold maxLen; omega
        · omega
        · have := fL.out.size; omega
        intro avwa2 wa2 oAwa2 grwa2 _
        obtain ⟨oTwa2, rdwa2, frwa2⟩ := growA2 hD frwa1 fL.out hA oTwa1 rdwa1 grwa2
        have hlwa2 : SpRow wa2 B (.slice (some ⟨wa1.heap.size, 0, none⟩) 1 1) (t, [x]) := hl1.out.other hA (by decide) grwa2
        clear hA hN grwa2 hone hl1 fL s0 s1 s2

        obtain ⟨pT, pA⟩ := snoc_row (m := (t, [x])) oTwa2 oAwa2
        have rd2 := Lib.hid (rdwa2.snoc hlwa2)
        have hs1 : Hid (VFrom D VA (V ++ [.slice (some ⟨wa1.heap.size, 0, none⟩) 1 1])) := Lib.hid (hsub.out.new hDW)
        clear oTwa2 oAwa2 rdwa2 oTwa1 oAwa1 rdwa1 hDW hlwa2
        generalize hG : F ++ [(t, [x])] = G at *
        generalize hO : V ++ [Value.slice (some ⟨wa1.heap.size, 0, none⟩) 1 1] = O at *
        replace hG := Lib.hid hG
        replace hO := Lib.hid hO

        obtain ⟨aT', cT', rfl⟩ := ownsRow_slice pT
        obtain ⟨aA', cA', rfl⟩ := ownsRow_slice pA
        have hfrz := f0.out.seqN frwa2
        have z0 := (frwa2.blk hbk.out (fun q => q)).frozen 1
        have z1 := ((frwa2.blk hbk.out (fun q => q)).set 1 (.slice aT' G.length cT')).frozen 2
        have c1 : wa2.cell? ⟨g, 1, none⟩ = some (.slice aT k cT) := (frwa2.blk hbk.out (fun q => q)).cell 1
        have c2 : (wa2.setCell ⟨g, 1, none⟩ (.slice aT' G.length cT')).cell? ⟨g, 2, none⟩ = some (.slice aA k cA) := ((frwa2.blk hbk.out (fun q => q)).set 1 (.slice aT' G.length cT')).cell 2
        have g1 : Fr (onlyB g) wa2 (wa2.setCell ⟨g, 1, none⟩ (.slice aT' G.length cT')) := (Fr.refl _ wa2).store rfl
        have g2 : Fr (onlyB g) (wa2.setCell ⟨g, 1, none⟩ (.slice aT' G.length cT')) ((wa2.setCell ⟨g, 1, none⟩ (.slice aT' G.length cT')).setCell ⟨g, 2, none⟩ (.slice aA' G.length cA')) := (Fr.refl _ _).store rfl
        have g3 := g1.seqB g2 (fun _ => rfl)
        have hgw : g < w0.heap.size := by have := h.out.gB; have := h.out.Bw; omega
        have bS3 := g3.blk (frwa2.blk bS0.out (fun q => q)) (fun q => by unfold onlyB at q; have := hsb.out; omega)
        have bR3 := g3.blk (frwa2.blk bR0.out (fun q => q)) (fun q => by unfold onlyB at q; omega)
        generalize hw5 : ((wa2.setCell ⟨g, 1, none⟩ (.slice aT' G.length cT')).setCell ⟨g, 2, none⟩ (.slice aA' G.length cA')) = w5 at *
        replace hw5 := Lib.hid hw5
        have s0 : w5.cell? ⟨sb, 0, none⟩ = some (.int .i64 t) := bS3.cell 0
        have s1 : w5.cell? ⟨sb, 1, none⟩ = some (.int .i64 1) := bS3.cell 1
        have s2 : w5.cell? ⟨sb, 2, none⟩ = some (.string x) := bS3.cell 2
        have tR := Lib.hid (thereN (i := 0) (n := 3) bR3 (by simp))
        replace bR3 := Lib.hid bR3
        replace g3 := Lib.hid g3
        clear g1 g2 bS3
        go_upto_region 26 with fail
        rw [hw5.out]
        go_wp2_with (first
          | (refine wpList_store_mid rfl 38 (.tmp 6) (.tmp 121) rfl w0.heap.size 0 #[.int .i64 t, .int .i64 1, .string x] rfl rfl tR.out size_span (one_span _ _ _) ?_; obtain ⟨w9, hw9, f9, h9⟩ := store3 w5 w0.heap.size 0 (.int .i64 t) (.int .i64 1) (.string x); rw [← hw9]; clear hw9; have h9 := h9 _ _ bR3.out; have r0 : w9.cell? ⟨w0.heap.size, 0, none⟩ = some (.int .i64 t) := h9.cell 0; have r1 : w9.cell? ⟨w0.heap.size, 1, none⟩ = some (.int .i64 1) := h9.cell 1; have r2 : w9.cell? ⟨w0.heap.size, 2, none⟩ = some (.string x) := h9.cell 2; clear h9; replace f9 := Lib.hid f9)
          | fail)
        try simp only [Exit.inBlock, Exit.then]
        refine bodyPost_ret (by simp [results, Tryz.results47, go_sem, r0, r1, r2]; try rfl) rfl ?_
        have hVF := hs1.out
        have hFe := hF.out
        rw [← hFe]
        refine ⟨rfl, rq_fin (P := P) (P' := G) (V := O) (wr := wa2) (rb := w0.heap.size) h.out hS.out (Nat.le_refl _) (show w0.heap.size ≤ D by omega) hfrz pT pA rd2.out (fun z hz => (hVF z hz).imp id (fun q b hb => by have := q b hb; omega)) (by omega) ?_ (by rw [hFe]; exact hris'.out) (by rw [hFe]; exact hne'.out) (by rw [hFe]; exact hle'.out) (by rw [hw5.out]; exact f9.out)⟩
        intro q hq e
        rcases hq with e1 | e1 | ⟨v, hv, e1⟩
        · have := (pT.lt q e1).1; omega
        · have := (pA.lt q e1).1; omega
        · rcases hVF v hv with q1 | q1
          · have := h.out.low (Or.inr (Or.inr (Or.inr ⟨v, q1, e1⟩))); omega
          · have := q1 q e1; omega
end Go.Proofs.YtppmednmcbjafaaGreat.KR
end

section
set_option linter.unusedVariables false
set_option linter.unusedSimpArgs false
namespace Go.Proofs.YtppmednmcbjafaaGreat.KR
open Go.RowKit Go Go.Maps Go.Lib

/-- What is read of a row by 'xs[:i]' and 'xs[i+1:]', wherever nothing old has turned. -/
theorem row_parts {w : World} {B e : Nat} {g c n : Nat} {cs : List Value} (h : w.ownsRow B e 1 (.slice (some ⟨g, 0, none⟩) n c) n cs) (i : Nat) (hi : i < n) :
    ∃ A : Addr, (if c = i + 1 then some (⟨g, 0, none⟩ : Addr) else some ⟨g, i + 1, none⟩) = some A ∧
    (∀ w', Fr noB w w' → ∀ j u, (cs.take i)[j]? = some u → w'.cell? ((⟨g, 0, none⟩ : Addr).add j) = some u) ∧
    (∀ w', Fr noB w w' → ∀ j u, (cs.drop (i + 1))[j]? = some u → w'.cell? (A.add j) = some u) := by
  have hc : ∀ w', Fr noB w w' → ∀ j u, cs[j]? = some u → w'.cell? ⟨g, j, none⟩ = some u := fun w' f j u hu => by
    have := h.cells rfl j u hu
    rw [Addr.add_lit, Nat.zero_add] at this
    exact f.cell this (fun q => q)
  have hl : cs.length = n := by have := h.1; omega
  by_cases hq : c = i + 1
  · refine ⟨⟨g, 0, none⟩, by simp [hq], fun w' f j u hu => ?_, fun w' f j u hu => ?_⟩
    · rw [Addr.add_lit, Nat.zero_add]
      exact hc w' f j u (by
        have := (List.getElem?_eq_some_iff.1 hu).1
        simp at this
        rwa [List.getElem?_take_of_lt (by omega)] at hu)
    · have h2 := (List.getElem?_eq_some_iff.1 hu).1
      have h3 : n ≤ c := by
        rcases h.2 with ⟨e1, _⟩ | ⟨_, _, _, e1, _, _, e4, _⟩
        · cases e1
        · cases e1; exact e4
      simp at h2
      omega
  · refine ⟨⟨g, i + 1, none⟩, by simp [hq], fun w' f j u hu => ?_, fun w' f j u hu => ?_⟩
    · rw [Addr.add_lit, Nat.zero_add]
      exact hc w' f j u (by
        have := (List.getElem?_eq_some_iff.1 hu).1
        simp at this
        rwa [List.getElem?_take_of_lt (by omega)] at hu)
    · rw [Addr.add_lit]
      rw [List.getElem?_drop] at hu
      exact hc w' f _ u hu
theorem row_cap {w : World} {B e k : Nat} {g c n : Nat} {cs : List Value} (h : w.ownsRow B e k (.slice (some ⟨g, 0, none⟩) n c) n cs) : n ≤ c ∧ c ≤ 9223372036854775807 := by
  rcases h.2 with ⟨e1, _⟩ | ⟨_, _, _, e1, _, _, e4, e5, _⟩
  · cases e1
  · cases e1; unfold maxLen at e5; exact ⟨e4, by omega⟩

theorem rpdrop_no (g B N : Nat) (P : TP) (vt vs : Value) (V : List Value) (t : Int) (w : World) (h : Rq w g B N P vt vs V) (hno : ∀ p ∈ P, p.1 ≠ t) :
    Calls Tryz.prog 49 #[.pointer (some ⟨g, 0, none⟩), .int .i64 t] w fun e w' => e = .returned (.int .i64 0) ∧ w' = w := by
  have hf := rfind_any g B N P vt vs V t (-1) w h (Or.inr ⟨hno, rfl⟩)
  clear h hno
  go_enter Tryz.func49, Tryz.ntmps49
  go_wp2_with fail
  refine hf.mono ?_
  rintro e w1 ⟨rfl, hw1⟩
  obtain rfl := hw1.symm
  clear hf hw1
  go_wp2_with fail
  go_ret
  exact ⟨rfl, rfl⟩

theorem VFrom.parts {D i j : Nat} {VA : List Value} : VFrom D VA (VA.take i ++ VA.drop j) := fun z hz => by
  rcases List.mem_append.1 hz with q | q
  · exact Or.inl (List.mem_of_mem_take q)
  · exact Or.inl (List.mem_of_mem_drop q)
set_option maxRecDepth 10000 in
set_option maxHeartbeats 4000000 in
theorem rpdrop_at (g B N : Nat) (P : TP) (vt vs : Value) (V : List Value) (S : Nat → Prop) (i : Nat) (p : Int × List ByteArray) (w : World) (h : Rq w g B N P vt vs V) (hS : ∀ q, rqS g vt vs V q → S q) (hip : P[i]? = some p) :
    Calls Tryz.prog 49 #[.pointer (some ⟨g, 0, none⟩), .int .i64 p.1] w fun e w' => (∃ m : Int, e = .returned (.int .i64 m)) ∧ Rp w' g B N (without P p.1) (nx S w w') ∧ Fr S w w' := by
  obtain ⟨i0, hi0, hz0, hz1, hz2⟩ : ∃ i0, Tryz.prog.info? 3 = some i0 ∧ i0.zero = some (.int .i64 0) ∧ i0.size = 1 ∧ i0.bytes = 8 := by
    have hI := infoIntR
    cases hq : Tryz.prog.info? 3 with
    | none => rw [hq] at hI; cases hI
    | some k => rw [hq] at hI; simp at hI; exact ⟨k, rfl, hI⟩
  obtain ⟨j0, hj0, hy0, hy1, hy2⟩ : ∃ i0, Tryz.prog.info? 71 = some i0 ∧ i0.zero = some (.slice none 0 0) ∧ i0.size = 1 ∧ i0.bytes = 24 := by
    have hI := infoSlSp
    cases hq : Tryz.prog.info? 71 with
    | none => rw [hq] at hI; cases hI
    | some k => rw [hq] at hI; simp at hI; exact ⟨k, rfl, hI⟩
  have hf := rfind_any g B N P vt vs V p.1 i w h (Or.inl ⟨i, p, hip, rfl, rfl⟩)
  have hil := (List.getElem?_eq_some_iff.1 hip).1
  obtain ⟨v, hv⟩ : ∃ v, V[i]? = some v := ⟨_, List.getElem?_eq_getElem (by rw [h.rd.1]; exact hil)⟩
  obtain ⟨va, vc, rfl⟩ := (h.rd.2 i p v hip hv).form
  have hbu := buffers_any p.2.length w (by have := h.xl (List.mem_of_getElem? hip); omega)
  have hVl : V.length = P.length := h.rd.1
  have hVsl : ∀ z ∈ V, z.oneCell' = true := fun z hz => by
    obtain ⟨j, hj, rfl⟩ := List.getElem_of_mem hz
    obtain ⟨a, c, e⟩ := (h.rd.2 j _ _ (List.getElem?_eq_getElem (show j < P.length by omega)) (List.getElem?_eq_getElem hj)).form
    rw [e]; rfl
  obtain ⟨aT, cT, rfl⟩ := ownsRow_slice h.rt
  obtain ⟨aS, cS, rfl⟩ := ownsRow_slice h.rs
  have hpl := h.pl
  obtain ⟨gT, rfl, _⟩ := own_at h.rt (i := i) (x := .int .i64 p.1) (by simp [rowV, hip])
  obtain ⟨gS, rfl, e1⟩ := own_at h.rs hv
  have hcapT := row_cap h.rt
  have hcapS := row_cap h.rs
  obtain ⟨A, hA, hr1, hr2⟩ := row_parts h.rt i hil
  have hew := erase_without h.ris hip
  have hbl := h.blk
  have hrt := h.rt
  have hrs := h.rs
  have hle' : Hid (used (without P p.1) ≤ N) := Lib.hid (by have := used_drop P p.1 h.ris; have := h.le; omega)
  have hris' := Lib.hid (ris_drop h.ris p.1)
  have hne' : Hid (∀ q ∈ without P p.1, q.2 ≠ []) := Lib.hid (fun q hq => h.ne q (mem_without.1 hq).1)
  have hgB := h.gB
  have hBw := h.Bw
  have hrd := Lib.hid (h.rd.erase hil)
  obtain ⟨X, hX⟩ : ∃ X, X = P.map (·.1) := ⟨_, rfl⟩
  rw [← hX] at hr1 hr2 hrt
  have hXl : X.length = P.length := by rw [hX]; simp
  have hXe : Hid (X.take i ++ X.drop (i + 1) = (without P p.1).map (·.1)) := Lib.hid (by rw [hX, ← hew, List.map_append, List.map_take, List.map_drop])
  have hnl : ((rowV X).take i).length = i * 1 ∧ ((rowV X).drop (i + 1)).length = (P.length - (i + 1)) * 1 := by unfold rowV; simp; omega
  have hone : (∀ u ∈ (rowV X).take i, u.oneCell' = true) ∧ (∀ u ∈ (rowV X).drop (i + 1), u.oneCell' = true) := by
    constructor <;> intro u hu
    · have := List.mem_of_mem_take hu; unfold rowV at this; simp at this; obtain ⟨_, _, rfl⟩ := this; rfl
    · have := List.mem_of_mem_drop hu; unfold rowV at this; simp at this; obtain ⟨_, _, rfl⟩ := this; rfl
  have hwl : Hid ((without P p.1).length = i + (P.length - (i + 1))) := Lib.hid (by rw [← hew]; simp; omega)
  obtain ⟨t, ht⟩ : ∃ t, t = p.1 := ⟨_, rfl⟩
  rw [← ht] at hf hle' hris' hne' hXe hwl ⊢
  obtain ⟨L, hL⟩ : ∃ L, L = p.2.length := ⟨_, rfl⟩
  rw [← hL] at hbu hv e1
  have hXe' : Hid ((rowV X).take i ++ (rowV X).drop (i + 1) = rowV ((without P t).map (·.1))) := Lib.hid (by rw [← hXe.out]; unfold rowV; rw [List.map_append, List.map_take, List.map_drop])
  have hVg : Hid (∀ z ∈ V, ∀ q, z.ownBlock = some q → q ≠ g) := Lib.hid (fun z hz q hq e => by
    subst e
    obtain ⟨j, hj, rfl⟩ := List.getElem_of_mem hz
    obtain ⟨cs, hc⟩ := row_typeR (h.rd.2 j _ _ (List.getElem?_eq_getElem (show j < P.length by have := h.rd.1; omega)) (List.getElem?_eq_getElem hj)) hq
    have hb0 := h.blk
    unfold Blk at hb0
    rw [hc] at hb0
    simp at hb0)
  have hew' : Hid (P.take i ++ P.drop (i + 1) = without P t) := Lib.hid (by rw [ht]; exact hew)
  obtain ⟨n, hn⟩ : ∃ n, n = P.length := ⟨_, rfl⟩
  rw [← hn] at hil hVl hpl hcapT hcapS hnl hwl hXl hrt hrs
  have c1 : w.cell? ⟨g, 1, none⟩ = some (.slice (some ⟨gT, 0, none⟩) n cT) := by rw [hn]; exact hbl.cell 1
  have c2 : w.cell? ⟨g, 2, none⟩ = some (.slice (some ⟨gS, 0, none⟩) n cS) := by rw [hn]; exact hbl.cell 2
  have bl := Lib.hid hbl
  replace hL := Lib.hid hL
  replace ht := Lib.hid ht
  replace hn := Lib.hid hn
  replace hX := Lib.hid hX
  replace hXl := Lib.hid hXl
  replace hr1 := Lib.hid hr1
  replace hr2 := Lib.hid hr2
  replace hnl := Lib.hid hnl
  replace hone := Lib.hid hone
  replace hVl := Lib.hid hVl
  replace hVsl := Lib.hid hVsl
  replace hrt := Lib.hid hrt
  replace hrs := Lib.hid hrs
  replace h := Lib.hid h
  replace hS := Lib.hid hS
  clear hew hv hip hbl
  have hO : (w.drew.alloc (.cells #[] 3)).ownsRow w.heap.size 3 1 (.slice (some ⟨w.heap.size, 0, none⟩) 0 0) 0 [] := own_new w.drew 3 [] 1 0 rfl (Nat.zero_le _)
  have fO : Fr noB w (w.drew.alloc (.cells #[] 3)) := (Fr.refl noB w).drew.alloc _
  have c1A : (w.alloc (.cells #[] 3)).cell? ⟨g, 1, none⟩ = some (.slice (some ⟨gT, 0, none⟩) n cT) := fO.cell c1 (fun q => q)
  have hwr : IntKind.i64.wrap ((i : Int) + 1) = (i : Int) + 1 := by rw [IntKind.wrap_i64]; omega
  have hic : i ≤ cT := by omega
  have hic1 : i + 1 ≤ cT := by omega
  have hin1 : (0 : Int) ≤ (i : Int) + 1 := by omega
  have hin2 : (i : Int) + 1 ≤ (n : Int) := by omega
  have hin0 : (0 : Int) ≤ (i : Int) := by omega
  have hin3 : (i : Int) < (n : Int) := by omega
  have hd : decide ((i : Int) < 0) = false := by simp
  have mixed : Tryz.prog.follows Departure.mixedOrders = true := by kernel_rfl
  go_enter Tryz.func49, Tryz.ntmps49
  go_wp2_with fail
  refine hf.mono ?_
  rintro e w1 ⟨rfl, hw1⟩
  obtain rfl := hw1.symm
  clear hf hw1
  go_wp2_with fail
  refine hbu.mono ?_
  rintro e w1 ⟨rfl, hw1⟩
  obtain rfl := hw1.symm
  clear hbu hw1 c2 e1
  go_wp2_with fail
  go_cut [] (fun wx => ∃ a2 k2, Blk wx g 126 [.int .i64 N, .slice a2 (i + (n - (i + 1))) k2, .slice (some ⟨gS, 0, none⟩) n cS] ∧ wx.ownsRow w.heap.size 3 1 (.slice a2 (i + (n - (i + 1))) k2) (i + (n - (i + 1))) ((rowV X).take i ++ (rowV X).drop (i + 1)) ∧ Fr (onlyB g) w wx)
  case first =>
    go_region_law_o (first
      | (refine step_append_at rfl (.tmp 22) (.tmp 28) 57 rfl w.heap.size 3 i0 _ 1 8 Tryz.underlying57 hi0 hz0 hz1 hz2 rfl (by omega) (.slice (some ⟨w.heap.size, 0, none⟩) 0 0) 0 [] (by simp [Act.eval, Act.put]) hO ⟨gT, 0, none⟩ i cT _ (by simp [Act.eval, Act.put]) hnl.out.1 (hr1.out _ fO) hone.out.1 (by unfold maxLen; omega) (by omega) fO.size ?_; intro v1 w1 o1 gr1 _mv1; have f1 := fO.grown gr1 (fun q hq hlt => by simp [Value.ownBlock] at hq; omega); have c01 : w1.cell? ⟨g, 1, none⟩ = some (.slice (some ⟨gT, 0, none⟩) n cT) := f1.cell c1 (fun q => q))
      | (refine step_append_at rfl (.tmp 29) (.tmp 36) 57 rfl w.heap.size 3 i0 _ 1 8 Tryz.underlying57 hi0 hz0 hz1 hz2 rfl (by omega) v1 _ _ (by simp [Act.eval, Act.put]) o1 A (n - (i + 1)) (cT - (i + 1)) _ (by simp [Act.eval, Act.put, hA]) hnl.out.2 (hr2.out _ f1) hone.out.2 (by unfold maxLen; omega) (by omega) f1.size ?_; intro v2 w2 o2 gr2 _mv2; obtain ⟨a2, k2, rfl⟩ := ownsRow_slice o2; have f2 := f1.grown gr2 (fun q hq hlt => by have := (o1.lt q hq).1; omega); have b2 := f2.blk bl.out (fun q => q); rw [← hn.out] at b2; have fz2 := b2.frozen 1; have c02 : w2.cell? ⟨g, 1, none⟩ = some (.slice (some ⟨gT, 0, none⟩) n cT) := b2.cell 1)
      | fail)
    all_goals (
      rw [Nat.zero_add, List.nil_append] at o2
      have b3 := b2.set 1 (.slice a2 (i + (n - (i + 1))) k2)
      have o3 := ownsRow_fr o2 ((Fr.refl (onlyB g) w2).store (g := g) (i := 1) (v := .slice a2 (i + (n - (i + 1))) k2) (onlyB_self g)) (fun q hq => by have := (o2.lt q hq).1; unfold onlyB; omega)
      have f3 : Fr (onlyB g) w _ := (f2.mono (fun _ _ z => False.elim z)).store (g := g) (i := 1) (v := .slice a2 (i + (n - (i + 1))) k2) (onlyB_self g)
      go_wp2_with fail
      go_meet
      exact ⟨_, _, b3, o3, f3⟩)
  case rest =>
    obtain ⟨a2, k2, b3, o3, f3⟩ := hcut
    obtain ⟨W, hW⟩ : ∃ x, x = wc := ⟨_, rfl⟩
    rw [← hW] at b3 o3 f3 ⊢
    clear hW
    clear c1 c1A hO fO hr1 hr2 hnl hone hA hd
    have c5 : W.cell? ⟨g, 2, none⟩ = some (.slice (some ⟨gS, 0, none⟩) n cS) := b3.cell 2
    have hgS : B ≤ gS := (hrs.out.lt gS rfl).1
    have oS := ownsRow_fr hrs.out f3 (fun q hq => by cases hq; show ¬ gS = g; omega)
    obtain ⟨A5, hA5, hr1, hr2⟩ := row_parts oS i hil
    have hnl : (V.take i).length = i * 1 ∧ (V.drop (i + 1)).length = (n - (i + 1)) * 1 := by have := hVl.out; rw [List.length_take, List.length_drop, this]; omega
    have hone : (∀ u ∈ V.take i, u.oneCell' = true) ∧ (∀ u ∈ V.drop (i + 1), u.oneCell' = true) := ⟨fun u hu => hVsl.out u (List.mem_of_mem_take hu), fun u hu => hVsl.out u (List.mem_of_mem_drop hu)⟩
    have hO : (W.drew.alloc (.cells #[] 71)).ownsRow W.heap.size 71 1 (.slice (some ⟨W.heap.size, 0, none⟩) 0 0) 0 [] := own_new W.drew 71 [] 1 0 rfl (Nat.zero_le _)
    have fO : Fr noB W (W.drew.alloc (.cells #[] 71)) := (Fr.refl noB W).drew.alloc _
    have c5A : (W.alloc (.cells #[] 71)).cell? ⟨g, 2, none⟩ = some (.slice (some ⟨gS, 0, none⟩) n cS) := fO.cell c5 (fun q => q)
    have hicS : i ≤ cS := by omega
    have hic1S : i + 1 ≤ cS := by omega
    have hWW : w.heap.size ≤ W.heap.size := f3.size
    replace hr1 := Lib.hid hr1
    replace hr2 := Lib.hid hr2
    replace hnl := Lib.hid hnl
    replace hone := Lib.hid hone
    replace b3 := Lib.hid b3
    replace o3 := Lib.hid o3
    replace oS := Lib.hid oS
    replace f3 := Lib.hid f3
    go_wp2_with fail
    go_cut [] (fun wx => ∃ a6 k6, Blk wx g 126 [.int .i64 N, .slice a2 (i + (n - (i + 1))) k2, .slice a6 (i + (n - (i + 1))) k6] ∧ wx.ownsRow W.heap.size 71 1 (.slice a6 (i + (n - (i + 1))) k6) (i + (n - (i + 1))) (V.take i ++ V.drop (i + 1)) ∧ Fr (onlyB g) W wx)
    case first =>
      go_region_law_o (first
        | (refine step_append_at rfl (.tmp 41) (.tmp 47) 124 rfl W.heap.size 71 j0 _ 1 24 Tryz.underlying124 hj0 hy0 hy1 hy2 rfl (by omega) (.slice (some ⟨W.heap.size, 0, none⟩) 0 0) 0 [] (by simp [Act.eval, Act.put]) hO ⟨gS, 0, none⟩ i cS _ (by simp [Act.eval, Act.put]) hnl.out.1 (hr1.out _ fO) hone.out.1 (by unfold maxLen; omega) (by omega) fO.size ?_; intro v1 w1 o1 gr1 _mv1; have f1 := fO.grown gr1 (fun q hq hlt => by simp [Value.ownBlock] at hq; omega); have c01 : w1.cell? ⟨g, 2, none⟩ = some (.slice (some ⟨gS, 0, none⟩) n cS) := f1.cell c5 (fun q => q))
        | (refine step_append_at rfl (.tmp 48) (.tmp 55) 124 rfl W.heap.size 71 j0 _ 1 24 Tryz.underlying124 hj0 hy0 hy1 hy2 rfl (by omega) v1 _ _ (by simp [Act.eval, Act.put]) o1 A5 (n - (i + 1)) (cS - (i + 1)) _ (by simp [Act.eval, Act.put, hA5]) hnl.out.2 (hr2.out _ f1) hone.out.2 (by unfold maxLen; omega) (by omega) f1.size ?_; intro v2 w2 o2 gr2 _mv2; obtain ⟨a6, k6, rfl⟩ := ownsRow_slice o2; have f2 := f1.grown gr2 (fun q hq hlt => by have := (o1.lt q hq).1; omega); have b2 := f2.blk b3.out (fun q => q); have fz2 := b2.frozen 2; have c02 : w2.cell? ⟨g, 2, none⟩ = some (.slice (some ⟨gS, 0, none⟩) n cS) := b2.cell 2)
        | fail)
      all_goals (
        rw [Nat.zero_add, List.nil_append] at o2
        have b6 := b2.set 2 (.slice a6 (i + (n - (i + 1))) k6)
        have o6 := ownsRow_fr o2 ((Fr.refl (onlyB g) w2).store (g := g) (i := 2) (v := .slice a6 (i + (n - (i + 1))) k6) (onlyB_self g)) (fun q hq => by have := (o2.lt q hq).1; unfold onlyB; omega)
        have f6 : Fr (onlyB g) W _ := (f2.mono (fun _ _ z => False.elim z)).store (g := g) (i := 2) (v := .slice a6 (i + (n - (i + 1))) k6) (onlyB_self g)
        go_wp2_with fail
        go_meet
        exact ⟨_, _, b6, o6, f6⟩)
    case rest =>
      obtain ⟨a6, k6, b6, o6, f6⟩ := hcut
      obtain ⟨Z, hZ⟩ : ∃ x, x = wc := ⟨_, rfl⟩
      rw [← hZ] at b6 o6 f6 ⊢
      clear hZ fO hO c5 c5A hr1 hr2 hnl hone
      have oT7 := ownsRow_fr o3.out f6 (fun q hq => by have := (o3.out.lt q hq).1; unfold onlyB; omega)
      have f9 : Fr (onlyB g) w Z := f3.out.seqB f6 (fun _ => rfl)
      have hbd : ∀ q, (Value.slice a2 (i + (n - (i + 1))) k2).ownBlock = some q → w.heap.size ≤ q := fun q hq => (o3.out.lt q hq).1
      have hbd6 : ∀ q, (Value.slice a6 (i + (n - (i + 1))) k6).ownBlock = some q → w.heap.size ≤ q := fun q hq => by have := (o6.lt q hq).1; omega
      rw [hXe'.out] at oT7
      rw [← hwl.out] at o6 oT7 b6 hbd hbd6
      have FS : Fr S w Z := f9.mono (fun q _ e => hS.out q (Or.inl e))
      have key : Rp Z g B N (without P t) (nx S w Z) := by
        refine ⟨_, _, V.take i ++ V.drop (i + 1), ⟨b6, ownsRow_mono oT7 (by omega), ownsRow_mono o6 (by omega), ?_, hgB, Nat.le_trans hBw f9.size, hris'.out, hne'.out, hle'.out, h.out.n16⟩, fun q hq => ?_⟩
        · rw [← hew'.out]
          exact hrd.out.fr f9 (fun z hz q hq e => by
            have hz2 : z ∈ V := by
              rcases List.mem_append.1 hz with q1 | q1
              · exact List.mem_of_mem_take q1
              · exact List.mem_of_mem_drop q1
            exact hVg.out z hz2 q hq e)
        · rcases hq with e | e | e | ⟨z, hz, e⟩
          · exact Or.inl (hS.out q (Or.inl e))
          · exact Or.inr ⟨hbd q e, (oT7.lt q e).2⟩
          · exact Or.inr ⟨hbd6 q e, (o6.lt q e).2⟩
          · refine Or.inl (hS.out q (Or.inr (Or.inr (Or.inr ⟨z, ?_, e⟩))))
            rcases List.mem_append.1 hz with q1 | q1
            · exact List.mem_of_mem_take q1
            · exact List.mem_of_mem_drop q1
      replace key := Lib.hid key
      replace FS := Lib.hid FS
      clear o6 oT7 b6 hbd hbd6 f6 f9
      go_wp2_with fail
      go_ret
      exact ⟨⟨_, rfl⟩, key.out, FS.out⟩
end Go.Proofs.YtppmednmcbjafaaGreat.KR
end

section
set_option linter.unusedVariables false
set_option linter.unusedSimpArgs false
namespace Go.Proofs.YtppmednmcbjafaaGreat.KR
open Go.RowKit Go Go.Maps Go.Lib

set_option maxHeartbeats 400000 in
theorem rin_any (v : Value) (xs : List Int) (x : Int) (w : World) (hv : RdI w v xs) :
    Calls Tryz.prog 35 #[v, .int .i64 x] w fun e w' => e = .returned (.bool (decide (x ∈ xs))) ∧ w' = w := by
  obtain ⟨a, c, rfl, h1, h2, h3⟩ := hv
  generalize hn : xs.length = n at *
  replace hn := Lib.hid hn
  replace h3 := Lib.hid h3
  go_enter Tryz.func35, Tryz.ntmps35
  go_wp2_with fail
  go_loop [5] (fun i => ∃ k : Nat, k ≤ n ∧ i = .int .i64 k ∧ Hid (x ∉ xs.take k)) (fun i => n - (RowKit.intOf i).toNat)
  case atStart => exact ⟨0, by omega, rfl, Lib.hid (by simp)⟩
  case round =>
    obtain ⟨k, hk, rfl, hkt⟩ := hrel
    by_cases hlt : k < n
    · obtain ⟨g, o, rfl, e1⟩ := h3.out k hlt
      have hkx : k < xs.length := by have := hn.out; omega
      have hx1 : xs.take (k + 1) = xs.take k ++ [xs.getD k 0] := by
        rw [List.take_succ_eq_append_getElem hkx]; simp [List.getD, hkx]
      have hym : xs.getD k 0 ∈ xs := by
        have : xs[k]? = some (xs.getD k 0) := by simp [List.getD, hkx]
        exact List.mem_of_getElem? this
      generalize xs.getD k 0 = y at *
      replace hx1 := Lib.hid hx1
      by_cases hxy : y = x
      · subst hxy
        have he : decide (y ∈ xs) = true := by simpa using hym
        have hb : (y == y) = true := by simp
        replace he := Lib.hid he
        clear hym hkx
        go_wp2_with fail
        go_ret
        exact ⟨by first | (rw [he.out]; done) | (rw [he.out]; rfl), rfl⟩
      · have hb : (y == x) = false := by simpa using hxy
        have hk2 : Hid (x ∉ xs.take (k + 1)) := Lib.hid (by
          rw [hx1.out, List.mem_append]
          exact fun z => z.elim hkt.out (fun z => hxy (List.mem_singleton.1 z).symm))
        clear hym hkx hkt hx1
        go_wp2_with fail
        go_round
        case rel => exact ⟨k + 1, by omega, by go_num, hk2⟩
        case measure => simp [RowKit.intOf]; omega
    · obtain rfl : k = n := by omega
      have he : decide (x ∈ xs) = false := by
        have h5 := hkt.out
        rw [List.take_of_length_le (by have := hn.out; omega)] at h5
        simpa using h5
      replace he := Lib.hid he
      go_wp2_with fail
      go_ret
      exact ⟨by first | (rw [he.out]; done) | (rw [he.out]; rfl), rfl⟩

theorem outL_snoc (l : List Int) (x y : Int) : outL (l ++ [y]) x = outL l x ++ if y = x then [] else [y] := by
  unfold outL
  rw [List.filter_append]
  by_cases h : y = x <;> simp [h]
set_option maxHeartbeats 1000000 in
set_option maxRecDepth 10000 in
theorem rout_any (v : Value) (xs : List Int) (x : Int) (w : World) (hv : RdI w v xs) (hl : xs.length ≤ 1000000) :
    Calls Tryz.prog 92 #[v, .int .i64 x] w fun e w' => ∃ u, e = .returned u ∧ w'.ownsRow w.heap.size 3 1 u (outL xs x).length (rowV (outL xs x)) ∧ Fr noB w w' := by
  obtain ⟨i0, hi0, hz0, hz1, hz2⟩ : ∃ i0, Tryz.prog.info? 3 = some i0 ∧ i0.zero = some (.int .i64 0) ∧ i0.size = 1 ∧ i0.bytes = 8 := by
    have hI := infoIntR
    cases hq : Tryz.prog.info? 3 with
    | none => rw [hq] at hI; cases hI
    | some k => rw [hq] at hI; simp at hI; exact ⟨k, rfl, hI⟩
  obtain ⟨a, c, rfl, h1, h2, h3⟩ := hv
  generalize hn : xs.length = n at *
  replace hn := Lib.hid hn
  replace h3 := Lib.hid h3
  generalize hB : w.heap.size = B at *
  replace hB := Lib.hid hB
  go_enter Tryz.func92, Tryz.ntmps92
  go_wp2_with fail
  go_loopw [5, 6] (fun ov i wr => ∃ (k : Nat) (O : List Int), k ≤ n ∧ i = .int .i64 k ∧ wr.ownsRow B 3 1 ov O.length (rowV O) ∧ Hid (O = outL (xs.take k) x) ∧ Fr noB w wr) (fun _ i _ => n - (RowKit.intOf i).toNat)
  case atStart => exact ⟨0, [], by omega, rfl, World.ownsRow_nil _ _ _ _, Lib.hid (by simp [outL]), Fr.refl _ _⟩
  case round =>
    obtain ⟨k, O, hk, rfl, own, hO, fr⟩ := hrel
    have hOl : O.length ≤ k := by rw [hO.out]; exact Nat.le_trans (outL_len _ _) (List.length_take_le _ _)
    by_cases hlt : k < n
    · obtain ⟨g, o, rfl, e0⟩ := h3.out k hlt
      have e1 := fr.cell e0 (fun q => q)
      have hkx : k < xs.length := by have := hn.out; omega
      have hx1 : xs.take (k + 1) = xs.take k ++ [xs.getD k 0] := by
        rw [List.take_succ_eq_append_getElem hkx]; simp [List.getD, hkx]
      generalize xs.getD k 0 = y at *
      replace hx1 := Lib.hid hx1
      replace e0 := Lib.hid e0
      clear hkx
      have hBr : B ≤ wr.heap.size := by rw [← hB.out]; exact fr.size
      by_cases hxy : y = x
      · have hb : (y != x) = false := by simpa using hxy
        have hO1 : Hid (O = outL (xs.take (k + 1)) x) := Lib.hid (by rw [hx1.out, outL_snoc, if_pos hxy, List.append_nil]; exact hO.out)
        replace hxy := Lib.hid hxy
        clear hO hx1
        go_wp2_with fail
        go_roundw
        case rel => exact ⟨k + 1, O, by omega, by go_num, own, hO1, fr⟩
        case measure => simp [RowKit.intOf]; omega
      · have hb : (y != x) = true := by simpa using hxy
        have hO1 : Hid (O ++ [y] = outL (xs.take (k + 1)) x) := Lib.hid (by rw [hx1.out, outL_snoc, if_neg hxy, ← hO.out])
        have hA : (wr.alloc (.cells #[.int .i64 y] 3)).ownsRow B 3 1 u5 O.length (rowV O) := ownsRow_fr own ((Fr.refl noB wr).alloc _) (fun _ _ q => q)
        have hN := cell_new wr (.int .i64 y) 3
        replace hxy := Lib.hid hxy
        clear hO hx1
        go_wp2_with (first
          | (at_builtin; go_must (refine wpList_append_at _ rfl (.tmp 19) (.tmp 24) 57 rfl B 3 i0 _ 1 8 Tryz.underlying57 hi0 hz0 hz1 hz2 rfl (by omega) _ O.length _ rfl hA ⟨wr.heap.size, 0, none⟩ 1 1 [.int .i64 y] rfl rfl hN (one_int _ _) ?_ ?_ ?_ ?_))
          | fail)
        · unfold maxLen; omega
        · omega
        · have := ((Fr.refl noB wr).alloc (.cells #[.int .i64 y] 3)).size; omega
        intro v' w1 o1 gr1 _
        obtain ⟨own1, fr1⟩ := grow_int hB fr hA o1 gr1
        clear hA hN o1 gr1 own fr e1
        go_wp2_with fail
        go_roundw
        case rel => exact ⟨k + 1, O ++ [y], by omega, by go_num, own1, hO1, fr1⟩
        case measure => simp [RowKit.intOf]; omega
    · obtain rfl : k = n := by omega
      have hO1 := hO.out
      rw [List.take_of_length_le (by have := hn.out; omega)] at hO1
      replace hO1 := Lib.hid hO1
      go_wp2_with fail
      go_ret
      exact ⟨_, rfl, by rw [← hO1.out]; exact own, fr⟩

/-! ### The state -/
structure Rk (w : World) (k g B N : Nat) (K : KS) (vp vl vg : Value) (S : Nat → Prop) : Prop where
  blk : Blk w k 80 [.pointer (some ⟨g, 0, none⟩), .int .u64 K.sd, vp, vl, vg]
  pool : Rp w g B N K.P S
  rp : w.ownsRow B 3 1 vp K.pins.length (rowV K.pins)
  rl : w.ownsRow B 3 1 vl K.loss.length (rowV K.loss)
  rg : w.ownsRow B 3 1 vg K.gone.length (rowV K.gone)
  kB : k < B
  gB : g < B
  Bw : B ≤ w.heap.size
  sk : ¬ S k
  sp : ∀ q, vp.ownBlock = some q → ¬ S q
  sl : ∀ q, vl.ownBlock = some q → ¬ S q
  sg : ∀ q, vg.ownBlock = some q → ¬ S q
  pl : ∀ q, vp.ownBlock = some q → vl.ownBlock ≠ some q
  pg : ∀ q, vp.ownBlock = some q → vg.ownBlock ≠ some q
  lg : ∀ q, vl.ownBlock = some q → vg.ownBlock ≠ some q
  low : ∀ q, S q → q < w.heap.size
/-- all that it holds -/
def rkS (k : Nat) (vp vl vg : Value) (S : Nat → Prop) : Nat → Prop := fun q => q = k ∨ vp.ownBlock = some q ∨ vl.ownBlock = some q ∨ vg.ownBlock = some q ∨ S q
theorem Rk.fr {w w' : World} {k g B N : Nat} {K : KS} {vp vl vg : Value} {S T : Nat → Prop} (h : Rk w k g B N K vp vl vg S) (hf : Fr T w w') (hT : ∀ q, rkS k vp vl vg S q → ¬ T q) : Rk w' k g B N K vp vl vg S :=
  ⟨hf.blk h.blk (hT _ (Or.inl rfl)), h.pool.fr hf (fun q hq => hT q (Or.inr (Or.inr (Or.inr (Or.inr hq))))), ownsRow_fr h.rp hf (fun q hq => hT q (Or.inr (Or.inl hq))), ownsRow_fr h.rl hf (fun q hq => hT q (Or.inr (Or.inr (Or.inl hq)))),
   ownsRow_fr h.rg hf (fun q hq => hT q (Or.inr (Or.inr (Or.inr (Or.inl hq))))), h.kB, h.gB, Nat.le_trans h.Bw hf.size, h.sk, h.sp, h.sl, h.sg, h.pl, h.pg, h.lg, fun q hq => Nat.lt_of_lt_of_le (h.low q hq) hf.size⟩
theorem Rk.lowk {w : World} {k g B N : Nat} {K : KS} {vp vl vg : Value} {S : Nat → Prop} (h : Rk w k g B N K vp vl vg S) {q : Nat} (hq : rkS k vp vl vg S q) : q < w.heap.size := by
  rcases hq with e | e | e | e | e
  · have := h.kB; have := h.Bw; omega
  · exact (h.rp.lt q e).2
  · exact (h.rl.lt q e).2
  · exact (h.rg.lt q e).2
  · exact h.low q e
theorem Rk.frN {w w' : World} {k g B N : Nat} {K : KS} {vp vl vg : Value} {S : Nat → Prop} (h : Rk w k g B N K vp vl vg S) (hf : Fr noB w w') : Rk w' k g B N K vp vl vg S := h.fr hf (fun _ _ q => q)
theorem Rk.pin {w : World} {k g B N : Nat} {K : KS} {vp vl vg : Value} {S : Nat → Prop} (h : Rk w k g B N K vp vl vg S) : RdI w vp K.pins := RdI.of_own h.rp
theorem Rk.los {w : World} {k g B N : Nat} {K : KS} {vp vl vg : Value} {S : Nat → Prop} (h : Rk w k g B N K vp vl vg S) : RdI w vl K.loss := RdI.of_own h.rl
theorem Rk.gon {w : World} {k g B N : Nat} {K : KS} {vp vl vg : Value} {S : Nat → Prop} (h : Rk w k g B N K vp vl vg S) : RdI w vg K.gone := RdI.of_own h.rg
/-- The keeper, its blocks among T. -/
def Rx (w : World) (k g B N : Nat) (K : KS) (T : Nat → Prop) : Prop := ∃ vp vl vg S, Rk w k g B N K vp vl vg S ∧ ∀ q, rkS k vp vl vg S q → T q
theorem Rx.fr {w w' : World} {k g B N : Nat} {K : KS} {T U : Nat → Prop} (h : Rx w k g B N K T) (hf : Fr U w w') (hU : ∀ q, T q → ¬ U q) : Rx w' k g B N K T := by
  obtain ⟨vp, vl, vg, S, h1, h2⟩ := h
  exact ⟨vp, vl, vg, S, h1.fr hf (fun q hq => hU q (h2 q hq)), h2⟩
theorem Rx.frN {w w' : World} {k g B N : Nat} {K : KS} {T : Nat → Prop} (h : Rx w k g B N K T) (hf : Fr noB w w') : Rx w' k g B N K T := h.fr hf (fun _ _ q => q)

set_option maxHeartbeats 1000000 in
theorem rknew_any (N : Nat) (sd : Int) (w : World) (hN : N ≤ 16) : Calls Tryz.prog 45 #[.int .i64 N, .int .u64 sd] w fun e w' => ∃ k g B, e = .returned (.pointer (some ⟨k, 0, none⟩)) ∧ Rx w' k g B N ⟨sd, [], [], [], []⟩ (fun q => w.heap.size ≤ q ∧ q < w'.heap.size) ∧ Fr noB w w' := by
  go_enter Tryz.func45, Tryz.ntmps45
  go_wp2_with fail
  go_ret
  have fa := (Fr.refl noB w).alloc (.cells #[.int .i64 N, .slice none 0 0, .slice none 0 0] 126)
  have fb := (Fr.refl noB (w.alloc (.cells #[.int .i64 N, .slice none 0 0, .slice none 0 0] 126))).alloc (.cells #[.pointer (some ⟨w.heap.size, 0, none⟩), .int .u64 sd, .slice none 0 0, .slice none 0 0, .slice none 0 0] 80)
  have b1 := Blk.new w 126 [.int .i64 N, .slice none 0 0, .slice none 0 0]
  have b2 := Blk.new (w.alloc (.cells #[.int .i64 N, .slice none 0 0, .slice none 0 0] 126)) 80 [.pointer (some ⟨w.heap.size, 0, none⟩), .int .u64 sd, .slice none 0 0, .slice none 0 0, .slice none 0 0]
  have s1 : (w.alloc (.cells #[.int .i64 N, .slice none 0 0, .slice none 0 0] 126)).heap.size = w.heap.size + 1 := by simp
  rw [s1] at b2
  have b1' := fb.blk b1 (fun q => q)
  have ff : Fr noB w _ := fa.seqN fb
  refine ⟨w.heap.size + 1, w.heap.size, w.heap.size + 2, rfl, ?_, ff⟩
  have hz : ∀ q, (Value.slice none 0 0).ownBlock = some q → False := fun q e => by cases e
  have hrq : Rq ((w.alloc (.cells #[.int .i64 N, .slice none 0 0, .slice none 0 0] 126)).alloc (.cells #[.pointer (some ⟨w.heap.size, 0, none⟩), .int .u64 sd, .slice none 0 0, .slice none 0 0, .slice none 0 0] 80)) w.heap.size (w.heap.size + 2) N [] (.slice none 0 0) (.slice none 0 0) [] :=
    ⟨b1', World.ownsRow_nil _ _ _ _, World.ownsRow_nil _ _ _ _, Rows2.nil _ _, by omega, by simp, List.Pairwise.nil, fun p hp => by simp at hp, by simp [used], hN⟩
  refine ⟨.slice none 0 0, .slice none 0 0, .slice none 0 0, fun q => q = w.heap.size, ⟨b2, ⟨_, _, _, hrq, fun q hq => ?_⟩, World.ownsRow_nil _ _ _ _, World.ownsRow_nil _ _ _ _, World.ownsRow_nil _ _ _ _, by omega, by omega, by simp, by omega, fun q e => (hz q e).elim, fun q e => (hz q e).elim, fun q e => (hz q e).elim, fun q e => (hz q e).elim, fun q e => (hz q e).elim, fun q e => (hz q e).elim, fun q e => by subst e; simp; omega⟩, fun q hq => ?_⟩
  · rcases hq with e | e | e | ⟨z, hz', _⟩
    · exact e
    · exact (hz q e).elim
    · exact (hz q e).elim
    · cases hz'
  · rcases hq with e | e | e | e | e
    · subst e; simp
    · exact (hz q e).elim
    · exact (hz q e).elim
    · exact (hz q e).elim
    · subst e; simp; omega
end Go.Proofs.YtppmednmcbjafaaGreat.KR
end

section
set_option linter.unusedVariables false
set_option linter.unusedSimpArgs false
namespace Go.Proofs.YtppmednmcbjafaaGreat.KR
open Go.RowKit Go Go.Maps Go.Lib

theorem Rp.sg {w : World} {g B N : Nat} {P : TP} {S : Nat → Prop} (h : Rp w g B N P S) : S g := by
  obtain ⟨vt, vs, V, h1, h2⟩ := h
  exact h2 g (Or.inl rfl)
/-- what nothing but the keeper's own block and new rows have turned -/
theorem Rk.to_x {w w' : World} {k g B N : Nat} {K : KS} {vp vl vg : Value} {S : Nat → Prop} {T : Nat → Prop} (h : Rk w' k g B N K vp vl vg S) (hT : ∀ q, rkS k vp vl vg S q → T q ∨ w.heap.size ≤ q) : Rx w' k g B N K (nx T w w') :=
  ⟨vp, vl, vg, S, h, fun q hq => (hT q hq).imp id (fun e => ⟨e, h.lowk hq⟩)⟩
/-- a new row of pins -/
theorem Rk.setp {w w1 : World} {k g B N : Nat} {K : KS} {vp vl vg u : Value} {S : Nat → Prop} {L : List Int} (h : Rk w k g B N K vp vl vg S) (f : Fr noB w w1) (o : w1.ownsRow w.heap.size 3 1 u L.length (rowV L)) :
    Rk (w1.setCell ⟨k, 2, none⟩ u) k g B N { K with pins := L } u vl vg S ∧ Fr (onlyB k) w (w1.setCell ⟨k, 2, none⟩ u) := by
  have h1 := h.frN f
  have fs : Fr (onlyB k) w1 (w1.setCell ⟨k, 2, none⟩ u) := (Fr.refl _ w1).store rfl
  have hw := h.Bw
  have hk := h.kB
  have hu : ∀ q, u.ownBlock = some q → w.heap.size ≤ q := fun q hq => (o.lt q hq).1
  have hkr : ∀ {v : Value} {L : List Int}, w1.ownsRow B 3 1 v L.length (rowV L) → ∀ q, v.ownBlock = some q → ¬ onlyB k q := fun hv q hq e => by have := (hv.lt q hq).1; unfold onlyB at e; omega
  refine ⟨⟨h1.blk.set 2 u, h1.pool.fr fs (fun q hq e => h.sk (by unfold onlyB at e; exact e ▸ hq)), ownsRow_mono (ownsRow_fr o fs (fun q hq e => by have := hu q hq; unfold onlyB at e; omega)) hw, ownsRow_fr h1.rl fs (hkr h1.rl), ownsRow_fr h1.rg fs (hkr h1.rg), hk, h.gB, Nat.le_trans h1.Bw fs.size, h.sk, fun q hq e => by have := hu q hq; have := h.low q e; omega, h.sl, h.sg, fun q hq e => by have := hu q hq; have := (h.rl.lt q e).2; omega, fun q hq e => by have := hu q hq; have := (h.rg.lt q e).2; omega, h.lg, fun q hq => Nat.lt_of_lt_of_le (h.low q hq) (Nat.le_trans f.size fs.size)⟩, (f.mono (fun _ _ q => False.elim q)).seqB fs (fun _ => rfl)⟩
/-- a new row of losses -/
theorem Rk.setl {w w1 : World} {k g B N : Nat} {K : KS} {vp vl vg u : Value} {S : Nat → Prop} {L : List Int} (h : Rk w k g B N K vp vl vg S) (f : Fr noB w w1) (o : w1.ownsRow w.heap.size 3 1 u L.length (rowV L)) :
    Rk (w1.setCell ⟨k, 3, none⟩ u) k g B N { K with loss := L } vp u vg S ∧ Fr (onlyB k) w (w1.setCell ⟨k, 3, none⟩ u) := by
  have h1 := h.frN f
  have fs : Fr (onlyB k) w1 (w1.setCell ⟨k, 3, none⟩ u) := (Fr.refl _ w1).store rfl
  have hw := h.Bw
  have hk := h.kB
  have hu : ∀ q, u.ownBlock = some q → w.heap.size ≤ q := fun q hq => (o.lt q hq).1
  have hkr : ∀ {v : Value} {L : List Int}, w1.ownsRow B 3 1 v L.length (rowV L) → ∀ q, v.ownBlock = some q → ¬ onlyB k q := fun hv q hq e => by have := (hv.lt q hq).1; unfold onlyB at e; omega
  refine ⟨⟨h1.blk.set 3 u, h1.pool.fr fs (fun q hq e => h.sk (by unfold onlyB at e; exact e ▸ hq)), ownsRow_fr h1.rp fs (hkr h1.rp), ownsRow_mono (ownsRow_fr o fs (fun q hq e => by have := hu q hq; unfold onlyB at e; omega)) hw, ownsRow_fr h1.rg fs (hkr h1.rg), hk, h.gB, Nat.le_trans h1.Bw fs.size, h.sk, h.sp, fun q hq e => by have := hu q hq; have := h.low q e; omega, h.sg, fun q hq e => by have := hu q e; have := (h.rp.lt q hq).2; omega, h.pg, fun q hq e => by have := hu q hq; have := (h.rg.lt q e).2; omega, fun q hq => Nat.lt_of_lt_of_le (h.low q hq) (Nat.le_trans f.size fs.size)⟩, (f.mono (fun _ _ q => False.elim q)).seqB fs (fun _ => rfl)⟩

set_option maxHeartbeats 1000000 in
set_option maxRecDepth 10000 in
theorem rkunpin_any (k g B N : Nat) (K : KS) (t : Int) (T : Nat → Prop) (w : World) (h : Rx w k g B N K T) (hz : K.pins.length ≤ 1000000) :
    Calls Tryz.prog 60 #[.pointer (some ⟨k, 0, none⟩), .int .i64 t] w fun e w' => e = .returned (.tuple #[]) ∧ Rx w' k g B N { K with pins := outL K.pins t } (nx T w w') ∧ Fr T w w' := by
  obtain ⟨vp, vl, vg, S, h, hT⟩ := h
  have c2 : w.cell? ⟨k, 2, none⟩ = some vp := h.blk.cell 2
  have ho := rout_any vp K.pins t w h.pin hz
  have hT0 := hT k (Or.inl rfl)
  replace h := Lib.hid h
  replace hT := Lib.hid hT
  go_enter Tryz.func60, Tryz.ntmps60
  go_wp2_with fail
  refine ho.mono ?_
  rintro e w1 ⟨u, rfl, o1, f1⟩
  obtain ⟨h2, f2⟩ := h.out.setp f1 o1
  have hu : Hid (∀ q, u.ownBlock = some q → w.heap.size ≤ q) := Lib.hid (fun q hq => (o1.lt q hq).1)
  have z2 := (f1.blk h.out.blk (fun q => q)).frozen 2
  have c3 : w1.cell? ⟨k, 2, none⟩ = some vp := (f1.blk h.out.blk (fun q => q)).cell 2
  obtain ⟨ua, uc, rfl⟩ := ownsRow_slice o1
  have hx : Hid (Rx (w1.setCell ⟨k, 2, none⟩ (.slice ua (outL K.pins t).length uc)) k g B N { K with pins := outL K.pins t } (nx T w (w1.setCell ⟨k, 2, none⟩ (.slice ua (outL K.pins t).length uc)))) := Lib.hid (h2.to_x (fun q hq => by
    rcases hq with e | e | e | e | e
    · exact Or.inl (hT.out q (Or.inl e))
    · exact Or.inr (hu.out q e)
    · exact Or.inl (hT.out q (Or.inr (Or.inr (Or.inl e))))
    · exact Or.inl (hT.out q (Or.inr (Or.inr (Or.inr (Or.inl e)))))
    · exact Or.inl (hT.out q (Or.inr (Or.inr (Or.inr (Or.inr e)))))))
  have hf : Hid (Fr T w (w1.setCell ⟨k, 2, none⟩ (.slice ua (outL K.pins t).length uc))) := Lib.hid (f2.mono (fun q _ e => by unfold onlyB at e; exact e ▸ hT0))
  clear ho o1 f1 h2 f2 hu c2
  go_wp2_with fail
  go_end0
  exact ⟨rfl, hx.out, hf.out⟩

set_option maxHeartbeats 1000000 in
set_option maxRecDepth 10000 in
theorem rkpin_any (k g B N : Nat) (K : KS) (t : Int) (T : Nat → Prop) (w : World) (h : Rx w k g B N K T) (hz : K.pins.length ≤ 1000000) :
    Calls Tryz.prog 68 #[.pointer (some ⟨k, 0, none⟩), .int .i64 t] w fun e w' => e = .returned (.tuple #[]) ∧ Rx w' k g B N { K with pins := outL K.pins t ++ [t] } (nx T w w') ∧ Fr T w w' := by
  obtain ⟨i0, hi0, hz0, hz1, hz2⟩ : ∃ i0, Tryz.prog.info? 3 = some i0 ∧ i0.zero = some (.int .i64 0) ∧ i0.size = 1 ∧ i0.bytes = 8 := by
    have hI := infoIntR
    cases hq : Tryz.prog.info? 3 with
    | none => rw [hq] at hI; cases hI
    | some k => rw [hq] at hI; simp at hI; exact ⟨k, rfl, hI⟩
  obtain ⟨vp, vl, vg, S, h, hT⟩ := h
  have c2 : w.cell? ⟨k, 2, none⟩ = some vp := h.blk.cell 2
  have ho := rout_any vp K.pins t w h.pin hz
  have hT0 := hT k (Or.inl rfl)
  have hol := outL_len K.pins t
  replace h := Lib.hid h
  replace hT := Lib.hid hT
  generalize hO : outL K.pins t = O at *
  go_enter Tryz.func68, Tryz.ntmps68
  go_wp2_with fail
  refine ho.mono ?_
  rintro e w1 ⟨u, rfl, o1, f1⟩
  have hA : (w1.alloc (.cells #[.int .i64 t] 3)).ownsRow w.heap.size 3 1 u O.length (rowV O) := ownsRow_fr o1 ((Fr.refl noB w1).alloc _) (fun _ _ q => q)
  have hN := cell_new w1 (.int .i64 t) 3
  have hs1 := f1.size
  clear ho
  replace hO := Lib.hid hO
  go_wp2_with (first
    | (at_builtin; go_must (refine wpList_append_at _ rfl (.tmp 10) (.tmp 12) 57 rfl w.heap.size 3 i0 _ 1 8 Tryz.underlying57 hi0 hz0 hz1 hz2 rfl (by omega) _ O.length _ rfl hA ⟨w1.heap.size, 0, none⟩ 1 1 [.int .i64 t] rfl rfl hN (one_int _ _) ?_ ?_ ?_ ?_))
    | fail)
  · unfold maxLen; omega
  · omega
  · have := ((Fr.refl noB w1).alloc (.cells #[.int .i64 t] 3)).size; omega
  intro v' w2 o2 gr2 _
  have e1 : rowV (O ++ [t]) = rowV O ++ [.int .i64 t] := by simp [rowV]
  have e2 : (O ++ [t]).length = O.length + 1 := by simp
  rw [← e1, ← e2] at o2
  have fw2 : Fr noB w w2 := (f1.alloc _).grown gr2 (fun q hq hlt => by have := (hA.lt q hq).1; omega)
  obtain ⟨h2, f2⟩ := h.out.setp fw2 o2
  have hu : Hid (∀ q, v'.ownBlock = some q → w.heap.size ≤ q) := Lib.hid (fun q hq => (o2.lt q hq).1)
  have z2 := (fw2.blk h.out.blk (fun q => q)).frozen 2
  have c3 : w2.cell? ⟨k, 2, none⟩ = some vp := (fw2.blk h.out.blk (fun q => q)).cell 2
  obtain ⟨ua, uc, rfl⟩ := ownsRow_slice o2
  have hx := Lib.hid (h2.to_x (T := T) (w := w) (fun q hq => by
    rcases hq with e | e | e | e | e
    · exact Or.inl (hT.out q (Or.inl e))
    · exact Or.inr (hu.out q e)
    · exact Or.inl (hT.out q (Or.inr (Or.inr (Or.inl e))))
    · exact Or.inl (hT.out q (Or.inr (Or.inr (Or.inr (Or.inl e)))))
    · exact Or.inl (hT.out q (Or.inr (Or.inr (Or.inr (Or.inr e)))))))
  have hf := Lib.hid (f2.mono (T := T) (fun q _ e => by unfold onlyB at e; exact e ▸ hT0))
  clear o1 f1 h2 f2 hu c2 hA hN gr2 o2 fw2 e1
  replace e2 := Lib.hid e2
  go_wp2_with fail
  go_end0
  rw [← e2.out]
  exact ⟨rfl, hx.out, hf.out⟩

/-- Drop, whatever the trace -/
theorem rpdrop_any (g B N : Nat) (P : TP) (S : Nat → Prop) (t : Int) (w : World) (h : Rp w g B N P S) :
    Calls Tryz.prog 49 #[.pointer (some ⟨g, 0, none⟩), .int .i64 t] w fun e w' => (∃ m : Int, e = .returned (.int .i64 m)) ∧ Rp w' g B N (without P t) (nx S w w') ∧ Fr S w w' := by
  obtain ⟨vt, vs, V, h, hS⟩ := h
  obtain ⟨r, hr⟩ := AtT.ex P t
  rcases hr with ⟨j, p, hj, hp, _⟩ | ⟨hn, _⟩
  · subst hp
    exact rpdrop_at g B N P vt vs V S j p w h hS hj
  · refine (rpdrop_no g B N P vt vs V t w h hn).mono ?_
    rintro e w' ⟨rfl, hw⟩
    obtain rfl := hw.symm
    have : without P t = P := by
      unfold without
      exact List.filter_eq_self.2 (fun p hp => by simpa using hn p hp)
    rw [this]
    exact ⟨⟨_, rfl⟩, ⟨vt, vs, V, h, fun q hq => Or.inl (hS q hq)⟩, Fr.refl _ _⟩
/-- the pool has turned -/
theorem Rk.setP {w w1 : World} {k g B N : Nat} {K : KS} {vp vl vg : Value} {S : Nat → Prop} {P' : TP} (h : Rk w k g B N K vp vl vg S) (hp : Rp w1 g B N P' (nx S w w1)) (f : Fr S w w1) :
    Rk w1 k g B N { K with P := P' } vp vl vg (nx S w w1) := by
  have key : ∀ {v : Value} {L : List Int}, w.ownsRow B 3 1 v L.length (rowV L) → (∀ q, v.ownBlock = some q → ¬ S q) → ∀ q, v.ownBlock = some q → ¬ nx S w w1 q := fun hv hs q hq e => by
    rcases e with e | e
    · exact hs q hq e
    · have := (hv.lt q hq).2; omega
  have hkw : k < w.heap.size := by have := h.kB; have := h.Bw; omega
  exact ⟨f.blk h.blk h.sk, hp, ownsRow_fr h.rp f h.sp, ownsRow_fr h.rl f h.sl, ownsRow_fr h.rg f h.sg, h.kB, h.gB, Nat.le_trans h.Bw f.size, (fun e => by
    rcases e with e | e
    · exact h.sk e
    · omega), key h.rp h.sp, key h.rl h.sl, key h.rg h.sg, h.pl, h.pg, h.lg, fun q hq => by
    rcases hq with e | e
    · exact Nat.lt_of_lt_of_le (h.low q e) f.size
    · exact e.2⟩

set_option maxHeartbeats 1000000 in
set_option maxRecDepth 10000 in
theorem rkforget_any (k g B N : Nat) (K : KS) (t : Int) (T : Nat → Prop) (w : World) (h : Rx w k g B N K T) (hz : K.pins.length ≤ 1000000) (hzl : K.loss.length ≤ 1000000) :
    Calls Tryz.prog 70 #[.pointer (some ⟨k, 0, none⟩), .int .i64 t] w fun e w' => e = .returned (.tuple #[]) ∧ Rx w' k g B N { K with P := without K.P t, pins := outL K.pins t, loss := outL K.loss t } (nx T w w') ∧ Fr T w w' := by
  have hun := rkunpin_any k g B N K t T w h hz
  clear h
  go_enter Tryz.func70, Tryz.ntmps70
  go_wp2_with fail
  refine hun.mono ?_
  rintro e w1 ⟨rfl, ⟨vp, vl, vg, S, h1, hT1⟩, f1⟩
  clear hun
  have c0 : w1.cell? ⟨k, 0, none⟩ = some (.pointer (some ⟨g, 0, none⟩)) := h1.blk.cell 0
  have hdr := rpdrop_any g B N K.P S t w1 h1.pool
  replace h1 := Lib.hid h1
  replace hT1 := Lib.hid hT1
  replace f1 := Lib.hid f1
  go_wp2_with fail
  refine hdr.mono ?_
  rintro e w2 ⟨⟨m, rfl⟩, hp2, f2⟩
  have h2 := h1.out.setP hp2 f2
  have c3 : w2.cell? ⟨k, 3, none⟩ = some vl := h2.blk.cell 3
  have ho := rout_any vl K.loss t w2 h2.los hzl
  have hs2 := f2.size
  have hs1 := f1.out.size
  have hT2 : Hid (∀ q, rkS k vp vl vg (nx S w1 w2) q → T q ∨ w.heap.size ≤ q) := Lib.hid (fun q hq => by
    have key : ∀ q, rkS k vp vl vg S q → T q ∨ w.heap.size ≤ q := fun q e => (hT1.out q e).imp id (fun e => e.1)
    rcases hq with e | e | e | e | e
    · exact key q (Or.inl e)
    · exact key q (Or.inr (Or.inl e))
    · exact key q (Or.inr (Or.inr (Or.inl e)))
    · exact key q (Or.inr (Or.inr (Or.inr (Or.inl e))))
    · rcases e with e | e
      · exact key q (Or.inr (Or.inr (Or.inr (Or.inr e))))
      · exact Or.inr (by omega))
  have fw2 : Hid (Fr T w w2) := Lib.hid (f1.out.trans f2 (fun _ _ q => q) (fun q hq e => by
    rcases hT1.out q (Or.inr (Or.inr (Or.inr (Or.inr e)))) with q1 | q1
    · exact q1
    · omega))
  clear c0 hdr f2 hp2
  replace h2 := Lib.hid h2
  go_wp2_with fail
  refine ho.mono ?_
  rintro e w3 ⟨u, rfl, o3, f3⟩
  obtain ⟨h4, f4⟩ := h2.out.setl f3 o3
  have hu : Hid (∀ q, u.ownBlock = some q → w.heap.size ≤ q) := Lib.hid (fun q hq => by have := (o3.lt q hq).1; omega)
  have z2 := (f3.blk h2.out.blk (fun q => q)).frozen 3
  have c4 : w3.cell? ⟨k, 3, none⟩ = some vl := (f3.blk h2.out.blk (fun q => q)).cell 3
  obtain ⟨ua, uc, rfl⟩ := ownsRow_slice o3
  have hx := Lib.hid (h4.to_x (T := T) (w := w) (fun q hq => by
    rcases hq with e | e | e | e | e
    · exact hT2.out q (Or.inl e)
    · exact hT2.out q (Or.inr (Or.inl e))
    · exact Or.inr (hu.out q e)
    · exact hT2.out q (Or.inr (Or.inr (Or.inr (Or.inl e))))
    · exact hT2.out q (Or.inr (Or.inr (Or.inr (Or.inr e))))))
  have hf := Lib.hid (fw2.out.trans f4 (fun _ _ q => q) (fun q hq e => by
    unfold onlyB at e
    rcases hT2.out q (Or.inl e) with q1 | q1
    · exact q1
    · omega))
  clear ho o3 f3 h4 f4 hu c3
  go_wp2_with fail
  go_end0
  exact ⟨rfl, hx.out, hf.out⟩
end Go.Proofs.YtppmednmcbjafaaGreat.KR
end

section
set_option linter.unusedVariables false
set_option linter.unusedSimpArgs false
set_option maxRecDepth 100000
namespace Go.Proofs.YtppmednmcbjafaaGreat.KR
open Go.RowKit Go Go.Maps Go.Lib

theorem least_not (seed : Int) (l : List Int) (n : Int) (hn : n ∈ l) : lessB seed n (leastS seed l) = false := by
  cases l with
  | nil => cases hn
  | cons x r => exact minP_min seed x r n (by simpa using hn)
end Go.Proofs.YtppmednmcbjafaaGreat.KR
end
