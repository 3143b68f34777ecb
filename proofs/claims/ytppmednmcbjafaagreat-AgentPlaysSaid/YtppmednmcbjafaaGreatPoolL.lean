/-
  A pool's buffers, and what they are by traces: plain mathematics.
-/
import Derived.Test.YtppmednmcbjafaaGreatMapA
set_option linter.unusedVariables false
set_option linter.unusedSimpArgs false
set_option maxRecDepth 100000
namespace Go.Proofs.YtppmednmcbjafaaGreat
open Go.RowKit Go Go.Lib

structure Sp where
  t : Int
  q : Int
  x : ByteArray
def sp0 : Sp := ⟨0, 0, ByteArray.mk #[]⟩
instance : Inhabited Sp := ⟨sp0⟩
structure Bf where
  n : Nat
  a : Sp
  b : Sp
  c : Sp
def bf0 : Bf := ⟨0, sp0, sp0, sp0⟩
def spC (s : Sp) : List Value := [.int .i64 s.t, .int .i64 s.q, .string s.x]
def bfC (b : Bf) : List Value := [.int .i64 b.a.t, .int .i64 b.a.q, .string b.a.x, .int .i64 b.b.t, .int .i64 b.b.q, .string b.b.x, .int .i64 b.c.t, .int .i64 b.c.q, .string b.c.x, .int .i64 b.n]
def poolC (bs : List Bf) (N : Nat) : List Value := bs.flatMap bfC ++ [.int .i64 N]
def Bf.l (b : Bf) : List Sp := [b.a, b.b, b.c].take b.n
def Bf.of (b : Bf) (t : Int) : Bool := decide (0 < b.n) && (b.a.t == t)
/-- a span at a place -/
def Bf.at (b : Bf) (i : Nat) (s : Sp) : Bf := match i with
  | 0 => { b with a := s }
  | 1 => { b with b := s }
  | _ => { b with c := s }
def Bf.put (b : Bf) (s : Sp) : Bf := { b.at b.n s with n := b.n + 1 }

/-! ### Cells -/
theorem flat_get {α β : Type} (f : α → List β) (W : Nat) (h : ∀ x, (f x).length = W) : ∀ (l : List α) (k j : Nat) (x : α), l[k]? = some x → j < W → (l.flatMap f)[k * W + j]? = (f x)[j]?
  | [], k, j, x, hx, hj => by simp at hx
  | y :: r, 0, j, x, hx, hj => by
    simp at hx; subst hx
    rw [List.flatMap_cons, Nat.zero_mul, Nat.zero_add, List.getElem?_append_left (by rw [h]; exact hj)]
  | y :: r, k + 1, j, x, hx, hj => by
    rw [List.getElem?_cons_succ] at hx
    rw [List.flatMap_cons, List.getElem?_append_right (by rw [h, Nat.add_mul]; omega), h, show (k + 1) * W + j - W = k * W + j by rw [Nat.add_mul]; omega]
    exact flat_get f W h r k j x hx hj
theorem flat_set {α β : Type} (f : α → List β) (W : Nat) (h : ∀ x, (f x).length = W) : ∀ (l : List α) (k j : Nat) (x y : α) (v : β), l[k]? = some x → j < W → f y = (f x).set j v → (l.flatMap f).set (k * W + j) v = (l.set k y).flatMap f
  | [], k, j, x, y, v, hx, hj, he => by simp at hx
  | z :: r, 0, j, x, y, v, hx, hj, he => by
    simp at hx; subst hx
    rw [List.flatMap_cons, Nat.zero_mul, Nat.zero_add, List.set_append_left _ _ (by rw [h]; exact hj), List.set_cons_zero, List.flatMap_cons, he]
  | z :: r, k + 1, j, x, y, v, hx, hj, he => by
    rw [List.getElem?_cons_succ] at hx
    rw [List.flatMap_cons, List.set_append_right _ _ (by rw [h, Nat.add_mul]; omega), h, show (k + 1) * W + j - W = k * W + j by rw [Nat.add_mul]; omega, List.set_cons_succ, List.flatMap_cons, flat_set f W h r k j x y v hx hj he]
theorem bfC_len (b : Bf) : (bfC b).length = 10 := rfl
theorem flat_len (bs : List Bf) : (bs.flatMap bfC).length = bs.length * 10 := by
  induction bs with
  | nil => rfl
  | cons b r ih => rw [List.flatMap_cons, List.length_append, ih, bfC_len, List.length_cons]; omega
theorem poolC_len (bs : List Bf) (N : Nat) : (poolC bs N).length = bs.length * 10 + 1 := by unfold poolC; rw [List.length_append, flat_len]; rfl
theorem poolC_get {bs : List Bf} {N k : Nat} {b : Bf} (h : bs[k]? = some b) (j : Nat) (hj : j < 10) : (poolC bs N)[k * 10 + j]? = (bfC b)[j]? := by
  have hk : k < bs.length := (List.getElem?_eq_some_iff.1 h).1
  unfold poolC
  rw [List.getElem?_append_left (by rw [flat_len]; omega)]
  exact flat_get bfC 10 bfC_len bs k j b h hj
theorem poolC_size {bs : List Bf} {N : Nat} (h : bs.length = 16) : (poolC bs N)[160]? = some (.int .i64 N) := by
  unfold poolC
  rw [List.getElem?_append_right (by rw [flat_len]; omega), flat_len, h]
  rfl
theorem poolC_set {bs : List Bf} {N k : Nat} {b y : Bf} (h : bs[k]? = some b) (j : Nat) (v : Value) (hj : j < 10) (he : bfC y = (bfC b).set j v) : (poolC bs N).set (k * 10 + j) v = poolC (bs.set k y) N := by
  have hk : k < bs.length := (List.getElem?_eq_some_iff.1 h).1
  unfold poolC
  rw [List.set_append_left _ _ (by rw [flat_len]; omega), flat_set bfC 10 bfC_len bs k j b y v h hj he]

/-! ### Rows of texts, trace by trace, rising -/
abbrev TP := List (Int × List ByteArray)
def txt (P : TP) (t : Int) : List ByteArray := (look P t).getD []
def addT : TP → Int → ByteArray → TP
  | [], t, x => [(t, [x])]
  | (k, l) :: r, t, x => if t = k then (k, l ++ [x]) :: r else if t < k then (t, [x]) :: (k, l) :: r else (k, l) :: addT r t x
def used (P : TP) : Nat := (P.map fun p => (p.2.length + 2) / 3).sum
def risT (P : TP) : Prop := (P.map (·.1)).Pairwise (· < ·)

theorem look_cons_same {α : Type} (k : Int) (l : α) (r : List (Int × α)) : look ((k, l) :: r) k = some l := by simp [look]
theorem look_cons_other {α : Type} {k t : Int} (l : α) (r : List (Int × α)) (h : t ≠ k) : look ((k, l) :: r) t = look r t := by
  have h' : ¬ k = t := fun e => h e.symm
  simp [look, List.find?_cons, h']
theorem risT_tail {p : Int × List ByteArray} {r : TP} (h : risT (p :: r)) : risT r := by unfold risT at *; rw [List.map_cons, List.pairwise_cons] at h; exact h.2
theorem risT_head {p : Int × List ByteArray} {r : TP} (h : risT (p :: r)) : ∀ q ∈ r, p.1 < q.1 := by
  unfold risT at *
  rw [List.map_cons, List.pairwise_cons] at h
  exact fun q hq => h.1 _ (List.mem_map_of_mem hq)
theorem look_low {r : TP} {t : Int} (h : ∀ q ∈ r, t < q.1) : look r t = none := by
  cases hq : look r t with
  | none => rfl
  | some l =>
    have := h _ (look_some hq)
    simp at this
theorem txt_add_same : ∀ (P : TP) (t : Int) (x : ByteArray), risT P → txt (addT P t x) t = txt P t ++ [x]
  | [], t, x, _ => by simp [addT, txt, look]
  | (k, l) :: r, t, x, h => by
    unfold addT
    by_cases h1 : t = k
    · subst h1; rw [if_pos rfl]; unfold txt; rw [look_cons_same, look_cons_same]; rfl
    · rw [if_neg h1]
      by_cases h2 : t < k
      · rw [if_pos h2]
        unfold txt
        rw [look_cons_same, look_cons_other _ _ h1, look_low (fun q hq => by have := risT_head h q hq; simp only at this; omega)]
        rfl
      · rw [if_neg h2]
        have := txt_add_same r t x (risT_tail h)
        unfold txt at *
        rw [look_cons_other _ _ h1, look_cons_other _ _ h1, this]
theorem txt_add_other : ∀ (P : TP) (t u : Int) (x : ByteArray), u ≠ t → txt (addT P t x) u = txt P u
  | [], t, u, x, hu => by
    have h' : ¬ t = u := fun e => hu e.symm
    simp [addT, txt, look, h']
  | (k, l) :: r, t, u, x, hu => by
    unfold addT
    by_cases h1 : t = k
    · subst h1; rw [if_pos rfl]; unfold txt; rw [look_cons_other _ _ hu, look_cons_other _ _ hu]
    · rw [if_neg h1]
      by_cases h2 : t < k
      · rw [if_pos h2]; unfold txt; rw [look_cons_other _ _ hu]
      · rw [if_neg h2]
        have := txt_add_other r t u x hu
        unfold txt at *
        by_cases hk : u = k
        · subst hk; rw [look_cons_same, look_cons_same]
        · rw [look_cons_other _ _ hk, look_cons_other _ _ hk, this]
theorem mem_add : ∀ (P : TP) (t : Int) (x : ByteArray) (p : Int × List ByteArray), p ∈ addT P t x → p.1 = t ∨ p ∈ P
  | [], t, x, p, h => by simp [addT] at h; exact Or.inl (by rw [h])
  | (k, l) :: r, t, x, p, h => by
    unfold addT at h
    by_cases h1 : t = k
    · rw [if_pos h1] at h
      rcases List.mem_cons.1 h with rfl | h
      · exact Or.inl h1.symm
      · exact Or.inr (List.mem_cons_of_mem _ h)
    · rw [if_neg h1] at h
      by_cases h2 : t < k
      · rw [if_pos h2] at h
        rcases List.mem_cons.1 h with rfl | h
        · exact Or.inl rfl
        · exact Or.inr h
      · rw [if_neg h2] at h
        rcases List.mem_cons.1 h with rfl | h
        · exact Or.inr (List.mem_cons_self ..)
        · rcases mem_add r t x p h with q | q
          · exact Or.inl q
          · exact Or.inr (List.mem_cons_of_mem _ q)
theorem ris_add : ∀ (P : TP) (t : Int) (x : ByteArray), risT P → risT (addT P t x)
  | [], t, x, _ => by unfold addT risT; exact List.pairwise_singleton _ _
  | (k, l) :: r, t, x, h => by
    unfold addT
    by_cases h1 : t = k
    · rw [if_pos h1]; exact h
    · rw [if_neg h1]
      by_cases h2 : t < k
      · rw [if_pos h2]
        unfold risT
        rw [List.map_cons, List.pairwise_cons]
        refine ⟨fun b hb => ?_, h⟩
        obtain ⟨q, hq, rfl⟩ := List.mem_map.1 hb
        rcases List.mem_cons.1 hq with rfl | hq
        · exact h2
        · have := risT_head h q hq; simp only at this ⊢; omega
      · rw [if_neg h2]
        unfold risT
        rw [List.map_cons, List.pairwise_cons]
        refine ⟨fun b hb => ?_, ris_add r t x (risT_tail h)⟩
        obtain ⟨q, hq, rfl⟩ := List.mem_map.1 hb
        rcases mem_add r t x q hq with e | e
        · simp only [e]; omega
        · exact risT_head h q e
theorem used_cons (p : Int × List ByteArray) (r : TP) : used (p :: r) = (p.2.length + 2) / 3 + used r := by unfold used; rw [List.map_cons, List.sum_cons]
theorem used_add : ∀ (P : TP) (t : Int) (x : ByteArray), risT P → used (addT P t x) = used P + (if (txt P t).length % 3 = 0 then 1 else 0)
  | [], t, x, _ => by simp [addT, used, txt, look]
  | (k, l) :: r, t, x, h => by
    unfold addT
    by_cases h1 : t = k
    · subst h1
      rw [if_pos rfl, used_cons, used_cons]
      unfold txt
      rw [look_cons_same]
      simp only [Option.getD_some, List.length_append, List.length_cons, List.length_nil]
      split <;> omega
    · rw [if_neg h1]
      by_cases h2 : t < k
      · rw [if_pos h2, used_cons]
        unfold txt
        rw [look_cons_other _ _ h1, look_low (fun q hq => by have := risT_head h q hq; simp only at this; omega)]
        simp
        omega
      · rw [if_neg h2, used_cons, used_cons, used_add r t x (risT_tail h)]
        unfold txt
        rw [look_cons_other _ _ h1]
        omega
theorem used_drop : ∀ (P : TP) (t : Int), risT P → used (without P t) + ((txt P t).length + 2) / 3 = used P
  | [], t, _ => by simp [without, used, txt, look]
  | (k, l) :: r, t, h => by
    by_cases h1 : t = k
    · subst h1
      have hr : without r t = r := by
        unfold without
        refine List.filter_eq_self.2 fun q hq => ?_
        have := risT_head h q hq
        simp only at this
        simp; omega
      have : without ((t, l) :: r) t = without r t := by unfold without; simp [List.filter_cons]
      rw [this, hr, used_cons]
      unfold txt
      rw [look_cons_same]
      simp only [Option.getD_some]
      omega
    · have h1' : ¬ k = t := fun e => h1 e.symm
      have : without ((k, l) :: r) t = (k, l) :: without r t := by unfold without; simp [List.filter_cons, h1']
      rw [this, used_cons, used_cons]
      have ih := used_drop r t (risT_tail h)
      unfold txt at *
      rw [look_cons_other _ _ h1]
      omega
theorem ris_drop {P : TP} (h : risT P) (t : Int) : risT (without P t) := by
  unfold risT without at *
  exact h.sublist (List.Sublist.map _ List.filter_sublist)
theorem txt_drop_same (P : TP) (t : Int) : txt (without P t) t = [] := by unfold txt; rw [look_without_same]; rfl
theorem txt_drop_other (P : TP) {t u : Int} (h : u ≠ t) : txt (without P t) u = txt P u := by unfold txt; rw [look_without_other _ h]
theorem txt_mem {P : TP} {t : Int} (h : txt P t ≠ []) : (t, txt P t) ∈ P := by
  unfold txt at *
  cases hq : look P t with
  | none => rw [hq] at h; exact absurd rfl h
  | some l => exact look_some hq
theorem ris_nodup {P : TP} (h : risT P) : (P.map (·.1)).Nodup := h.imp (fun hab => by omega)
theorem txt_of_mem {P : TP} (h : risT P) {t : Int} {l : List ByteArray} (hm : (t, l) ∈ P) : txt P t = l := by unfold txt; rw [look_mem (ris_nodup h) hm]; rfl

/-! ### Buffers and traces -/
def spansOf (t : Int) (l : List ByteArray) : List Sp := l.mapIdx fun i x => ⟨t, (i : Int) + 1, x⟩
theorem spansOf_len (t : Int) (l : List ByteArray) : (spansOf t l).length = l.length := by unfold spansOf; simp
theorem spansOf_snoc (t : Int) (l : List ByteArray) (x : ByteArray) : spansOf t (l ++ [x]) = spansOf t l ++ [⟨t, (l.length : Int) + 1, x⟩] := by unfold spansOf; simp [List.mapIdx_append]
theorem spansOf_get (t : Int) (l : List ByteArray) (i : Nat) : (spansOf t l)[i]? = (l[i]?).map fun x => ⟨t, (i : Int) + 1, x⟩ := by unfold spansOf; simp
theorem spansOf_mem {t : Int} {l : List ByteArray} {s : Sp} (h : s ∈ spansOf t l) : s.t = t := by
  obtain ⟨i, hi⟩ := List.mem_iff_getElem?.1 h
  rw [spansOf_get] at hi
  obtain ⟨x, _, rfl⟩ := Option.map_eq_some_iff.1 hi
  rfl
theorem spansOf_sorted (t : Int) (l : List ByteArray) : (spansOf t l).Pairwise (fun a b => a.q < b.q) := by
  rw [List.pairwise_iff_getElem]
  intro i j hi hj hij
  have h1 := spansOf_get t l i
  have h2 := spansOf_get t l j
  rw [List.getElem?_eq_getElem hi] at h1
  rw [List.getElem?_eq_getElem hj] at h2
  obtain ⟨x, _, hx⟩ := Option.map_eq_some_iff.1 h1.symm
  obtain ⟨y, _, hy⟩ := Option.map_eq_some_iff.1 h2.symm
  rw [← hx, ← hy]
  simp only
  omega
/-- Sorted, and a permutation of what is strictly sorted: it is that. -/
theorem perm_sorted : ∀ (a b : List Sp), a.Perm b → a.Pairwise (fun x y => x.q ≤ y.q) → b.Pairwise (fun x y => x.q < y.q) → a = b
  | [], b, hp, _, _ => (List.nil_perm.1 hp).symm
  | x :: r, [], hp, _, _ => absurd hp.length_eq (by simp)
  | x :: r, y :: s, hp, ha, hb => by
    rw [List.pairwise_cons] at ha hb
    have hxy : x = y := by
      have hx : x ∈ y :: s := hp.mem_iff.1 (List.mem_cons_self ..)
      have hy : y ∈ x :: r := hp.mem_iff.2 (List.mem_cons_self ..)
      rcases List.mem_cons.1 hx with h | h
      · exact h
      · rcases List.mem_cons.1 hy with h2 | h2
        · exact h2.symm
        · have := hb.1 x h
          have := ha.1 y h2
          omega
    subst hxy
    rw [perm_sorted r s (List.perm_cons x |>.1 hp) ha.2 hb.2]

def nz (L : List Bf) : Nat := (L.filter fun b => decide (0 < b.n)).length
def cnt (L : List Bf) (t : Int) : Nat := (L.filter fun b => b.of t).length
def allOf (L : List Bf) (t : Int) : List Sp := (L.filter fun b => b.of t).flatMap Bf.l
def oneB (a b : Bf) : Prop := 0 < a.n → 0 < b.n → a.a.t = b.a.t → a.n = 3 ∨ b.n = 3

theorem of_iff {b : Bf} {t : Int} : b.of t = true ↔ 0 < b.n ∧ b.a.t = t := by unfold Bf.of; simp
theorem l_len {b : Bf} (h : b.n ≤ 3) : b.l.length = b.n := by unfold Bf.l; simp; omega

theorem sum_ind (a : Int) : ∀ (K : List Int), K.Nodup → (K.map fun t => if a = t then 1 else 0).sum = if a ∈ K then 1 else 0
  | [], _ => rfl
  | k :: r, h => by
    rw [List.nodup_cons] at h
    rw [List.map_cons, List.sum_cons, sum_ind a r h.2]
    by_cases h1 : a = k
    · subst h1; simp [h.1]
    · simp [h1]
theorem sum_add (f g : Int → Nat) : ∀ K : List Int, (K.map fun t => f t + g t).sum = (K.map f).sum + (K.map g).sum
  | [] => rfl
  | k :: r => by rw [List.map_cons, List.sum_cons, List.map_cons, List.sum_cons, List.map_cons, List.sum_cons, sum_add f g r]; omega
theorem nz_sum (K : List Int) (hK : K.Nodup) : ∀ L : List Bf, (∀ b ∈ L, 0 < b.n → b.a.t ∈ K) → nz L = (K.map (cnt L)).sum
  | [], _ => by
    have : cnt [] = fun _ => 0 := rfl
    rw [this]
    induction K with
    | nil => rfl
    | cons k r ih => rw [List.nodup_cons] at hK; rw [List.map_cons, List.sum_cons, ← ih hK.2 (fun b hb => by cases hb)]; rfl
  | b :: r, h => by
    have ih := nz_sum K hK r (fun x hx => h x (List.mem_cons_of_mem _ hx))
    have hc : cnt (b :: r) = fun t => (if b.of t = true then 1 else 0) + cnt r t := by
      funext t
      unfold cnt
      rw [List.filter_cons]
      split
      · rw [List.length_cons]; omega
      · omega
    rw [hc, sum_add, ← ih]
    unfold nz
    rw [List.filter_cons]
    by_cases hb : 0 < b.n
    · rw [if_pos (by simpa using hb), List.length_cons]
      have : (fun t => if b.of t = true then 1 else 0) = fun t => if b.a.t = t then 1 else 0 := by
        funext t
        by_cases ht : b.a.t = t
        · rw [if_pos (of_iff.2 ⟨hb, ht⟩), if_pos ht]
        · rw [if_neg (fun q => ht (of_iff.1 q).2), if_neg ht]
      rw [this, sum_ind _ K hK, if_pos (h b (List.mem_cons_self ..) hb)]
      omega
    · rw [if_neg (by simpa using hb)]
      have : (fun t => if b.of t = true then 1 else 0) = fun _ : Int => 0 := by
        funext t
        rw [if_neg (fun q => hb (of_iff.1 q).1)]
      rw [this]
      have h0 : ∀ K : List Int, (K.map fun _ => 0).sum = 0 := by
        intro K
        induction K with
        | nil => rfl
        | cons k r ih => rw [List.map_cons, List.sum_cons, ih]
      rw [h0]
      omega
theorem cnt_len : ∀ G : List Bf, (∀ b ∈ G, 0 < b.n ∧ b.n ≤ 3) → G.Pairwise (fun a b => a.n = 3 ∨ b.n = 3) → G.length = ((G.flatMap Bf.l).length + 2) / 3
  | [], _, _ => rfl
  | b :: r, h, hp => by
    rw [List.pairwise_cons] at hp
    have ih := cnt_len r (fun x hx => h x (List.mem_cons_of_mem _ hx)) hp.2
    have hb := h b (List.mem_cons_self ..)
    rw [List.flatMap_cons, List.length_append, List.length_cons, l_len hb.2]
    by_cases h3 : b.n = 3
    · omega
    · have hall : ∀ s : List Bf, (∀ x ∈ s, x.n = 3) → (s.flatMap Bf.l).length = 3 * s.length := by
        intro s hs
        induction s with
        | nil => rfl
        | cons x r ih2 =>
          have hx := hs x (List.mem_cons_self ..)
          rw [List.flatMap_cons, List.length_append, ih2 (fun y hy => hs y (List.mem_cons_of_mem _ hy)), l_len (by omega), List.length_cons]; omega
      have := hall r (fun x hx => by rcases hp.1 x hx with q | q; exact absurd q h3; exact q)
      omega

/-- The buffers are the rows of texts. -/
structure PI (N : Nat) (L : List Bf) (P : TP) : Prop where
  n : L.length = N
  n3 : ∀ b ∈ L, b.n ≤ 3
  ris : risT P
  ne : ∀ p ∈ P, p.2 ≠ []
  rng : ∀ p ∈ P, 1 ≤ p.1 ∧ p.1 ≤ 65535
  perm : ∀ t, (allOf L t).Perm (spansOf t (txt P t))
  one : L.Pairwise oneB

theorem PI.cnt {N : Nat} {L : List Bf} {P : TP} (h : PI N L P) (t : Int) : cnt L t = ((txt P t).length + 2) / 3 := by
  have h1 : ∀ b ∈ L.filter (fun b => b.of t), 0 < b.n ∧ b.n ≤ 3 := fun b hb => by
    rw [List.mem_filter] at hb
    exact ⟨(of_iff.1 hb.2).1, h.n3 b hb.1⟩
  have h2 : (L.filter fun b => b.of t).Pairwise (fun a b => a.n = 3 ∨ b.n = 3) := by
    have h1 := h.one.sublist (List.filter_sublist (p := fun b => b.of t))
    refine (List.Pairwise.and_mem.1 h1).imp ?_
    rintro a b ⟨ha, hb, hab⟩
    rw [List.mem_filter] at ha hb
    have h2 := of_iff.1 ha.2
    have h3 := of_iff.1 hb.2
    exact hab h2.1 h3.1 (h2.2.trans h3.2.symm)
  unfold Go.Proofs.YtppmednmcbjafaaGreat.cnt
  rw [cnt_len _ h1 h2]
  have := (h.perm t).length_eq
  unfold allOf at this
  rw [this, spansOf_len]
theorem PI.key {N : Nat} {L : List Bf} {P : TP} (h : PI N L P) {b : Bf} (hb : b ∈ L) (hn : 0 < b.n) : txt P b.a.t ≠ [] := by
  intro q
  have := h.cnt b.a.t
  rw [q] at this
  have hm : b ∈ L.filter fun x => x.of b.a.t := List.mem_filter.2 ⟨hb, of_iff.2 ⟨hn, rfl⟩⟩
  have h2 := List.length_pos_of_mem hm
  have h3 : Go.Proofs.YtppmednmcbjafaaGreat.cnt L b.a.t = 0 := this
  unfold Go.Proofs.YtppmednmcbjafaaGreat.cnt at h3
  omega
theorem PI.used {N : Nat} {L : List Bf} {P : TP} (h : PI N L P) : nz L = Go.Proofs.YtppmednmcbjafaaGreat.used P := by
  rw [nz_sum (P.map (·.1)) (ris_nodup h.ris) L (fun b hb hn => List.mem_map_of_mem (txt_mem (h.key hb hn)))]
  unfold Go.Proofs.YtppmednmcbjafaaGreat.used
  rw [List.map_map]
  congr 1
  refine List.map_congr_left fun p hp => ?_
  simp only [Function.comp]
  rw [h.cnt, txt_of_mem h.ris (show (p.1, p.2) ∈ P from hp)]
theorem nz_le (L : List Bf) : nz L ≤ L.length := List.length_filter_le _ _
end Go.Proofs.YtppmednmcbjafaaGreat
