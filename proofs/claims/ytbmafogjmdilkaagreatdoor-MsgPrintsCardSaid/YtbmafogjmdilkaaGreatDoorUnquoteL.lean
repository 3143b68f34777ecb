/-
  Plain mathematics: quoted texts read back, by the program's way and by the reference's.
-/
import Derived.Test.YtbmafogjmdilkaaGreatDoorQuoteL
set_option linter.unusedVariables false
set_option linter.unusedSimpArgs false
set_option maxRecDepth 100000
namespace Go.Proofs.YtbmafogjmdilkaaGreatDoor
open Go Go.Lib

/-- what a piece is like -/
def Pc (c : List UInt8) : Prop := c ≠ [] ∧ (dec c).2 = c.length

/-- one step of a reader: what it puts behind, and how many bytes that takes -/
structure Good (u : List UInt8 → Option (List UInt8 × Nat)) : Prop where
  plain : ∀ x t, x ≠ 92 → u (x :: t) = some ([x], 1)
  bad : ∀ (b : UInt8) rest, 128 ≤ b.toNat → u ([92, 120, hexD (b.toNat / 16), hexD (b.toNat % 16)] ++ rest) = some ([b], 4)
  slash : ∀ rest, u ([92, 92] ++ rest) = some ([92], 2)
  num : ∀ r rest, r ≤ 1114111 → (r < 55296 ∨ 57344 ≤ r) → u ([92, 117] ++ hexL r ++ [46] ++ rest) = some (encL r, (hexL r).length + 3)

def unqF (u : List UInt8 → Option (List UInt8 × Nat)) : Nat → List UInt8 → List UInt8 → Option (List UInt8)
  | 0, out, rest => if rest = [] then some out else none
  | f + 1, out, rest => if rest = [] then some out else match u rest with
    | none => none
    | some (n, k) => unqF u f (out ++ n) (rest.drop k)

theorem dec_valid (l : List UInt8) : (dec l).1 < 55296 ∨ (57344 ≤ (dec l).1 ∧ (dec l).1 ≤ 1114111) := by
  have := decodeN_valid l.length (l.getD 0 0).toNat (l.getD 1 0).toNat (l.getD 2 0).toNat (l.getD 3 0).toNat (UInt8.toNat_lt _)
  unfold dec
  omega

theorem enc_no (r : Nat) (h : r ≠ 92) (h2 : r ≤ 1114111) : ∀ x ∈ encL r, x ≠ 92 := by
  intro x hx e
  subst e
  unfold encL at hx
  split at hx
  · simp at hx
    have := congrArg UInt8.toNat hx
    simp at this
    omega
  split at hx
  · simp at hx
    rcases hx with hx | hx <;> (have := congrArg UInt8.toNat hx; simp at this; omega)
  split at hx
  · simp at hx
    rcases hx with hx | hx | hx <;> (have := congrArg UInt8.toNat hx; simp at this; omega)
  · simp at hx
    rcases hx with hx | hx | hx | hx <;> (have := congrArg UInt8.toNat hx; simp at this; omega)

theorem bad_one (c : List UInt8) (h : Pc c) (hb : okD c = false) : ∃ b : UInt8, c = [b] ∧ 128 ≤ b.toNat := by
  have hw := h.2
  rw [(okD_false c).1 hb] at hw
  match c, hw with
  | [b], _ =>
    refine ⟨b, rfl, ?_⟩
    rcases Nat.lt_or_ge b.toNat 128 with h1 | h1
    · exfalso
      have h2 := (okD_false [b]).1 hb
      unfold dec decodeN at h2
      simp [h1] at h2
      omega
    · exact h1

theorem qC_bad (b : UInt8) (h : okD [b] = false) : qC [b] = [92, 120, hexD (b.toNat / 16), hexD (b.toNat % 16)] := by
  unfold qC; rw [if_pos h]; rfl
theorem qC_slash (c : List UInt8) (h : okD c = true) (h2 : (dec c).1 = 92) : qC c = [92, 92] := by
  unfold qC; rw [if_neg (by simp [h]), if_pos h2]
theorem qC_plain (c : List UInt8) (h : okD c = true) (h2 : (dec c).1 ≠ 92) (h3 : printR (dec c).1 = true) : qC c = c := by
  unfold qC; rw [if_neg (by simp [h]), if_neg h2, if_pos h3]
theorem qC_num (c : List UInt8) (h : okD c = true) (h2 : (dec c).1 ≠ 92) (h3 : ¬ printR (dec c).1 = true) : qC c = [92, 117] ++ hexL (dec c).1 ++ [46] := by
  unfold qC; rw [if_neg (by simp [h]), if_neg h2, if_neg h3]

theorem unqF_quote {u : List UInt8 → Option (List UInt8 × Nat)} (hu : Good u) : ∀ (f : Nat) (out a : List UInt8) (cs : List (List UInt8)), (∀ x ∈ a, x ≠ 92) → (∀ c ∈ cs, Pc c) → (a ++ cs.flatMap qC).length ≤ f →
    unqF u f out (a ++ cs.flatMap qC) = some (out ++ a ++ cs.flatten) := by
  intro f
  induction f with
  | zero =>
    intro out a cs ha hc hl
    have hn : a ++ cs.flatMap qC = [] := List.eq_nil_of_length_eq_zero (by omega)
    obtain ⟨rfl, h2⟩ := List.append_eq_nil_iff.1 hn
    cases cs with
    | nil => simp [unqF]
    | cons c cs =>
      exfalso
      rw [List.flatMap_cons] at h2
      have h3 := (List.append_eq_nil_iff.1 h2).1
      unfold qC at h3
      have := (hc c (by simp)).1
      split at h3
      · simp at h3
      split at h3
      · simp at h3
      split at h3
      · exact this h3
      · simp at h3
  | succ f ih =>
    have main : ∀ (out : List UInt8) (x : UInt8) (a : List UInt8) (cs : List (List UInt8)), x ≠ 92 → (∀ x ∈ a, x ≠ 92) → (∀ c ∈ cs, Pc c) → (x :: a ++ cs.flatMap qC).length ≤ f + 1 →
        unqF u (f + 1) out (x :: a ++ cs.flatMap qC) = some (out ++ (x :: a) ++ cs.flatten) := by
      intro out x a cs hx ha hc hl
      simp only [unqF, List.cons_append, reduceCtorEq, if_false, hu.plain x _ hx, List.drop_succ_cons, List.drop_zero]
      rw [ih (out ++ [x]) a cs ha hc (by simp at hl ⊢; omega)]
      simp
    intro out a cs ha hc hl
    cases a with
    | cons x a => exact main out x a cs (ha x (by simp)) (fun y hy => ha y (by simp [hy])) hc hl
    | nil =>
      cases cs with
      | nil => simp [unqF]
      | cons c cs =>
        have hpc := hc c (by simp)
        have hcs : ∀ c ∈ cs, Pc c := fun d hd => hc d (by simp [hd])
        rw [List.flatMap_cons] at hl ⊢
        rw [List.nil_append] at hl ⊢
        cases hok : okD c with
        | false =>
          obtain ⟨b, rfl, hb⟩ := bad_one c hpc hok
          have h1 := hu.bad b (cs.flatMap qC) hb
          rw [qC_bad b hok] at hl ⊢
          rw [unqF, if_neg (by simp), h1]
          simp only [List.cons_append, List.nil_append, List.drop_succ_cons, List.drop_zero] at hl ⊢
          have := ih (out ++ [b]) [] cs (by simp) hcs (by simp only [List.length_cons, List.nil_append] at hl ⊢; omega)
          rw [List.nil_append] at this
          rw [this]
          simp
        | true =>
          have he := enc_dec c hpc.1 hpc.2 hok
          by_cases h92 : (dec c).1 = 92
          · have hc1 : c = [92] := by rw [← he, h92]; rfl
            rw [qC_slash c hok h92] at hl ⊢
            have h1 := hu.slash (cs.flatMap qC)
            rw [unqF, if_neg (by simp), h1]
            simp only [List.cons_append, List.nil_append, List.drop_succ_cons, List.drop_zero] at hl ⊢
            have := ih (out ++ [92]) [] cs (by simp) hcs (by simp only [List.length_cons, List.nil_append] at hl ⊢; omega)
            rw [List.nil_append] at this
            rw [this, hc1]
            simp
          · by_cases hp : printR (dec c).1 = true
            · rw [qC_plain c hok h92 hp] at hl ⊢
              have hno : ∀ x ∈ c, x ≠ 92 := by
                rw [← he]
                exact enc_no _ h92 (dec_rune c)
              obtain ⟨x, t, hxt⟩ : ∃ x t, c = x :: t := by
                cases c with
                | nil => exact absurd rfl hpc.1
                | cons x t => exact ⟨x, t, rfl⟩
              rw [hxt] at hno hl ⊢
              rw [main out x t cs (hno x (by simp)) (fun y hy => hno y (by simp [hy])) hcs hl]
              simp
            · rw [qC_num c hok h92 hp] at hl ⊢
              have h1 := hu.num (dec c).1 (cs.flatMap qC) (dec_rune c) (by have := dec_valid c; omega)
              rw [unqF, if_neg (by simp), h1]
              have hd : ([92, 117] ++ hexL (dec c).1 ++ [46] ++ cs.flatMap qC).drop ((hexL (dec c).1).length + 3) = cs.flatMap qC := by
                rw [List.drop_append_of_le_length (by simp), List.drop_of_length_le (by simp), List.nil_append]
              simp only [hd]
              have := ih (out ++ encL (dec c).1) [] cs (by simp) hcs (by rw [List.nil_append]; simp only [List.length_append, List.length_cons, List.length_nil] at hl; omega)
              rw [List.nil_append] at this
              rw [this, he]
              simp

theorem chunks_pc (l : List UInt8) : ∀ c ∈ chunks l, Pc c := fun c h => chunk_dec h

theorem unqF_any {u : List UInt8 → Option (List UInt8 × Nat)} (hu : Good u) (l : List UInt8) : unqF u (quoteL l).length [] (quoteL l) = some l := by
  have := unqF_quote hu (quoteL l).length [] [] (chunks l) (by simp) (chunks_pc l) (Nat.le_refl _)
  rw [chunks_flat] at this
  exact this

/-- read back: only what is quoted holds -/
def unqP (u : List UInt8 → Option (List UInt8 × Nat)) (s : List UInt8) : Option (List UInt8) :=
  match unqF u s.length [] s with
  | some o => if quoteL o = s then some o else none
  | none => none
theorem unqP_quote {u : List UInt8 → Option (List UInt8 × Nat)} (hu : Good u) (l : List UInt8) : unqP u (quoteL l) = some l := by
  unfold unqP
  rw [unqF_any hu l]
  simp
theorem unqP_some {u : List UInt8 → Option (List UInt8 × Nat)} {s t : List UInt8} (h : unqP u s = some t) : quoteL t = s := by
  unfold unqP at h
  split at h
  · split at h
    · injection h with h; subst h; assumption
    · cases h
  · cases h
/-- both ways are one -/
theorem unqP_eq {u v : List UInt8 → Option (List UInt8 × Nat)} (hu : Good u) (hv : Good v) (s : List UInt8) : unqP u s = unqP v s := by
  cases h : unqP u s with
  | some t =>
    have := unqP_some h
    subst this
    rw [unqP_quote hv]
  | none =>
    cases h2 : unqP v s with
    | none => rfl
    | some t =>
      have := unqP_some h2
      subst this
      rw [unqP_quote hu] at h
      cases h
theorem quote_inj {a b : List UInt8} {u : List UInt8 → Option (List UInt8 × Nat)} (hu : Good u) (h : quoteL a = quoteL b) : a = b := by
  have h1 := unqP_quote hu a
  rw [h, unqP_quote hu b] at h1
  injection h1 with h1
  exact h1.symm

/-! ### the program's step -/
def dig16 (b : UInt8) : Option Nat :=
  if 48 ≤ b.toNat ∧ b.toNat ≤ 57 then some (b.toNat - 48) else if 97 ≤ b.toNat ∧ b.toNat ≤ 102 then some (b.toNat - 87) else if 65 ≤ b.toNat ∧ b.toNat ≤ 70 then some (b.toNat - 55) else none
def p16 (mx : Nat) (acc : Nat) : List UInt8 → Option Nat
  | [] => some acc
  | b :: t => match dig16 b with
    | none => none
    | some d => if mx < acc * 16 + d then none else p16 mx (acc * 16 + d) t
def parse16 (mx : Nat) (l : List UInt8) : Option Nat := if l = [] then none else p16 mx 0 l
theorem p16_of_rd (mx : Nat) : ∀ (l : List UInt8) (acc n : Nat), rdHex acc l = some n → n ≤ mx → p16 mx acc l = some n ∧ acc ≤ n
  | [], acc, n, h, hn => by
    simp [rdHex] at h
    subst h
    exact ⟨rfl, Nat.le_refl _⟩
  | b :: t, acc, n, h, hn => by
    unfold rdHex at h
    cases hd : unhex b with
    | none => rw [hd] at h; cases h
    | some d =>
      rw [hd] at h
      obtain ⟨h1, h2⟩ := p16_of_rd mx t _ n h hn
      have hg : dig16 b = some d := by
        unfold unhex at hd
        unfold dig16
        split at hd
        · rw [if_pos (by assumption)]; exact hd
        · rw [if_neg (by assumption)]
          split at hd
          · rw [if_pos (by assumption)]; exact hd
          · cases hd
      refine ⟨?_, by omega⟩
      unfold p16
      rw [hg]
      simp only
      rw [if_neg (by omega), h1]

theorem p16_le (mx : Nat) : ∀ (l : List UInt8) (acc n : Nat), p16 mx acc l = some n → acc ≤ mx → n ≤ mx
  | [], acc, n, h, ha => by simp [p16] at h; omega
  | b :: t, acc, n, h, ha => by
    unfold p16 at h
    split at h
    · cases h
    · split at h
      · cases h
      · exact p16_le mx t _ n h (by omega)
theorem parse16_le {mx n : Nat} {l : List UInt8} (h : parse16 mx l = some n) : n ≤ mx := by
  unfold parse16 at h
  split at h
  · cases h
  · exact p16_le mx l 0 n h (Nat.zero_le _)

/-- where the first such byte stands; none: nowhere -/
def idxB (b : UInt8) : List UInt8 → Option Nat
  | [] => none
  | x :: t => if x = b then some 0 else (idxB b t).map (· + 1)
theorem idxB_app (b : UInt8) (a t : List UInt8) (h : ∀ x ∈ a, x ≠ b) : idxB b (a ++ b :: t) = some a.length := by
  induction a with
  | nil => simp [idxB]
  | cons x a ih =>
    have := ih (fun y hy => h y (by simp [hy]))
    simp [idxB, h x (by simp), this]
theorem idxB_lt {b : UInt8} : ∀ {l : List UInt8} {k : Nat}, idxB b l = some k → k < l.length ∧ l.getD k 0 = b
  | [], k, h => by simp [idxB] at h
  | x :: t, k, h => by
    unfold idxB at h
    split at h
    · injection h with h; subst h; simp; assumption
    · rw [Option.map_eq_some_iff] at h
      obtain ⟨j, h1, rfl⟩ := h
      have := idxB_lt h1
      refine ⟨by simp; omega, ?_⟩
      rw [List.getD_cons_succ]; exact this.2

def validRn (r : Nat) : Bool := decide (r < 55296) || (decide (57344 ≤ r) && decide (r ≤ 1114111))
/-- a rune's bytes, or those of fffd -/
def encA (r : Nat) : List UInt8 := if validRn r = true then encL r else [239, 191, 189]
theorem encL_len (r : Nat) : 1 ≤ (encL r).length ∧ (encL r).length ≤ 4 := by
  unfold encL
  repeat' split
  all_goals simp
theorem encA_len (r : Nat) : 1 ≤ (encA r).length ∧ (encA r).length ≤ 4 := by
  unfold encA
  split
  · exact encL_len r
  · simp

def unq1 (l : List UInt8) : Option (List UInt8 × Nat) :=
  if l.getD 0 0 ≠ 92 then some ([l.getD 0 0], 1)
  else if l.getD 1 0 = 92 then some ([92], 2)
  else if l.getD 1 0 = 120 ∧ 4 ≤ l.length then (parse16 255 ((l.take 4).drop 2)).map fun n => ([UInt8.ofNat n], 4)
  else if l.getD 1 0 = 117 then
    match idxB 46 l with
    | none => none
    | some e => (parse16 2147483647 ((l.take e).drop 2)).map fun r => (encA r, e + 1)
  else none

theorem hexL_mem (n : Nat) : ∀ b ∈ hexL n, b ≠ 92 ∧ b ≠ 46 := by
  intro b hb
  obtain ⟨k, hk, rfl⟩ := hexF_mem 8 n b hb
  exact hexD_ne k hk
theorem hexL_len (n : Nat) : 1 ≤ (hexL n).length ∧ (hexL n).length ≤ 9 := hexF_len 8 n

theorem good_unq1 : Good unq1 where
  plain x t h := by simp [unq1, h]
  bad b rest hb := by
    have hlt := UInt8.toNat_lt b
    have h1 : rdHex 0 [hexD (b.toNat / 16), hexD (b.toNat % 16)] = some b.toNat := by
      simp only [rdHex, unhex_hexD _ (show b.toNat / 16 < 16 by omega), unhex_hexD _ (show b.toNat % 16 < 16 by omega)]
      congr 1; omega
    have h2 := (p16_of_rd 255 _ 0 _ h1 (by omega)).1
    have e1 : (UInt8.ofNat b.toNat) = b := by simp
    simp [unq1, parse16, h2]
  slash rest := by simp [unq1]
  num r rest hr hv := by
    have h1 : rdHex 0 (hexL r) = some r := rdHex_hexF 8 r (by omega)
    have h2 := (p16_of_rd 2147483647 _ 0 _ h1 (by omega)).1
    have hl := hexL_len r
    have hi : idxB 46 ([92, 117] ++ hexL r ++ [46] ++ rest) = some ((hexL r).length + 2) := by
      have := idxB_app 46 ([92, 117] ++ hexL r) rest (by
        intro x hx
        simp only [List.mem_append, List.mem_cons, List.not_mem_nil, or_false] at hx
        rcases hx with (rfl | rfl) | hx
        · decide
        · decide
        · exact (hexL_mem r x hx).2)
      rw [show (([92, 117] : List UInt8) ++ hexL r).length = (hexL r).length + 2 by simp] at this
      rw [← this]
      simp
    have ht : (([92, 117] ++ hexL r ++ [46] ++ rest).take ((hexL r).length + 2)).drop 2 = hexL r := by
      have : ([92, 117] ++ hexL r ++ [46] ++ rest) = ([92, 117] ++ hexL r) ++ ([46] ++ rest) := by simp
      rw [this, List.take_append_of_le_length (by simp), List.take_of_length_le (by simp)]
      simp
    have hne : hexL r ≠ [] := List.length_pos_iff.1 (by omega)
    have hva : validRn r = true := by
      unfold validRn
      simp only [Bool.or_eq_true, Bool.and_eq_true, decide_eq_true_eq]
      omega
    have g0 : ([92, 117] ++ hexL r ++ [46] ++ rest).getD 0 0 = 92 := by simp
    have g1 : ([92, 117] ++ hexL r ++ [46] ++ rest).getD 1 0 = 117 := by simp
    unfold unq1
    rw [g0, g1, hi]
    simp only [ne_eq, not_true_eq_false, if_false, ht]
    rw [if_neg (by decide), if_neg (by intro h; exact absurd h.1 (by decide))]
    simp [parse16, hne, h2, encA, hva]

theorem unq1_bound {l n : List UInt8} {k : Nat} (hl : l ≠ []) (h : unq1 l = some (n, k)) : 1 ≤ k ∧ k ≤ l.length ∧ 1 ≤ n.length ∧ n.length ≤ 4 := by
  have hp := List.length_pos_iff.2 hl
  have hlen2 : ∀ b : UInt8, b ≠ 0 → l.getD 1 0 = b → 2 ≤ l.length := by
    intro b hb h
    rcases Nat.lt_or_ge l.length 2 with h1 | h1
    · exfalso
      have : l.getD 1 0 = 0 := by simp [List.getD, List.getElem?_eq_none (show l.length ≤ 1 by omega)]
      rw [this] at h
      exact hb h.symm
    · exact h1
  unfold unq1 at h
  split at h
  · injection h with h
    simp only [Prod.mk.injEq] at h
    obtain ⟨rfl, rfl⟩ := h
    exact ⟨Nat.le_refl _, hp, by simp, by simp⟩
  split at h
  · rename_i h2
    have := hlen2 92 (by decide) h2
    injection h with h
    simp only [Prod.mk.injEq] at h
    obtain ⟨rfl, rfl⟩ := h
    exact ⟨by omega, by omega, by simp, by simp⟩
  split at h
  · rename_i h2
    rw [Option.map_eq_some_iff] at h
    obtain ⟨x, _, h⟩ := h
    simp only [Prod.mk.injEq] at h
    obtain ⟨rfl, rfl⟩ := h
    exact ⟨by omega, by omega, by simp, by simp⟩
  split at h
  · split at h
    · cases h
    · rename_i e he
      rw [Option.map_eq_some_iff] at h
      obtain ⟨x, _, h⟩ := h
      simp only [Prod.mk.injEq] at h
      obtain ⟨rfl, rfl⟩ := h
      have := (idxB_lt he).1
      exact ⟨by omega, by omega, (encA_len x).1, (encA_len x).2⟩
  · cases h

/-! ### the reference's step -/
/-- digits, at most so many: what they are, and how many -/
def scanH : Nat → Nat → List UInt8 → Nat × Nat
  | 0, n, _ => (n, 0)
  | f + 1, n, l => match l with
    | [] => (n, 0)
    | b :: t => match unhex b with
      | none => (n, 0)
      | some d => ((scanH f (16 * n + d) t).1, (scanH f (16 * n + d) t).2 + 1)
def runq1 (l : List UInt8) : Option (List UInt8 × Nat) :=
  if l.getD 0 0 ≠ 92 then some ([l.getD 0 0], 1)
  else if l.length < 2 then none
  else if l.getD 1 0 = 92 then some ([92], 2)
  else if l.getD 1 0 = 120 then
    if l.length < 4 then none
    else match unhex (l.getD 2 0), unhex (l.getD 3 0) with
      | some a, some b => some ([UInt8.ofNat (16 * a + b)], 4)
      | _, _ => none
  else if l.getD 1 0 = 117 then
    let q := scanH 7 0 (l.drop 2)
    if l.length ≤ q.2 + 2 ∨ l.getD (q.2 + 2) 0 ≠ 46 ∨ q.2 = 0 ∨ 1114111 < q.1 then none
    else some (encL q.1, q.2 + 3)
  else none

theorem scanH_app : ∀ (f acc : Nat) (l rest : List UInt8) (n : Nat), l.length ≤ f → rdHex acc l = some n → scanH f acc (l ++ 46 :: rest) = (n, l.length)
  | 0, acc, l, rest, n, hl, h => by
    have : l = [] := List.eq_nil_of_length_eq_zero (by omega)
    subst this
    simp [rdHex] at h
    subst h
    rfl
  | f + 1, acc, [], rest, n, hl, h => by
    simp [rdHex] at h
    subst h
    have : unhex 46 = none := by decide
    simp [scanH, this]
  | f + 1, acc, b :: t, rest, n, hl, h => by
    unfold rdHex at h
    cases hd : unhex b with
    | none => rw [hd] at h; cases h
    | some d =>
      rw [hd] at h
      simp only [List.length_cons] at hl
      have := scanH_app f (acc * 16 + d) t rest n (by omega) h
      simp only [List.cons_append, scanH, hd]
      rw [show 16 * acc + d = acc * 16 + d by omega, this]
      simp

theorem hexF_short : ∀ (f k n : Nat), n < 16 ^ (k + 1) → k ≤ f → (hexF f n).length ≤ k + 1
  | 0, k, n, h, hk => by simp [hexF]
  | f + 1, k, n, h, hk => by
    unfold hexF
    split
    · simp
    · rename_i h1
      cases k with
      | zero => simp at h; omega
      | succ k =>
        have := hexF_short f k (n / 16) (by rw [Nat.pow_succ] at h; omega) (by omega)
        simp; omega
theorem hexL_short (n : Nat) (h : n ≤ 1114111) : (hexL n).length ≤ 6 := hexF_short 8 5 n (by omega) (by omega)

theorem good_runq1 : Good runq1 where
  plain x t h := by simp [runq1, h]
  bad b rest hb := by
    have hlt := UInt8.toNat_lt b
    have e1 : 16 * (b.toNat / 16) + b.toNat % 16 = b.toNat := by omega
    simp [runq1, unhex_hexD _ (show b.toNat / 16 < 16 by omega), unhex_hexD _ (show b.toNat % 16 < 16 by omega), e1]
  slash rest := by simp [runq1]
  num r rest hr hv := by
    have h1 : rdHex 0 (hexL r) = some r := rdHex_hexF 8 r (by omega)
    have hl := hexL_len r
    have hs := hexL_short r hr
    have hq := scanH_app 7 0 (hexL r) rest r (by omega) h1
    have hd : ([92, 117] ++ hexL r ++ [46] ++ rest).drop 2 = hexL r ++ 46 :: rest := by simp
    have g0 : ([92, 117] ++ hexL r ++ [46] ++ rest).getD 0 0 = 92 := by simp
    have g1 : ([92, 117] ++ hexL r ++ [46] ++ rest).getD 1 0 = 117 := by simp
    have g2 : ([92, 117] ++ hexL r ++ [46] ++ rest).getD ((hexL r).length + 2) 0 = 46 := by
      have : ([92, 117] ++ hexL r ++ [46] ++ rest) = ([92, 117] ++ hexL r) ++ (46 :: rest) := by simp
      rw [this]
      simp [List.getD, List.getElem?_append_right]
    have hlen : ([92, 117] ++ hexL r ++ [46] ++ rest).length = (hexL r).length + 3 + rest.length := by simp; omega
    unfold runq1
    rw [g0, g1, hd, hq, hlen]
    simp only [ne_eq, not_true_eq_false, if_false]
    rw [if_neg (by omega), if_neg (by decide), if_neg (by decide), if_pos trivial, if_neg]
    rw [g2]
    simp only [not_true_eq_false, false_or, not_or]
    omega

theorem scanH_bd : ∀ (f acc : Nat) (l : List UInt8), (scanH f acc l).2 ≤ f ∧ (scanH f acc l).2 ≤ l.length
  | 0, acc, l => by simp [scanH]
  | f + 1, acc, [] => by simp [scanH]
  | f + 1, acc, b :: t => by
    simp only [scanH]
    cases unhex b with
    | none => simp
    | some d =>
      have := scanH_bd f (16 * acc + d) t
      simp only [List.length_cons]
      omega
theorem runq1_bound {l n : List UInt8} {k : Nat} (hl : l ≠ []) (h : runq1 l = some (n, k)) : 1 ≤ k ∧ k ≤ l.length ∧ 1 ≤ n.length ∧ n.length ≤ 4 := by
  have hp := List.length_pos_iff.2 hl
  unfold runq1 at h
  split at h
  · injection h with h
    simp only [Prod.mk.injEq] at h
    obtain ⟨rfl, rfl⟩ := h
    exact ⟨Nat.le_refl _, hp, by simp, by simp⟩
  split at h
  · cases h
  split at h
  · injection h with h
    simp only [Prod.mk.injEq] at h
    obtain ⟨rfl, rfl⟩ := h
    exact ⟨by omega, by omega, by simp, by simp⟩
  split at h
  · split at h
    · cases h
    · split at h
      · injection h with h
        simp only [Prod.mk.injEq] at h
        obtain ⟨rfl, rfl⟩ := h
        exact ⟨by omega, by omega, by simp, by simp⟩
      · cases h
  split at h
  · simp only at h
    split at h
    · cases h
    · injection h with h
      simp only [Prod.mk.injEq] at h
      obtain ⟨rfl, rfl⟩ := h
      exact ⟨by omega, by omega, (encL_len _).1, (encL_len _).2⟩
  · cases h
end Go.Proofs.YtbmafogjmdilkaaGreatDoor
