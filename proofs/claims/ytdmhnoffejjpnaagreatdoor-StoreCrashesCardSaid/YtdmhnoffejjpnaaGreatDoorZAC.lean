/-
  Plain mathematics: quoted texts read back, by the program's way and by the reference's.
  Plain mathematics: the order of texts, rune by rune; whether a text may be a name.
  A range over a string, wherever its iterator lies; the package-level variables that the walks read.
-/
import Derived.Test.YtdmhnoffejjpnaaGreatDoorZAB
import Derived.Lib.Bytealg
import Derived.Test.YtdmhnoffejjpnaaGreatDoorZAA
import Derived.Laws.RangeAny
section
set_option linter.unusedVariables false
set_option linter.unusedSimpArgs false
set_option maxRecDepth 100000
namespace Go.Proofs.YtdmhnoffejjpnaaGreatDoor
open Go Go.Lib

/-- what a piece is like -/
def Pc (c : List UInt8) : Prop := c ≠ [] ∧ (dec c).2 = c.length

/-- one step of a reader: what it puts behind, and how many bytes that takes -/
structure Good (u : List UInt8 → Option (List UInt8 × Nat)) : Prop where
  plain : ∀ x t, x ≠ 92 → u (x :: t) = some ([x], 1)
  bad : ∀ (b : UInt8) rest, 128 ≤ b.toNat → u ([92, 120, hexD (b.toNat / 16), hexD (b.toNat % 16)] ++ rest) = some ([b], 4)
  slash : ∀ rest, u ([92, 92] ++ rest) = some ([92], 2)
  num : ∀ r rest, r ≤ 1114111 → (r < 55296 ∨ 57344 ≤ r) → u ([92, 117] ++ hexL r ++ [46] ++ rest) = some (encL r, (hexL r).length + 3)

def unqF (u : List UInt8 → Option (List UInt8 × Nat)) : Nat → List UInt8 → List UInt8 → Option (List UInt8)
  | 0, out, rest => if rest = [] then some out else none
  | f + 1, out, rest => if rest = [] then some out else match u rest with
    | none => none
    | some (n, k) => unqF u f (out ++ n) (rest.drop k)

theorem dec_valid (l : List UInt8) : (dec l).1 < 55296 ∨ (57344 ≤ (dec l).1 ∧ (dec l).1 ≤ 1114111) := by
  have := decodeN_valid l.length (l.getD 0 0).toNat (l.getD 1 0).toNat (l.getD 2 0).toNat (l.getD 3 0).toNat (UInt8.toNat_lt _)
  unfold dec
  omega

theorem enc_no (r : Nat) (h : r ≠ 92) (h2 : r ≤ 1114111) : ∀ x ∈ encL r, x ≠ 92 := by
  intro x hx e
  subst e
  unfold encL at hx
  split at hx
  · simp at hx
    have := congrArg UInt8.toNat hx
    simp at this
    omega
  split at hx
  · simp at hx
    rcases hx with hx | hx <;> (have := congrArg UInt8.toNat hx; simp at this; omega)
  split at hx
  · simp at hx
    rcases hx with hx | hx | hx <;> (have := congrArg UInt8.toNat hx; simp at this; omega)
  · simp at hx
    rcases hx with hx | hx | hx | hx <;> (have := congrArg UInt8.toNat hx; simp at this; omega)

theorem bad_one (c : List UInt8) (h : Pc c) (hb : okD c = false) : ∃ b : UInt8, c = [b] ∧ 128 ≤ b.toNat := by
  have hw := h.2
  rw [(okD_false c).1 hb] at hw
  match c, hw with
  | [b], _ =>
    refine ⟨b, rfl, ?_⟩
    rcases Nat.lt_or_ge b.toNat 128 with h1 | h1
    · exfalso
      have h2 := (okD_false [b]).1 hb
      unfold dec decodeN at h2
      simp [h1] at h2
      omega
    · exact h1

theorem qC_bad (b : UInt8) (h : okD [b] = false) : qC [b] = [92, 120, hexD (b.toNat / 16), hexD (b.toNat % 16)] := by
  unfold qC; rw [if_pos h]; rfl
theorem qC_slash (c : List UInt8) (h : okD c = true) (h2 : (dec c).1 = 92) : qC c = [92, 92] := by
  unfold qC; rw [if_neg (by simp [h]), if_pos h2]
theorem qC_plain (c : List UInt8) (h : okD c = true) (h2 : (dec c).1 ≠ 92) (h3 : printR (dec c).1 = true) : qC c = c := by
  unfold qC; rw [if_neg (by simp [h]), if_neg h2, if_pos h3]
theorem qC_num (c : List UInt8) (h : okD c = true) (h2 : (dec c).1 ≠ 92) (h3 : ¬ printR (dec c).1 = true) : qC c = [92, 117] ++ hexL (dec c).1 ++ [46] := by
  unfold qC; rw [if_neg (by simp [h]), if_neg h2, if_neg h3]

theorem unqF_quote {u : List UInt8 → Option (List UInt8 × Nat)} (hu : Good u) : ∀ (f : Nat) (out a : List UInt8) (cs : List (List UInt8)), (∀ x ∈ a, x ≠ 92) → (∀ c ∈ cs, Pc c) → (a ++ cs.flatMap qC).length ≤ f →
    unqF u f out (a ++ cs.flatMap qC) = some (out ++ a ++ cs.flatten) := by
  intro f
  induction f with
  | zero =>
    intro out a cs ha hc hl
    have hn : a ++ cs.flatMap qC = [] := List.eq_nil_of_length_eq_zero (by omega)
    obtain ⟨rfl, h2⟩ := List.append_eq_nil_iff.1 hn
    cases cs with
    | nil => simp [unqF]
    | cons c cs =>
      exfalso
      rw [List.flatMap_cons] at h2
      have h3 := (List.append_eq_nil_iff.1 h2).1
      unfold qC at h3
      have := (hc c (by simp)).1
      split at h3
      · simp at h3
      split at h3
      · simp at h3
      split at h3
      · exact this h3
      · simp at h3
  | succ f ih =>
    have main : ∀ (out : List UInt8) (x : UInt8) (a : List UInt8) (cs : List (List UInt8)), x ≠ 92 → (∀ x ∈ a, x ≠ 92) → (∀ c ∈ cs, Pc c) → (x :: a ++ cs.flatMap qC).length ≤ f + 1 →
        unqF u (f + 1) out (x :: a ++ cs.flatMap qC) = some (out ++ (x :: a) ++ cs.flatten) := by
      intro out x a cs hx ha hc hl
      simp only [unqF, List.cons_append, reduceCtorEq, if_false, hu.plain x _ hx, List.drop_succ_cons, List.drop_zero]
      rw [ih (out ++ [x]) a cs ha hc (by simp at hl ⊢; omega)]
      simp
    intro out a cs ha hc hl
    cases a with
    | cons x a => exact main out x a cs (ha x (by simp)) (fun y hy => ha y (by simp [hy])) hc hl
    | nil =>
      cases cs with
      | nil => simp [unqF]
      | cons c cs =>
        have hpc := hc c (by simp)
        have hcs : ∀ c ∈ cs, Pc c := fun d hd => hc d (by simp [hd])
        rw [List.flatMap_cons] at hl ⊢
        rw [List.nil_append] at hl ⊢
        cases hok : okD c with
        | false =>
          obtain ⟨b, rfl, hb⟩ := bad_one c hpc hok
          have h1 := hu.bad b (cs.flatMap qC) hb
          rw [qC_bad b hok] at hl ⊢
          rw [unqF, if_neg (by simp), h1]
          simp only [List.cons_append, List.nil_append, List.drop_succ_cons, List.drop_zero] at hl ⊢
          have := ih (out ++ [b]) [] cs (by simp) hcs (by simp only [List.length_cons, List.nil_append] at hl ⊢; omega)
          rw [List.nil_append] at this
          rw [this]
          simp
        | true =>
          have he := enc_dec c hpc.1 hpc.2 hok
          by_cases h92 : (dec c).1 = 92
          · have hc1 : c = [92] := by rw [← he, h92]; rfl
            rw [qC_slash c hok h92] at hl ⊢
            have h1 := hu.slash (cs.flatMap qC)
            rw [unqF, if_neg (by simp), h1]
            simp only [List.cons_append, List.nil_append, List.drop_succ_cons, List.drop_zero] at hl ⊢
            have := ih (out ++ [92]) [] cs (by simp) hcs (by simp only [List.length_cons, List.nil_append] at hl ⊢; omega)
            rw [List.nil_append] at this
            rw [this, hc1]
            simp
          · by_cases hp : printR (dec c).1 = true
            · rw [qC_plain c hok h92 hp] at hl ⊢
              have hno : ∀ x ∈ c, x ≠ 92 := by
                rw [← he]
                exact enc_no _ h92 (dec_rune c)
              obtain ⟨x, t, hxt⟩ : ∃ x t, c = x :: t := by
                cases c with
                | nil => exact absurd rfl hpc.1
                | cons x t => exact ⟨x, t, rfl⟩
              rw [hxt] at hno hl ⊢
              rw [main out x t cs (hno x (by simp)) (fun y hy => hno y (by simp [hy])) hcs hl]
              simp
            · rw [qC_num c hok h92 hp] at hl ⊢
              have h1 := hu.num (dec c).1 (cs.flatMap qC) (dec_rune c) (by have := dec_valid c; omega)
              rw [unqF, if_neg (by simp), h1]
              have hd : ([92, 117] ++ hexL (dec c).1 ++ [46] ++ cs.flatMap qC).drop ((hexL (dec c).1).length + 3) = cs.flatMap qC := by
                rw [List.drop_append_of_le_length (by simp), List.drop_of_length_le (by simp), List.nil_append]
              simp only [hd]
              have := ih (out ++ encL (dec c).1) [] cs (by simp) hcs (by rw [List.nil_append]; simp only [List.length_append, List.length_cons, List.length_nil] at hl; omega)
              rw [List.nil_append] at this
              rw [this, he]
              simp

theorem chunks_pc (l : List UInt8) : ∀ c ∈ chunks l, Pc c := fun c h => chunk_dec h

theorem unqF_any {u : List UInt8 → Option (List UInt8 × Nat)} (hu : Good u) (l : List UInt8) : unqF u (quoteL l).length [] (quoteL l) = some l := by
  have := unqF_quote hu (quoteL l).length [] [] (chunks l) (by simp) (chunks_pc l) (Nat.le_refl _)
  rw [chunks_flat] at this
  exact this

/-- read back: only what is quoted holds -/
def unqP (u : List UInt8 → Option (List UInt8 × Nat)) (s : List UInt8) : Option (List UInt8) :=
  match unqF u s.length [] s with
  | some o => if quoteL o = s then some o else none
  | none => none
theorem unqP_quote {u : List UInt8 → Option (List UInt8 × Nat)} (hu : Good u) (l : List UInt8) : unqP u (quoteL l) = some l := by
  unfold unqP
  rw [unqF_any hu l]
  simp
theorem unqP_some {u : List UInt8 → Option (List UInt8 × Nat)} {s t : List UInt8} (h : unqP u s = some t) : quoteL t = s := by
  unfold unqP at h
  split at h
  · split at h
    · injection h with h; subst h; assumption
    · cases h
  · cases h
/-- both ways are one -/
theorem unqP_eq {u v : List UInt8 → Option (List UInt8 × Nat)} (hu : Good u) (hv : Good v) (s : List UInt8) : unqP u s = unqP v s := by
  cases h : unqP u s with
  | some t =>
    have := unqP_some h
    subst this
    rw [unqP_quote hv]
  | none =>
    cases h2 : unqP v s with
    | none => rfl
    | some t =>
      have := unqP_some h2
      subst this
      rw [unqP_quote hu] at h
      cases h
theorem quote_inj {a b : List UInt8} {u : List UInt8 → Option (List UInt8 × Nat)} (hu : Good u) (h : quoteL a = quoteL b) : a = b := by
  have h1 := unqP_quote hu a
  rw [h, unqP_quote hu b] at h1
  injection h1 with h1
  exact h1.symm

/-! ### the program's step -/
def dig16 (b : UInt8) : Option Nat :=
  if 48 ≤ b.toNat ∧ b.toNat ≤ 57 then some (b.toNat - 48) else if 97 ≤ b.toNat ∧ b.toNat ≤ 102 then some (b.toNat - 87) else if 65 ≤ b.toNat ∧ b.toNat ≤ 70 then some (b.toNat - 55) else none
def p16 (mx : Nat) (acc : Nat) : List UInt8 → Option Nat
  | [] => some acc
  | b :: t => match dig16 b with
    | none => none
    | some d => if mx < acc * 16 + d then none else p16 mx (acc * 16 + d) t
def parse16 (mx : Nat) (l : List UInt8) : Option Nat := if l = [] then none else p16 mx 0 l
theorem p16_of_rd (mx : Nat) : ∀ (l : List UInt8) (acc n : Nat), rdHex acc l = some n → n ≤ mx → p16 mx acc l = some n ∧ acc ≤ n
  | [], acc, n, h, hn => by
    simp [rdHex] at h
    subst h
    exact ⟨rfl, Nat.le_refl _⟩
  | b :: t, acc, n, h, hn => by
    unfold rdHex at h
    cases hd : unhex b with
    | none => rw [hd] at h; cases h
    | some d =>
      rw [hd] at h
      obtain ⟨h1, h2⟩ := p16_of_rd mx t _ n h hn
      have hg : dig16 b = some d := by
        unfold unhex at hd
        unfold dig16
        split at hd
        · rw [if_pos (by assumption)]; exact hd
        · rw [if_neg (by assumption)]
          split at hd
          · rw [if_pos (by assumption)]; exact hd
          · cases hd
      refine ⟨?_, by omega⟩
      unfold p16
      rw [hg]
      simp only
      rw [if_neg (by omega), h1]

theorem p16_le (mx : Nat) : ∀ (l : List UInt8) (acc n : Nat), p16 mx acc l = some n → acc ≤ mx → n ≤ mx
  | [], acc, n, h, ha => by simp [p16] at h; omega
  | b :: t, acc, n, h, ha => by
    unfold p16 at h
    split at h
    · cases h
    · split at h
      · cases h
      · exact p16_le mx t _ n h (by omega)
theorem parse16_le {mx n : Nat} {l : List UInt8} (h : parse16 mx l = some n) : n ≤ mx := by
  unfold parse16 at h
  split at h
  · cases h
  · exact p16_le mx l 0 n h (Nat.zero_le _)

/-- where the first such byte stands; none: nowhere -/
def idxB (b : UInt8) : List UInt8 → Option Nat
  | [] => none
  | x :: t => if x = b then some 0 else (idxB b t).map (· + 1)
theorem idxB_app (b : UInt8) (a t : List UInt8) (h : ∀ x ∈ a, x ≠ b) : idxB b (a ++ b :: t) = some a.length := by
  induction a with
  | nil => simp [idxB]
  | cons x a ih =>
    have := ih (fun y hy => h y (by simp [hy]))
    simp [idxB, h x (by simp), this]
theorem idxB_lt {b : UInt8} : ∀ {l : List UInt8} {k : Nat}, idxB b l = some k → k < l.length ∧ l.getD k 0 = b
  | [], k, h => by simp [idxB] at h
  | x :: t, k, h => by
    unfold idxB at h
    split at h
    · injection h with h; subst h; simp; assumption
    · rw [Option.map_eq_some_iff] at h
      obtain ⟨j, h1, rfl⟩ := h
      have := idxB_lt h1
      refine ⟨by simp; omega, ?_⟩
      rw [List.getD_cons_succ]; exact this.2

def validRn (r : Nat) : Bool := decide (r < 55296) || (decide (57344 ≤ r) && decide (r ≤ 1114111))
/-- a rune's bytes, or those of fffd -/
def encA (r : Nat) : List UInt8 := if validRn r = true then encL r else [239, 191, 189]
theorem encL_len (r : Nat) : 1 ≤ (encL r).length ∧ (encL r).length ≤ 4 := by
  unfold encL
  repeat' split
  all_goals simp
theorem encA_len (r : Nat) : 1 ≤ (encA r).length ∧ (encA r).length ≤ 4 := by
  unfold encA
  split
  · exact encL_len r
  · simp

def unq1 (l : List UInt8) : Option (List UInt8 × Nat) :=
  if l.getD 0 0 ≠ 92 then some ([l.getD 0 0], 1)
  else if l.getD 1 0 = 92 then some ([92], 2)
  else if l.getD 1 0 = 120 ∧ 4 ≤ l.length then (parse16 255 ((l.take 4).drop 2)).map fun n => ([UInt8.ofNat n], 4)
  else if l.getD 1 0 = 117 then
    match idxB 46 l with
    | none => none
    | some e => (parse16 2147483647 ((l.take e).drop 2)).map fun r => (encA r, e + 1)
  else none

theorem hexL_mem (n : Nat) : ∀ b ∈ hexL n, b ≠ 92 ∧ b ≠ 46 := by
  intro b hb
  obtain ⟨k, hk, rfl⟩ := hexF_mem 8 n b hb
  exact hexD_ne k hk
theorem hexL_len (n : Nat) : 1 ≤ (hexL n).length ∧ (hexL n).length ≤ 9 := hexF_len 8 n

theorem good_unq1 : Good unq1 where
  plain x t h := by simp [unq1, h]
  bad b rest hb := by
    have hlt := UInt8.toNat_lt b
    have h1 : rdHex 0 [hexD (b.toNat / 16), hexD (b.toNat % 16)] = some b.toNat := by
      simp only [rdHex, unhex_hexD _ (show b.toNat / 16 < 16 by omega), unhex_hexD _ (show b.toNat % 16 < 16 by omega)]
      congr 1; omega
    have h2 := (p16_of_rd 255 _ 0 _ h1 (by omega)).1
    have e1 : (UInt8.ofNat b.toNat) = b := by simp
    simp [unq1, parse16, h2]
  slash rest := by simp [unq1]
  num r rest hr hv := by
    have h1 : rdHex 0 (hexL r) = some r := rdHex_hexF 8 r (by omega)
    have h2 := (p16_of_rd 2147483647 _ 0 _ h1 (by omega)).1
    have hl := hexL_len r
    have hi : idxB 46 ([92, 117] ++ hexL r ++ [46] ++ rest) = some ((hexL r).length + 2) := by
      have := idxB_app 46 ([92, 117] ++ hexL r) rest (by
        intro x hx
        simp only [List.mem_append, List.mem_cons, List.not_mem_nil, or_false] at hx
        rcases hx with (rfl | rfl) | hx
        · decide
        · decide
        · exact (hexL_mem r x hx).2)
      rw [show (([92, 117] : List UInt8) ++ hexL r).length = (hexL r).length + 2 by simp] at this
      rw [← this]
      simp
    have ht : (([92, 117] ++ hexL r ++ [46] ++ rest).take ((hexL r).length + 2)).drop 2 = hexL r := by
      have : ([92, 117] ++ hexL r ++ [46] ++ rest) = ([92, 117] ++ hexL r) ++ ([46] ++ rest) := by simp
      rw [this, List.take_append_of_le_length (by simp), List.take_of_length_le (by simp)]
      simp
    have hne : hexL r ≠ [] := List.length_pos_iff.1 (by omega)
    have hva : validRn r = true := by
      unfold validRn
      simp only [Bool.or_eq_true, Bool.and_eq_true, decide_eq_true_eq]
      omega
    have g0 : ([92, 117] ++ hexL r ++ [46] ++ rest).getD 0 0 = 92 := by simp
    have g1 : ([92, 117] ++ hexL r ++ [46] ++ rest).getD 1 0 = 117 := by simp
    unfold unq1
    rw [g0, g1, hi]
    simp only [ne_eq, not_true_eq_false, if_false, ht]
    rw [if_neg (by decide), if_neg (by intro h; exact absurd h.1 (by decide))]
    simp [parse16, hne, h2, encA, hva]

theorem unq1_bound {l n : List UInt8} {k : Nat} (hl : l ≠ []) (h : unq1 l = some (n, k)) : 1 ≤ k ∧ k ≤ l.length ∧ 1 ≤ n.length ∧ n.length ≤ 4 := by
  have hp := List.length_pos_iff.2 hl
  have hlen2 : ∀ b : UInt8, b ≠ 0 → l.getD 1 0 = b → 2 ≤ l.length := by
    intro b hb h
    rcases Nat.lt_or_ge l.length 2 with h1 | h1
    · exfalso
      have : l.getD 1 0 = 0 := by simp [List.getD, List.getElem?_eq_none (show l.length ≤ 1 by omega)]
      rw [this] at h
      exact hb h.symm
    · exact h1
  unfold unq1 at h
  split at h
  · injection h with h
    simp only [Prod.mk.injEq] at h
    obtain ⟨rfl, rfl⟩ := h
    exact ⟨Nat.le_refl _, hp, by simp, by simp⟩
  split at h
  · rename_i h2
    have := hlen2 92 (by decide) h2
    injection h with h
    simp only [Prod.mk.injEq] at h
    obtain ⟨rfl, rfl⟩ := h
    exact ⟨by omega, by omega, by simp, by simp⟩
  split at h
  · rename_i h2
    rw [Option.map_eq_some_iff] at h
    obtain ⟨x, _, h⟩ := h
    simp only [Prod.mk.injEq] at h
    obtain ⟨rfl, rfl⟩ := h
    exact ⟨by omega, by omega, by simp, by simp⟩
  split at h
  · split at h
    · cases h
    · rename_i e he
      rw [Option.map_eq_some_iff] at h
      obtain ⟨x, _, h⟩ := h
      simp only [Prod.mk.injEq] at h
      obtain ⟨rfl, rfl⟩ := h
      have := (idxB_lt he).1
      exact ⟨by omega, by omega, (encA_len x).1, (encA_len x).2⟩
  · cases h

/-! ### the reference's step -/
/-- digits, at most so many: what they are, and how many -/
def scanH : Nat → Nat → List UInt8 → Nat × Nat
  | 0, n, _ => (n, 0)
  | f + 1, n, l => match l with
    | [] => (n, 0)
    | b :: t => match unhex b with
      | none => (n, 0)
      | some d => ((scanH f (16 * n + d) t).1, (scanH f (16 * n + d) t).2 + 1)
def runq1 (l : List UInt8) : Option (List UInt8 × Nat) :=
  if l.getD 0 0 ≠ 92 then some ([l.getD 0 0], 1)
  else if l.length < 2 then none
  else if l.getD 1 0 = 92 then some ([92], 2)
  else if l.getD 1 0 = 120 then
    if l.length < 4 then none
    else match unhex (l.getD 2 0), unhex (l.getD 3 0) with
      | some a, some b => some ([UInt8.ofNat (16 * a + b)], 4)
      | _, _ => none
  else if l.getD 1 0 = 117 then
    let q := scanH 7 0 (l.drop 2)
    if l.length ≤ q.2 + 2 ∨ l.getD (q.2 + 2) 0 ≠ 46 ∨ q.2 = 0 ∨ 1114111 < q.1 then none
    else some (encL q.1, q.2 + 3)
  else none

theorem scanH_app : ∀ (f acc : Nat) (l rest : List UInt8) (n : Nat), l.length ≤ f → rdHex acc l = some n → scanH f acc (l ++ 46 :: rest) = (n, l.length)
  | 0, acc, l, rest, n, hl, h => by
    have : l = [] := List.eq_nil_of_length_eq_zero (by omega)
    subst this
    simp [rdHex] at h
    subst h
    rfl
  | f + 1, acc, [], rest, n, hl, h => by
    simp [rdHex] at h
    subst h
    have : unhex 46 = none := by decide
    simp [scanH, this]
  | f + 1, acc, b :: t, rest, n, hl, h => by
    unfold rdHex at h
    cases hd : unhex b with
    | none => rw [hd] at h; cases h
    | some d =>
      rw [hd] at h
      simp only [List.length_cons] at hl
      have := scanH_app f (acc * 16 + d) t rest n (by omega) h
      simp only [List.cons_append, scanH, hd]
      rw [show 16 * acc + d = acc * 16 + d by omega, this]
      simp

theorem hexF_short : ∀ (f k n : Nat), n < 16 ^ (k + 1) → k ≤ f → (hexF f n).length ≤ k + 1
  | 0, k, n, h, hk => by simp [hexF]
  | f + 1, k, n, h, hk => by
    unfold hexF
    split
    · simp
    · rename_i h1
      cases k with
      | zero => simp at h; omega
      | succ k =>
        have := hexF_short f k (n / 16) (by rw [Nat.pow_succ] at h; omega) (by omega)
        simp; omega
theorem hexL_short (n : Nat) (h : n ≤ 1114111) : (hexL n).length ≤ 6 := hexF_short 8 5 n (by omega) (by omega)

theorem good_runq1 : Good runq1 where
  plain x t h := by simp [runq1, h]
  bad b rest hb := by
    have hlt := UInt8.toNat_lt b
    have e1 : 16 * (b.toNat / 16) + b.toNat % 16 = b.toNat := by omega
    simp [runq1, unhex_hexD _ (show b.toNat / 16 < 16 by omega), unhex_hexD _ (show b.toNat % 16 < 16 by omega), e1]
  slash rest := by simp [runq1]
  num r rest hr hv := by
    have h1 : rdHex 0 (hexL r) = some r := rdHex_hexF 8 r (by omega)
    have hl := hexL_len r
    have hs := hexL_short r hr
    have hq := scanH_app 7 0 (hexL r) rest r (by omega) h1
    have hd : ([92, 117] ++ hexL r ++ [46] ++ rest).drop 2 = hexL r ++ 46 :: rest := by simp
    have g0 : ([92, 117] ++ hexL r ++ [46] ++ rest).getD 0 0 = 92 := by simp
    have g1 : ([92, 117] ++ hexL r ++ [46] ++ rest).getD 1 0 = 117 := by simp
    have g2 : ([92, 117] ++ hexL r ++ [46] ++ rest).getD ((hexL r).length + 2) 0 = 46 := by
      have : ([92, 117] ++ hexL r ++ [46] ++ rest) = ([92, 117] ++ hexL r) ++ (46 :: rest) := by simp
      rw [this]
      simp [List.getD, List.getElem?_append_right]
    have hlen : ([92, 117] ++ hexL r ++ [46] ++ rest).length = (hexL r).length + 3 + rest.length := by simp; omega
    unfold runq1
    rw [g0, g1, hd, hq, hlen]
    simp only [ne_eq, not_true_eq_false, if_false]
    rw [if_neg (by omega), if_neg (by decide), if_neg (by decide), if_pos trivial, if_neg]
    rw [g2]
    simp only [not_true_eq_false, false_or, not_or]
    omega

theorem scanH_bd : ∀ (f acc : Nat) (l : List UInt8), (scanH f acc l).2 ≤ f ∧ (scanH f acc l).2 ≤ l.length
  | 0, acc, l => by simp [scanH]
  | f + 1, acc, [] => by simp [scanH]
  | f + 1, acc, b :: t => by
    simp only [scanH]
    cases unhex b with
    | none => simp
    | some d =>
      have := scanH_bd f (16 * acc + d) t
      simp only [List.length_cons]
      omega
theorem runq1_bound {l n : List UInt8} {k : Nat} (hl : l ≠ []) (h : runq1 l = some (n, k)) : 1 ≤ k ∧ k ≤ l.length ∧ 1 ≤ n.length ∧ n.length ≤ 4 := by
  have hp := List.length_pos_iff.2 hl
  unfold runq1 at h
  split at h
  · injection h with h
    simp only [Prod.mk.injEq] at h
    obtain ⟨rfl, rfl⟩ := h
    exact ⟨Nat.le_refl _, hp, by simp, by simp⟩
  split at h
  · cases h
  split at h
  · injection h with h
    simp only [Prod.mk.injEq] at h
    obtain ⟨rfl, rfl⟩ := h
    exact ⟨by omega, by omega, by simp, by simp⟩
  split at h
  · split at h
    · cases h
    · split at h
      · injection h with h
        simp only [Prod.mk.injEq] at h
        obtain ⟨rfl, rfl⟩ := h
        exact ⟨by omega, by omega, by simp, by simp⟩
      · cases h
  split at h
  · simp only at h
    split at h
    · cases h
    · injection h with h
      simp only [Prod.mk.injEq] at h
      obtain ⟨rfl, rfl⟩ := h
      exact ⟨by omega, by omega, (encL_len _).1, (encL_len _).2⟩
  · cases h
end Go.Proofs.YtdmhnoffejjpnaaGreatDoor
end

section
set_option linter.unusedVariables false
set_option linter.unusedSimpArgs false
set_option maxRecDepth 100000
namespace Go.Proofs.YtdmhnoffejjpnaaGreatDoor
open Go Go.Lib

/-- runes and widths -/
def rws (l : List UInt8) : List (Nat × Nat) := (chunks l).map dec
theorem rws_nil : rws [] = [] := rfl
theorem rws_cons (l : List UInt8) (h : l ≠ []) : rws l = dec l :: rws (l.drop (dec l).2) := by
  unfold rws
  rw [chunks_cons l h, List.map_cons, dec_chunk l h]

def ordR : List (Nat × Nat) → List (Nat × Nat) → Int
  | [], [] => 0
  | [], _ :: _ => -1
  | _ :: _, [] => 1
  | p :: x, q :: y => if p.1 < q.1 then -1 else if q.1 < p.1 then 1 else if p.2 < q.2 then -1 else if q.2 < p.2 then 1 else ordR x y

theorem ordR_tri : ∀ x y, ordR x y = -1 ∨ ordR x y = 0 ∨ ordR x y = 1
  | [], [] => by simp [ordR]
  | [], _ :: _ => by simp [ordR]
  | _ :: _, [] => by simp [ordR]
  | p :: x, q :: y => by
    have := ordR_tri x y
    unfold ordR
    repeat' split
    all_goals omega
theorem ordR_anti : ∀ x y, ordR x y = - ordR y x
  | [], [] => by simp [ordR]
  | [], _ :: _ => by simp [ordR]
  | _ :: _, [] => by simp [ordR]
  | p :: x, q :: y => by
    have := ordR_anti x y
    unfold ordR
    repeat' split
    all_goals omega
theorem ordR_zero : ∀ x y, ordR x y = 0 → x = y
  | [], [] => by simp
  | [], _ :: _ => by simp [ordR]
  | _ :: _, [] => by simp [ordR]
  | p :: x, q :: y => by
    intro h
    have ih := ordR_zero x y
    unfold ordR at h
    repeat' split at h
    all_goals try omega
    rw [ih h]
    congr 1
    exact Prod.ext (by omega) (by omega)
theorem ordR_self : ∀ x, ordR x x = 0
  | [] => rfl
  | p :: x => by
    unfold ordR
    simp [ordR_self x]
theorem ordR_trans : ∀ x y z, ordR x y ≤ 0 → ordR y z ≤ 0 → ordR x z ≤ 0
  | [], y, z => by cases z <;> simp [ordR]
  | p :: x, [], z => by simp [ordR]
  | p :: x, q :: y, [] => by simp [ordR]
  | p :: x, q :: y, r :: z => by
    have ih := ordR_trans x y z
    intro h1 h2
    unfold ordR at h1 h2 ⊢
    repeat' split at h1
    all_goals (repeat' split at h2)
    all_goals (repeat' split)
    all_goals omega

theorem cmpB_self : ∀ x, compareBytes x x = 0
  | [] => rfl
  | a :: x => by
    unfold compareBytes
    simp [cmpB_self x]
theorem lt_nat (a b : UInt8) : (a < b) = (a.toNat < b.toNat) := by rw [UInt8.lt_iff_toNat_lt]
theorem cmpB_tri : ∀ x y, compareBytes x y = -1 ∨ compareBytes x y = 0 ∨ compareBytes x y = 1
  | [], [] => by simp [compareBytes]
  | [], _ :: _ => by simp [compareBytes]
  | _ :: _, [] => by simp [compareBytes]
  | p :: x, q :: y => by
    have := cmpB_tri x y
    unfold compareBytes
    repeat' split
    all_goals omega
theorem cmpB_anti : ∀ x y, compareBytes x y = - compareBytes y x
  | [], [] => by simp [compareBytes]
  | [], _ :: _ => by simp [compareBytes]
  | _ :: _, [] => by simp [compareBytes]
  | p :: x, q :: y => by
    have := cmpB_anti x y
    unfold compareBytes
    simp only [UInt8.lt_iff_toNat_lt]
    repeat' split
    all_goals omega
theorem cmpB_zero : ∀ x y, compareBytes x y = 0 → x = y
  | [], [] => by simp
  | [], _ :: _ => by simp [compareBytes]
  | _ :: _, [] => by simp [compareBytes]
  | p :: x, q :: y => by
    intro h
    have ih := cmpB_zero x y
    unfold compareBytes at h
    simp only [UInt8.lt_iff_toNat_lt] at h
    repeat' split at h
    all_goals try omega
    rw [ih h]
    congr 1
    exact UInt8.toNat_inj.1 (by omega)
theorem cmpB_trans : ∀ x y z, compareBytes x y ≤ 0 → compareBytes y z ≤ 0 → compareBytes x z ≤ 0
  | [], y, z => by cases z <;> simp [compareBytes]
  | p :: x, [], z => by simp [compareBytes]
  | p :: x, q :: y, [] => by simp [compareBytes]
  | p :: x, q :: y, r :: z => by
    have ih := cmpB_trans x y z
    intro h1 h2
    unfold compareBytes at h1 h2 ⊢
    simp only [UInt8.lt_iff_toNat_lt] at h1 h2 ⊢
    repeat' split at h1
    all_goals (repeat' split at h2)
    all_goals (repeat' split)
    all_goals omega

/-- which text comes first -/
def ordL (a b : List UInt8) : Int := if ordR (rws a) (rws b) = 0 then compareBytes a b else ordR (rws a) (rws b)
theorem ordL_tri (a b : List UInt8) : ordL a b = -1 ∨ ordL a b = 0 ∨ ordL a b = 1 := by
  unfold ordL
  split
  · exact cmpB_tri a b
  · exact ordR_tri _ _
theorem ordL_anti (a b : List UInt8) : ordL a b = - ordL b a := by
  have h1 := ordR_anti (rws a) (rws b)
  have h2 := cmpB_anti a b
  unfold ordL
  repeat' split
  all_goals omega
theorem ordL_zero (a b : List UInt8) : ordL a b = 0 ↔ a = b := by
  constructor
  · intro h
    unfold ordL at h
    split at h
    · exact cmpB_zero a b h
    · omega
  · rintro rfl
    unfold ordL
    rw [ordR_self, cmpB_self]; rfl
theorem ordL_trans (a b c : List UInt8) (h1 : ordL a b ≤ 0) (h2 : ordL b c ≤ 0) : ordL a c ≤ 0 := by
  have t1 := ordR_trans (rws a) (rws b) (rws c)
  have t2 := cmpB_trans a b c
  have a1 := ordR_anti (rws b) (rws a)
  have a2 := ordR_anti (rws b) (rws c)
  have e : ordR (rws a) (rws c) = 0 → ordR (rws b) (rws c) = - ordR (rws a) (rws b) := fun h => by
    rw [← ordR_zero _ _ h]; exact a1
  unfold ordL at *
  split at h1
  · split at h2
    · split
      · exact t2 h1 h2
      · exact t1 (by omega) (by omega)
    · split
      · rename_i h3 h4 h5; have := e h5; omega
      · exact t1 (by omega) (by omega)
  · split at h2
    · split
      · rename_i h3 h4 h5; have := e h5; omega
      · exact t1 (by omega) (by omega)
    · split
      · rename_i h3 h4 h5; have := e h5; omega
      · exact t1 (by omega) (by omega)
theorem ordR_take : ∀ (x : List (Nat × Nat)) (k : Nat), ordR (x.take k) x ≤ 0
  | [], k => by simp [ordR]
  | p :: x, 0 => by simp [ordR]
  | p :: x, k + 1 => by
    rw [List.take_succ_cons]
    unfold ordR
    simp [ordR_take x k]
theorem ordL_cut (a : List UInt8) (k : Nat) : ordL (cutL a k) a ≤ 0 := by
  have h1 : rws (cutL a k) = (rws a).take k := by
    unfold rws cutL
    rw [chunks_take, List.map_take]
  have h2 := ordR_take (rws a) k
  unfold ordL
  rw [h1]
  split
  · rename_i h0
    have h3 := ordR_zero _ _ h0
    have h4 : cutL a k = a := by
      unfold cutL
      have h5 : (chunks a).length ≤ k ∨ k < (chunks a).length := by omega
      rcases h5 with h5 | h5
      · rw [List.take_of_length_le h5, chunks_flat]
      · have := congrArg List.length h3
        rw [List.length_take] at this
        unfold rws at this
        rw [List.length_map] at this
        omega
    rw [h4, cmpB_self]
    exact Int.le_refl _
  · exact h2

/-- may it be a name? -/
def inNm (r : Nat) : Bool := (decide (97 ≤ r) && decide (r ≤ 122)) || (decide (65 ≤ r) && decide (r ≤ 90)) || (decide (48 ≤ r) && decide (r ≤ 57)) || r == 45 || (decide (192 ≤ r) && decide (r ≤ 591))
def rightL (l : List UInt8) : Bool := decide (1 ≤ (chunks l).length) && decide ((chunks l).length ≤ 16) && (rws l).all fun p => inNm p.1
theorem inNm_ok (l : List UInt8) (h : inNm (dec l).1 = true) : okD l = true := by
  cases ho : okD l with
  | true => rfl
  | false =>
    rw [(okD_false l).1 ho] at h
    exact absurd h (by decide)
end Go.Proofs.YtdmhnoffejjpnaaGreatDoor
end

section
set_option linter.unusedVariables false
set_option linter.unusedSimpArgs false
set_option maxRecDepth 100000
namespace Go.Proofs.YtdmhnoffejjpnaaGreatDoor
open Go.RowKit Go

/-- Block g is an iterator over s, at pos. -/
def ItAt (w : World) (g : Nat) (s : ByteArray) (pos : Nat) : Prop := w.heap[g]? = some (.stringIter s pos)
theorem it_new (w : World) (s : ByteArray) : ItAt (w.iter s 0) w.heap.size s 0 := World.iter_heap w s 0
theorem ItAt.lt {w : World} {g : Nat} {s : ByteArray} {pos : Nat} (h : ItAt w g s pos) : g < w.heap.size := by
  unfold ItAt at h
  rcases Nat.lt_or_ge g w.heap.size with h1 | h1
  · exact h1
  · simp [Array.getElem?_eq_none h1] at h
theorem ItAt.fr {S : Nat → Prop} {w w' : World} {g : Nat} {s : ByteArray} {pos : Nat} (h : ItAt w g s pos) (f : Fr S w w') (hn : ¬ S g) : ItAt w' g s pos := by
  unfold ItAt at *
  rw [f.block g (ItAt.lt h) hn]; exact h
theorem ItAt.ipos {w : World} {g : Nat} {s : ByteArray} {pos : Nat} (h : ItAt w g s pos) : w.iterPos g = pos := by
  unfold ItAt at h
  simp [World.iterPos, h]

theorem next_it {P : Program} {w : World} {g : Nat} {s : ByteArray} {pos : Nat} (h : ItAt w g s pos) (hp : pos < s.size) :
    ∃ w2, (∀ ty, (Instr.next (.pointer (some ⟨g, 0, none⟩)) true ty).run P w = .ok (.tuple #[.bool true, .int .i64 pos, .int .i32 (dec (s.data.toList.drop pos)).1]) w2) ∧
      ItAt w2 g s (pos + (dec (s.data.toList.drop pos)).2) ∧ Fr (onlyB g) w w2 ∧ w2.heap.size = w.heap.size := by
  have hlt := h.lt
  refine ⟨{ w with heap := w.heap.setIfInBounds g (.stringIter s (pos + (dec (s.data.toList.drop pos)).2)) }, fun ty => ?_, ?_, ⟨rfl, rfl, rfl, by simp, fun k hk hn => ?_⟩, by simp⟩
  · unfold ItAt at h
    simp only [Instr.next, getObj, setObj, Sem.run_bind, Sem.run, h, Result.andThen, hp, if_true, decode_pos]
    simp [goInt]
  · unfold ItAt
    simp [Array.getElem?_setIfInBounds, hlt]
  · simp only [Array.getElem?_setIfInBounds]
    have : g ≠ k := fun e => hn e.symm
    simp [this]

theorem next_end {P : Program} {w : World} {g : Nat} {s : ByteArray} {pos : Nat} (h : ItAt w g s pos) (hp : ¬ pos < s.size) :
    ∀ ty, (Instr.next (.pointer (some ⟨g, 0, none⟩)) true ty).run P w = .ok (.tuple #[.bool false]) w := by
  intro ty
  unfold ItAt at h
  simp [Instr.next, getObj, Sem.run, h, hp]

theorem drop_lt {s : ByteArray} {pos : Nat} (h : pos < s.size) : s.data.toList.drop pos ≠ [] := by
  intro e
  have := congrArg List.length e
  rw [List.length_drop, List.length_nil] at this
  have h2 : s.data.toList.length = s.size := rfl
  omega
theorem drop_end {s : ByteArray} {pos : Nat} (h : ¬ pos < s.size) : s.data.toList.drop pos = [] := by
  have h2 : s.data.toList.length = s.size := rfl
  exact List.drop_eq_nil_of_le (by omega)
/-- the rest's rune lies within the text -/
theorem dec_in {s : ByteArray} {pos : Nat} (h : pos < s.size) : pos + (dec (s.data.toList.drop pos)).2 ≤ s.size := by
  have h1 := dec_le _ (drop_lt h)
  rw [List.length_drop] at h1
  have h2 : s.data.toList.length = s.size := rfl
  omega

theorem step_append_at {P : Program} {ops : Array Oper} {o : Oper} {a : Act} {w : World} {K : Act → World → Prop} {Q : Exit → Act → World → Prop} {E : Prop} (hgd : o.guard = none) (s x : Operand) (t : TypeId)
    (ho : o.op = .call { callee := .builtin .append, args := #[s, x], argTypes := #[t, t] })
    (base : Nat) (e : TypeId) (i : TypeInfo) (z : Value) (size bytes : Nat) (ht : P.underlying t = some (.slice e)) (hi : P.info? e = some i) (hz : i.zero = some z)
    (hsize : i.size = size) (hby : i.bytes = bytes) (hzs : z.cells.size = size) (hsz : 0 < size)
    (v : Value) (n : Nat) (xs : List Value) (hs : a.eval s = v) (hown : w.ownsRow base e size v n xs)
    (ad : Addr) (m c : Nat) (news : List Value) (hx : a.eval x = .slice (some ad) m c) (hl : news.length = m * size) (hnews : ∀ j u, news[j]? = some u → w.cell? (ad.add j) = some u) (h1 : ∀ u ∈ news, u.oneCell' = true)
    (h63 : n + m ≤ maxLen) (hbytes : (n + m) * bytes ≤ 140737488355328) (hbase : base ≤ w.heap.size)
    (h : ∀ v' w', w'.ownsRow base e size v' (n + m) (xs ++ news) → w.grownBy w' v.ownBlock → Moved w v v' → K (a.put o.dst v') w') :
    if Region.wanted o (yielded ops a.tmps) = true then Oper.wp P o a w K Q else E := by
  have hw : Region.wanted o (yielded ops a.tmps) = true := by simp [Region.wanted, hgd]
  rw [if_pos hw]
  exact wp_append_at w s x t ho base e i z size bytes ht hi hz hsize hby hzs hsz v n xs hs hown ad m c news hx hl hnews h1 h63 hbytes hbase h



theorem ret_str {a b : ByteArray} (h : a = b) : Ending.returned (.string a) = .returned (.string b) := by rw [h]
theorem ret_bool {a b : Bool} (h : a = b) : Ending.returned (.bool a) = .returned (.bool b) := by rw [h]
theorem ret_int' {k : IntKind} {a b : Int} (h : a = b) : Ending.returned (.int k a) = .returned (.int k b) := by rw [h]

/-- a part of a text, by its bytes -/
theorem ext_eq (s : ByteArray) (a b : Nat) : s.extract a b = strB ((s.data.toList.take b).drop a) := by
  apply ByteArray.ext
  apply Array.ext'
  rw [Go.Lib.extract_data]
  simp [strB, List.drop_take]

/-- What the package-level variables hold. -/
structure Gl (w : World) : Prop where
  eS : ∃ te pe, w.cell? ⟨0, 0, none⟩ = some (.iface te pe)
  eR : ∃ te pe, w.cell? ⟨1, 0, none⟩ = some (.iface te pe)
  tz : w.cell? ⟨5, 15, none⟩ = some (.int .u8 4)
theorem Gl.fr {w w' : World} (h : Gl w) (f : Fr noB w w') : Gl w' := by
  obtain ⟨⟨a, b, h1⟩, ⟨c, d, h2⟩, h3⟩ := h
  exact ⟨⟨a, b, f.cell h1 (fun q => q)⟩, ⟨c, d, f.cell h2 (fun q => q)⟩, f.cell h3 (fun q => q)⟩
end Go.Proofs.YtdmhnoffejjpnaaGreatDoor
end
