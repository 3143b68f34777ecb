/-
  Plain mathematics: what is quoted, and that it is read back.
-/
import Derived.Test.YtbmafogjmdilkaaGreatDoorRunesL
set_option linter.unusedVariables false
set_option linter.unusedSimpArgs false
set_option maxRecDepth 100000
namespace Go.Proofs.YtbmafogjmdilkaaGreatDoor
open Go Go.Lib

/-- a digit of sixteen -/
def hexD (n : Nat) : UInt8 := if n < 10 then UInt8.ofNat (48 + n) else UInt8.ofNat (87 + n)
def hexF : Nat → Nat → List UInt8
  | 0, n => [hexD (n % 16)]
  | f + 1, n => if n < 16 then [hexD n] else hexF f (n / 16) ++ [hexD (n % 16)]
/-- a number in digits of sixteen (below 16^9) -/
def hexL (n : Nat) : List UInt8 := hexF 8 n

def printR (r : Nat) : Bool := (decide (32 ≤ r) && decide (r ≤ 126)) || (decide (161 ≤ r) && decide (r ≤ 591))
/-- one piece, quoted -/
def qC (c : List UInt8) : List UInt8 :=
  if okD c = false then [92, 120, hexD ((c.getD 0 0).toNat / 16), hexD ((c.getD 0 0).toNat % 16)]
  else if (dec c).1 = 92 then [92, 92]
  else if printR (dec c).1 = true then c
  else [92, 117] ++ hexL (dec c).1 ++ [46]
def quoteL (l : List UInt8) : List UInt8 := (chunks l).flatMap qC

theorem quote_nil : quoteL [] = [] := rfl
theorem quote_cons (l : List UInt8) (h : l ≠ []) : quoteL l = qC (l.take (dec l).2) ++ quoteL (l.drop (dec l).2) := by
  unfold quoteL
  rw [chunks_cons l h, List.flatMap_cons]

theorem hexD_nat (n : Nat) (h : n < 16) : (hexD n).toNat = if n < 10 then 48 + n else 87 + n := by
  unfold hexD
  split <;> simp <;> omega

theorem hexF_len : ∀ (f n : Nat), 1 ≤ (hexF f n).length ∧ (hexF f n).length ≤ f + 1
  | 0, n => by simp [hexF]
  | f + 1, n => by
    unfold hexF
    split
    · simp
    · have := hexF_len f (n / 16)
      simp; omega

theorem hexF_fuel : ∀ (f g n : Nat), n < 16 ^ (f + 1) → n < 16 ^ (g + 1) → hexF f n = hexF g n
  | 0, 0, n, _, _ => rfl
  | 0, g + 1, n, h, _ => by
    have hn : n < 16 := by simpa using h
    unfold hexF
    rw [if_pos hn, Nat.mod_eq_of_lt hn]
  | f + 1, 0, n, _, h => by
    have hn : n < 16 := by simpa using h
    unfold hexF
    rw [if_pos hn, Nat.mod_eq_of_lt hn]
  | f + 1, g + 1, n, h1, h2 => by
    unfold hexF
    split
    · rfl
    · rw [hexF_fuel f g (n / 16) (by rw [Nat.pow_succ] at h1; omega) (by rw [Nat.pow_succ] at h2; omega)]
theorem hexL_small (n : Nat) (h : n < 16) : hexL n = [hexD n] := by
  unfold hexL hexF
  rw [if_pos h]
theorem hexL_step (n : Nat) (h : 16 ≤ n) (h2 : n < 16 ^ 9) : hexL n = hexL (n / 16) ++ [hexD (n % 16)] := by
  conv => lhs; unfold hexL hexF
  rw [if_neg (by omega)]
  unfold hexL
  rw [hexF_fuel 7 8 (n / 16) (by omega) (by omega)]

/-! ### a digit read back -/
def unhex (b : UInt8) : Option Nat :=
  if 48 ≤ b.toNat ∧ b.toNat ≤ 57 then some (b.toNat - 48) else if 97 ≤ b.toNat ∧ b.toNat ≤ 102 then some (b.toNat - 87) else none
theorem unhex_hexD (n : Nat) (h : n < 16) : unhex (hexD n) = some n := by
  unfold unhex
  rw [hexD_nat n h]
  by_cases h1 : n < 10
  · rw [if_pos h1, if_pos (by omega)]; congr 1; omega
  · rw [if_neg h1, if_neg (by omega), if_pos (by omega)]; congr 1; omega

/-- no digit is a backslash, or a point -/
theorem hexD_ne (n : Nat) (h : n < 16) : hexD n ≠ 92 ∧ hexD n ≠ 46 := by
  have := hexD_nat n h
  constructor
  · intro e; rw [e] at this; split at this <;> simp at this <;> omega
  · intro e; rw [e] at this; split at this <;> simp at this <;> omega
theorem hexF_mem : ∀ (f n : Nat) (b : UInt8), b ∈ hexF f n → ∃ k, k < 16 ∧ b = hexD k
  | 0, n, b, h => by
    simp [hexF] at h
    exact ⟨n % 16, by omega, h⟩
  | f + 1, n, b, h => by
    unfold hexF at h
    split at h
    · simp at h
      exact ⟨n, by assumption, h⟩
    · rw [List.mem_append] at h
      rcases h with h | h
      · exact hexF_mem f _ b h
      · simp at h
        exact ⟨n % 16, by omega, h⟩

/-- digits from the left: what a reader makes of them -/
def rdHex (acc : Nat) : List UInt8 → Option Nat
  | [] => some acc
  | b :: t => match unhex b with
    | some d => rdHex (acc * 16 + d) t
    | none => none
theorem rdHex_app (acc : Nat) (a b : List UInt8) : rdHex acc (a ++ b) = (rdHex acc a).bind fun x => rdHex x b := by
  induction a generalizing acc with
  | nil => rfl
  | cons x t ih =>
    simp only [List.cons_append, rdHex]
    cases unhex x with
    | none => rfl
    | some d => exact ih _
theorem rdHex_hexF : ∀ (f n : Nat), n < 16 ^ (f + 1) → rdHex 0 (hexF f n) = some n
  | 0, n, h => by
    have : n % 16 = n := by omega
    simp [hexF, rdHex, this, unhex_hexD n (by simpa using h)]
  | f + 1, n, h => by
    unfold hexF
    split
    · rename_i h1
      simp [rdHex, unhex_hexD n h1]
    · rw [rdHex_app, rdHex_hexF f (n / 16) (by rw [Nat.pow_succ] at h; omega)]
      simp only [Option.bind_some, rdHex, unhex_hexD (n % 16) (by omega)]
      congr 1; omega

/-! ### a rune's bytes -/
def encL (r : Nat) : List UInt8 :=
  if r < 128 then [UInt8.ofNat r]
  else if r < 2048 then [UInt8.ofNat (192 + r / 64), UInt8.ofNat (128 + r % 64)]
  else if r < 65536 then [UInt8.ofNat (224 + r / 4096), UInt8.ofNat (128 + r / 64 % 64), UInt8.ofNat (128 + r % 64)]
  else [UInt8.ofNat (240 + r / 262144), UInt8.ofNat (128 + r / 4096 % 64), UInt8.ofNat (128 + r / 64 % 64), UInt8.ofNat (128 + r % 64)]

theorem ofN {a b : Nat} (h : a = b) : UInt8.ofNat a = UInt8.ofNat b := by rw [h]
theorem byte_eq (b : UInt8) (n : Nat) (h : b.toNat = n) : b = UInt8.ofNat n := by rw [← h]; simp

set_option maxHeartbeats 1000000 in
/-- a piece that stands there is its rune's bytes -/
theorem enc_dec (c : List UInt8) (hne : c ≠ []) (hw : (dec c).2 = c.length) (hok : okD c = true) : encL (dec c).1 = c := by
  have hk := (okD_iff c).1 hok
  unfold dec at hw hk ⊢
  have hb : ∀ i, (c.getD i 0).toNat < 256 := fun i => UInt8.toNat_lt _
  have b0 := hb 0; have b1 := hb 1; have b2 := hb 2; have b3 := hb 3
  match c, hne with
  | [x0], _ =>
    simp only [List.getD_cons_zero, List.length_cons, List.length_nil] at *
    generalize hx : x0.toNat = n at *
    revert hw hk
    unfold decodeN
    by_cases c0 : n < 128
    · simp only [c0, if_true]
      intro _ _
      unfold encL
      rw [if_pos c0, byte_eq x0 n hx]
    · simp [c0]
  | [x0, x1], _ =>
    simp only [List.getD_cons_zero, List.getD_cons_succ, List.length_cons, List.length_nil] at *
    generalize hx0 : x0.toNat = n0 at *
    generalize hx1 : x1.toNat = n1 at *
    revert hw hk
    unfold decodeN
    by_cases c0 : n0 < 128
    · simp [c0]
    simp only [c0, if_false]
    split
    · split
      · intro _ _
        unfold encL
        rw [if_neg (by omega), if_pos (by omega), byte_eq x0 n0 hx0, byte_eq x1 n1 hx1]
        simp only [List.cons.injEq, and_true]
        refine ⟨ofN ?_, ofN ?_⟩ <;> omega
      · simp
    · simp
  | [x0, x1, x2], _ =>
    simp only [List.getD_cons_zero, List.getD_cons_succ, List.length_cons, List.length_nil] at *
    generalize hx0 : x0.toNat = n0 at *
    generalize hx1 : x1.toNat = n1 at *
    generalize hx2 : x2.toNat = n2 at *
    revert hw hk
    unfold decodeN
    by_cases c0 : n0 < 128
    · simp [c0]
    simp only [c0, if_false]
    split
    · split
      · intro hw; simp at hw
      · simp
    · split
      · split
        · intro _ _
          unfold encL
          rw [if_neg (by omega), if_neg (by omega), if_pos (by omega), byte_eq x0 n0 hx0, byte_eq x1 n1 hx1, byte_eq x2 n2 hx2]
          simp only [List.cons.injEq, and_true]
          refine ⟨ofN ?_, ofN ?_, ofN ?_⟩ <;> omega
        · simp
      · simp
  | x0 :: x1 :: x2 :: x3 :: t, _ =>
    have ht : t = [] := by
      have := decodeN_w4 (x0 :: x1 :: x2 :: x3 :: t).length ((x0 :: x1 :: x2 :: x3 :: t).getD 0 0).toNat ((x0 :: x1 :: x2 :: x3 :: t).getD 1 0).toNat ((x0 :: x1 :: x2 :: x3 :: t).getD 2 0).toNat ((x0 :: x1 :: x2 :: x3 :: t).getD 3 0).toNat
      rw [hw] at this
      simp only [List.length_cons] at this
      exact List.eq_nil_of_length_eq_zero (by omega)
    subst ht
    simp only [List.getD_cons_zero, List.getD_cons_succ, List.length_cons, List.length_nil] at *
    generalize hx0 : x0.toNat = n0 at *
    generalize hx1 : x1.toNat = n1 at *
    generalize hx2 : x2.toNat = n2 at *
    generalize hx3 : x3.toNat = n3 at *
    revert hw hk
    unfold decodeN
    by_cases c0 : n0 < 128
    · simp [c0]
    simp only [c0, if_false]
    split
    · split
      · intro hw; simp at hw
      · simp
    · split
      · split
        · intro hw; simp at hw
        · simp
      · split
        · split
          · intro _ _
            unfold encL
            rw [if_neg (by omega), if_neg (by omega), if_neg (by omega), byte_eq x0 n0 hx0, byte_eq x1 n1 hx1, byte_eq x2 n2 hx2, byte_eq x3 n3 hx3]
            simp only [List.cons.injEq, and_true]
            refine ⟨ofN ?_, ofN ?_, ofN ?_, ofN ?_⟩ <;> omega
          · simp
        · simp
end Go.Proofs.YtbmafogjmdilkaaGreatDoor
