/-
  Plain mathematics: fields as runes (layer 2): numbers and texts, written and read back.
-/
import Derived.Test.YtbmafogjmdilkaaGreatDoorQuoteV
set_option linter.unusedVariables false
set_option linter.unusedSimpArgs false
set_option maxRecDepth 100000
namespace Go.Proofs.YtbmafogjmdilkaaGreatDoor
open Go Go.Lib

/-! ### a rune's bytes, read back -/
theorem enc2 (r : Nat) (h1 : 128 ≤ r) (h2 : r < 2048) : encL r = [UInt8.ofNat (192 + r / 64), UInt8.ofNat (128 + r % 64)] := by
  unfold encL; rw [if_neg (by omega), if_pos h2]
theorem enc3 (r : Nat) (h1 : 2048 ≤ r) (h2 : r < 65536) : encL r = [UInt8.ofNat (224 + r / 4096), UInt8.ofNat (128 + r / 64 % 64), UInt8.ofNat (128 + r % 64)] := by
  unfold encL; rw [if_neg (by omega), if_neg (by omega), if_pos h2]
theorem dec_enc (r : Nat) (t : List UInt8) (h1 : 128 ≤ r) (h2 : r < 55296) : dec (encL r ++ t) = (r, (encL r).length) := by
  by_cases h3 : r < 2048
  · rw [enc2 r h1 h3]
    unfold dec decodeN
    simp only [List.cons_append, List.nil_append, List.length_cons, List.length_nil, List.getD_cons_zero, List.getD_cons_succ, UInt8.toNat_ofNat']
    have e0 : (192 + r / 64) % 2 ^ 8 = 192 + r / 64 := by omega
    have e1 : (128 + r % 64) % 2 ^ 8 = 128 + r % 64 := by omega
    rw [e0, e1, if_neg (by omega), if_pos ⟨by omega, by omega, by omega⟩, if_pos (by omega)]
    congr 1; omega
  · rw [enc3 r (by omega) (by omega)]
    unfold dec decodeN
    simp only [List.cons_append, List.nil_append, List.length_cons, List.length_nil, List.getD_cons_zero, List.getD_cons_succ, UInt8.toNat_ofNat']
    have e0 : (224 + r / 4096) % 2 ^ 8 = 224 + r / 4096 := by omega
    have e1 : (128 + r / 64 % 64) % 2 ^ 8 = 128 + r / 64 % 64 := by omega
    have e2 : (128 + r % 64) % 2 ^ 8 = 128 + r % 64 := by omega
    rw [e0, e1, e2, if_neg (by omega), if_neg (by omega), if_pos ⟨by omega, ⟨by omega, by omega⟩, by omega, by omega⟩, if_pos (by omega)]
    congr 1; omega
theorem enc_ne (r : Nat) (t : List UInt8) : encL r ++ t ≠ [] := by
  intro e
  have := congrArg List.length e
  rw [List.length_append, List.length_nil] at this
  have := (encL_len r).1
  omega
theorem enc_okD (r : Nat) (t : List UInt8) (h1 : 128 ≤ r) (h2 : r < 55296) : okD (encL r ++ t) = true := by
  rw [okD_iff, dec_enc r t h1 h2]
  simp only
  omega
theorem enc_valid (r : Nat) (h1 : 128 ≤ r) (h2 : r < 55296) : validL (encL r) = true ∧ chunks (encL r) = [encL r] := by
  have hne : encL r ≠ [] := by have := enc_ne r []; rwa [List.append_nil] at this
  have hd : dec (encL r) = (r, (encL r).length) := by have := dec_enc r [] h1 h2; rwa [List.append_nil] at this
  have ho : okD (encL r) = true := by have := enc_okD r [] h1 h2; rwa [List.append_nil] at this
  have hc : chunks (encL r) = [encL r] := by
    rw [chunks_cons _ hne, hd]
    simp [chunks_nil]
  refine ⟨?_, hc⟩
  unfold validL
  rw [hc]
  simp [ho]

/-! ### a number's runes -/
def ahF : Nat → Nat → List UInt8
  | 0, _ => []
  | f + 1, m => if m = 0 then [] else ahF f (m / 4096) ++ encL (256 + m % 4096)
/-- the digits ahead of the last one -/
def ahL (m : Nat) : List UInt8 := ahF 6 m
def numL (n : Nat) : List UInt8 := ahL (n / 4096) ++ encL (4352 + n % 4096)

theorem ahF_fuel : ∀ (f g m : Nat), m < 4096 ^ f → m < 4096 ^ g → ahF f m = ahF g m
  | 0, g, m, h1, h2 => by
    have : m = 0 := by simp at h1; exact h1
    subst this
    cases g <;> simp [ahF]
  | f + 1, 0, m, h1, h2 => by
    have : m = 0 := by simp at h2; exact h2
    subst this
    simp [ahF]
  | f + 1, g + 1, m, h1, h2 => by
    simp only [ahF]
    rw [ahF_fuel f g (m / 4096) (by rw [Nat.pow_succ] at h1; omega) (by rw [Nat.pow_succ] at h2; omega)]
theorem ah_zero : ahL 0 = [] := rfl
theorem ah_step (m : Nat) (h : m ≠ 0) (hb : m < 4096 ^ 6) : ahL m = ahL (m / 4096) ++ encL (256 + m % 4096) := by
  unfold ahL
  conv => lhs; rw [show ahF 6 m = ahF (5 + 1) m from rfl]; unfold ahF
  rw [if_neg h, ahF_fuel 5 6 _ (by omega) (by omega)]
theorem ah_small (m : Nat) (h : m ≠ 0) (hb : m < 4096) : ahL m = encL (256 + m) := by
  rw [ah_step m h (by omega), show m / 4096 = 0 by omega, ah_zero, show m % 4096 = m by omega, List.nil_append]
theorem ah_len (f : Nat) : ∀ m, (ahF f m).length ≤ 4 * f := by
  induction f with
  | zero => intro m; simp [ahF]
  | succ f ih =>
    intro m
    unfold ahF
    split
    · simp
    · rw [List.length_append]
      have := ih (m / 4096)
      have := (encL_len (256 + m % 4096)).2
      omega
theorem num_len (n : Nat) : 1 ≤ (numL n).length ∧ (numL n).length ≤ 28 := by
  unfold numL
  rw [List.length_append]
  have := ah_len 6 (n / 4096)
  have := encL_len (4352 + n % 4096)
  unfold ahL
  omega
theorem ah_valid (f : Nat) : ∀ m, validL (ahF f m) = true := by
  induction f with
  | zero => intro m; rfl
  | succ f ih =>
    intro m
    unfold ahF
    split
    · rfl
    · rw [valid_app _ _ (ih _)]
      exact (enc_valid _ (by omega) (by omega)).1
theorem num_valid (n : Nat) : validL (numL n) = true := by
  show validL (ahF 6 (n / 4096) ++ _) = true
  rw [valid_app _ _ (ah_valid 6 _)]
  exact (enc_valid _ (by omega) (by omega)).1

/-! ### a number, read -/
def numF : Nat → Nat → List UInt8 → Option (Nat × List UInt8)
  | 0, _, _ => none
  | f + 1, acc, l =>
    if l = [] then none
    else if 2199023255552 < acc then none
    else if 4352 ≤ (dec l).1 ∧ (dec l).1 < 8448 then
      if acc * 4096 + ((dec l).1 - 4352) ≤ 9007199254740992 then some (acc * 4096 + ((dec l).1 - 4352), l.drop (dec l).2) else none
    else if (dec l).1 < 256 ∨ 4352 ≤ (dec l).1 ∨ ((dec l).1 = 256 ∧ acc = 0) then none
    else numF f (acc * 4096 + ((dec l).1 - 256)) (l.drop (dec l).2)
def numS (acc : Nat) (l : List UInt8) : Option (Nat × List UInt8) := numF l.length acc l

theorem numF_fuel : ∀ (f g acc : Nat) (l : List UInt8), l.length ≤ f → l.length ≤ g → numF f acc l = numF g acc l
  | 0, g, acc, l, h1, h2 => by
    have : l = [] := List.eq_nil_of_length_eq_zero (by omega)
    subst this
    cases g <;> simp [numF]
  | f + 1, 0, acc, l, h1, h2 => by
    have : l = [] := List.eq_nil_of_length_eq_zero (by omega)
    subst this
    simp [numF]
  | f + 1, g + 1, acc, l, h1, h2 => by
    simp only [numF]
    by_cases h0 : l = []
    · simp [h0]
    · have := dec_pos l
      have hp := List.length_pos_iff.2 h0
      rw [numF_fuel f g _ _ (by rw [List.length_drop]; omega) (by rw [List.length_drop]; omega)]
theorem numS_nil (acc : Nat) : numS acc [] = none := rfl
theorem numS_step (acc : Nat) (l : List UInt8) (h : l ≠ []) : numS acc l =
    if 2199023255552 < acc then none
    else if 4352 ≤ (dec l).1 ∧ (dec l).1 < 8448 then
      if acc * 4096 + ((dec l).1 - 4352) ≤ 9007199254740992 then some (acc * 4096 + ((dec l).1 - 4352), l.drop (dec l).2) else none
    else if (dec l).1 < 256 ∨ 4352 ≤ (dec l).1 ∨ ((dec l).1 = 256 ∧ acc = 0) then none
    else numS (acc * 4096 + ((dec l).1 - 256)) (l.drop (dec l).2) := by
  have hp := List.length_pos_iff.2 h
  have h1 := dec_pos l
  unfold numS
  conv => lhs; rw [show l.length = (l.length - 1) + 1 by omega]; unfold numF
  rw [if_neg h, numF_fuel (l.length - 1) (l.drop (dec l).2).length _ _ (by rw [List.length_drop]; omega) (Nat.le_refl _)]
theorem drop_enc (r : Nat) (t : List UInt8) : (encL r ++ t).drop (encL r).length = t := by
  rw [List.drop_append_of_le_length (Nat.le_refl _), List.drop_length, List.nil_append]
theorem num_ahead (m : Nat) : m ≤ 2199023255552 → ∀ t, numS 0 (ahL m ++ t) = numS m t := by
  induction m using Nat.strongRecOn with
  | ind m ih =>
    intro hm t
    by_cases h0 : m = 0
    · subst h0; rfl
    · rw [ah_step m h0 (by omega), List.append_assoc, ih (m / 4096) (by omega) (by omega), numS_step _ _ (enc_ne _ _), dec_enc _ _ (by omega) (by omega), drop_enc]
      simp only
      rw [if_neg (by omega), if_neg (by omega), if_neg (by omega), show m / 4096 * 4096 + (256 + m % 4096 - 256) = m by omega]
/-- a number that is written is read as it was -/
theorem num_back (n : Nat) (hn : n ≤ 9007199254740992) (t : List UInt8) : numS 0 (numL n ++ t) = some (n, t) := by
  unfold numL
  rw [List.append_assoc, num_ahead _ (by omega), numS_step _ _ (enc_ne _ _), dec_enc _ _ (by omega) (by omega), drop_enc]
  simp only
  rw [if_neg (by omega), if_pos (by omega), if_pos (by omega), show n / 4096 * 4096 + (4352 + n % 4096 - 4352) = n by omega]
theorem take_enc (l : List UInt8) (h : l ≠ []) (hok : okD l = true) : encL (dec l).1 ++ l.drop (dec l).2 = l := by
  have hne : l.take (dec l).2 ≠ [] := by
    intro e
    have := congrArg List.length e
    simp only [List.length_take, List.length_nil] at this
    have h1 := dec_pos l
    have h2 := List.length_pos_iff.2 h
    omega
  have hk := enc_dec (l.take (dec l).2) hne (by rw [dec_chunk l h, List.length_take]; have := dec_le l h; omega) (by rw [okD_chunk l h]; exact hok)
  rw [dec_chunk l h] at hk
  rw [hk, List.take_append_drop]
theorem num_inv' : ∀ (l : List UInt8) (acc n : Nat) (t : List UInt8), acc < 4096 ^ 6 → numS acc l = some (n, t) → ahL acc ++ l = numL n ++ t ∧ n ≤ 9007199254740992 := by
  intro l
  induction l using chunks_ind with
  | h0 => intro acc n t _ h; rw [numS_nil] at h; cases h
  | h1 l hl ih =>
    intro acc n t ha h
    rw [numS_step _ _ hl] at h
    split at h
    · cases h
    split at h
    · rename_i h2
      split at h
      · injection h with h
        simp only [Prod.mk.injEq] at h
        obtain ⟨rfl, rfl⟩ := h
        refine ⟨?_, by omega⟩
        have hok : okD l = true := by rw [okD_iff]; omega
        have hk := take_enc l hl hok
        conv => lhs; rw [← hk]
        unfold numL
        rw [show (acc * 4096 + ((dec l).1 - 4352)) / 4096 = acc by omega, show 4352 + (acc * 4096 + ((dec l).1 - 4352)) % 4096 = (dec l).1 by omega, List.append_assoc]
      · cases h
    split at h
    · cases h
    · rename_i h1 h2 h3
      have hok : okD l = true := by rw [okD_iff]; omega
      have hk := take_enc l hl hok
      obtain ⟨i1, i2⟩ := ih _ _ _ (by omega) h
      refine ⟨?_, i2⟩
      rw [← i1]
      conv => lhs; rw [← hk]
      rw [ah_step (acc * 4096 + ((dec l).1 - 256)) (by omega) (by omega), show (acc * 4096 + ((dec l).1 - 256)) / 4096 = acc by omega, show 256 + (acc * 4096 + ((dec l).1 - 256)) % 4096 = (dec l).1 by omega, List.append_assoc]
/-- what is read as a number was written as one -/
theorem num_inv {l : List UInt8} {n : Nat} {t : List UInt8} (h : numS 0 l = some (n, t)) : l = numL n ++ t ∧ n ≤ 9007199254740992 := by
  have := num_inv' l 0 n t (by omega) h
  rwa [ah_zero, List.nil_append] at this
theorem num_pre {a b : Nat} {s t : List UInt8} (ha : a ≤ 9007199254740992) (hb : b ≤ 9007199254740992) (h : numL a ++ s = numL b ++ t) : a = b ∧ s = t := by
  have h1 := num_back a ha s
  rw [h, num_back b hb t] at h1
  injection h1 with h1
  simp only [Prod.mk.injEq] at h1
  exact ⟨h1.1.symm, h1.2.symm⟩

/-! ### texts -/
def textL (s : List UInt8) : List UInt8 := numL (chunks (quoteL s)).length ++ quoteL s
/-- what is read as a text of at most so many bytes, and what is left -/
def textS (most : Int) (l : List UInt8) : Option (List UInt8 × List UInt8) :=
  match numS 0 l with
  | none => none
  | some (c, r) =>
    match unqP unq1 (cutL r c) with
    | none => none
    | some s => if (chunks (cutL r c)).length < c then none else if most < (s.length : Int) then none else some (s, r.drop (cutL r c).length)
theorem cut_app (q t : List UInt8) (h : validL q = true) : cutL (q ++ t) (chunks q).length = q := by
  unfold cutL
  rw [chunks_app q t h, List.take_append_of_le_length (Nat.le_refl _), List.take_length, chunks_flat]
theorem text_back (s : List UInt8) (most : Int) (hm : (s.length : Int) ≤ most) (hb : (quoteL s).length ≤ 9007199254740992) (t : List UInt8) : textS most (textL s ++ t) = some (s, t) := by
  have hc := chunks_len (quoteL s)
  have hcut := cut_app (quoteL s) t (quote_valid s).1
  unfold textS textL
  rw [List.append_assoc, num_back _ (by omega)]
  simp only
  rw [hcut, unqL_quote]
  simp only
  rw [if_neg (by omega), if_neg (by omega), List.drop_append_of_le_length (Nat.le_refl _), List.drop_length, List.nil_append]
theorem text_inv {l : List UInt8} {most : Int} {s t : List UInt8} (h : textS most l = some (s, t)) : l = textL s ++ t ∧ (s.length : Int) ≤ most := by
  unfold textS at h
  split at h
  · cases h
  · rename_i c r hn
    split at h
    · cases h
    · rename_i s' hu
      split at h
      · cases h
      split at h
      · cases h
      · rename_i h1 h2
        injection h with h
        simp only [Prod.mk.injEq] at h
        obtain ⟨rfl, rfl⟩ := h
        obtain ⟨e1, e2⟩ := num_inv hn
        refine ⟨?_, by omega⟩
        have hq := unqP_some hu
        have hcc := cut_count r c
        obtain ⟨z, hz⟩ := cut_prefix r c
        rw [e1]
        unfold textL
        rw [hq, show (chunks (cutL r c)).length = c by omega, List.append_assoc]
        congr 1
        conv => lhs; rw [hz]
        congr 1
        conv => rhs; rw [hz]
        have hlen : (cutL (cutL r c ++ z) c).length = (cutL r c).length := by rw [← hz]
        rw [hlen, List.drop_append_of_le_length (Nat.le_refl _), List.drop_length, List.nil_append]
theorem text_pre {a b s t : List UInt8} (ha : (quoteL a).length ≤ 9007199254740992) (hb : (quoteL b).length ≤ 9007199254740992) (h : textL a ++ s = textL b ++ t) : a = b ∧ s = t := by
  have h1 := text_back a (max a.length b.length) (by omega) ha s
  rw [h, text_back b (max a.length b.length) (by omega) hb t] at h1
  injection h1 with h1
  simp only [Prod.mk.injEq] at h1
  exact ⟨h1.1.symm, h1.2.symm⟩
theorem text_len (s : List UInt8) : (textL s).length ≤ (quoteL s).length + 28 := by
  unfold textL
  rw [List.length_append]
  have := num_len (chunks (quoteL s)).length
  omega
theorem text_valid (s : List UInt8) : validL (textL s) = true := by
  unfold textL
  rw [valid_app _ _ (num_valid _)]
  exact (quote_valid s).1
end Go.Proofs.YtbmafogjmdilkaaGreatDoor
