/-
  Plain mathematics: a text's runes as pieces of its bytes (the model's own decoder), and what is quoted.
  Plain mathematics: what is quoted, and that it is read back.
-/
import Derived.Lib.QuoteLoop
section
set_option linter.unusedVariables false
set_option linter.unusedSimpArgs false
set_option maxRecDepth 100000
namespace Go.Proofs.YtdmhnoffejjpnaaGreatDoor
open Go Go.Lib

/-- the first rune of some bytes, and its width -/
def dec (l : List UInt8) : Nat × Nat := decodeN l.length (l.getD 0 0).toNat (l.getD 1 0).toNat (l.getD 2 0).toNat (l.getD 3 0).toNat

theorem get_list (s : ByteArray) (i : Nat) : s.get! i = s.data.toList.getD i 0 := by
  cases s with
  | mk d =>
    show d[i]! = _
    rw [getElem!_def]
    simp only [List.getD, Array.getElem?_toList]
    cases d[i]? <;> rfl

theorem decode_pos (s : ByteArray) (pos : Nat) : Utf8.decode s pos = dec (s.data.toList.drop pos) := by
  rw [decode_at]
  unfold dec
  have h : ∀ k, (s.data.toList.drop pos).getD k 0 = s.get! (pos + k) := fun k => by
    rw [get_list]
    simp [List.getD, List.getElem?_drop]
  rw [h 0, h 1, h 2, h 3]
  have : (s.data.toList.drop pos).length = s.size - pos := by rw [List.length_drop]; rfl
  rw [this]
  rfl

theorem dec_pos (l : List UInt8) : 1 ≤ (dec l).2 := decodeN_ge1 _ _ _ _ _
theorem dec_le (l : List UInt8) (h : l ≠ []) : (dec l).2 ≤ l.length := decodeN_width_le _ _ _ _ _ (List.length_pos_iff.2 h)
theorem dec_rune (l : List UInt8) : (dec l).1 ≤ 1114111 := decodeN_rune_le _ _ _ _ _ (UInt8.toNat_lt _)

theorem decodeN_w4 (n b0 b1 b2 b3 : Nat) : (decodeN n b0 b1 b2 b3).2 ≤ 4 := by
  unfold decodeN
  repeat' split
  all_goals simp
theorem dec_w4 (l : List UInt8) : (dec l).2 ≤ 4 := decodeN_w4 _ _ _ _ _

/-- is the first rune one that stands there? -/
def okD (l : List UInt8) : Bool := !((dec l).1 == 65533 && (dec l).2 == 1)

set_option maxHeartbeats 2000000 in
theorem decodeN_ext (n n' b0 b1 b2 b3 b1' b2' b3' : Nat) (hn : 1 ≤ n) (hn' : n ≤ n') (h1 : 1 < n → b1' = b1) (h2 : 2 < n → b2' = b2) (h3 : 3 < n → b3' = b3)
    (hok : ¬ ((decodeN n b0 b1 b2 b3).1 = 65533 ∧ (decodeN n b0 b1 b2 b3).2 = 1)) : decodeN n' b0 b1' b2' b3' = decodeN n b0 b1 b2 b3 := by
  revert hok
  unfold decodeN
  by_cases c0 : b0 < 128
  · simp [c0]
  simp only [c0, if_false]
  by_cases c1 : b0 / 32 = 6
  · have e14 : ¬ b0 / 16 = 14 := by omega
    have e30 : ¬ b0 / 8 = 30 := by omega
    simp only [c1, e14, e30, true_and, false_and, if_false]
    by_cases k1 : 1 < n
    · have k1' : 1 < n' := by omega
      rw [h1 k1]
      simp [k1, k1']
    · simp [k1]
  simp only [c1, false_and, if_false]
  by_cases c2 : b0 / 16 = 14
  · have e30 : ¬ b0 / 8 = 30 := by omega
    simp only [c2, e30, true_and, false_and, if_false]
    by_cases k2 : 2 < n
    · have k2' : 2 < n' := by omega
      rw [h1 (by omega), h2 k2]
      simp [k2, k2', show 1 < n by omega, show 1 < n' by omega]
    · simp [k2]
  simp only [c2, false_and, if_false]
  by_cases c3 : b0 / 8 = 30
  · simp only [c3, true_and]
    by_cases k3 : 3 < n
    · have k3' : 3 < n' := by omega
      rw [h1 (by omega), h2 (by omega), h3 k3]
      simp [k3, k3', show 1 < n by omega, show 1 < n' by omega, show 2 < n by omega, show 2 < n' by omega]
    · simp [k3]
  simp [c3]

set_option maxHeartbeats 2000000 in
theorem decodeN_cut (n n' b0 b1 b2 b3 b1' b2' b3' : Nat) (hn : 1 ≤ n) (hn' : n ≤ n') (h1 : 1 < n → b1' = b1) (h2 : 2 < n → b2' = b2) (h3 : 3 < n → b3' = b3)
    (hw : (decodeN n' b0 b1' b2' b3').2 ≤ n) (hok : ¬ ((decodeN n' b0 b1' b2' b3').1 = 65533 ∧ (decodeN n' b0 b1' b2' b3').2 = 1)) : decodeN n b0 b1 b2 b3 = decodeN n' b0 b1' b2' b3' := by
  revert hok hw
  unfold decodeN
  by_cases c0 : b0 < 128
  · simp [c0]
  simp only [c0, if_false]
  by_cases c1 : b0 / 32 = 6
  · have e14 : ¬ b0 / 16 = 14 := by omega
    have e30 : ¬ b0 / 8 = 30 := by omega
    simp only [c1, e14, e30, true_and, false_and, if_false]
    by_cases k1 : 1 < n
    · have k1' : 1 < n' := by omega
      rw [h1 k1]
      simp [k1, k1']
    · intro hw hok
      exfalso
      revert hw hok
      repeat' split
      all_goals (simp only; intro hw hok; first | omega | simp at hok)
  simp only [c1, false_and, if_false]
  by_cases c2 : b0 / 16 = 14
  · have e30 : ¬ b0 / 8 = 30 := by omega
    simp only [c2, e30, true_and, false_and, if_false]
    by_cases k2 : 2 < n
    · have k2' : 2 < n' := by omega
      rw [h1 (by omega), h2 k2]
      simp [k2, k2', show 1 < n by omega, show 1 < n' by omega]
    · intro hw hok
      exfalso
      revert hw hok
      repeat' split
      all_goals (simp only; intro hw hok; first | omega | simp at hok)
  simp only [c2, false_and, if_false]
  by_cases c3 : b0 / 8 = 30
  · simp only [c3, true_and]
    by_cases k3 : 3 < n
    · have k3' : 3 < n' := by omega
      rw [h1 (by omega), h2 (by omega), h3 k3]
      simp [k3, k3', show 1 < n by omega, show 1 < n' by omega, show 2 < n by omega, show 2 < n' by omega]
    · intro hw hok
      exfalso
      revert hw hok
      repeat' split
      all_goals (simp only; intro hw hok; first | omega | simp at hok)
  simp [c3]

theorem getD_app (p m : List UInt8) (k : Nat) (h : k < p.length) : (p ++ m).getD k 0 = p.getD k 0 := by
  simp [List.getD, List.getElem?_append_left h]

theorem okD_iff (l : List UInt8) : okD l = true ↔ ¬ ((dec l).1 = 65533 ∧ (dec l).2 = 1) := by
  unfold okD
  simp
  omega
theorem okD_false (l : List UInt8) : okD l = false ↔ dec l = (65533, 1) := by
  unfold okD
  constructor
  · intro h
    simp at h
    exact Prod.ext h.1 h.2
  · intro h
    simp [h]

theorem dec_ext (p m : List UInt8) (hp : p ≠ []) (hok : okD p = true) : dec (p ++ m) = dec p := by
  have h0 := List.length_pos_iff.2 hp
  unfold dec
  rw [getD_app p m 0 h0]
  refine decodeN_ext _ _ _ _ _ _ _ _ _ h0 (by simp) (fun h => ?_) (fun h => ?_) (fun h => ?_) ((okD_iff p).1 hok)
  all_goals rw [getD_app p m _ h]

theorem dec_cut (p m : List UInt8) (hp : p ≠ []) (hok : okD (p ++ m) = true) (hw : (dec (p ++ m)).2 ≤ p.length) : dec p = dec (p ++ m) := by
  have h0 := List.length_pos_iff.2 hp
  have := (okD_iff (p ++ m)).1 hok
  unfold dec at *
  rw [getD_app p m 0 h0] at *
  refine decodeN_cut _ _ _ _ _ _ _ _ _ h0 (by simp) (fun h => ?_) (fun h => ?_) (fun h => ?_) hw this
  all_goals rw [getD_app p m _ h]

/-- what can't be decoded can't, if some is cut off -/
theorem dec_bad (p m : List UInt8) (hp : p ≠ []) (hb : okD (p ++ m) = false) : okD p = false := by
  cases h : okD p with
  | false => rfl
  | true =>
    have := dec_ext p m hp h
    unfold okD at h hb
    rw [this] at hb
    rw [h] at hb
    cases hb

theorem dec_chunk (l : List UInt8) (hl : l ≠ []) : dec (l.take (dec l).2) = dec l := by
  have h1 := dec_pos l
  have h2 := dec_le l hl
  have hp : l.take (dec l).2 ≠ [] := by
    intro h
    have := congrArg List.length h
    simp only [List.length_take, List.length_nil] at this
    omega
  have hs : l.take (dec l).2 ++ l.drop (dec l).2 = l := List.take_append_drop _ _
  cases h : okD l with
  | true =>
    have hq := dec_cut (l.take (dec l).2) (l.drop (dec l).2) hp (by rw [hs]; exact h) (by rw [hs, List.length_take]; omega)
    rw [hs] at hq
    exact hq
  | false =>
    have hb := dec_bad (l.take (dec l).2) (l.drop (dec l).2) hp (by rw [hs]; exact h)
    rw [(okD_false _).1 hb, (okD_false _).1 h]
theorem okD_chunk (l : List UInt8) (hl : l ≠ []) : okD (l.take (dec l).2) = okD l := by unfold okD; rw [dec_chunk l hl]

/-! ### the pieces -/
def chs : Nat → List UInt8 → List (List UInt8)
  | 0, _ => []
  | f + 1, l => if l = [] then [] else l.take (dec l).2 :: chs f (l.drop (dec l).2)
def chunks (l : List UInt8) : List (List UInt8) := chs l.length l

theorem chs_fuel : ∀ (f : Nat) (l : List UInt8), l.length ≤ f → chs f l = chunks l := by
  have key : ∀ (n : Nat) (l : List UInt8), l.length = n → ∀ f g, l.length ≤ f → l.length ≤ g → chs f l = chs g l := by
    intro n
    induction n using Nat.strongRecOn with
    | ind n ih =>
      intro l hl f g hf hg
      by_cases h0 : l = []
      · subst h0
        cases f <;> cases g <;> simp [chs]
      · have hp := List.length_pos_iff.2 h0
        cases f with
        | zero => omega
        | succ f =>
          cases g with
          | zero => omega
          | succ g =>
            simp only [chs, h0, if_false]
            have h1 := dec_pos l
            rw [ih (l.drop (dec l).2).length (by rw [List.length_drop]; omega) _ rfl f g (by rw [List.length_drop]; omega) (by rw [List.length_drop]; omega)]
  intro f l h
  exact key _ l rfl f l.length h (Nat.le_refl _)

theorem chunks_nil : chunks [] = [] := rfl
theorem chunks_cons (l : List UInt8) (h : l ≠ []) : chunks l = l.take (dec l).2 :: chunks (l.drop (dec l).2) := by
  have hp := List.length_pos_iff.2 h
  have h1 := dec_pos l
  rw [← chs_fuel (l.length - 1 + 1) l (by omega)]
  simp only [chs, h, if_false]
  rw [chs_fuel _ _ (by rw [List.length_drop]; omega)]

/-- induction along the pieces -/
theorem chunks_ind {P : List UInt8 → Prop} (h0 : P []) (h1 : ∀ l, l ≠ [] → P (l.drop (dec l).2) → P l) : ∀ l, P l := by
  have key : ∀ (n : Nat) (l : List UInt8), l.length = n → P l := by
    intro n
    induction n using Nat.strongRecOn with
    | ind n ih =>
      intro l hl
      by_cases h : l = []
      · subst h; exact h0
      · have hp := List.length_pos_iff.2 h
        have := dec_pos l
        exact h1 l h (ih _ (by rw [List.length_drop]; omega) _ rfl)
  exact fun l => key _ l rfl

theorem chunks_flat (l : List UInt8) : (chunks l).flatten = l := by
  induction l using chunks_ind with
  | h0 => rfl
  | h1 l h ih => rw [chunks_cons l h, List.flatten_cons, ih, List.take_append_drop]

theorem chunks_len (l : List UInt8) : (chunks l).length ≤ l.length := by
  induction l using chunks_ind with
  | h0 => simp [chunks_nil]
  | h1 l h ih =>
    rw [chunks_cons l h, List.length_cons]
    have h1 := dec_pos l
    have h2 := dec_le l h
    rw [List.length_drop] at ih
    omega

theorem chunk_dec {l c : List UInt8} (h : c ∈ chunks l) : c ≠ [] ∧ (dec c).2 = c.length := by
  induction l using chunks_ind with
  | h0 => simp [chunks_nil] at h
  | h1 l hl ih =>
    rw [chunks_cons l hl] at h
    rcases List.mem_cons.1 h with rfl | h
    · have h1 := dec_pos l
      have h2 := dec_le l hl
      rw [dec_chunk l hl]
      refine ⟨fun e => ?_, by rw [List.length_take]; omega⟩
      have := congrArg List.length e
      simp only [List.length_take, List.length_nil] at this
      omega
    · exact ih h

/-- is it UTF-8? -/
def validL (l : List UInt8) : Bool := (chunks l).all okD

theorem chunks_app (a b : List UInt8) (h : validL a = true) : chunks (a ++ b) = chunks a ++ chunks b := by
  unfold validL at h
  induction a using chunks_ind with
  | h0 => simp [chunks_nil]
  | h1 l hl ih =>
    rw [chunks_cons l hl, List.all_cons, Bool.and_eq_true, okD_chunk l hl] at h
    have he := dec_ext l b hl h.1
    have h2 := dec_le l hl
    have hn : l ++ b ≠ [] := by simp [hl]
    rw [chunks_cons _ hn, he, List.take_append_of_le_length h2, List.drop_append_of_le_length h2, ih h.2, chunks_cons l hl]
    rfl

theorem valid_app (a b : List UInt8) (ha : validL a = true) : validL (a ++ b) = validL b := by
  unfold validL
  rw [chunks_app a b ha, List.all_append]
  unfold validL at ha
  simp [ha]

theorem chunks_take (l : List UInt8) : ∀ k, chunks ((chunks l).take k).flatten = (chunks l).take k := by
  induction l using chunks_ind with
  | h0 => intro k; simp [chunks_nil]
  | h1 l hl ih =>
    intro k
    cases k with
    | zero => simp [chunks_nil]
    | succ k =>
      have h1 := dec_pos l
      have h2 := dec_le l hl
      rw [chunks_cons l hl, List.take_succ_cons, List.flatten_cons]
      have hs : ((chunks (l.drop (dec l).2)).take k).flatten ++ ((chunks (l.drop (dec l).2)).drop k).flatten = l.drop (dec l).2 := by
        rw [← List.flatten_append, List.take_append_drop, chunks_flat]
      have ihk := ih k
      generalize ((chunks (l.drop (dec l).2)).take k).flatten = p at *
      generalize ((chunks (l.drop (dec l).2)).drop k).flatten = q at *
      have hp : l.take (dec l).2 ≠ [] := by
        intro h
        have := congrArg List.length h
        simp only [List.length_take, List.length_nil] at this
        omega
      have hd : dec (l.take (dec l).2 ++ p) = dec l := by
        cases h : okD l with
        | true =>
          rw [dec_ext _ _ hp (by rw [okD_chunk l hl]; exact h), dec_chunk l hl]
        | false =>
          have hb := dec_bad (l.take (dec l).2 ++ p) q (by simp [hp]) (by rw [List.append_assoc, hs, List.take_append_drop]; exact h)
          rw [(okD_false _).1 hb, (okD_false _).1 h]
      have hlen : (l.take (dec l).2).length = (dec l).2 := by rw [List.length_take]; omega
      rw [chunks_cons _ (show l.take (dec l).2 ++ p ≠ [] by simp [hp]), hd, List.take_append_of_le_length (by omega), List.drop_append_of_le_length (by omega), List.take_of_length_le (by omega), List.drop_of_length_le (by omega), List.nil_append, ihk]

/-- a text's first k runes -/
def cutL (l : List UInt8) (k : Nat) : List UInt8 := ((chunks l).take k).flatten
theorem cut_valid (l : List UInt8) (k : Nat) (h : validL l = true) : validL (cutL l k) = true := by
  unfold validL cutL at *
  rw [chunks_take]
  rw [List.all_eq_true] at *
  exact fun x hx => h x (List.mem_of_mem_take hx)
theorem cut_count (l : List UInt8) (k : Nat) : (chunks (cutL l k)).length = min k (chunks l).length := by
  unfold cutL
  rw [chunks_take, List.length_take]
theorem cut_cut (l : List UInt8) (k : Nat) : cutL (cutL l k) k = cutL l k := by
  unfold cutL
  rw [chunks_take, List.take_take, Nat.min_self]
theorem cut_prefix (l : List UInt8) (k : Nat) : ∃ r, l = cutL l k ++ r := by
  refine ⟨((chunks l).drop k).flatten, ?_⟩
  unfold cutL
  rw [← List.flatten_append, List.take_append_drop, chunks_flat]
end Go.Proofs.YtdmhnoffejjpnaaGreatDoor
end

section
set_option linter.unusedVariables false
set_option linter.unusedSimpArgs false
set_option maxRecDepth 100000
namespace Go.Proofs.YtdmhnoffejjpnaaGreatDoor
open Go Go.Lib

/-- a digit of sixteen -/
def hexD (n : Nat) : UInt8 := if n < 10 then UInt8.ofNat (48 + n) else UInt8.ofNat (87 + n)
def hexF : Nat → Nat → List UInt8
  | 0, n => [hexD (n % 16)]
  | f + 1, n => if n < 16 then [hexD n] else hexF f (n / 16) ++ [hexD (n % 16)]
/-- a number in digits of sixteen (below 16^9) -/
def hexL (n : Nat) : List UInt8 := hexF 8 n

def printR (r : Nat) : Bool := (decide (32 ≤ r) && decide (r ≤ 126)) || (decide (161 ≤ r) && decide (r ≤ 591))
/-- one piece, quoted -/
def qC (c : List UInt8) : List UInt8 :=
  if okD c = false then [92, 120, hexD ((c.getD 0 0).toNat / 16), hexD ((c.getD 0 0).toNat % 16)]
  else if (dec c).1 = 92 then [92, 92]
  else if printR (dec c).1 = true then c
  else [92, 117] ++ hexL (dec c).1 ++ [46]
def quoteL (l : List UInt8) : List UInt8 := (chunks l).flatMap qC

theorem quote_nil : quoteL [] = [] := rfl
theorem quote_cons (l : List UInt8) (h : l ≠ []) : quoteL l = qC (l.take (dec l).2) ++ quoteL (l.drop (dec l).2) := by
  unfold quoteL
  rw [chunks_cons l h, List.flatMap_cons]

theorem hexD_nat (n : Nat) (h : n < 16) : (hexD n).toNat = if n < 10 then 48 + n else 87 + n := by
  unfold hexD
  split <;> simp <;> omega

theorem hexF_len : ∀ (f n : Nat), 1 ≤ (hexF f n).length ∧ (hexF f n).length ≤ f + 1
  | 0, n => by simp [hexF]
  | f + 1, n => by
    unfold hexF
    split
    · simp
    · have := hexF_len f (n / 16)
      simp; omega

theorem hexF_fuel : ∀ (f g n : Nat), n < 16 ^ (f + 1) → n < 16 ^ (g + 1) → hexF f n = hexF g n
  | 0, 0, n, _, _ => rfl
  | 0, g + 1, n, h, _ => by
    have hn : n < 16 := by simpa using h
    unfold hexF
    rw [if_pos hn, Nat.mod_eq_of_lt hn]
  | f + 1, 0, n, _, h => by
    have hn : n < 16 := by simpa using h
    unfold hexF
    rw [if_pos hn, Nat.mod_eq_of_lt hn]
  | f + 1, g + 1, n, h1, h2 => by
    unfold hexF
    split
    · rfl
    · rw [hexF_fuel f g (n / 16) (by rw [Nat.pow_succ] at h1; omega) (by rw [Nat.pow_succ] at h2; omega)]
theorem hexL_small (n : Nat) (h : n < 16) : hexL n = [hexD n] := by
  unfold hexL hexF
  rw [if_pos h]
theorem hexL_step (n : Nat) (h : 16 ≤ n) (h2 : n < 16 ^ 9) : hexL n = hexL (n / 16) ++ [hexD (n % 16)] := by
  conv => lhs; unfold hexL hexF
  rw [if_neg (by omega)]
  unfold hexL
  rw [hexF_fuel 7 8 (n / 16) (by omega) (by omega)]

/-! ### a digit read back -/
def unhex (b : UInt8) : Option Nat :=
  if 48 ≤ b.toNat ∧ b.toNat ≤ 57 then some (b.toNat - 48) else if 97 ≤ b.toNat ∧ b.toNat ≤ 102 then some (b.toNat - 87) else none
theorem unhex_hexD (n : Nat) (h : n < 16) : unhex (hexD n) = some n := by
  unfold unhex
  rw [hexD_nat n h]
  by_cases h1 : n < 10
  · rw [if_pos h1, if_pos (by omega)]; congr 1; omega
  · rw [if_neg h1, if_neg (by omega), if_pos (by omega)]; congr 1; omega

/-- no digit is a backslash, or a point -/
theorem hexD_ne (n : Nat) (h : n < 16) : hexD n ≠ 92 ∧ hexD n ≠ 46 := by
  have := hexD_nat n h
  constructor
  · intro e; rw [e] at this; split at this <;> simp at this <;> omega
  · intro e; rw [e] at this; split at this <;> simp at this <;> omega
theorem hexF_mem : ∀ (f n : Nat) (b : UInt8), b ∈ hexF f n → ∃ k, k < 16 ∧ b = hexD k
  | 0, n, b, h => by
    simp [hexF] at h
    exact ⟨n % 16, by omega, h⟩
  | f + 1, n, b, h => by
    unfold hexF at h
    split at h
    · simp at h
      exact ⟨n, by assumption, h⟩
    · rw [List.mem_append] at h
      rcases h with h | h
      · exact hexF_mem f _ b h
      · simp at h
        exact ⟨n % 16, by omega, h⟩

/-- digits from the left: what a reader makes of them -/
def rdHex (acc : Nat) : List UInt8 → Option Nat
  | [] => some acc
  | b :: t => match unhex b with
    | some d => rdHex (acc * 16 + d) t
    | none => none
theorem rdHex_app (acc : Nat) (a b : List UInt8) : rdHex acc (a ++ b) = (rdHex acc a).bind fun x => rdHex x b := by
  induction a generalizing acc with
  | nil => rfl
  | cons x t ih =>
    simp only [List.cons_append, rdHex]
    cases unhex x with
    | none => rfl
    | some d => exact ih _
theorem rdHex_hexF : ∀ (f n : Nat), n < 16 ^ (f + 1) → rdHex 0 (hexF f n) = some n
  | 0, n, h => by
    have : n % 16 = n := by omega
    simp [hexF, rdHex, this, unhex_hexD n (by simpa using h)]
  | f + 1, n, h => by
    unfold hexF
    split
    · rename_i h1
      simp [rdHex, unhex_hexD n h1]
    · rw [rdHex_app, rdHex_hexF f (n / 16) (by rw [Nat.pow_succ] at h; omega)]
      simp only [Option.bind_some, rdHex, unhex_hexD (n % 16) (by omega)]
      congr 1; omega

/-! ### a rune's bytes -/
def encL (r : Nat) : List UInt8 :=
  if r < 128 then [UInt8.ofNat r]
  else if r < 2048 then [UInt8.ofNat (192 + r / 64), UInt8.ofNat (128 + r % 64)]
  else if r < 65536 then [UInt8.ofNat (224 + r / 4096), UInt8.ofNat (128 + r / 64 % 64), UInt8.ofNat (128 + r % 64)]
  else [UInt8.ofNat (240 + r / 262144), UInt8.ofNat (128 + r / 4096 % 64), UInt8.ofNat (128 + r / 64 % 64), UInt8.ofNat (128 + r % 64)]

theorem ofN {a b : Nat} (h : a = b) : UInt8.ofNat a = UInt8.ofNat b := by rw [h]
theorem byte_eq (b : UInt8) (n : Nat) (h : b.toNat = n) : b = UInt8.ofNat n := by rw [← h]; simp

set_option maxHeartbeats 1000000 in
/-- a piece that stands there is its rune's bytes -/
theorem enc_dec (c : List UInt8) (hne : c ≠ []) (hw : (dec c).2 = c.length) (hok : okD c = true) : encL (dec c).1 = c := by
  have hk := (okD_iff c).1 hok
  unfold dec at hw hk ⊢
  have hb : ∀ i, (c.getD i 0).toNat < 256 := fun i => UInt8.toNat_lt _
  have b0 := hb 0; have b1 := hb 1; have b2 := hb 2; have b3 := hb 3
  match c, hne with
  | [x0], _ =>
    simp only [List.getD_cons_zero, List.length_cons, List.length_nil] at *
    generalize hx : x0.toNat = n at *
    revert hw hk
    unfold decodeN
    by_cases c0 : n < 128
    · simp only [c0, if_true]
      intro _ _
      unfold encL
      rw [if_pos c0, byte_eq x0 n hx]
    · simp [c0]
  | [x0, x1], _ =>
    simp only [List.getD_cons_zero, List.getD_cons_succ, List.length_cons, List.length_nil] at *
    generalize hx0 : x0.toNat = n0 at *
    generalize hx1 : x1.toNat = n1 at *
    revert hw hk
    unfold decodeN
    by_cases c0 : n0 < 128
    · simp [c0]
    simp only [c0, if_false]
    split
    · split
      · intro _ _
        unfold encL
        rw [if_neg (by omega), if_pos (by omega), byte_eq x0 n0 hx0, byte_eq x1 n1 hx1]
        simp only [List.cons.injEq, and_true]
        refine ⟨ofN ?_, ofN ?_⟩ <;> omega
      · simp
    · simp
  | [x0, x1, x2], _ =>
    simp only [List.getD_cons_zero, List.getD_cons_succ, List.length_cons, List.length_nil] at *
    generalize hx0 : x0.toNat = n0 at *
    generalize hx1 : x1.toNat = n1 at *
    generalize hx2 : x2.toNat = n2 at *
    revert hw hk
    unfold decodeN
    by_cases c0 : n0 < 128
    · simp [c0]
    simp only [c0, if_false]
    split
    · split
      · intro hw; simp at hw
      · simp
    · split
      · split
        · intro _ _
          unfold encL
          rw [if_neg (by omega), if_neg (by omega), if_pos (by omega), byte_eq x0 n0 hx0, byte_eq x1 n1 hx1, byte_eq x2 n2 hx2]
          simp only [List.cons.injEq, and_true]
          refine ⟨ofN ?_, ofN ?_, ofN ?_⟩ <;> omega
        · simp
      · simp
  | x0 :: x1 :: x2 :: x3 :: t, _ =>
    have ht : t = [] := by
      have := decodeN_w4 (x0 :: x1 :: x2 :: x3 :: t).length ((x0 :: x1 :: x2 :: x3 :: t).getD 0 0).toNat ((x0 :: x1 :: x2 :: x3 :: t).getD 1 0).toNat ((x0 :: x1 :: x2 :: x3 :: t).getD 2 0).toNat ((x0 :: x1 :: x2 :: x3 :: t).getD 3 0).toNat
      rw [hw] at this
      simp only [List.length_cons] at this
      exact List.eq_nil_of_length_eq_zero (by omega)
    subst ht
    simp only [List.getD_cons_zero, List.getD_cons_succ, List.length_cons, List.length_nil] at *
    generalize hx0 : x0.toNat = n0 at *
    generalize hx1 : x1.toNat = n1 at *
    generalize hx2 : x2.toNat = n2 at *
    generalize hx3 : x3.toNat = n3 at *
    revert hw hk
    unfold decodeN
    by_cases c0 : n0 < 128
    · simp [c0]
    simp only [c0, if_false]
    split
    · split
      · intro hw; simp at hw
      · simp
    · split
      · split
        · intro hw; simp at hw
        · simp
      · split
        · split
          · intro _ _
            unfold encL
            rw [if_neg (by omega), if_neg (by omega), if_neg (by omega), byte_eq x0 n0 hx0, byte_eq x1 n1 hx1, byte_eq x2 n2 hx2, byte_eq x3 n3 hx3]
            simp only [List.cons.injEq, and_true]
            refine ⟨ofN ?_, ofN ?_, ofN ?_, ofN ?_⟩ <;> omega
          · simp
        · simp
end Go.Proofs.YtdmhnoffejjpnaaGreatDoor
end
