/-
  Plain mathematics: fields as runes (layer 2): numbers and texts, written and read back.
  wire: numbers put behind a row of bytes; the writer's Int.
-/
import Derived.Test.YtdmhnoffejjpnaaGreatDoorZAE
section
set_option linter.unusedVariables false
set_option linter.unusedSimpArgs false
set_option maxRecDepth 100000
namespace Go.Proofs.YtdmhnoffejjpnaaGreatDoor
open Go Go.Lib

/-! ### a rune's bytes, read back -/
theorem enc2 (r : Nat) (h1 : 128 ≤ r) (h2 : r < 2048) : encL r = [UInt8.ofNat (192 + r / 64), UInt8.ofNat (128 + r % 64)] := by
  unfold encL; rw [if_neg (by omega), if_pos h2]
theorem enc3 (r : Nat) (h1 : 2048 ≤ r) (h2 : r < 65536) : encL r = [UInt8.ofNat (224 + r / 4096), UInt8.ofNat (128 + r / 64 % 64), UInt8.ofNat (128 + r % 64)] := by
  unfold encL; rw [if_neg (by omega), if_neg (by omega), if_pos h2]
theorem dec_enc (r : Nat) (t : List UInt8) (h1 : 128 ≤ r) (h2 : r < 55296) : dec (encL r ++ t) = (r, (encL r).length) := by
  by_cases h3 : r < 2048
  · rw [enc2 r h1 h3]
    unfold dec decodeN
    simp only [List.cons_append, List.nil_append, List.length_cons, List.length_nil, List.getD_cons_zero, List.getD_cons_succ, UInt8.toNat_ofNat']
    have e0 : (192 + r / 64) % 2 ^ 8 = 192 + r / 64 := by omega
    have e1 : (128 + r % 64) % 2 ^ 8 = 128 + r % 64 := by omega
    rw [e0, e1, if_neg (by omega), if_pos ⟨by omega, by omega, by omega⟩, if_pos (by omega)]
    congr 1; omega
  · rw [enc3 r (by omega) (by omega)]
    unfold dec decodeN
    simp only [List.cons_append, List.nil_append, List.length_cons, List.length_nil, List.getD_cons_zero, List.getD_cons_succ, UInt8.toNat_ofNat']
    have e0 : (224 + r / 4096) % 2 ^ 8 = 224 + r / 4096 := by omega
    have e1 : (128 + r / 64 % 64) % 2 ^ 8 = 128 + r / 64 % 64 := by omega
    have e2 : (128 + r % 64) % 2 ^ 8 = 128 + r % 64 := by omega
    rw [e0, e1, e2, if_neg (by omega), if_neg (by omega), if_pos ⟨by omega, ⟨by omega, by omega⟩, by omega, by omega⟩, if_pos (by omega)]
    congr 1; omega
theorem enc_ne (r : Nat) (t : List UInt8) : encL r ++ t ≠ [] := by
  intro e
  have := congrArg List.length e
  rw [List.length_append, List.length_nil] at this
  have := (encL_len r).1
  omega
theorem enc_okD (r : Nat) (t : List UInt8) (h1 : 128 ≤ r) (h2 : r < 55296) : okD (encL r ++ t) = true := by
  rw [okD_iff, dec_enc r t h1 h2]
  simp only
  omega
theorem enc_valid (r : Nat) (h1 : 128 ≤ r) (h2 : r < 55296) : validL (encL r) = true ∧ chunks (encL r) = [encL r] := by
  have hne : encL r ≠ [] := by have := enc_ne r []; rwa [List.append_nil] at this
  have hd : dec (encL r) = (r, (encL r).length) := by have := dec_enc r [] h1 h2; rwa [List.append_nil] at this
  have ho : okD (encL r) = true := by have := enc_okD r [] h1 h2; rwa [List.append_nil] at this
  have hc : chunks (encL r) = [encL r] := by
    rw [chunks_cons _ hne, hd]
    simp [chunks_nil]
  refine ⟨?_, hc⟩
  unfold validL
  rw [hc]
  simp [ho]

/-! ### a number's runes -/
def ahF : Nat → Nat → List UInt8
  | 0, _ => []
  | f + 1, m => if m = 0 then [] else ahF f (m / 4096) ++ encL (256 + m % 4096)
/-- the digits ahead of the last one -/
def ahL (m : Nat) : List UInt8 := ahF 6 m
def numL (n : Nat) : List UInt8 := ahL (n / 4096) ++ encL (4352 + n % 4096)

theorem ahF_fuel : ∀ (f g m : Nat), m < 4096 ^ f → m < 4096 ^ g → ahF f m = ahF g m
  | 0, g, m, h1, h2 => by
    have : m = 0 := by simp at h1; exact h1
    subst this
    cases g <;> simp [ahF]
  | f + 1, 0, m, h1, h2 => by
    have : m = 0 := by simp at h2; exact h2
    subst this
    simp [ahF]
  | f + 1, g + 1, m, h1, h2 => by
    simp only [ahF]
    rw [ahF_fuel f g (m / 4096) (by rw [Nat.pow_succ] at h1; omega) (by rw [Nat.pow_succ] at h2; omega)]
theorem ah_zero : ahL 0 = [] := rfl
theorem ah_step (m : Nat) (h : m ≠ 0) (hb : m < 4096 ^ 6) : ahL m = ahL (m / 4096) ++ encL (256 + m % 4096) := by
  unfold ahL
  conv => lhs; rw [show ahF 6 m = ahF (5 + 1) m from rfl]; unfold ahF
  rw [if_neg h, ahF_fuel 5 6 _ (by omega) (by omega)]
theorem ah_small (m : Nat) (h : m ≠ 0) (hb : m < 4096) : ahL m = encL (256 + m) := by
  rw [ah_step m h (by omega), show m / 4096 = 0 by omega, ah_zero, show m % 4096 = m by omega, List.nil_append]
theorem ah_len (f : Nat) : ∀ m, (ahF f m).length ≤ 4 * f := by
  induction f with
  | zero => intro m; simp [ahF]
  | succ f ih =>
    intro m
    unfold ahF
    split
    · simp
    · rw [List.length_append]
      have := ih (m / 4096)
      have := (encL_len (256 + m % 4096)).2
      omega
theorem num_len (n : Nat) : 1 ≤ (numL n).length ∧ (numL n).length ≤ 28 := by
  unfold numL
  rw [List.length_append]
  have := ah_len 6 (n / 4096)
  have := encL_len (4352 + n % 4096)
  unfold ahL
  omega
theorem ah_valid (f : Nat) : ∀ m, validL (ahF f m) = true := by
  induction f with
  | zero => intro m; rfl
  | succ f ih =>
    intro m
    unfold ahF
    split
    · rfl
    · rw [valid_app _ _ (ih _)]
      exact (enc_valid _ (by omega) (by omega)).1
theorem num_valid (n : Nat) : validL (numL n) = true := by
  show validL (ahF 6 (n / 4096) ++ _) = true
  rw [valid_app _ _ (ah_valid 6 _)]
  exact (enc_valid _ (by omega) (by omega)).1

/-! ### a number, read -/
def numF : Nat → Nat → List UInt8 → Option (Nat × List UInt8)
  | 0, _, _ => none
  | f + 1, acc, l =>
    if l = [] then none
    else if 2199023255552 < acc then none
    else if 4352 ≤ (dec l).1 ∧ (dec l).1 < 8448 then
      if acc * 4096 + ((dec l).1 - 4352) ≤ 9007199254740992 then some (acc * 4096 + ((dec l).1 - 4352), l.drop (dec l).2) else none
    else if (dec l).1 < 256 ∨ 4352 ≤ (dec l).1 ∨ ((dec l).1 = 256 ∧ acc = 0) then none
    else numF f (acc * 4096 + ((dec l).1 - 256)) (l.drop (dec l).2)
def numS (acc : Nat) (l : List UInt8) : Option (Nat × List UInt8) := numF l.length acc l

theorem numF_fuel : ∀ (f g acc : Nat) (l : List UInt8), l.length ≤ f → l.length ≤ g → numF f acc l = numF g acc l
  | 0, g, acc, l, h1, h2 => by
    have : l = [] := List.eq_nil_of_length_eq_zero (by omega)
    subst this
    cases g <;> simp [numF]
  | f + 1, 0, acc, l, h1, h2 => by
    have : l = [] := List.eq_nil_of_length_eq_zero (by omega)
    subst this
    simp [numF]
  | f + 1, g + 1, acc, l, h1, h2 => by
    simp only [numF]
    by_cases h0 : l = []
    · simp [h0]
    · have := dec_pos l
      have hp := List.length_pos_iff.2 h0
      rw [numF_fuel f g _ _ (by rw [List.length_drop]; omega) (by rw [List.length_drop]; omega)]
theorem numS_nil (acc : Nat) : numS acc [] = none := rfl
theorem numS_step (acc : Nat) (l : List UInt8) (h : l ≠ []) : numS acc l =
    if 2199023255552 < acc then none
    else if 4352 ≤ (dec l).1 ∧ (dec l).1 < 8448 then
      if acc * 4096 + ((dec l).1 - 4352) ≤ 9007199254740992 then some (acc * 4096 + ((dec l).1 - 4352), l.drop (dec l).2) else none
    else if (dec l).1 < 256 ∨ 4352 ≤ (dec l).1 ∨ ((dec l).1 = 256 ∧ acc = 0) then none
    else numS (acc * 4096 + ((dec l).1 - 256)) (l.drop (dec l).2) := by
  have hp := List.length_pos_iff.2 h
  have h1 := dec_pos l
  unfold numS
  conv => lhs; rw [show l.length = (l.length - 1) + 1 by omega]; unfold numF
  rw [if_neg h, numF_fuel (l.length - 1) (l.drop (dec l).2).length _ _ (by rw [List.length_drop]; omega) (Nat.le_refl _)]
theorem drop_enc (r : Nat) (t : List UInt8) : (encL r ++ t).drop (encL r).length = t := by
  rw [List.drop_append_of_le_length (Nat.le_refl _), List.drop_length, List.nil_append]
theorem num_ahead (m : Nat) : m ≤ 2199023255552 → ∀ t, numS 0 (ahL m ++ t) = numS m t := by
  induction m using Nat.strongRecOn with
  | ind m ih =>
    intro hm t
    by_cases h0 : m = 0
    · subst h0; rfl
    · rw [ah_step m h0 (by omega), List.append_assoc, ih (m / 4096) (by omega) (by omega), numS_step _ _ (enc_ne _ _), dec_enc _ _ (by omega) (by omega), drop_enc]
      simp only
      rw [if_neg (by omega), if_neg (by omega), if_neg (by omega), show m / 4096 * 4096 + (256 + m % 4096 - 256) = m by omega]
/-- a number that is written is read as it was -/
theorem num_back (n : Nat) (hn : n ≤ 9007199254740992) (t : List UInt8) : numS 0 (numL n ++ t) = some (n, t) := by
  unfold numL
  rw [List.append_assoc, num_ahead _ (by omega), numS_step _ _ (enc_ne _ _), dec_enc _ _ (by omega) (by omega), drop_enc]
  simp only
  rw [if_neg (by omega), if_pos (by omega), if_pos (by omega), show n / 4096 * 4096 + (4352 + n % 4096 - 4352) = n by omega]
theorem take_enc (l : List UInt8) (h : l ≠ []) (hok : okD l = true) : encL (dec l).1 ++ l.drop (dec l).2 = l := by
  have hne : l.take (dec l).2 ≠ [] := by
    intro e
    have := congrArg List.length e
    simp only [List.length_take, List.length_nil] at this
    have h1 := dec_pos l
    have h2 := List.length_pos_iff.2 h
    omega
  have hk := enc_dec (l.take (dec l).2) hne (by rw [dec_chunk l h, List.length_take]; have := dec_le l h; omega) (by rw [okD_chunk l h]; exact hok)
  rw [dec_chunk l h] at hk
  rw [hk, List.take_append_drop]
theorem num_inv' : ∀ (l : List UInt8) (acc n : Nat) (t : List UInt8), acc < 4096 ^ 6 → numS acc l = some (n, t) → ahL acc ++ l = numL n ++ t ∧ n ≤ 9007199254740992 := by
  intro l
  induction l using chunks_ind with
  | h0 => intro acc n t _ h; rw [numS_nil] at h; cases h
  | h1 l hl ih =>
    intro acc n t ha h
    rw [numS_step _ _ hl] at h
    split at h
    · cases h
    split at h
    · rename_i h2
      split at h
      · injection h with h
        simp only [Prod.mk.injEq] at h
        obtain ⟨rfl, rfl⟩ := h
        refine ⟨?_, by omega⟩
        have hok : okD l = true := by rw [okD_iff]; omega
        have hk := take_enc l hl hok
        conv => lhs; rw [← hk]
        unfold numL
        rw [show (acc * 4096 + ((dec l).1 - 4352)) / 4096 = acc by omega, show 4352 + (acc * 4096 + ((dec l).1 - 4352)) % 4096 = (dec l).1 by omega, List.append_assoc]
      · cases h
    split at h
    · cases h
    · rename_i h1 h2 h3
      have hok : okD l = true := by rw [okD_iff]; omega
      have hk := take_enc l hl hok
      obtain ⟨i1, i2⟩ := ih _ _ _ (by omega) h
      refine ⟨?_, i2⟩
      rw [← i1]
      conv => lhs; rw [← hk]
      rw [ah_step (acc * 4096 + ((dec l).1 - 256)) (by omega) (by omega), show (acc * 4096 + ((dec l).1 - 256)) / 4096 = acc by omega, show 256 + (acc * 4096 + ((dec l).1 - 256)) % 4096 = (dec l).1 by omega, List.append_assoc]
/-- what is read as a number was written as one -/
theorem num_inv {l : List UInt8} {n : Nat} {t : List UInt8} (h : numS 0 l = some (n, t)) : l = numL n ++ t ∧ n ≤ 9007199254740992 := by
  have := num_inv' l 0 n t (by omega) h
  rwa [ah_zero, List.nil_append] at this
theorem num_pre {a b : Nat} {s t : List UInt8} (ha : a ≤ 9007199254740992) (hb : b ≤ 9007199254740992) (h : numL a ++ s = numL b ++ t) : a = b ∧ s = t := by
  have h1 := num_back a ha s
  rw [h, num_back b hb t] at h1
  injection h1 with h1
  simp only [Prod.mk.injEq] at h1
  exact ⟨h1.1.symm, h1.2.symm⟩

/-! ### texts -/
def textL (s : List UInt8) : List UInt8 := numL (chunks (quoteL s)).length ++ quoteL s
/-- what is read as a text of at most so many bytes, and what is left -/
def textS (most : Int) (l : List UInt8) : Option (List UInt8 × List UInt8) :=
  match numS 0 l with
  | none => none
  | some (c, r) =>
    match unqP unq1 (cutL r c) with
    | none => none
    | some s => if (chunks (cutL r c)).length < c then none else if most < (s.length : Int) then none else some (s, r.drop (cutL r c).length)
theorem cut_app (q t : List UInt8) (h : validL q = true) : cutL (q ++ t) (chunks q).length = q := by
  unfold cutL
  rw [chunks_app q t h, List.take_append_of_le_length (Nat.le_refl _), List.take_length, chunks_flat]
theorem text_back (s : List UInt8) (most : Int) (hm : (s.length : Int) ≤ most) (hb : (quoteL s).length ≤ 9007199254740992) (t : List UInt8) : textS most (textL s ++ t) = some (s, t) := by
  have hc := chunks_len (quoteL s)
  have hcut := cut_app (quoteL s) t (quote_valid s).1
  unfold textS textL
  rw [List.append_assoc, num_back _ (by omega)]
  simp only
  rw [hcut, unqL_quote]
  simp only
  rw [if_neg (by omega), if_neg (by omega), List.drop_append_of_le_length (Nat.le_refl _), List.drop_length, List.nil_append]
theorem text_inv {l : List UInt8} {most : Int} {s t : List UInt8} (h : textS most l = some (s, t)) : l = textL s ++ t ∧ (s.length : Int) ≤ most := by
  unfold textS at h
  split at h
  · cases h
  · rename_i c r hn
    split at h
    · cases h
    · rename_i s' hu
      split at h
      · cases h
      split at h
      · cases h
      · rename_i h1 h2
        injection h with h
        simp only [Prod.mk.injEq] at h
        obtain ⟨rfl, rfl⟩ := h
        obtain ⟨e1, e2⟩ := num_inv hn
        refine ⟨?_, by omega⟩
        have hq := unqP_some hu
        have hcc := cut_count r c
        obtain ⟨z, hz⟩ := cut_prefix r c
        rw [e1]
        unfold textL
        rw [hq, show (chunks (cutL r c)).length = c by omega, List.append_assoc]
        congr 1
        conv => lhs; rw [hz]
        congr 1
        conv => rhs; rw [hz]
        have hlen : (cutL (cutL r c ++ z) c).length = (cutL r c).length := by rw [← hz]
        rw [hlen, List.drop_append_of_le_length (Nat.le_refl _), List.drop_length, List.nil_append]
theorem text_pre {a b s t : List UInt8} (ha : (quoteL a).length ≤ 9007199254740992) (hb : (quoteL b).length ≤ 9007199254740992) (h : textL a ++ s = textL b ++ t) : a = b ∧ s = t := by
  have h1 := text_back a (max a.length b.length) (by omega) ha s
  rw [h, text_back b (max a.length b.length) (by omega) hb t] at h1
  injection h1 with h1
  simp only [Prod.mk.injEq] at h1
  exact ⟨h1.1.symm, h1.2.symm⟩
theorem text_len (s : List UInt8) : (textL s).length ≤ (quoteL s).length + 28 := by
  unfold textL
  rw [List.length_append]
  have := num_len (chunks (quoteL s)).length
  omega
theorem text_valid (s : List UInt8) : validL (textL s) = true := by
  unfold textL
  rw [valid_app _ _ (num_valid _)]
  exact (quote_valid s).1
end Go.Proofs.YtdmhnoffejjpnaaGreatDoor
end

section
set_option linter.unusedVariables false
set_option linter.unusedSimpArgs false
set_option maxRecDepth 100000
namespace Go.Proofs.YtdmhnoffejjpnaaGreatDoor
open Go.RowKit Go

/-- rows of bytes that are there, from block B on -/
def uB (B : Nat) (w : World) (k : Nat) : Prop := B ≤ k ∧ ∃ cs fl, w.heap[k]? = some (.cells cs 5 fl)
theorem Fr.seqU {B : Nat} {w w1 w2 : World} (f : Fr (uB B w) w w1) (g : Fr (uB B w1) w1 w2) : Fr (uB B w) w w2 :=
  ⟨g.os.trans f.os, g.tape.trans f.tape, g.output.trans f.output, Nat.le_trans f.size g.size, fun k hk hn => by
    have h1 := f.block k hk hn
    have h2 : ¬ uB B w1 k := fun ⟨q1, cs, fl, q2⟩ => hn ⟨q1, cs, fl, by rw [← h1]; exact q2⟩
    rw [g.block k (Nat.lt_of_lt_of_le hk f.size) h2, h1]⟩
theorem ownU {w : World} {B n : Nat} {v : Value} {xs : List Value} (h : w.ownsRow B 5 1 v n xs) {k : Nat} (q : rowB v k) : uB B w k := by
  rcases h.2 with ⟨rfl, _⟩ | ⟨g', cap, cur, rfl, hb, hh, _⟩
  · simp [rowB, Value.ownBlock] at q
  · simp [rowB, Value.ownBlock] at q
    subst q
    exact ⟨hb, _, _, hh⟩
theorem Fr.ofRow {w w' : World} {B n : Nat} {v : Value} {xs : List Value} (f : Fr (rowB v) w w') (h : w.ownsRow B 5 1 v n xs) : Fr (uB B w) w w' := f.mono (fun _ _ q => ownU h q)
theorem Blk.notU {w : World} {g B : Nat} {t : TypeId} {cs : List Value} (h : Blk w g t cs) (ht : t ≠ 5) : ¬ uB B w g := by
  rintro ⟨_, cs', fl, q⟩
  unfold Blk at h
  rw [h] at q
  simp only [Option.some.injEq, Obj.cells.injEq] at q
  exact ht q.2.1

theorem encA_eq (r : Nat) (h : r < 55296) : encA r = encL r := by
  unfold encA validRn
  rw [if_pos (by simp [h])]

/-- a rune behind a row of bytes -/
theorem rune_app (B : Nat) (x : Int) (h0 : 128 ≤ x) (h1 : x < 55296) (v : Value) (o : List UInt8) (w : World) (own : w.ownsRow B 5 1 v o.length (o.map cellB)) (hol : o.length ≤ 200000000) (hB : B ≤ w.heap.size) :
    Calls Tryz.prog 148 #[v, .int .i32 x] w fun e w' => ∃ v', e = .returned v' ∧ w'.ownsRow B 5 1 v' (o ++ encL x.toNat).length ((o ++ encL x.toNat).map cellB) ∧ Fr (uB B w) w w' := by
  have hrc := runeCells_enc x.toNat (by omega)
  rw [encA_eq _ (by omega), show ((x.toNat : Nat) : Int) = x by omega] at hrc
  have har := Tryz.utf8_AppendRune_plain B v o.length (o.map cellB) x (by omega) (by omega) w own (by omega) hB
  rw [hrc] at har
  refine har.mono ?_
  rintro e w' ⟨v', rfl, o2, ob, gr⟩
  have f : Fr (rowB v) w w' := ((Fr.refl (rowB v) w).alloc ob).grown gr (fun k hk _ => hk)
  exact ⟨v', rfl, own_app o2 (by simp), f.ofRow own⟩

set_option maxHeartbeats 1000000 in
theorem ahead_any (B n : Nat) : 1 ≤ n → n < 2251799813685249 → ∀ (v : Value) (o : List UInt8) (w : World), w.ownsRow B 5 1 v o.length (o.map cellB) → o.length ≤ 100000000 → B ≤ w.heap.size →
    Calls Tryz.prog 153 #[v, .int .i64 n] w fun e w' => ∃ v', e = .returned v' ∧ w'.ownsRow B 5 1 v' (o ++ ahL n).length ((o ++ ahL n).map cellB) ∧ Fr (uB B w) w w' := by
  induction n using Nat.strongRecOn with
  | ind n ih =>
    intro h1 h2 v o w own hol hB
    by_cases hs : n < 4096
    · have ha := ah_small n (by omega) hs
      have hr := rune_app B (256 + (n : Int) % 4096) (by omega) (by omega) v o w own (by omega) hB
      rw [show (256 + (n : Int) % 4096).toNat = 256 + n by omega] at hr
      rw [ha]
      have i1 : ¬ (n : Int) ≥ 4096 := by omega
      clear ih ha h2 hol h1 hs
      go_enter Tryz.func153, Tryz.ntmps153
      go_wp2_with fail
      refine hr.mono ?_
      rintro e w1 ⟨v1, rfl, o1, f1⟩
      go_wp2_with fail
      go_ret
      exact ⟨_, rfl, o1, f1⟩
    · have ha := ah_step n (by omega) (by omega)
      have hih := ih (n / 4096) (by omega) (by omega) (by omega) v o w own hol hB
      have hal := ah_len 6 (n / 4096)
      rw [show ((n / 4096 : Nat) : Int) = (n : Int) / 4096 by omega] at hih
      rw [ha, ← List.append_assoc]
      clear ih ha
      have hal2 : (o ++ ahL (n / 4096)).length ≤ 100000024 := by rw [List.length_append]; unfold ahL; omega
      generalize o ++ ahL (n / 4096) = O at *
      have i1 : (n : Int) ≥ 4096 := by omega
      have i2 : wrap64 ((n : Int) / 4096) = (n : Int) / 4096 := IntWalk.wrap64_in _ (by omega)
      clear hal h2 hol h1 hs
      replace hal2 := Lib.hid hal2
      replace hih := Lib.hid hih
      go_enter Tryz.func153, Tryz.ntmps153
      go_wp2_with fail
      refine hih.out.mono ?_
      rintro e w1 ⟨v1, rfl, o1, f1⟩
      have hr := rune_app B (256 + (n : Int) % 4096) (by omega) (by omega) v1 O w1 o1 (by have := hal2.out; omega) (by have := f1.size; omega)
      rw [show (256 + (n : Int) % 4096).toNat = 256 + n % 4096 by omega] at hr
      clear hih
      go_wp2_with fail
      refine hr.mono ?_
      rintro e w2 ⟨v2, rfl, o2, f2⟩
      go_wp2_with fail
      go_ret
      exact ⟨_, rfl, o2, f1.seqU f2⟩

set_option maxHeartbeats 1000000 in
theorem number_any (B n : Nat) (h2 : n < 9223372036854775808) (v : Value) (o : List UInt8) (w : World) (own : w.ownsRow B 5 1 v o.length (o.map cellB)) (hol : o.length ≤ 100000000) (hB : B ≤ w.heap.size) :
    Calls Tryz.prog 144 #[v, .int .i64 n] w fun e w' => ∃ v', e = .returned v' ∧ w'.ownsRow B 5 1 v' (o ++ numL n).length ((o ++ numL n).map cellB) ∧ Fr (uB B w) w w' := by
  by_cases hs : n < 4096
  · have ha : numL n = encL (4352 + n) := by unfold numL; rw [show n / 4096 = 0 by omega, ah_zero, List.nil_append, show n % 4096 = n by omega]
    have hr := rune_app B (4352 + (n : Int) % 4096) (by omega) (by omega) v o w own (by omega) hB
    rw [show (4352 + (n : Int) % 4096).toNat = 4352 + n by omega] at hr
    rw [ha]
    have i1 : ¬ (n : Int) ≥ 4096 := by omega
    clear ha h2 hol hs
    go_enter Tryz.func144, Tryz.ntmps144
    go_wp2_with fail
    refine hr.mono ?_
    rintro e w1 ⟨v1, rfl, o1, f1⟩
    go_wp2_with fail
    go_ret
    exact ⟨_, rfl, o1, f1⟩
  · have hih := ahead_any B (n / 4096) (by omega) (by omega) v o w own hol hB
    have hal := ah_len 6 (n / 4096)
    rw [show ((n / 4096 : Nat) : Int) = (n : Int) / 4096 by omega] at hih
    unfold numL
    rw [← List.append_assoc]
    have hal2 : (o ++ ahL (n / 4096)).length ≤ 100000024 := by rw [List.length_append]; unfold ahL; omega
    generalize o ++ ahL (n / 4096) = O at *
    have i1 : (n : Int) ≥ 4096 := by omega
    have i2 : wrap64 ((n : Int) / 4096) = (n : Int) / 4096 := IntWalk.wrap64_in _ (by omega)
    clear hal h2 hol hs
    replace hal2 := Lib.hid hal2
    replace hih := Lib.hid hih
    go_enter Tryz.func144, Tryz.ntmps144
    go_wp2_with fail
    refine hih.out.mono ?_
    rintro e w1 ⟨v1, rfl, o1, f1⟩
    have hr := rune_app B (4352 + (n : Int) % 4096) (by omega) (by omega) v1 O w1 o1 (by have := hal2.out; omega) (by have := f1.size; omega)
    rw [show (4352 + (n : Int) % 4096).toNat = 4352 + n % 4096 by omega] at hr
    clear hih
    go_wp2_with fail
    refine hr.mono ?_
    rintro e w2 ⟨v2, rfl, o2, f2⟩
    go_wp2_with fail
    go_ret
    exact ⟨_, rfl, o2, f1.seqU f2⟩

/-- A writer at p: all that it holds, in a row of blocks from B on. -/
def Wr (w : World) (p : Nat) (v : Value) (B : Nat) (T : List UInt8) : Prop := Blk w p 202 [v] ∧ w.ownsRow B 5 1 v T.length (T.map cellB) ∧ B ≤ w.heap.size
/-- what a writer's calls may turn -/
def wU (p B : Nat) (w : World) (k : Nat) : Prop := k = p ∨ uB B w k
theorem Fr.seqW {p B : Nat} {w w1 w2 : World} (f : Fr (wU p B w) w w1) (g : Fr (wU p B w1) w1 w2) : Fr (wU p B w) w w2 :=
  ⟨g.os.trans f.os, g.tape.trans f.tape, g.output.trans f.output, Nat.le_trans f.size g.size, fun k hk hn => by
    have h1 := f.block k hk hn
    have h2 : ¬ wU p B w1 k := by
      rintro (q | ⟨q1, cs, fl, q2⟩)
      · exact hn (Or.inl q)
      · exact hn (Or.inr ⟨q1, cs, fl, by rw [← h1]; exact q2⟩)
    rw [g.block k (Nat.lt_of_lt_of_le hk f.size) h2, h1]⟩
theorem Fr.toW {p B : Nat} {w w' : World} (f : Fr (uB B w) w w') : Fr (wU p B w) w w' := f.mono (fun _ _ q => Or.inr q)
theorem Blk.notW {w : World} {g p B : Nat} {t : TypeId} {cs : List Value} (h : Blk w g t cs) (ht : t ≠ 5) (hp : g ≠ p) : ¬ wU p B w g := by
  rintro (q | q)
  · exact hp q
  · exact h.notU ht q
theorem Wr.blkP {w : World} {p B : Nat} {v : Value} {T : List UInt8} (h : Wr w p v B T) : ¬ rowB v p := fun q => h.1.notU (B := B) (by decide) (ownU h.2.1 q)
/-- the writer with a longer row -/
theorem Wr.put {w w1 : World} {p B : Nat} {v v1 : Value} {T T1 : List UInt8} (h : Wr w p v B T) (o1 : w1.ownsRow B 5 1 v1 T1.length (T1.map cellB)) (f1 : Fr (uB B w) w w1) :
    Wr (w1.setCell ⟨p, 0, none⟩ v1) p v1 B T1 ∧ Fr (wU p B w) w (w1.setCell ⟨p, 0, none⟩ v1) := by
  have b1 : Blk w1 p 202 [v] := f1.blk h.1 (h.1.notU (by decide))
  have hn : ¬ rowB v1 p := fun q => b1.notU (B := B) (by decide) (ownU o1 q)
  have f2 : Fr (onlyB p) w1 (w1.setCell ⟨p, 0, none⟩ v1) := (Fr.refl (onlyB p) w1).store (onlyB_self p)
  refine ⟨⟨b1.set 0 v1, ownsRow_fr o1 f2 (fun q hq e => hn (by unfold onlyB at e; subst e; exact hq)), ?_⟩, f1.toW.store (Or.inl rfl)⟩
  have := h.2.2
  have := f1.size
  have := f2.size
  omega

/-- what Int writes -/
def numsL (xs : List Int) : List UInt8 := xs.flatMap fun x => numL x.toNat
theorem nums_take (xs : List Int) (k : Nat) (h : k < xs.length) : numsL (xs.take (k + 1)) = numsL (xs.take k) ++ numL (xs.getD k 0).toNat := by
  unfold numsL
  rw [List.take_succ_eq_append_getElem h, List.flatMap_append]
  simp [List.getD, h]
theorem nums_len (xs : List Int) : (numsL xs).length ≤ 28 * xs.length := by
  induction xs with
  | nil => simp [numsL]
  | cons x xs ih =>
    have := (num_len x.toNat).2
    unfold numsL at *
    rw [List.flatMap_cons, List.length_append, List.length_cons]
    omega

/-- a slice of ints that a writer's calls leave alone -/
def RdN (w : World) (p B : Nat) (v : Value) (xs : List Int) : Prop :=
  ∃ a c, v = .slice a xs.length c ∧ xs.length ≤ c ∧ ∀ i, i < xs.length → ∃ g o, a = some ⟨g, o, none⟩ ∧ ¬ wU p B w g ∧ w.cell? ⟨g, o + i, none⟩ = some (.int .i64 (xs.getD i 0))
theorem not_wU {w w' : World} {p B g o : Nat} {x : Value} (hc : w.cell? ⟨g, o, none⟩ = some x) (hn : ¬ wU p B w g) (f : Fr (wU p B w) w w') : ¬ wU p B w' g := by
  rintro (q | ⟨q1, cs, fl, q2⟩)
  · exact hn (Or.inl q)
  · exact hn (Or.inr ⟨q1, cs, fl, by rw [← f.block g (lt_of_cell hc) hn]; exact q2⟩)
theorem RdN.fr {w w' : World} {p B : Nat} {v : Value} {xs : List Int} (h : RdN w p B v xs) (f : Fr (wU p B w) w w') : RdN w' p B v xs := by
  obtain ⟨a, c, rfl, h1, h2⟩ := h
  refine ⟨a, c, rfl, h1, fun i hi => ?_⟩
  obtain ⟨g, o, rfl, h3, h4⟩ := h2 i hi
  exact ⟨g, o, rfl, not_wU h4 h3 f, f.cell h4 h3⟩
theorem RdN.of_blk {w : World} {p B g : Nat} (xs : List Int) (h : Blk w g 3 (xs.map (Value.int .i64))) (hp : g ≠ p) : RdN w p B (.slice (some ⟨g, 0, none⟩) xs.length xs.length) xs :=
  ⟨_, _, rfl, Nat.le_refl _, fun i hi => ⟨g, 0, rfl, h.notW (by decide) hp, by rw [h.cell]; simp [List.getD, hi]⟩⟩

set_option maxHeartbeats 1000000 in
theorem wint_any (p B : Nat) (v u : Value) (T : List UInt8) (xs : List Int) (w : World) (h : Wr w p v B T) (hu : RdN w p B u xs) (hx : ∀ x ∈ xs, -9223372036854775808 ≤ x ∧ x ≤ 9223372036854775807) (hT : T.length + 28 * xs.length ≤ 100000000) :
    Calls Tryz.prog 132 #[.pointer (some ⟨p, 0, none⟩), u] w fun e w' => e = .returned (.tuple #[]) ∧ ∃ v', Wr w' p v' B (T ++ numsL xs) ∧ Fr (wU p B w) w w' := by
  obtain ⟨a, c, rfl, hc, hcell⟩ := hu
  have hxs : ∀ k, k < xs.length → -9223372036854775808 ≤ xs.getD k 0 ∧ xs.getD k 0 ≤ 9223372036854775807 := fun k hk => by
    have : xs.getD k 0 = xs[k] := by simp [List.getD, hk]
    rw [this]; exact hx _ (List.getElem_mem hk)
  have htk := nums_take xs
  have hfin : numsL (xs.take xs.length) = numsL xs := by rw [List.take_length]
  have hlen : ∀ k, k ≤ xs.length → (T ++ numsL (xs.take k)).length ≤ T.length + 28 * xs.length := fun k hk => by
    rw [List.length_append]
    have := nums_len (xs.take k)
    rw [List.length_take] at this
    omega
  generalize hn : xs.length = n at *
  replace hn := Lib.hid hn
  replace hcell := Lib.hid hcell
  replace htk := Lib.hid htk
  replace hfin := Lib.hid hfin
  replace hlen := Lib.hid hlen
  replace hxs := Lib.hid hxs
  clear hx
  have hnb : n ≤ 9223372036854775807 := by omega
  go_enter Tryz.func132, Tryz.ntmps132
  go_wp2_with fail
  go_loopw [10] (fun vi wr => ∃ (k : Nat) (v' : Value), k ≤ n ∧ vi = .int .i64 k ∧ Wr wr p v' B (T ++ numsL (xs.take k)) ∧ Fr (wU p B w) w wr) (fun i _ => n - (RowKit.intOf i).toNat)
  case atStart => exact ⟨0, v, Nat.zero_le _, rfl, by rw [List.take_zero]; unfold numsL; rw [List.flatMap_nil, List.append_nil]; exact h, Fr.refl _ _⟩
  case round =>
    obtain ⟨k, v', hk, rfl, hw, fr⟩ := hrel
    by_cases hlt : k < n
    · obtain ⟨g, o, rfl, hg, c0⟩ := hcell.out k hlt
      have c1 := fr.cell c0 hg
      have c2 : wr.cell? ⟨p, 0, none⟩ = some v' := hw.1.cell 0
      have hxk := hxs.out k hlt
      have htk1 := htk.out k hlt
      have hl1 := hlen.out k hk
      have hna := number_any B (xs.getD k 0).toNat (by omega) v' _ wr hw.2.1 (by omega) hw.2.2
      rw [show (((xs.getD k 0).toNat : Nat) : Int) = max (xs.getD k 0) 0 by omega, List.append_assoc, ← htk1] at hna
      generalize xs.getD k 0 = x at *
      obtain ⟨L, hL⟩ : ∃ L, L = T ++ numsL (xs.take (k + 1)) := ⟨_, rfl⟩
      rw [← hL] at hna
      replace hL := Lib.hid hL
      have hb1 : (k : Int) < n := by omega
      replace htk1 := Lib.hid htk1
      replace hl1 := Lib.hid hl1
      replace hna := Lib.hid hna
      go_wp2_with fail
      refine hna.out.mono ?_
      rintro e w1 ⟨v1, rfl, o1, f1⟩
      have hb1 : Blk w1 p 202 [v'] := f1.blk hw.1 (hw.1.notU (by decide))
      have fz := hb1.frozen 0
      have fc : w1.cell? ⟨p, 0, none⟩ = some v' := hb1.cell 0
      obtain ⟨hw2, f2⟩ := hw.put o1 f1
      have f3 := fr.seqW f2
      obtain ⟨a1, c1', hv1⟩ := ownsRow_slice o1
      rw [hv1] at hw2 f3
      rw [hv1]
      clear hna f2 c2 c1 hb1
      go_wp2_with fail
      go_roundw
      case rel => exact ⟨k + 1, _, by omega, by go_num, by rw [← hL.out]; exact hw2, f3⟩
      case measure => simp [RowKit.intOf]; omega
    · obtain rfl : k = n := by omega
      rw [hfin.out] at hw
      go_wp2_with fail
      go_end0
      exact ⟨rfl, v', hw, fr⟩
end Go.Proofs.YtdmhnoffejjpnaaGreatDoor
end
