/-
  Plain mathematics: spans as texts, rows, chunks.
  span: Right, Row, Print; the reference's Right, Few, Same, Print.
  span: Print.
  span: Read, of what was printed.
-/
import Derived.Test.YtdmhnoffejjpnaaGreatDoorZAI
section
set_option linter.unusedVariables false
set_option linter.unusedSimpArgs false
set_option maxRecDepth 100000
namespace Go.Proofs.YtdmhnoffejjpnaaGreatDoor
open Go.RowKit Go Go.Lib

structure Sp where
  t : Int
  q : Int
  x : ByteArray
def spC (s : Sp) : List Value := [.int .i64 s.t, .int .i64 s.q, .string s.x]
theorem spC_len (s : Sp) : (spC s).length = 3 := rfl
theorem spC_one (x : Sp) : ∀ v ∈ spC x, v.oneCell' = true := by
  intro v hv
  unfold spC at hv
  simp at hv
  rcases hv with rfl | rfl | rfl <;> rfl
theorem flat_one (L : List Sp) : ∀ v ∈ L.flatMap spC, v.oneCell' = true := by
  intro v hv
  obtain ⟨s, _, h⟩ := List.mem_flatMap.1 hv
  exact spC_one s v h
theorem flat_len (L : List Sp) : (L.flatMap spC).length = L.length * 3 := by
  induction L with
  | nil => rfl
  | cons s L ih => rw [List.flatMap_cons, List.length_append, ih, spC_len, List.length_cons]; omega
theorem flat_get : ∀ (L : List Sp) (i q : Nat) (m : Sp), L[i]? = some m → q < 3 → (L.flatMap spC)[i * 3 + q]? = (spC m)[q]?
  | [], i, q, m, h, _ => by simp at h
  | x :: r, 0, q, m, h, hq => by
    simp at h; subst h
    rw [List.flatMap_cons, List.getElem?_append_left (by rw [spC_len]; omega)]
    congr 1; omega
  | x :: r, i + 1, q, m, h, hq => by
    rw [List.flatMap_cons, List.getElem?_append_right (by rw [spC_len]; omega), spC_len, show (i + 1) * 3 + q - 3 = i * 3 + q by omega]
    exact flat_get r i q m (by simpa using h) hq

/-- a slice of spans that can be read -/
def RdSp (w : World) (v : Value) (L : List Sp) : Prop := ∃ a c, v = .slice a L.length c ∧ L.length ≤ c ∧ c ≤ maxLen ∧ (a = none → c = 0) ∧ ∀ i s, L[i]? = some s → ∃ g o, a = some ⟨g, o, none⟩ ∧ w.cell? ⟨g, o + i * 3, none⟩ = some (.int .i64 s.t) ∧ w.cell? ⟨g, o + i * 3 + 1, none⟩ = some (.int .i64 s.q) ∧ w.cell? ⟨g, o + i * 3 + 2, none⟩ = some (.string s.x)
theorem RdSp.fr {w w' : World} {v : Value} {L : List Sp} {S : Nat → Prop} (h : RdSp w v L) (hf : Fr S w w') (hS : ∀ g o n c, v = .slice (some ⟨g, o, none⟩) n c → ¬ S g) : RdSp w' v L := by
  obtain ⟨a, c, rfl, hl, hc, hn, h1⟩ := h
  refine ⟨a, c, rfl, hl, hc, hn, fun i s hi => ?_⟩
  obtain ⟨g, o, rfl, c0, c1, c2⟩ := h1 i s hi
  have := hS g o _ _ rfl
  exact ⟨g, o, rfl, hf.cell c0 this, hf.cell c1 this, hf.cell c2 this⟩
theorem RdSp.frN {w w' : World} {v : Value} {L : List Sp} (h : RdSp w v L) (hf : Fr noB w w') : RdSp w' v L := h.fr hf (fun _ _ _ _ _ q => q)
theorem RdSp.of_own {w : World} {B n : Nat} {v : Value} {L : List Sp} (h : w.ownsRow B 118 3 v n (L.flatMap spC)) (hn : L.length = n) : RdSp w v L := by
  subst hn
  rcases h.2 with ⟨rfl, h1⟩ | ⟨g, cap, cur, rfl, hb, hg, hnc, hcm, hcs, htake⟩
  · exact ⟨none, 0, by rw [h1], by omega, by simp [maxLen], fun _ => rfl, fun i s hi => by
      rw [List.eq_nil_of_length_eq_zero h1] at hi; simp at hi⟩
  · refine ⟨_, cap, rfl, hnc, hcm, (fun q => by cases q), fun i s hi => ⟨g, 0, rfl, ?_⟩⟩
    have key : ∀ j, j < 3 → w.cell? ⟨g, 0 + i * 3 + j, none⟩ = (spC s)[j]? := fun j hj => by
      have h1 := flat_get L i j s hi hj
      have h2 : j < (spC s).length := hj
      rw [List.getElem?_eq_getElem h2] at h1
      have := h.cells (g := g) rfl (i * 3 + j) _ h1
      rw [add_none] at this
      rw [Nat.add_assoc, this, List.getElem?_eq_getElem h2]
    exact ⟨key 0 (by omega), key 1 (by omega), key 2 (by omega)⟩

/-! ### right ones, and their text -/
def rightS (s : Sp) : Bool := decide (1 ≤ s.t) && decide (s.t ≤ 65535) && decide (1 ≤ s.q) && decide (s.q ≤ 2147483648) && decide (s.x.size ≤ 40)
theorem right_iff (s : Sp) : rightS s = true ↔ (1 ≤ s.t ∧ s.t ≤ 65535 ∧ 1 ≤ s.q ∧ s.q ≤ 2147483648 ∧ s.x.size ≤ 40) := by
  unfold rightS
  simp [and_assoc]
def spanF (s : Sp) : List UInt8 := numL s.t.toNat ++ (numL s.q.toNat ++ textL s.x.data.toList)
def printL (L : List Sp) : List UInt8 := if decide (L.length ≤ 1000) && L.all rightS then numL L.length ++ L.flatMap spanF else []
theorem span_len (s : Sp) (h : rightS s = true) : (spanF s).length ≤ 564 := by
  obtain ⟨_, _, _, _, h5⟩ := (right_iff s).1 h
  unfold spanF
  have h1 := (num_len s.t.toNat).2
  have h2 := (num_len s.q.toNat).2
  have h3 := text_len s.x.data.toList
  have h4 := quote_len s.x.data.toList
  rw [size_len] at h4
  rw [List.length_append, List.length_append]
  omega
theorem spans_len (L : List Sp) (h : ∀ s ∈ L, rightS s = true) : (L.flatMap spanF).length ≤ 564 * L.length := by
  induction L with
  | nil => simp
  | cons s L ih =>
    have h1 := span_len s (h s (by simp))
    have h2 := ih (fun x hx => h x (by simp [hx]))
    rw [List.flatMap_cons, List.length_append, List.length_cons]
    omega
theorem rd_t (s : Sp) (h : rightS s = true) (r : List UInt8) : intS 1 65535 (spanF s ++ r) = some (s.t.toNat, numL s.q.toNat ++ textL s.x.data.toList ++ r) := by
  obtain ⟨h1, h2, h3, h4, h5⟩ := (right_iff s).1 h
  unfold spanF
  rw [List.append_assoc]
  exact int_back _ _ _ _ (by omega) (by omega) (by omega)
theorem rd_q (s : Sp) (h : rightS s = true) (r : List UInt8) : intS 1 2147483648 (numL s.q.toNat ++ textL s.x.data.toList ++ r) = some (s.q.toNat, textL s.x.data.toList ++ r) := by
  obtain ⟨h1, h2, h3, h4, h5⟩ := (right_iff s).1 h
  rw [List.append_assoc]
  exact int_back _ _ _ _ (by omega) (by omega) (by omega)
theorem rd_x (s : Sp) (h : rightS s = true) (r : List UInt8) : textS 40 (textL s.x.data.toList ++ r) = some (s.x.data.toList, r) := by
  obtain ⟨h1, h2, h3, h4, h5⟩ := (right_iff s).1 h
  have h6 := quote_len s.x.data.toList
  rw [size_len] at h6
  exact text_back _ _ (by rw [size_len]; omega) (by omega) _

/-! ### rows, chunks -/
def rowF (tr : Int) : Nat → List Sp → Bool
  | _, [] => true
  | k, s :: l => s.t == tr && s.q == (k : Int) + 1 && rowF tr (k + 1) l
theorem row_drop (tr : Int) (L : List Sp) (k : Nat) (s : Sp) (h : L[k]? = some s) : rowF tr k (L.drop k) = (s.t == tr && s.q == (k : Int) + 1 && rowF tr (k + 1) (L.drop (k + 1))) := by
  obtain ⟨hk, rfl⟩ := List.getElem?_eq_some_iff.1 h
  rw [List.drop_eq_getElem_cons hk]
  rfl
def chkF : Nat → List Sp → List (List Sp)
  | 0, L => [L]
  | f + 1, L => if 2 < L.length then L.take 2 :: chkF f (L.drop 2) else [L]
def chkL (L : List Sp) : List (List Sp) := chkF L.length L
theorem chkF_fuel : ∀ (f g : Nat) (L : List Sp), L.length ≤ f → L.length ≤ g → chkF f L = chkF g L
  | 0, g, L, h1, h2 => by
    cases g with
    | zero => rfl
    | succ g => simp only [chkF]; rw [if_neg (by omega)]
  | f + 1, 0, L, h1, h2 => by simp only [chkF]; rw [if_neg (by omega)]
  | f + 1, g + 1, L, h1, h2 => by
    simp only [chkF]
    by_cases h : 2 < L.length
    · rw [if_pos h, if_pos h, chkF_fuel f g _ (by rw [List.length_drop]; omega) (by rw [List.length_drop]; omega)]
    · rw [if_neg h, if_neg h]
theorem chk_step (L : List Sp) (h : 2 < L.length) : chkL L = L.take 2 :: chkL (L.drop 2) := by
  unfold chkL
  conv => lhs; rw [show L.length = (L.length - 1) + 1 by omega]; unfold chkF
  rw [if_pos h, chkF_fuel (L.length - 1) (L.drop 2).length _ (by rw [List.length_drop]; omega) (Nat.le_refl _)]
theorem chk_end (L : List Sp) (h : ¬ 2 < L.length) : chkL L = [L] := by
  unfold chkL
  cases hl : L.length with
  | zero => rfl
  | succ n => simp only [chkF]; rw [if_neg (by omega)]
theorem chk_props : ∀ (n : Nat) (L : List Sp), L.length = n → (chkL L).flatten = L ∧ (chkL L).length = max ((L.length + 1) / 2) 1 ∧ ∀ i c, (chkL L)[i]? = some c → c.length ≤ 2 ∧ (i + 1 < (chkL L).length → c.length = 2) ∧ (c.length = 0 → (chkL L).length = 1) := by
  intro n
  induction n using Nat.strongRecOn with
  | ind n ih =>
    intro L hl
    by_cases h : 2 < L.length
    · obtain ⟨i1, i2, i3⟩ := ih (L.drop 2).length (by rw [List.length_drop]; omega) _ rfl
      rw [chk_step L h]
      refine ⟨by rw [List.flatten_cons, i1, List.take_append_drop], by rw [List.length_cons, i2, List.length_drop]; omega, fun i c hc => ?_⟩
      cases i with
      | zero =>
        simp at hc
        subst hc
        have : (L.take 2).length = 2 := by rw [List.length_take]; omega
        exact ⟨by omega, fun _ => this, fun q => by omega⟩
      | succ i =>
        rw [List.getElem?_cons_succ] at hc
        obtain ⟨j1, j2, j3⟩ := i3 i c hc
        refine ⟨j1, fun q => j2 (by rw [List.length_cons] at q; omega), fun q => ?_⟩
        have h4 := j3 q
        exfalso
        -- one chunk alone, of none: then the rest were none
        rw [i2, List.length_drop] at h4
        have h5 := congrArg List.length i1
        have hi : i < (chkL (L.drop 2)).length := (List.getElem?_eq_some_iff.1 hc).1
        rw [i2, List.length_drop] at hi
        have hlen1 : (chkL (L.drop 2)).length = 1 := by rw [i2, List.length_drop]; exact h4
        match hm : chkL (L.drop 2), hlen1 with
        | [d], _ =>
          rw [hm] at h5 hc
          have hi0 : i = 0 := by omega
          subst hi0
          simp at hc h5
          subst hc
          omega
    · rw [chk_end L h]
      refine ⟨by simp, by rw [List.length_singleton]; omega, fun i c hc => ?_⟩
      cases i with
      | zero => simp at hc; subst hc; exact ⟨by omega, fun q => by simp at q, fun _ => rfl⟩
      | succ i => simp at hc
end Go.Proofs.YtdmhnoffejjpnaaGreatDoor
end

section
set_option linter.unusedVariables false
set_option linter.unusedSimpArgs false
set_option maxRecDepth 100000
namespace Go.Proofs.YtdmhnoffejjpnaaGreatDoor
open Go.RowKit Go Go.Lib

theorem right_any (s : Sp) (w : World) : Calls Tryz.prog 110 #[.agg #[.int .i64 s.t, .int .i64 s.q, .string s.x]] w fun e w' => e = .returned (.bool (rightS s)) ∧ Fr noB w w' := by
  have key := right_iff s
  generalize rightS s = R at *
  have fX := (Fr.refl noB w).alloc (.cells #[.int .i64 s.t, .int .i64 s.q, .string s.x] 118)
  have fin : ∀ b, (b = true ↔ (1 ≤ s.t ∧ s.t ≤ 65535 ∧ 1 ≤ s.q ∧ s.q ≤ 2147483648 ∧ s.x.size ≤ 40)) → b = R := fun b h => by
    rw [Bool.eq_iff_iff, h, key]
  replace fin := Lib.hid fin
  clear key
  go_enter Tryz.func110, Tryz.ntmps110
  go_wp2
  all_goals go_ret
  all_goals exact ⟨ret_bool (fin.out _ (by simp; omega)), fX⟩
theorem rright_any (s : Sp) (w : World) : Calls Tryz.prog 56 #[.agg #[.int .i64 s.t, .int .i64 s.q, .string s.x]] w fun e w' => e = .returned (.bool (rightS s)) ∧ Fr noB w w' := by
  have key := right_iff s
  generalize rightS s = R at *
  have fX := (Fr.refl noB w).alloc (.cells #[.int .i64 s.t, .int .i64 s.q, .string s.x] 118)
  have fin : ∀ b, (b = true ↔ (1 ≤ s.t ∧ s.t ≤ 65535 ∧ 1 ≤ s.q ∧ s.q ≤ 2147483648 ∧ s.x.size ≤ 40)) → b = R := fun b h => by
    rw [Bool.eq_iff_iff, h, key]
  replace fin := Lib.hid fin
  clear key
  go_enter Tryz.func56, Tryz.ntmps56
  go_wp2
  all_goals go_ret
  all_goals exact ⟨ret_bool (fin.out _ (by simp; omega)), fX⟩

set_option maxHeartbeats 1000000 in
theorem row_any (v : Value) (L : List Sp) (tr : Int) (w : World) (hv : RdSp w v L) :
    Calls Tryz.prog 126 #[v, .int .i64 tr] w fun e w' => e = .returned (.bool (rowF tr 0 L)) ∧ Fr noB w w' := by
  obtain ⟨a, c, rfl, hx1, hx2, _, hx3⟩ := hv
  unfold maxLen at hx2
  have hget : ∀ k, k < L.length → ∃ m, L[k]? = some m := fun k hk => ⟨L[k], List.getElem?_eq_getElem hk⟩
  have hrow := row_drop tr L
  have h0 : rowF tr 0 (L.drop 0) = rowF tr 0 L := by rw [List.drop_zero]
  have hend : ∀ k, rowF tr k (L.drop L.length) = true := fun k => by rw [List.drop_length]; rfl
  generalize hn : L.length = n at *
  have hnb : n ≤ 9223372036854775807 := by omega
  generalize rowF tr 0 L = R at *
  replace hx3 := Lib.hid hx3
  replace hget := Lib.hid hget
  replace hrow := Lib.hid hrow
  replace hend := Lib.hid hend
  replace hn := Lib.hid hn
  go_enter Tryz.func126, Tryz.ntmps126
  go_wp2_with fail
  go_loopw [9] (fun i wr => ∃ k : Nat, k ≤ n ∧ i = .int .i64 k ∧ Hid (rowF tr k (L.drop k) = R) ∧ Fr noB w wr) (fun i _ => n - (RowKit.intOf i).toNat)
  case atStart => exact ⟨0, by omega, rfl, Lib.hid h0, Fr.refl _ _⟩
  case round =>
    obtain ⟨k, hk, rfl, hR, fr⟩ := hrel
    clear h0
    by_cases hlt : k < n
    · obtain ⟨s, hs⟩ := hget.out k hlt
      obtain ⟨g, o, rfl, c0, c1, c2⟩ := hx3.out k s hs
      replace c0 := fr.cell c0 (fun q => q)
      replace c1 := fr.cell c1 (fun q => q)
      replace c2 := fr.cell c2 (fun q => q)
      have hst := hrow.out k s hs
      rw [hR.out] at hst
      have fX := fr.alloc (.cells #[.int .i64 s.t, .int .i64 s.q, .string s.x] 118)
      have hb1 : (k : Int) < n := by omega
      replace hs := Lib.hid hs
      clear hR
      cases h1 : s.t == tr with
      | false =>
        rw [h1] at hst
        have hb : (s.t != tr) = true := by simp [bne, h1]
        replace hst := Lib.hid hst
        go_wp2_with fail
        go_ret
        exact ⟨ret_bool (by rw [hst.out]; rfl), fX⟩
      | true =>
        rw [h1, Bool.true_and] at hst
        have hb : (s.t != tr) = false := by simp [bne, h1]
        cases h2 : s.q == (k : Int) + 1 with
        | false =>
          rw [h2] at hst
          have hb2 : (s.q != (k : Int) + 1) = true := by simp [bne, h2]
          replace hst := Lib.hid hst
          go_wp2_with fail
          go_ret
          exact ⟨ret_bool (by rw [hst.out]; rfl), fX⟩
        | true =>
          rw [h2, Bool.true_and] at hst
          have hb2 : (s.q != (k : Int) + 1) = false := by simp [bne, h2]
          replace hst := Lib.hid hst.symm
          go_wp2_with fail
          go_roundw
          case rel => exact ⟨k + 1, by omega, by go_num, hst, fX⟩
          case measure => simp [RowKit.intOf]; omega
    · obtain rfl : k = n := by omega
      have hf : R = true := by rw [← hR.out, hend.out]
      subst hf
      go_wp2_with fail
      go_ret
      exact ⟨rfl, fr⟩

def fewS (L : List Sp) : Bool := L.all (fun s => decide (s.x.size ≤ 100)) && decide (L.length ≤ 100)
set_option maxHeartbeats 1000000 in
theorem few_any (v : Value) (L : List Sp) (w : World) (hv : RdSp w v L) :
    Calls Tryz.prog 28 #[v] w fun e w' => e = .returned (.bool (fewS L)) ∧ Fr noB w w' := by
  obtain ⟨a, c, rfl, hx1, hx2, _, hx3⟩ := hv
  unfold maxLen at hx2
  have hget : ∀ k, k < L.length → ∃ m, L[k]? = some m := fun k hk => ⟨L[k], List.getElem?_eq_getElem hk⟩
  have hno : ∀ (k : Nat) (m : Sp), L[k]? = some m → 100 < m.x.size → fewS L = false := fun k m h1 h2 => by
    unfold fewS
    have : L.all (fun s => decide (s.x.size ≤ 100)) = false := by
      rw [List.all_eq_false]
      exact ⟨m, List.mem_of_getElem? h1, by simp; omega⟩
    rw [this]; rfl
  have hyes : (∀ (i : Nat) (m : Sp), i < L.length → L[i]? = some m → m.x.size ≤ 100) → fewS L = decide (L.length ≤ 100) := fun h => by
    unfold fewS
    have : L.all (fun s => decide (s.x.size ≤ 100)) = true := by
      rw [List.all_eq_true]
      intro m hm
      obtain ⟨i, hi, rfl⟩ := List.getElem_of_mem hm
      simpa using h i _ hi (List.getElem?_eq_getElem hi)
    rw [this]; rfl
  generalize hn : L.length = n at *
  have hnb : n ≤ 9223372036854775807 := by omega
  generalize fewS L = F at *
  replace hx3 := Lib.hid hx3
  replace hget := Lib.hid hget
  replace hno := Lib.hid hno
  replace hyes := Lib.hid hyes
  replace hn := Lib.hid hn
  go_enter Tryz.func28, Tryz.ntmps28
  go_wp2_with fail
  go_loopw [3] (fun i wr => ∃ k : Nat, k ≤ n ∧ i = .int .i64 k ∧ Hid (∀ (i : Nat) (m : Sp), i < k → L[i]? = some m → m.x.size ≤ 100) ∧ Fr noB w wr) (fun i _ => n - (RowKit.intOf i).toNat)
  case atStart => exact ⟨0, by omega, rfl, Lib.hid (fun i _ hi _ => by omega), Fr.refl _ _⟩
  case round =>
    obtain ⟨k, hk, rfl, hok, fr⟩ := hrel
    by_cases hlt : k < n
    · obtain ⟨s, hs⟩ := hget.out k hlt
      obtain ⟨g, o, rfl, c0, c1, c2⟩ := hx3.out k s hs
      replace c0 := fr.cell c0 (fun q => q)
      replace c1 := fr.cell c1 (fun q => q)
      replace c2 := fr.cell c2 (fun q => q)
      have hb1 : (k : Int) < n := by omega
      have hb0 : (0 : Int) ≤ k := by omega
      by_cases hsz : 100 < s.x.size
      · have hf : F = false := hno.out k s hs hsz
        subst hf
        have hd : (s.x.size : Int) > 100 := by omega
        replace hs := Lib.hid hs
        clear hsz
        go_wp2_with fail
        go_ret
        exact ⟨rfl, fr⟩
      · have hd : ¬ (s.x.size : Int) > 100 := by omega
        have hok1 : Hid (∀ (i : Nat) (m : Sp), i < k + 1 → L[i]? = some m → m.x.size ≤ 100) := Lib.hid (fun i m' hi hmi => by
          rcases Nat.lt_or_ge i k with q | q
          · exact hok.out i m' q hmi
          · obtain rfl : i = k := by omega
            rw [hs] at hmi; cases hmi
            omega)
        replace hs := Lib.hid hs
        clear hsz
        go_wp2_with fail
        go_roundw
        case rel => exact ⟨k + 1, by omega, by go_num, hok1, fr⟩
        case measure => simp [RowKit.intOf]; omega
    · obtain rfl : k = n := by omega
      have hf : F = decide ((k : Int) ≤ 100) := by
        rw [hyes.out (fun i m hi hm => hok.out i m hi hm)]
        simp; omega
      replace hf := Lib.hid hf
      go_wp2_with fail
      go_ret
      exact ⟨ret_bool (by rw [hf.out]), fr⟩

set_option maxHeartbeats 2000000 in
theorem same_any (v u : Value) (L : List Sp) (w : World) (hv : RdSp w v L) (hu : RdSp w u L) :
    Calls Tryz.prog 52 #[v, u] w fun e w' => e = .returned (.bool true) ∧ Fr noB w w' := by
  obtain ⟨a, c, rfl, hl, hl2, _, h1⟩ := hv
  obtain ⟨b, d, rfl, _, hd2, _, h2⟩ := hu
  unfold maxLen at hl2 hd2
  have hget : ∀ k, k < L.length → ∃ m, L[k]? = some m := fun k hk => ⟨L[k], List.getElem?_eq_getElem hk⟩
  generalize hn : L.length = n at *
  have hnb : n ≤ 9223372036854775807 := by omega
  replace hget := Lib.hid hget
  replace h1 := Lib.hid h1
  replace h2 := Lib.hid h2
  replace hn := Lib.hid hn
  go_enter Tryz.func52, Tryz.ntmps52
  go_wp2_with fail
  go_loopw [5] (fun i wr => ∃ k : Nat, k ≤ n ∧ i = .int .i64 k ∧ Fr noB w wr) (fun i _ => n - (RowKit.intOf i).toNat)
  case atStart => exact ⟨0, by omega, rfl, Fr.refl _ _⟩
  case round =>
    obtain ⟨k, hk, rfl, fr⟩ := hrel
    by_cases hlt : k < n
    · obtain ⟨s, hs⟩ := hget.out k hlt
      obtain ⟨g, o, rfl, c0, c1, c2⟩ := h1.out k s hs
      obtain ⟨g2, o2, rfl, e0, e1, e2⟩ := h2.out k s hs
      replace c0 := fr.cell c0 (fun q => q)
      replace c1 := fr.cell c1 (fun q => q)
      replace c2 := fr.cell c2 (fun q => q)
      replace e0 := fr.cell e0 (fun q => q)
      replace e1 := fr.cell e1 (fun q => q)
      replace e2 := fr.cell e2 (fun q => q)
      have hb0 : (0 : Int) ≤ k := by omega
      have hb1 : (k : Int) < n := by omega
      replace hs := Lib.hid hs
      go_wp2_with fail
      go_quiet (fail)
      go_wp2_with fail
      go_roundw
      case rel => exact ⟨k + 1, by omega, by go_num, fr.drewN _⟩
      case measure => simp [RowKit.intOf]; omega
    · obtain rfl : k = n := by omega
      go_wp2_with fail
      go_ret
      exact ⟨rfl, fr⟩
end Go.Proofs.YtdmhnoffejjpnaaGreatDoor
end

section
set_option linter.unusedVariables false
set_option linter.unusedSimpArgs false
set_option maxRecDepth 100000
namespace Go.Proofs.YtdmhnoffejjpnaaGreatDoor
open Go.RowKit Go Go.Lib

def pre (L : List Sp) (k : Nat) : List UInt8 := numL L.length ++ (L.take k).flatMap spanF
theorem pre_step (L : List Sp) (k : Nat) (s : Sp) (h : L[k]? = some s) : pre L (k + 1) = pre L k ++ numsL [s.t, s.q] ++ textL s.x.data.toList := by
  obtain ⟨hk, rfl⟩ := List.getElem?_eq_some_iff.1 h
  unfold pre
  rw [List.take_succ_eq_append_getElem hk, List.flatMap_append]
  unfold numsL spanF
  simp [List.append_assoc]
theorem pre_zero (L : List Sp) : pre L 0 = numL L.length := by unfold pre; simp
theorem pre_len (L : List Sp) (k : Nat) (h : ∀ i m, i < k → L[i]? = some m → rightS m = true) (hk : k ≤ 1000) : (pre L k).length ≤ 564028 := by
  unfold pre
  have h1 := (num_len L.length).2
  have h2 := spans_len (L.take k) (fun s hs => by
    obtain ⟨i, hi, rfl⟩ := List.getElem_of_mem hs
    rw [List.length_take] at hi
    rw [List.getElem_take]
    exact h i _ (by omega) (List.getElem?_eq_getElem (by omega)))
  rw [List.length_take] at h2
  rw [List.length_append]
  omega
theorem print_no (L : List Sp) (k : Nat) (s : Sp) (h : L[k]? = some s) (hs : rightS s = false) : printL L = [] := by
  unfold printL
  have : L.all rightS = false := by
    rw [List.all_eq_false]
    exact ⟨s, List.mem_of_getElem? h, by simp [hs]⟩
  rw [this]; simp
theorem print_yes (L : List Sp) (hl : L.length ≤ 1000) (h : ∀ i m, i < L.length → L[i]? = some m → rightS m = true) : printL L = pre L L.length := by
  unfold printL pre
  have : L.all rightS = true := by
    rw [List.all_eq_true]
    intro m hm
    obtain ⟨i, hi, rfl⟩ := List.getElem_of_mem hm
    exact h i _ hi (List.getElem?_eq_getElem hi)
  rw [this, List.take_length]; simp [hl]

set_option maxHeartbeats 4000000 in
theorem print_any (v : Value) (L : List Sp) (w : World) (hg : Gl w) (hv : RdSp w v L) :
    Calls Tryz.prog 134 #[v] w fun e w' => e = .returned (.string (strB (printL L))) ∧ Fr noB w w' := by
  obtain ⟨a, c, rfl, hx1, hx2, _, hx3⟩ := hv
  unfold maxLen at hx2
  by_cases hbig : 1000 < L.length
  · have hp : printL L = [] := by unfold printL; rw [show decide (L.length ≤ 1000) = false by simp; omega]; rfl
    rw [hp]
    have i1 : (L.length : Int) > 1000 := by omega
    generalize L.length = n at *
    clear hbig hp
    go_enter Tryz.func134, Tryz.ntmps134
    go_wp2_with fail
    go_ret
    exact ⟨rfl, Fr.refl _ _⟩
  · have hget : ∀ k, k < L.length → ∃ m, L[k]? = some m := fun k hk => ⟨L[k], List.getElem?_eq_getElem hk⟩
    have hst := pre_step L
    have hno := print_no L
    have hyes := print_yes L (by omega)
    have hplen := pre_len L
    have hp0 := pre_zero L
    have gb := hg.low
    have key : ∀ w', Fr (hiB w.heap.size) w w' → Fr noB w w' := fun w' f => f.hiN
    have hcell : ∀ k s, L[k]? = some s → ∃ g o, a = some ⟨g, o, none⟩ ∧ ∀ w', Fr (hiB w.heap.size) w w' → w'.cell? ⟨g, o + k * 3, none⟩ = some (.int .i64 s.t) ∧ w'.cell? ⟨g, o + k * 3 + 1, none⟩ = some (.int .i64 s.q) ∧ w'.cell? ⟨g, o + k * 3 + 2, none⟩ = some (.string s.x) := fun k s hs => by
      obtain ⟨g, o, rfl, c0, c1, c2⟩ := hx3 k s hs
      have hlt : ¬ hiB w.heap.size g := by have := lt_of_cell c0; unfold hiB; omega
      exact ⟨g, o, rfl, fun w' f => ⟨f.cell c0 hlt, f.cell c1 hlt, f.cell c2 hlt⟩⟩
    obtain ⟨B, hB⟩ : ∃ B, w.heap.size = B := ⟨_, rfl⟩
    rw [hB] at gb key hcell
    generalize hn : L.length = n at *
    have hnb : n ≤ 1000 := by omega
    generalize hpr : printL L = P at *
    replace hpr := Lib.hid hpr
    replace key := Lib.hid key
    replace hcell := Lib.hid hcell
    replace hget := Lib.hid hget
    replace hst := Lib.hid hst
    replace hno := Lib.hid hno
    replace hyes := Lib.hid hyes
    replace hplen := Lib.hid hplen
    replace hn := Lib.hid hn
    clear hx3
    have i1 : ¬ (n : Int) > 1000 := by omega
    have bp := Blk.new w 202 [.slice none 0 0]
    rw [hB] at bp
    have f1 : Fr (hiB B) w (w.alloc (.cells #[Value.slice none 0 0] 202)) := (Fr.refl _ w).alloc _
    have s1 : (w.alloc (.cells #[Value.slice none 0 0] 202)).heap.size = B + 1 := by rw [size_alloc, hB]
    go_enter Tryz.func134, Tryz.ntmps134
    go_wp2_with fail
    generalize (w.alloc (.cells #[Value.slice none 0 0] 202)) = w1 at *
    refine (wint_new B B (B + 1) _ [] [(n : Int)] w1 (wr_new bp (by omega)) s1 (by intro x hx; simp at hx; omega) (by simp)).mono ?_
    rintro e w2 ⟨rfl, v2, hw2, f2⟩
    have fr2 := f1.hi (f2 : Fr (wU B B w1) w1 w2) (by rintro i hi (q | ⟨q, _⟩) <;> omega)
    have hn1 : ([] : List UInt8) ++ numsL [(n : Int)] = pre L 0 := by rw [hp0]; unfold numsL; simp
    rw [hn1] at hw2
    replace hp0 := Lib.hid hp0
    replace hn1 := Lib.hid hn1
    clear f1 f2 bp s1
    go_wp2_with fail
    go_loopg [15] n (fun gk vi w3 => ∃ (k : Nat) (v' : Value), k + gk = n ∧ vi = .int .i64 k ∧ Hid (∀ (i : Nat) (m : Sp), i < k → L[i]? = some m → rightS m = true) ∧ Hid (Wr w3 B v' B (pre L k)) ∧ Fr (hiB B) w w3)
    case atStart => exact ⟨0, v2, by omega, rfl, Lib.hid (fun i _ hi _ => by omega), Lib.hid hw2, fr2⟩
    case round =>
      clear hw2 fr2
      obtain ⟨k, v', hkn, rfl, hok, hw, fr⟩ := hrel
      by_cases hlt : k < n
      · obtain ⟨s, hs⟩ := hget.out k hlt
        obtain ⟨g, o, rfl, hc⟩ := hcell.out k s hs
        obtain ⟨c0, c1, c2⟩ := hc wr fr
        have fX := fr.alloc (.cells #[.int .i64 s.t, .int .i64 s.q, .string s.x] 118)
        have bX := Blk.new wr 118 [.int .i64 s.t, .int .i64 s.q, .string s.x]
        have hwX := hw.out.frN ((Fr.refl noB wr).alloc (.cells #[.int .i64 s.t, .int .i64 s.q, .string s.x] 118))
        have hBp : B < wr.heap.size := hw.out.1.lt
        obtain ⟨z, hz⟩ : ∃ z, wr.heap.size = z := ⟨_, rfl⟩
        rw [hz] at bX hBp
        have hb1 : (k : Int) < n := by omega
        have hrt := fun w => right_any s w
        have hst1 := hst.out k s hs
        have hpk := hplen.out k hok.out (by omega)
        have hmeas : n - (k + 1) < gk := by omega
        have hkn2 : k + 1 + (n - (k + 1)) = n := by omega
        clear hc fr hw
        cases hR : rightS s with
        | false =>
          rw [hR] at hrt
          have hP : P = [] := hno.out k s hs hR
          subst hP
          replace hrt := Lib.hid hrt
          replace hst1 := Lib.hid hst1
          replace hs := Lib.hid hs
          replace hpk := Lib.hid hpk
          go_wp2_with fail
          refine (hrt.out _).mono ?_
          rintro e w4 ⟨rfl, f4⟩
          have fr4 := fX.hi0 f4
          go_wp2_with fail
          go_ret
          exact ⟨rfl, key.out _ fr4⟩
        | true =>
          rw [hR] at hrt
          obtain ⟨h1, h2, h3, h4, h5⟩ := (right_iff s).1 hR
          have hok1 : Hid (∀ (i : Nat) (m : Sp), i < k + 1 → L[i]? = some m → rightS m = true) := Lib.hid (fun i m' hi hmi => by
            rcases Nat.lt_or_ge i k with q | q
            · exact hok.out i m' q hmi
            · obtain rfl : i = k := by omega
              rw [hs] at hmi; cases hmi
              exact hR)
          have hin : ∀ x ∈ [s.t, s.q], -9223372036854775808 ≤ x ∧ x ≤ 9223372036854775807 := by
            intro x hx
            simp at hx
            rcases hx with rfl | rfl <;> omega
          have hl2 : (pre L k ++ numsL [s.t, s.q]).length ≤ 10000000 := by
            have := nums_len [s.t, s.q]
            simp only [List.length_append, List.length_cons, List.length_nil] at *
            omega
          have hx40 : s.x.size ≤ 100000 := by omega
          replace hrt := Lib.hid hrt
          replace hst1 := Lib.hid hst1
          replace hs := Lib.hid hs
          replace hpk := Lib.hid hpk
          replace hin := Lib.hid hin
          replace hl2 := Lib.hid hl2
          replace hx40 := Lib.hid hx40
          replace hmeas := Lib.hid hmeas
          replace hkn2 := Lib.hid hkn2
          replace hR := Lib.hid hR
          clear h1 h2 h3 h4 h5
          go_wp2_with fail
          generalize (wr.alloc (.cells #[.int .i64 s.t, .int .i64 s.q, .string s.x] 118)) = wX at *
          refine (hrt.out _).mono ?_
          rintro e w4 ⟨rfl, f4⟩
          have fr4 := fX.hi0 f4
          have hw4 := hwX.frN f4
          have b4 := f4.keepN bX
          have d0 : w4.cell? ⟨z, 0, none⟩ = some (.int .i64 s.t) := b4.cell 0
          have d1 : w4.cell? ⟨z, 1, none⟩ = some (.int .i64 s.q) := b4.cell 1
          obtain ⟨z4, hz4⟩ : ∃ z, w4.heap.size = z := ⟨_, rfl⟩
          clear fX hwX bX f4 c0 c1 c2
          go_wp2_with fail
          refine (wint_new B B z4 _ _ [s.t, s.q] w4 hw4 hz4 hin.out (by have := hpk.out; simp; omega)).mono ?_
          rintro e w5 ⟨rfl, v5, hw5, f5⟩
          have fr5 := fr4.hi f5 (by rintro i hi (q | ⟨q, _⟩) <;> omega)
          have b5 := f5.blk b4 (b4.notW (by decide) (by omega))
          have d2 : w5.cell? ⟨z, 2, none⟩ = some (.string s.x) := b5.cell 2
          have gb5 := gb.hi fr5
          obtain ⟨z5, hz5⟩ : ∃ z, w5.heap.size = z := ⟨_, rfl⟩
          clear fr4 hw4 b4 f5 d0 d1 hz4 b5
          go_wp2_with fail
          refine (wtext_new B B B z5 _ _ s.x w5 hw5 hz5 gb5 (Nat.le_refl _) (Nat.le_refl _) (Nat.le_trans hx40.out (by decide)) (Nat.le_trans hl2.out (by decide))).mono ?_
          rintro e w6 ⟨rfl, v6, hw6, f6⟩
          have fr6 := fr5.hi f6 (by rintro i hi (q | ⟨q, _⟩) <;> omega)
          rw [← hst1.out] at hw6
          replace hw6 := Lib.hid hw6
          clear fr5 hw5 f6 d2 hz5 gb5
          go_wp2_with fail
          go_roundg (n - (k + 1))
          case rel => exact ⟨k + 1, v6, hkn2.out, by go_num, hok1, hw6, fr6⟩
          case measure => exact hmeas.out
      · obtain rfl : k = n := by omega
        have hP : P = pre L k := hyes.out hok.out
        have hst := wstr_any B B v' _ wr hw.out
        rw [← hP] at hst
        replace hP := Lib.hid hP
        go_wp2_with fail
        refine hst.mono ?_
        rintro e w4 ⟨rfl, hw4⟩
        obtain rfl := hw4.symm
        go_wp2_with fail
        go_ret
        exact ⟨rfl, key.out _ fr⟩
end Go.Proofs.YtdmhnoffejjpnaaGreatDoor
end

section
set_option linter.unusedVariables false
set_option linter.unusedSimpArgs false
set_option maxRecDepth 100000
namespace Go.Proofs.YtdmhnoffejjpnaaGreatDoor
open Go.RowKit Go Go.Lib

theorem Tryz.infoSpan : (Tryz.prog.info? 118).map (fun i => (i.zero, i.size, i.bytes)) = some (some (.agg #[.int .i64 0, .int .i64 0, .string (ByteArray.mk #[])]), 3, 32) := by kernel_rfl
theorem row_not {w : World} {B n g : Nat} {e t : TypeId} {k : Nat} {v : Value} {xs cs : List Value} (h : w.ownsRow B e k v n xs) (hb : Blk w g t cs) (ht : t ≠ e) : ¬ rowB v g := by
  intro q
  rcases h.2 with ⟨rfl, _⟩ | ⟨g', cap, cur, rfl, _, hh, _⟩
  · simp [rowB, Value.ownBlock] at q
  · simp [rowB, Value.ownBlock] at q
    subst q
    unfold Blk at hb
    rw [hb] at hh
    simp only [Option.some.injEq, Obj.cells.injEq] at hh
    exact ht hh.2.1
theorem spans_drop (L : List Sp) (k : Nat) (s : Sp) (h : L[k]? = some s) : (L.drop k).flatMap spanF = spanF s ++ (L.drop (k + 1)).flatMap spanF := by
  obtain ⟨hk, rfl⟩ := List.getElem?_eq_some_iff.1 h
  rw [List.drop_eq_getElem_cons hk, List.flatMap_cons]
theorem cells_take (L : List Sp) (k : Nat) (s : Sp) (h : L[k]? = some s) : (L.take (k + 1)).flatMap spC = (L.take k).flatMap spC ++ spC s := by
  obtain ⟨hk, rfl⟩ := List.getElem?_eq_some_iff.1 h
  rw [List.take_succ_eq_append_getElem hk, List.flatMap_append]
  simp

set_option maxHeartbeats 1000000 in
theorem read_no (s : ByteArray) (w : World) (hs : s.size ≤ 200000) (h : intS 0 1000 s.data.toList = none) :
    Calls Tryz.prog 99 #[.string s] w fun e w' => e = .returned (.tuple #[.slice none 0 0, .int .i64 3]) ∧ Fr noB w w' := by
  go_enter Tryz.func99, Tryz.ntmps99
  go_wp2_with fail
  refine (newr_any s w).mono ?_
  rintro e w1 ⟨rfl, hw1⟩
  have rd := rd_new s w hs
  rw [← hw1] at rd
  have f1 : Fr noB w w1 := by rw [hw1]; exact (Fr.refl _ _).alloc _
  have hq : ¬ w.heap.size < w.heap.size := Nat.lt_irrefl _
  clear hw1
  go_wp2_with fail
  refine (rint_any w.heap.size _ 0 1000 w1 rd).mono ?_
  rw [show (some s.data.toList).bind (intS 0 1000) = none from h, show vI (none : Option (Nat × List UInt8)) = 0 from rfl, show sI (none : Option (Nat × List UInt8)) = none from rfl]
  rintro e w2 ⟨rfl, rd2, f2⟩
  have fr2 : Fr noB w w2 := f1.seqB f2 (fun q => absurd q (Nat.lt_irrefl _))
  have hdn := rdone_any w.heap.size _ w2 rd2
  clear f1 f2 rd rd2
  go_wp2_with fail
  go_loopw [12] (fun vi wr => vi = .int .i64 0 ∧ wr = w2) (fun _ _ => 0)
  case atStart => exact ⟨rfl, rfl⟩
  case round =>
    obtain ⟨rfl, rfl⟩ := hrel
    go_wp2_with fail
    refine hdn.mono ?_
    rintro e w3 ⟨rfl, hw3⟩
    obtain rfl := hw3.symm
    go_wp2_with fail
    go_ret2
    exact ⟨rfl, fr2⟩

set_option maxHeartbeats 4000000 in
theorem read_any (s : ByteArray) (L : List Sp) (w : World) (hg : Gl w) (hs : s.size ≤ 200000) (hp : s.data.toList = pre L L.length) (hR : ∀ (i : Nat) (m : Sp), L[i]? = some m → rightS m = true) (hl : L.length ≤ 1000) :
    Calls Tryz.prog 99 #[.string s] w fun e w' => ∃ v, e = .returned (.tuple #[v, .int .i64 0]) ∧ w'.ownsRow w.heap.size 118 3 v L.length (L.flatMap spC) ∧ Fr noB w w' := by
  have hi0 := int_back L.length 0 1000 (L.flatMap spanF) (by omega) (by omega) (by omega)
  have hp2 : s.data.toList = numL L.length ++ L.flatMap spanF := by rw [hp]; unfold pre; rw [List.take_length]
  rw [← hp2] at hi0
  have hget : ∀ k, k < L.length → ∃ m, L[k]? = some m := fun k hk => ⟨L[k], List.getElem?_eq_getElem hk⟩
  have hdr := spans_drop L
  have hct := cells_take L
  have hd0 : L.flatMap spanF = (L.drop 0).flatMap spanF := by rw [List.drop_zero]
  have hend : (L.drop L.length).flatMap spanF = [] := by rw [List.drop_length]; rfl
  have hct0 : (L.take L.length).flatMap spC = L.flatMap spC := by rw [List.take_length]
  obtain ⟨i0, hii, hz0, hz1, hz2⟩ := info_parts Tryz.infoSpan
  have gb := hg.low
  have key : ∀ w', Fr (hiB w.heap.size) w w' → Fr noB w w' := fun w' f => f.hiN
  obtain ⟨B, hB⟩ : ∃ B, w.heap.size = B := ⟨_, rfl⟩
  rw [hB] at gb key
  generalize hn : L.length = n at *
  have hnb : n ≤ 1000 := hl
  replace hn := Lib.hid hn
  replace hget := Lib.hid hget
  replace hdr := Lib.hid hdr
  replace hct := Lib.hid hct
  replace hend := Lib.hid hend
  replace hct0 := Lib.hid hct0
  replace hR := Lib.hid hR
  replace key := Lib.hid key
  rw [hd0] at hi0
  clear hp hp2 hd0
  have hqne := gb.ne (Nat.le_refl B)
  go_enter Tryz.func99, Tryz.ntmps99
  go_wp2_with fail
  refine (newr_any s w).mono ?_
  rintro e w1 ⟨rfl, hw1⟩
  have rd := rd_new s w hs
  rw [← hw1, hB] at rd
  rw [hB]
  have f1 : Fr (hiB B) w w1 := by rw [hw1]; exact (Fr.refl _ _).alloc _
  have hw1s : B ≤ w1.heap.size := by have := f1.size; omega
  clear hw1
  go_wp2_with fail
  refine (rint_any B _ 0 1000 w1 rd).mono ?_
  rw [show (some s.data.toList).bind (intS 0 1000) = some (n, (L.drop 0).flatMap spanF) from hi0, show vI (some (n, (L.drop 0).flatMap spanF)) = (n : Int) from rfl, show sI (some (n, (L.drop 0).flatMap spanF)) = some ((L.drop 0).flatMap spanF) from rfl]
  rintro e w2 ⟨rfl, rd2, f2⟩
  have fr2 := f1.hiO f2 (Nat.le_refl B)
  replace hi0 := Lib.hid hi0
  clear f1 f2 rd
  go_wp2_with fail
  go_loopg [5, 12] n (fun gk vl vi w3 => ∃ k : Nat, k + gk = n ∧ vi = .int .i64 k ∧ Hid (Rd w3 B (some ((L.drop k).flatMap spanF))) ∧ Hid (w3.ownsRow B 118 3 vl k ((L.take k).flatMap spC)) ∧ Fr (hiB B) w w3)
  case atStart => exact ⟨0, by omega, rfl, Lib.hid rd2, Lib.hid (World.ownsRow_nil _ _ _ _), fr2⟩
  case round =>
    clear rd2 fr2
    obtain ⟨k, hkn, rfl, hrd, hown, fr⟩ := hrel
    by_cases hlt : k < n
    · obtain ⟨s1, hs1⟩ := hget.out k hlt
      have hr1 := hR.out k s1 hs1
      have hdr1 := hdr.out k s1 hs1
      have hct1 := hct.out k s1 hs1
      have e1 := rd_t s1 hr1 ((L.drop (k + 1)).flatMap spanF)
      have e2 := rd_q s1 hr1 ((L.drop (k + 1)).flatMap spanF)
      have e3 := rd_x s1 hr1 ((L.drop (k + 1)).flatMap spanF)
      rw [← hdr1] at e1
      obtain ⟨r1, r2, r3, r4, r5⟩ := (right_iff s1).1 hr1
      have t1 : ((s1.t.toNat : Nat) : Int) = s1.t := by omega
      have t2 : ((s1.q.toNat : Nat) : Int) = s1.q := by omega
      have i1 := fun w h => rint_any B (some ((L.drop k).flatMap spanF)) 1 65535 w h
      rw [show (some ((L.drop k).flatMap spanF)).bind (intS 1 65535) = some (s1.t.toNat, numL s1.q.toNat ++ textL s1.x.data.toList ++ (L.drop (k + 1)).flatMap spanF) from e1, show vI (some (s1.t.toNat, numL s1.q.toNat ++ textL s1.x.data.toList ++ (L.drop (k + 1)).flatMap spanF)) = s1.t from t1, show sI (some (s1.t.toNat, numL s1.q.toNat ++ textL s1.x.data.toList ++ (L.drop (k + 1)).flatMap spanF)) = some (numL s1.q.toNat ++ textL s1.x.data.toList ++ (L.drop (k + 1)).flatMap spanF) from rfl] at i1
      have i2 := fun w h => rint_any B (some (numL s1.q.toNat ++ textL s1.x.data.toList ++ (L.drop (k + 1)).flatMap spanF)) 1 2147483648 w h
      rw [show (some (numL s1.q.toNat ++ textL s1.x.data.toList ++ (L.drop (k + 1)).flatMap spanF)).bind (intS 1 2147483648) = some (s1.q.toNat, textL s1.x.data.toList ++ (L.drop (k + 1)).flatMap spanF) from e2, show vI (some (s1.q.toNat, textL s1.x.data.toList ++ (L.drop (k + 1)).flatMap spanF)) = s1.q from t2, show sI (some (s1.q.toNat, textL s1.x.data.toList ++ (L.drop (k + 1)).flatMap spanF)) = some (textL s1.x.data.toList ++ (L.drop (k + 1)).flatMap spanF) from rfl] at i2
      have i3 := fun w g h => rtext_any B (some (textL s1.x.data.toList ++ (L.drop (k + 1)).flatMap spanF)) 40 w g hqne h
      rw [show (some (textL s1.x.data.toList ++ (L.drop (k + 1)).flatMap spanF)).bind (textS 40) = some (s1.x.data.toList, (L.drop (k + 1)).flatMap spanF) from e3, show vT (some (s1.x.data.toList, (L.drop (k + 1)).flatMap spanF)) = s1.x.data.toList from rfl, show sT (some (s1.x.data.toList, (L.drop (k + 1)).flatMap spanF)) = some ((L.drop (k + 1)).flatMap spanF) from rfl, strB_of] at i3
      generalize hR3 : (L.drop (k + 1)).flatMap spanF = R3 at *
      replace hR3 := Lib.hid hR3
      generalize textL s1.x.data.toList ++ R3 = R2 at *
      generalize numL s1.q.toNat ++ textL s1.x.data.toList ++ R3 = R1 at *
      generalize (L.drop k).flatMap spanF = R0 at *
      have hb1 : (k : Int) < n := by omega
      have hmeas : n - (k + 1) < gk := by omega
      have hkn2 : k + 1 + (n - (k + 1)) = n := by omega
      replace i1 := Lib.hid i1
      replace i2 := Lib.hid i2
      replace i3 := Lib.hid i3
      replace hdr1 := Lib.hid hdr1
      replace hct1 := Lib.hid hct1
      replace hs1 := Lib.hid hs1
      replace hr1 := Lib.hid hr1
      replace t1 := Lib.hid t1
      replace t2 := Lib.hid t2
      replace hmeas := Lib.hid hmeas
      replace hkn2 := Lib.hid hkn2
      clear e1 e2 e3 r1 r2 r3 r4 r5
      go_wp2_with fail
      refine (i1.out wr hrd.out).mono ?_
      rintro e w4 ⟨rfl, rd4, f4⟩
      have fr4 := fr.hiO f4 (Nat.le_refl B)
      have hnr := fun (q : Nat) (hq : u5.ownBlock = some q) => (show ¬ onlyB B q by
        obtain ⟨_, _, hb, _⟩ := hrd.out
        intro e
        unfold onlyB at e
        subst e
        exact row_not hown.out hb (by decide) hq)
      have ow4 := ownsRow_fr hown.out f4 hnr
      go_wp2_with fail
      refine (i2.out w4 rd4).mono ?_
      rintro e w5 ⟨rfl, rd5, f5⟩
      have fr5 := fr4.hiO f5 (Nat.le_refl B)
      have ow5 := ownsRow_fr ow4 f5 hnr
      go_wp2_with fail
      refine (i3.out w5 (gb.hi fr5).gl rd5).mono ?_
      rintro e w6 ⟨rfl, rd6, f6⟩
      have fr6 := fr5.hiO f6 (Nat.le_refl B)
      have ow6 := ownsRow_fr ow5 f6 hnr
      have hB6 : B ≤ w6.heap.size := by have := fr6.size; omega
      have b6 := news_at w6 118 (spC s1)
      obtain ⟨g6, hg6⟩ : ∃ g, w6.heap.size = g := ⟨_, rfl⟩
      rw [hg6] at b6
      have f7 : Fr noB w6 (w6.alloc (.cells #[.int .i64 s1.t, .int .i64 s1.q, .string s1.x] 118)) := (Fr.refl _ _).alloc _
      clear rd4 f4 fr4 ow4 rd5 f5 fr5 ow5 f6
      go_wp2_with (first
        | (at_builtin; go_must (refine wpList_append_at _ rfl (.tmp 18) (.tmp 24) 29 rfl B 118 i0 _ 3 32 Tryz.underlying29 hii hz0 hz1 hz2 rfl (by decide) _ k _ rfl (ownsRow_fr ow6 f7 (fun _ _ h => h)) ⟨g6, 0, none⟩ 1 1 (spC s1) rfl rfl b6 (spC_one s1) ?_ ?_ ?_ ?_))
        | fail)
      · unfold maxLen; omega
      · omega
      · have := f7.size; omega
      intro v8 w8 o8 gr8 _
      rw [← hct1.out] at o8
      have rd7 := rd6.fr f7 (fun q => q)
      have f8 : Fr (rowB u5) (w6.alloc (.cells #[.int .i64 s1.t, .int .i64 s1.q, .string s1.x] 118)) w8 := (Fr.refl (rowB u5) _).grown gr8 (fun k hk _ => hk)
      have rd8 := rd7.fr f8 (fun q => hnr B q rfl)
      have fr8 := (fr6.hi0 f7).hi f8 (fun i hi q => by have := (hown.out.lt i q).1; omega)
      replace rd8 := Lib.hid rd8
      replace o8 := Lib.hid o8
      clear gr8 rd6 rd7 f7 f8 fr6 ow6 b6
      go_wp2_with fail
      go_roundg (n - (k + 1))
      case rel => exact ⟨k + 1, hkn2.out, by go_num, by rw [hR3.out]; exact rd8, o8, fr8⟩
      case measure => exact hmeas.out
    · obtain rfl : k = n := by omega
      rw [hend.out] at hrd
      rw [hct0.out] at hown
      have hdn := rdone_any B _ wr hrd.out
      go_wp2_with fail
      refine hdn.mono ?_
      rintro e w4 ⟨rfl, hw4⟩
      obtain rfl := hw4.symm
      go_wp2_with fail
      go_ret2
      exact ⟨_, rfl, by rw [hB]; exact hown.out, key.out _ fr⟩
end Go.Proofs.YtdmhnoffejjpnaaGreatDoor
end
