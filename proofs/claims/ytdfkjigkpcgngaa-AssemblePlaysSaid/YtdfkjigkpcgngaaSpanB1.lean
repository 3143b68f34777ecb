/-
  span: Right, Row, Print; the reference's Right, Few, Same, Print.
-/
import Derived.Test.YtdfkjigkpcgngaaSpanB
set_option linter.unusedVariables false
set_option linter.unusedSimpArgs false
set_option maxRecDepth 100000
namespace Go.Proofs.Ytdfkjigkpcgngaa
open Go.RowKit Go Go.Lib

theorem right_any (s : Sp) (w : World) : Calls Try.prog 51 #[.agg #[.int .i64 s.t, .int .i64 s.q, .string s.x]] w fun e w' => e = .returned (.bool (rightS s)) ∧ Fr noB w w' := by
  have key := right_iff s
  generalize rightS s = R at *
  have fX := (Fr.refl noB w).alloc (.cells #[.int .i64 s.t, .int .i64 s.q, .string s.x] 63)
  have fin : ∀ b, (b = true ↔ (1 ≤ s.t ∧ s.t ≤ 65535 ∧ 1 ≤ s.q ∧ s.q ≤ 2147483648 ∧ s.x.size ≤ 40)) → b = R := fun b h => by
    rw [Bool.eq_iff_iff, h, key]
  replace fin := Lib.hid fin
  clear key
  go_enter Try.func51, Try.ntmps51
  go_wp2
  all_goals go_ret
  all_goals exact ⟨ret_bool (fin.out _ (by simp; omega)), fX⟩
theorem rright_any (s : Sp) (w : World) : Calls Try.prog 20 #[.agg #[.int .i64 s.t, .int .i64 s.q, .string s.x]] w fun e w' => e = .returned (.bool (rightS s)) ∧ Fr noB w w' := by
  have key := right_iff s
  generalize rightS s = R at *
  have fX := (Fr.refl noB w).alloc (.cells #[.int .i64 s.t, .int .i64 s.q, .string s.x] 63)
  have fin : ∀ b, (b = true ↔ (1 ≤ s.t ∧ s.t ≤ 65535 ∧ 1 ≤ s.q ∧ s.q ≤ 2147483648 ∧ s.x.size ≤ 40)) → b = R := fun b h => by
    rw [Bool.eq_iff_iff, h, key]
  replace fin := Lib.hid fin
  clear key
  go_enter Try.func20, Try.ntmps20
  go_wp2
  all_goals go_ret
  all_goals exact ⟨ret_bool (fin.out _ (by simp; omega)), fX⟩

set_option maxHeartbeats 1000000 in
theorem row_any (v : Value) (L : List Sp) (tr : Int) (w : World) (hv : RdSp w v L) :
    Calls Try.prog 39 #[v, .int .i64 tr] w fun e w' => e = .returned (.bool (rowF tr 0 L)) ∧ Fr noB w w' := by
  obtain ⟨a, c, rfl, hx1, hx2, _, hx3⟩ := hv
  unfold maxLen at hx2
  have hget : ∀ k, k < L.length → ∃ m, L[k]? = some m := fun k hk => ⟨L[k], List.getElem?_eq_getElem hk⟩
  have hrow := row_drop tr L
  have h0 : rowF tr 0 (L.drop 0) = rowF tr 0 L := by rw [List.drop_zero]
  have hend : ∀ k, rowF tr k (L.drop L.length) = true := fun k => by rw [List.drop_length]; rfl
  generalize hn : L.length = n at *
  have hnb : n ≤ 9223372036854775807 := by omega
  generalize rowF tr 0 L = R at *
  replace hx3 := Lib.hid hx3
  replace hget := Lib.hid hget
  replace hrow := Lib.hid hrow
  replace hend := Lib.hid hend
  replace hn := Lib.hid hn
  go_enter Try.func39, Try.ntmps39
  go_wp2_with fail
  go_loopw [9] (fun i wr => ∃ k : Nat, k ≤ n ∧ i = .int .i64 k ∧ Hid (rowF tr k (L.drop k) = R) ∧ Fr noB w wr) (fun i _ => n - (RowKit.intOf i).toNat)
  case atStart => exact ⟨0, by omega, rfl, Lib.hid h0, Fr.refl _ _⟩
  case round =>
    obtain ⟨k, hk, rfl, hR, fr⟩ := hrel
    clear h0
    by_cases hlt : k < n
    · obtain ⟨s, hs⟩ := hget.out k hlt
      obtain ⟨g, o, rfl, c0, c1, c2⟩ := hx3.out k s hs
      replace c0 := fr.cell c0 (fun q => q)
      replace c1 := fr.cell c1 (fun q => q)
      replace c2 := fr.cell c2 (fun q => q)
      have hst := hrow.out k s hs
      rw [hR.out] at hst
      have fX := fr.alloc (.cells #[.int .i64 s.t, .int .i64 s.q, .string s.x] 63)
      have hb1 : (k : Int) < n := by omega
      replace hs := Lib.hid hs
      clear hR
      cases h1 : s.t == tr with
      | false =>
        rw [h1] at hst
        have hb : (s.t != tr) = true := by simp [bne, h1]
        replace hst := Lib.hid hst
        go_wp2_with fail
        go_ret
        exact ⟨ret_bool (by rw [hst.out]; rfl), fX⟩
      | true =>
        rw [h1, Bool.true_and] at hst
        have hb : (s.t != tr) = false := by simp [bne, h1]
        cases h2 : s.q == (k : Int) + 1 with
        | false =>
          rw [h2] at hst
          have hb2 : (s.q != (k : Int) + 1) = true := by simp [bne, h2]
          replace hst := Lib.hid hst
          go_wp2_with fail
          go_ret
          exact ⟨ret_bool (by rw [hst.out]; rfl), fX⟩
        | true =>
          rw [h2, Bool.true_and] at hst
          have hb2 : (s.q != (k : Int) + 1) = false := by simp [bne, h2]
          replace hst := Lib.hid hst.symm
          go_wp2_with fail
          go_roundw
          case rel => exact ⟨k + 1, by omega, by go_num, hst, fX⟩
          case measure => simp [RowKit.intOf]; omega
    · obtain rfl : k = n := by omega
      have hf : R = true := by rw [← hR.out, hend.out]
      subst hf
      go_wp2_with fail
      go_ret
      exact ⟨rfl, fr⟩

def fewS (L : List Sp) : Bool := L.all (fun s => decide (s.x.size ≤ 100)) && decide (L.length ≤ 100)
set_option maxHeartbeats 1000000 in
theorem few_any (v : Value) (L : List Sp) (w : World) (hv : RdSp w v L) :
    Calls Try.prog 19 #[v] w fun e w' => e = .returned (.bool (fewS L)) ∧ Fr noB w w' := by
  obtain ⟨a, c, rfl, hx1, hx2, _, hx3⟩ := hv
  unfold maxLen at hx2
  have hget : ∀ k, k < L.length → ∃ m, L[k]? = some m := fun k hk => ⟨L[k], List.getElem?_eq_getElem hk⟩
  have hno : ∀ (k : Nat) (m : Sp), L[k]? = some m → 100 < m.x.size → fewS L = false := fun k m h1 h2 => by
    unfold fewS
    have : L.all (fun s => decide (s.x.size ≤ 100)) = false := by
      rw [List.all_eq_false]
      exact ⟨m, List.mem_of_getElem? h1, by simp; omega⟩
    rw [this]; rfl
  have hyes : (∀ (i : Nat) (m : Sp), i < L.length → L[i]? = some m → m.x.size ≤ 100) → fewS L = decide (L.length ≤ 100) := fun h => by
    unfold fewS
    have : L.all (fun s => decide (s.x.size ≤ 100)) = true := by
      rw [List.all_eq_true]
      intro m hm
      obtain ⟨i, hi, rfl⟩ := List.getElem_of_mem hm
      simpa using h i _ hi (List.getElem?_eq_getElem hi)
    rw [this]; rfl
  generalize hn : L.length = n at *
  have hnb : n ≤ 9223372036854775807 := by omega
  generalize fewS L = F at *
  replace hx3 := Lib.hid hx3
  replace hget := Lib.hid hget
  replace hno := Lib.hid hno
  replace hyes := Lib.hid hyes
  replace hn := Lib.hid hn
  go_enter Try.func19, Try.ntmps19
  go_wp2_with fail
  go_loopw [3] (fun i wr => ∃ k : Nat, k ≤ n ∧ i = .int .i64 k ∧ Hid (∀ (i : Nat) (m : Sp), i < k → L[i]? = some m → m.x.size ≤ 100) ∧ Fr noB w wr) (fun i _ => n - (RowKit.intOf i).toNat)
  case atStart => exact ⟨0, by omega, rfl, Lib.hid (fun i _ hi _ => by omega), Fr.refl _ _⟩
  case round =>
    obtain ⟨k, hk, rfl, hok, fr⟩ := hrel
    by_cases hlt : k < n
    · obtain ⟨s, hs⟩ := hget.out k hlt
      obtain ⟨g, o, rfl, c0, c1, c2⟩ := hx3.out k s hs
      replace c0 := fr.cell c0 (fun q => q)
      replace c1 := fr.cell c1 (fun q => q)
      replace c2 := fr.cell c2 (fun q => q)
      have hb1 : (k : Int) < n := by omega
      have hb0 : (0 : Int) ≤ k := by omega
      by_cases hsz : 100 < s.x.size
      · have hf : F = false := hno.out k s hs hsz
        subst hf
        have hd : (s.x.size : Int) > 100 := by omega
        replace hs := Lib.hid hs
        clear hsz
        go_wp2_with fail
        go_ret
        exact ⟨rfl, fr⟩
      · have hd : ¬ (s.x.size : Int) > 100 := by omega
        have hok1 : Hid (∀ (i : Nat) (m : Sp), i < k + 1 → L[i]? = some m → m.x.size ≤ 100) := Lib.hid (fun i m' hi hmi => by
          rcases Nat.lt_or_ge i k with q | q
          · exact hok.out i m' q hmi
          · obtain rfl : i = k := by omega
            rw [hs] at hmi; cases hmi
            omega)
        replace hs := Lib.hid hs
        clear hsz
        go_wp2_with fail
        go_roundw
        case rel => exact ⟨k + 1, by omega, by go_num, hok1, fr⟩
        case measure => simp [RowKit.intOf]; omega
    · obtain rfl : k = n := by omega
      have hf : F = decide ((k : Int) ≤ 100) := by
        rw [hyes.out (fun i m hi hm => hok.out i m hi hm)]
        simp; omega
      replace hf := Lib.hid hf
      go_wp2_with fail
      go_ret
      exact ⟨ret_bool (by rw [hf.out]), fr⟩

set_option maxHeartbeats 2000000 in
theorem same_any (v u : Value) (L : List Sp) (w : World) (hv : RdSp w v L) (hu : RdSp w u L) :
    Calls Try.prog 21 #[v, u] w fun e w' => e = .returned (.bool true) ∧ Fr noB w w' := by
  obtain ⟨a, c, rfl, hl, hl2, _, h1⟩ := hv
  obtain ⟨b, d, rfl, _, hd2, _, h2⟩ := hu
  unfold maxLen at hl2 hd2
  have hget : ∀ k, k < L.length → ∃ m, L[k]? = some m := fun k hk => ⟨L[k], List.getElem?_eq_getElem hk⟩
  generalize hn : L.length = n at *
  have hnb : n ≤ 9223372036854775807 := by omega
  replace hget := Lib.hid hget
  replace h1 := Lib.hid h1
  replace h2 := Lib.hid h2
  replace hn := Lib.hid hn
  go_enter Try.func21, Try.ntmps21
  go_wp2_with fail
  go_loopw [5] (fun i wr => ∃ k : Nat, k ≤ n ∧ i = .int .i64 k ∧ Fr noB w wr) (fun i _ => n - (RowKit.intOf i).toNat)
  case atStart => exact ⟨0, by omega, rfl, Fr.refl _ _⟩
  case round =>
    obtain ⟨k, hk, rfl, fr⟩ := hrel
    by_cases hlt : k < n
    · obtain ⟨s, hs⟩ := hget.out k hlt
      obtain ⟨g, o, rfl, c0, c1, c2⟩ := h1.out k s hs
      obtain ⟨g2, o2, rfl, e0, e1, e2⟩ := h2.out k s hs
      replace c0 := fr.cell c0 (fun q => q)
      replace c1 := fr.cell c1 (fun q => q)
      replace c2 := fr.cell c2 (fun q => q)
      replace e0 := fr.cell e0 (fun q => q)
      replace e1 := fr.cell e1 (fun q => q)
      replace e2 := fr.cell e2 (fun q => q)
      have hb0 : (0 : Int) ≤ k := by omega
      have hb1 : (k : Int) < n := by omega
      replace hs := Lib.hid hs
      go_wp2_with fail
      go_quiet (fail)
      go_wp2_with fail
      go_roundw
      case rel => exact ⟨k + 1, by omega, by go_num, fr.drewN _⟩
      case measure => simp [RowKit.intOf]; omega
    · obtain rfl : k = n := by omega
      go_wp2_with fail
      go_ret
      exact ⟨rfl, fr⟩
end Go.Proofs.Ytdfkjigkpcgngaa
