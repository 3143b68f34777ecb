/-
  The reference's Order.
-/
import Derived.Test.YtnehphfpchfjeaaDoorRefTells
import Derived.Test.YtnehphfpchfjeaaDoorNameLaws
set_option linter.unusedVariables false
set_option linter.unusedSimpArgs false
namespace Go.Proofs.YtnehphfpchfjeaaDoor
open Go.RowKit Go

theorem bl_cmp : ∀ a b : List UInt8, Op.bytesLess a b = decide (Go.Lib.compareBytes a b = -1)
  | [], [] => rfl
  | [], _ :: _ => rfl
  | _ :: _, [] => rfl
  | a :: x, b :: y => by
    have ih := bl_cmp x y
    unfold Op.bytesLess Go.Lib.compareBytes
    rcases Nat.lt_trichotomy a.toNat b.toNat with h | h | h
    · have h1 : a < b := UInt8.lt_iff_toNat_lt.2 h
      simp [h1]
    · have h1 : a = b := UInt8.toNat_inj.1 h
      subst h1
      simp [ih]
    · have h1 : ¬ a < b := fun q => by have := UInt8.lt_iff_toNat_lt.1 q; omega
      have h2 : b < a := UInt8.lt_iff_toNat_lt.2 h
      have h3 : a ≠ b := fun q => by rw [q] at h; omega
      simp [h1, h2, h3]
theorem cmpB_eq (a b : List UInt8) : Go.Lib.compareBytes a b = 0 ↔ a = b := ⟨cmpB_zero a b, fun h => by rw [h]; exact cmpB_self b⟩
theorem bg_cmp (a b : List UInt8) : (!(Op.bytesLess a b || a == b)) = decide (Go.Lib.compareBytes a b = 1) := by
  have h1 := bl_cmp a b
  have h2 := cmpB_eq a b
  have h3 := cmpB_tri a b
  rw [h1]
  by_cases e : a = b
  · rw [h2.2 e]; simp [e]
  · have h0 : Go.Lib.compareBytes a b ≠ 0 := fun q => e (h2.1 q)
    have h4 : (a == b) = false := by simp [e]
    rw [h4]
    rcases h3 with h | h | h
    · rw [h]; rfl
    · exact absurd h h0
    · rw [h]; rfl
theorem rws_drop (l : List UInt8) (k : Nat) (hk : k < (chunks l).length) : (rws l).drop k = dec ((chunks l).getD k []) :: (rws l).drop (k + 1) := by
  unfold rws
  rw [List.drop_eq_getElem_cons (by rw [List.length_map]; exact hk)]
  simp [List.getD, hk]
theorem ordL_end (a b : List UInt8) (k : Nat) (h : ordR (rws a) (rws b) = ordR ((rws a).drop k) ((rws b).drop k)) (hk : k ≤ (chunks a).length) (hk2 : k ≤ (chunks b).length) (he : ¬ (k < (chunks a).length ∧ k < (chunks b).length)) :
    ((chunks a).length < (chunks b).length → ordL a b = -1) ∧ ((chunks b).length < (chunks a).length → ordL a b = 1) ∧ ((chunks a).length = (chunks b).length → ordL a b = Go.Lib.compareBytes a b) := by
  have la : (rws a).length = (chunks a).length := by unfold rws; rw [List.length_map]
  have lb : (rws b).length = (chunks b).length := by unfold rws; rw [List.length_map]
  unfold ordL
  rw [h]
  refine ⟨fun q => ?_, fun q => ?_, fun q => ?_⟩
  · rw [List.drop_of_length_le (by omega)]
    rw [rws_drop b k (by omega)]
    rfl
  · rw [List.drop_of_length_le (show (rws b).length ≤ k by omega)]
    rw [rws_drop a k (by omega)]
    rfl
  · rw [List.drop_of_length_le (by omega), List.drop_of_length_le (by omega)]
    rfl

set_option maxRecDepth 100000 in
set_option maxHeartbeats 4000000 in
theorem rorder_any (s t : ByteArray) (w : World) (hs : s.size ≤ 1000000) (ht : t.size ≤ 1000000) :
    Calls Tryd.prog 19 #[.string s, .string t] w fun e w' => e = .returned (.int .i64 (ordL s.data.toList t.data.toList)) ∧ Fr noB w w' := by
  have hcl := chunks_le s
  have hcl2 := chunks_le t
  have hrn := runes_any s w hs
  have hrn2 := fun w => runes_any t w ht
  have hbl : Op.bytesLess s.toList t.toList = decide (Go.Lib.compareBytes s.data.toList t.data.toList = -1) := by rw [toList_eq, toList_eq]; exact bl_cmp _ _
  have hbg : (s.toList == t.toList) = decide (Go.Lib.compareBytes s.data.toList t.data.toList = 0) := by
    rw [toList_eq, toList_eq]
    have := cmpB_eq s.data.toList t.data.toList
    by_cases h : s.data.toList = t.data.toList
    · rw [this.2 h]; simp [h]
    · rw [decide_eq_false (fun q => h (this.1 q))]; exact beq_false_of_ne h
  have hct := cmpB_tri s.data.toList t.data.toList
  have hen := ordL_end s.data.toList t.data.toList
  have hrd := rws_drop s.data.toList
  have hrd2 := rws_drop t.data.toList
  replace hrn := Lib.hid hrn
  replace hrn2 := Lib.hid hrn2
  replace hbl := Lib.hid hbl
  replace hbg := Lib.hid hbg
  replace hen := Lib.hid hen
  replace hrd := Lib.hid hrd
  replace hrd2 := Lib.hid hrd2
  replace hct := Lib.hid hct
  go_enter Tryd.func19, Tryd.ntmps19
  go_wp2_with fail
  refine hrn.out.mono ?_
  rintro e w1 ⟨v, rfl, own, f1⟩
  clear hrn
  go_wp2_with fail
  refine (hrn2.out w1).mono ?_
  rintro e w2 ⟨v2, rfl, own2, f2⟩
  clear hrn2
  have own1 := ownsRow_fr own f2 (fun q _ h => h)
  have f2' := f1.seqN f2
  clear own f1 f2
  obtain ⟨a, cp, rfl⟩ := ownsRow_slice own1
  obtain ⟨a2, cp2, rfl⟩ := ownsRow_slice own2
  have hat := fun (wr : World) (f : Fr noB w2 wr) k hk => rune_at (ownsRow_fr own1 f (fun q _ h => h)) k hk
  have hat2 := fun (wr : World) (f : Fr noB w2 wr) k hk => rune_at (ownsRow_fr own2 f (fun q _ h => h)) k hk
  replace own1 := Lib.hid own1
  replace own2 := Lib.hid own2
  replace hat := Lib.hid hat
  replace hat2 := Lib.hid hat2
  generalize hn : (chunks s.data.toList).length = n at *
  generalize hm : (chunks t.data.toList).length = m at *
  replace hn := Lib.hid hn
  replace hm := Lib.hid hm
  go_wp2_with fail
  go_loopw [7, 8, 9] (fun vi _ _ wr => ∃ k : Nat, k ≤ n ∧ k ≤ m ∧ vi = .int .i64 k ∧ Fr noB w2 wr ∧ Hid (ordR (rws s.data.toList) (rws t.data.toList) = ordR ((rws s.data.toList).drop k) ((rws t.data.toList).drop k))) (fun vi _ _ _ => n - (intOf vi).toNat)
  case atStart => exact ⟨0, Nat.zero_le _, Nat.zero_le _, rfl, Fr.refl _ _, Lib.hid rfl⟩
  case round =>
    obtain ⟨k, hk, hk2, rfl, fr, hh⟩ := hrel
    by_cases hlt : k < n ∧ k < m
    · obtain ⟨hlt, hlt2⟩ := hlt
      obtain ⟨g, cap, hv, c0, c1, c2⟩ := hat.out wr fr k hlt
      obtain ⟨g2, cap2, hv2, d0, d1, d2⟩ := hat2.out wr fr k hlt2
      cases hv
      cases hv2
      have hx := hh.out
      rw [hrd.out k hlt, hrd2.out k hlt2] at hx
      obtain ⟨x1, x2, x3, x4, x5⟩ := ordL_lt hx
      generalize okD ((chunks s.data.toList).getD k []) = O1 at *
      generalize okD ((chunks t.data.toList).getD k []) = O2 at *
      generalize (dec ((chunks s.data.toList).getD k [])).1 = R1 at *
      generalize (dec ((chunks s.data.toList).getD k [])).2 = W1 at *
      generalize (dec ((chunks t.data.toList).getD k [])).1 = R2 at *
      generalize (dec ((chunks t.data.toList).getD k [])).2 = W2 at *
      replace hx := Lib.hid hx
      replace x1 := Lib.hid x1
      replace x2 := Lib.hid x2
      replace x3 := Lib.hid x3
      replace x4 := Lib.hid x4
      replace x5 := Lib.hid x5
      have hS : ∀ w', Fr noB wr w' → w'.cell? ⟨g, k * 3, none⟩ = some (.int .i64 (R1 : Nat)) ∧ w'.cell? ⟨g, k * 3 + 1, none⟩ = some (.int .i64 (W1 : Nat)) ∧ w'.cell? ⟨g, k * 3 + 2, none⟩ = some (.bool O1) ∧ w'.cell? ⟨g2, k * 3, none⟩ = some (.int .i64 (R2 : Nat)) ∧ w'.cell? ⟨g2, k * 3 + 1, none⟩ = some (.int .i64 (W2 : Nat)) ∧ w'.cell? ⟨g2, k * 3 + 2, none⟩ = some (.bool O2) :=
        fun w' f => ⟨f.cell c0 (fun q => q), f.cell c1 (fun q => q), f.cell c2 (fun q => q), f.cell d0 (fun q => q), f.cell d1 (fun q => q), f.cell d2 (fun q => q)⟩
      replace hS := Lib.hid hS
      clear c0 c1 c2 d0 d1 d2
      go_upto_region 5 with fail
      go_region_held3 (fun w' => w'.cell? ⟨g, k * 3, none⟩ = some (.int .i64 (R1 : Nat)) ∧ w'.cell? ⟨g, k * 3 + 1, none⟩ = some (.int .i64 (W1 : Nat)) ∧ w'.cell? ⟨g, k * 3 + 2, none⟩ = some (.bool O1) ∧ w'.cell? ⟨g2, k * 3, none⟩ = some (.int .i64 (R2 : Nat)) ∧ w'.cell? ⟨g2, k * 3 + 1, none⟩ = some (.int .i64 (W2 : Nat)) ∧ w'.cell? ⟨g2, k * 3 + 2, none⟩ = some (.bool O2))
        (first | exact hS.out _ ((Fr.refl noB wr).drewN 1) | exact hS.out _ (((Fr.refl noB wr).drewN 1).alloc _) | exact hS.out _ ((((Fr.refl noB wr).drewN 1).alloc _).alloc _) | exact hS.out _ (((Fr.refl noB wr).alloc _).drewN 1) | exact hS.out _ ((((Fr.refl noB wr).alloc _).alloc _).drewN 1))
        (fail)
      all_goals (
        rcases Nat.lt_trichotomy R1 R2 with h | h | h
        · have q1 : (R1 : Int) < R2 := by omega
          go_wp2_with fail
          go_ret
          exact ⟨ret_int' (by rw [x1.out h]), f2'.seqN (fr.seqN ((((Fr.refl noB wr).alloc _).alloc _).drewN 1))⟩
        · have q1 : ¬ (R1 : Int) < R2 := by omega
          have q2 : (R1 : Int) = R2 := by omega
          have q3 : ¬ (R1 : Int) > R2 := by omega
          rcases Nat.lt_trichotomy W1 W2 with h2 | h2 | h2
          · have q4 : (W1 : Int) < W2 := by omega
            go_wp2_with fail
            go_ret
            exact ⟨ret_int' (by rw [x3.out h h2]), f2'.seqN (fr.seqN ((((Fr.refl noB wr).alloc _).alloc _).drewN 1))⟩
          · have q4 : ¬ (W1 : Int) < W2 := by omega
            have q5 : ¬ (W1 : Int) > W2 := by omega
            go_wp2_with fail
            go_roundw
            case rel => exact ⟨k + 1, by omega, by omega, by go_num, fr.seqN ((((Fr.refl noB wr).alloc _).alloc _).drewN 1), Lib.hid (x5.out h h2)⟩
            case measure => simp [intOf]; omega
          · have q4 : ¬ (W1 : Int) < W2 := by omega
            have q5 : (W1 : Int) > W2 := by omega
            go_wp2_with fail
            go_ret
            exact ⟨ret_int' (by rw [x4.out h h2]), f2'.seqN (fr.seqN ((((Fr.refl noB wr).alloc _).alloc _).drewN 1))⟩
        · have q1 : ¬ (R1 : Int) < R2 := by omega
          have q2 : ¬ (R1 : Int) = R2 := by omega
          have q3 : (R1 : Int) > R2 := by omega
          go_wp2_with fail
          go_ret
          exact ⟨ret_int' (by rw [x2.out h]), f2'.seqN (fr.seqN ((((Fr.refl noB wr).alloc _).alloc _).drewN 1))⟩)
    · have he := hen.out k hh.out hk hk2 hlt
      obtain ⟨e1, e2, e3⟩ := he
      replace e1 := Lib.hid e1
      replace e2 := Lib.hid e2
      replace e3 := Lib.hid e3
      have fz := f2'.seqN fr
      rcases Nat.lt_trichotomy n m with h | h | h
      · have q1 : (n : Int) < m := by omega
        have q2 : ¬ (k : Int) < n := by omega
        replace hlt := Lib.hid hlt
        go_wp2_with fail
        go_ret
        exact ⟨ret_int' (by rw [e1.out h]), fz⟩
      · have q0 : ¬ (k : Int) < n := by omega
        have q1 : ¬ (n : Int) < m := by omega
        have q2 : ¬ (n : Int) > m := by omega
        replace hlt := Lib.hid hlt
        have b1 := hbl.out
        have b2 := hbg.out
        rcases hct.out with hc | hc | hc
        · rw [hc] at b1 b2
          simp only [decide_true, Int.reduceNeg, Int.reduceEq, decide_false] at b1 b2
          go_wp2_with fail
          go_ret
          exact ⟨ret_int' (by rw [e3.out h, hc]), fz⟩
        · rw [hc] at b1 b2
          simp only [decide_true, Int.reduceNeg, Int.reduceEq, decide_false] at b1 b2
          go_wp2_with fail
          go_ret
          exact ⟨ret_int' (by rw [e3.out h, hc]), fz⟩
        · rw [hc] at b1 b2
          simp only [decide_true, Int.reduceNeg, Int.reduceEq, decide_false] at b1 b2
          go_wp2_with fail
          go_ret
          exact ⟨ret_int' (by rw [e3.out h, hc]), fz⟩
      · have q1 : ¬ (n : Int) < m := by omega
        have q2 : (n : Int) > m := by omega
        have q3 : (k : Int) < n := by omega
        have q4 : ¬ (k : Int) < m := by omega
        replace hlt := Lib.hid hlt
        go_wp2_with fail
        go_ret
        exact ⟨ret_int' (by rw [e2.out h]), fz⟩
end Go.Proofs.YtnehphfpchfjeaaDoor
