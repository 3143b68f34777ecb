/-
  name.Order.
-/
import Derived.Test.YtnehphfpchfjeaaDoorNameC
set_option linter.unusedVariables false
set_option linter.unusedSimpArgs false
namespace Go.Proofs.YtnehphfpchfjeaaDoor
open Go.RowKit Go

/-- the tables of unicode/utf8, as they are laid -/
def U8 (w : World) : Prop := Go.Lib.Utf8Tabs 0 1 w
theorem U8.fr {w w' : World} (h : U8 w) (f : Fr noB w w') : U8 w' := by
  unfold U8 at *
  refine ⟨fun c hc => f.cell (h.1 c hc) (fun q => q), fun i hi => ⟨f.cell (h.2 i hi).1 (fun q => q), f.cell (h.2 i hi).2 (fun q => q)⟩⟩

theorem isNaN_rune (x : Int) (w : World) : Calls Tryd.prog 41 #[.int .i32 x] w fun e w' => e = .returned (.bool false) ∧ w' = w := by
  go_enter Tryd.func41, Tryd.ntmps41
  go_wp2
  go_ret
  exact ⟨ret_bool (by simp), rfl⟩
theorem cmp_rune (x y : Int) (w : World) : Calls Tryd.prog 28 #[.int .i32 x, .int .i32 y] w fun e w' => e = .returned (.int .i64 (if x < y then -1 else if y < x then 1 else 0)) ∧ w' = w := by
  rcases Int.lt_trichotomy x y with h | h | h
  · go_enter Tryd.func28, Tryd.ntmps28
    go_wp2_with (go_at_call 41; refine (isNaN_rune _ _).mono ?_; rintro e w' ⟨rfl, hw⟩; obtain rfl := hw.symm)
    go_ret
    exact ⟨rfl, rfl⟩
  · subst h
    go_enter Tryd.func28, Tryd.ntmps28
    go_wp2_with (go_at_call 41; refine (isNaN_rune _ _).mono ?_; rintro e w' ⟨rfl, hw⟩; obtain rfl := hw.symm)
    go_ret
    exact ⟨rfl, rfl⟩
  · have h2 : ¬ x < y := by omega
    go_enter Tryd.func28, Tryd.ntmps28
    go_wp2_with (go_at_call 41; refine (isNaN_rune _ _).mono ?_; rintro e w' ⟨rfl, hw⟩; obtain rfl := hw.symm)
    go_ret
    exact ⟨rfl, rfl⟩

theorem decodeGo_eq (s : ByteArray) (h : s.data.toList ≠ []) : Go.Lib.decodeGo s = dec s.data.toList := by
  unfold Go.Lib.decodeGo
  have hs : s.size ≠ 0 := fun e => h (List.eq_nil_of_length_eq_zero (by rw [size_len]; exact e))
  rw [if_neg hs, decode_pos, List.drop_zero]
theorem decodeStr (s : ByteArray) (w : World) (hu : U8 w) (h : s.data.toList ≠ []) :
    Calls Tryd.prog 27 #[.string s] w fun e w' => e = .returned (.tuple #[.int .i32 (dec s.data.toList).1, .int .i64 (dec s.data.toList).2]) ∧ Fr noB w w' := by
  refine (Tryd.utf8_DecodeRuneInString s w hu).mono ?_
  rintro e w' ⟨rfl, hb⟩
  rw [decodeGo_eq s h]
  exact ⟨rfl, Fr.of_below hb⟩

theorem ordL_lt {a b : List UInt8} {p q : Nat × Nat} {x y : List (Nat × Nat)} (hk : ordR (rws a) (rws b) = ordR (p :: x) (q :: y)) :
    (p.1 < q.1 → ordL a b = -1) ∧ (q.1 < p.1 → ordL a b = 1) ∧ (p.1 = q.1 → p.2 < q.2 → ordL a b = -1) ∧ (p.1 = q.1 → q.2 < p.2 → ordL a b = 1) ∧ (p.1 = q.1 → p.2 = q.2 → ordR (rws a) (rws b) = ordR x y) := by
  unfold ordL
  rw [hk]
  refine ⟨fun h => ?_, fun h => ?_, fun h h2 => ?_, fun h h2 => ?_, fun h h2 => ?_⟩
  rotate_left 4
  · conv => lhs; unfold ordR
    rw [if_neg (by omega), if_neg (by omega), if_neg (by omega), if_neg (by omega)]
  all_goals (unfold ordR)
  · rw [if_pos h, if_neg (by omega)]
  · rw [if_neg (by omega), if_pos h, if_neg (by omega)]
  · rw [if_neg (by omega), if_neg (by omega), if_pos h2, if_neg (by omega)]
  · rw [if_neg (by omega), if_neg (by omega), if_neg (by omega), if_pos h2, if_neg (by omega)]

set_option maxRecDepth 100000 in
set_option maxHeartbeats 4000000 in
theorem order_any (a b : ByteArray) (w : World) (hu : U8 w) (ha : a.size ≤ 1000000) (hb : b.size ≤ 1000000) :
    Calls Tryd.prog 18 #[.string a, .string b] w fun e w' => e = .returned (.int .i64 (ordL a.data.toList b.data.toList)) ∧ Fr noB w w' := by
  go_enter Tryd.func18, Tryd.ntmps18
  go_wp2
  go_loopw [5, 6, 7, 8, 9, 10, 11, 12] (fun _ _ _ _ _ _ _ _ wr => ∃ pos : Nat, ItAt wr w.heap.size a pos ∧ Fr noB w wr ∧ pos ≤ a.size ∧ ordR (rws a.data.toList) (rws b.data.toList) = ordR (rws (a.data.toList.drop pos)) (rws (b.data.toList.drop pos))) (fun _ _ _ _ _ _ _ _ wr => a.size - wr.iterPos w.heap.size)
  case atStart => exact ⟨0, it_new w a, (Fr.refl noB w).alloc _, Nat.zero_le _, rfl⟩
  case round =>
    obtain ⟨pos, it, fr, hps, hk⟩ := hrel
    by_cases hp : pos < a.size
    · obtain ⟨w2, hnx, it2, f2, hz2⟩ := next_it (P := Tryd.prog) it hp
      have hd := dec_in hp
      have h1 := dec_pos (a.data.toList.drop pos)
      have hi1 := it.ipos
      have hne := drop_lt hp
      have fr2 := fr.seqB f2 (fun q => absurd q (Nat.lt_irrefl _))
      rw [rws_cons _ hne, List.drop_drop] at hk
      by_cases hpb : pos < b.size
      · have hneb := drop_lt hpb
        have hdb := dec_in hpb
        rw [rws_cons _ hneb, List.drop_drop] at hk
        have hcs := ordL_lt hk
        have d1 := decodeStr (a.extract pos a.size) w2 (hu.fr fr2) (by rw [tail_eq]; exact hne)
        rw [tail_eq] at d1
        have d2 := fun w3 (f3 : Fr noB w w3) => decodeStr (b.extract pos b.size) w3 (hu.fr f3) (by rw [tail_eq]; exact hneb)
        simp only [tail_eq] at d2
        generalize hr : (dec (a.data.toList.drop pos)).1 = r at *
        generalize hwd : (dec (a.data.toList.drop pos)).2 = wd at *
        generalize hr' : (dec (b.data.toList.drop pos)).1 = r' at *
        generalize hwd' : (dec (b.data.toList.drop pos)).2 = wd' at *
        obtain ⟨hc1, hc2, hc3, hc4, hc5⟩ := hcs
        replace hz2 := Lib.hid hz2
        replace hi1 := Lib.hid hi1
        replace hk := Lib.hid hk
        replace hwd := Lib.hid hwd
        replace hwd' := Lib.hid hwd'
        replace hr := Lib.hid hr
        replace hr' := Lib.hid hr'
        replace hne := Lib.hid hne
        replace hneb := Lib.hid hneb
        replace d1 := Lib.hid d1
        replace d2 := Lib.hid d2
        replace hc1 := Lib.hid hc1
        replace hc2 := Lib.hid hc2
        replace hc3 := Lib.hid hc3
        replace hc4 := Lib.hid hc4
        replace hc5 := Lib.hid hc5
        go_wp2_with fail
        refine d1.out.mono ?_
        rintro e w3 ⟨rfl, f3⟩
        have fr3 := fr2.seqN f3
        have it3 := it2.fr f3 (fun q => q)
        clear d1
        go_wp2_with fail
        refine (d2.out w3 fr3).mono ?_
        rintro e w4 ⟨rfl, f4⟩
        have fr4 := fr3.seqN f4
        have it4 := it3.fr f4 (fun q => q)
        have hi4 := Lib.hid it4.ipos
        clear d2 it3 it2 it
        go_wp2_with fail
        refine (cmp_rune _ _ _).mono ?_
        rintro e w5 ⟨rfl, hw5⟩
        obtain rfl := hw5.symm
        rcases Nat.lt_trichotomy r r' with hlt | heq | hgt
        · rw [if_pos (show (r : Int) < r' by omega)]
          go_wp2_with fail
          go_ret
          exact ⟨ret_int' (by rw [hc1.out hlt]), fr4⟩
        · rw [if_neg (show ¬ (r : Int) < r' by omega), if_neg (show ¬ (r' : Int) < r by omega)]
          replace heq := Lib.hid heq
          go_wp2_with fail
          refine (Tryd.cmp_Compare_int _ _ _).mono ?_
          rintro e w5 ⟨rfl, hw5⟩
          obtain rfl := hw5.symm
          unfold Go.Lib.compareInt
          rcases Nat.lt_trichotomy wd wd' with hlt | heq2 | hgt
          · rw [if_pos (show (wd : Int) < wd' by omega)]
            go_wp2_with fail
            go_ret
            exact ⟨ret_int' (by rw [hc3.out heq.out hlt]), fr4⟩
          · rw [if_neg (show ¬ (wd : Int) < wd' by omega), if_neg (show ¬ (wd : Int) > wd' by omega)]
            replace heq2 := Lib.hid heq2
            go_wp2_with fail
            go_roundw
            case rel => exact ⟨_, it4, fr4, hd, by rw [hc5.out heq.out heq2.out, heq2.out]⟩
            case measure => rw [hi1.out, hi4.out]; omega
          · rw [if_neg (show ¬ (wd : Int) < wd' by omega), if_pos (show (wd : Int) > wd' by omega)]
            go_wp2_with fail
            go_ret
            exact ⟨ret_int' (by rw [hc4.out heq.out hgt]), fr4⟩
        · rw [if_neg (show ¬ (r : Int) < r' by omega), if_pos (show (r' : Int) < r by omega)]
          go_wp2_with fail
          go_ret
          exact ⟨ret_int' (by rw [hc2.out hgt]), fr4⟩
      · rw [drop_end hpb, rws_nil] at hk
        have ho : ordL a.data.toList b.data.toList = 1 := by unfold ordL; rw [hk]; rfl
        replace ho := Lib.hid ho
        replace hk := Lib.hid hk
        replace hz2 := Lib.hid hz2
        replace hi1 := Lib.hid hi1
        replace hne := Lib.hid hne
        have hge : (b.size : Int) ≤ pos := by omega
        go_wp2_with fail
        go_ret
        exact ⟨ret_int' (by rw [ho.out]), fr2⟩
    · have hnx := next_end (P := Tryd.prog) it hp
      obtain rfl : pos = a.size := by omega
      rw [drop_end hp, rws_nil] at hk
      by_cases hlt : a.size < b.size
      · rw [rws_cons _ (drop_lt hlt)] at hk
        have ho : ordL a.data.toList b.data.toList = -1 := by unfold ordL; rw [hk]; rfl
        replace ho := Lib.hid ho
        replace hk := Lib.hid hk
        go_wp2_with fail
        go_ret
        exact ⟨ret_int' (by rw [ho.out]), fr⟩
      · rw [drop_end hlt, rws_nil] at hk
        have ho : ordL a.data.toList b.data.toList = Go.Lib.compareBytes a.data.toList b.data.toList := by unfold ordL; rw [hk]; rfl
        replace ho := Lib.hid ho
        replace hk := Lib.hid hk
        go_wp2_with fail
        refine (Tryd.strings_Compare _ _ _).mono ?_
        rintro e w5 ⟨rfl, hw5⟩
        obtain rfl := hw5.symm
        go_wp2_with fail
        go_ret
        exact ⟨ret_int' (by rw [ho.out]), fr⟩
end Go.Proofs.YtnehphfpchfjeaaDoor
