import Derived.Test.YtefapdjedhbjaaaBucketWalks
import Derived.Test.YtefapdjedhbjaaaArgs
import Derived.Deep.QuietTactic
import Derived.BigQuiet
set_option linter.unusedVariables false
set_option linter.unusedSimpArgs false
namespace Go.Proofs.Ytefapdjedhbjaaa
open Go.RowKit

/-- a []bool, by an index function -/
theorem slr_bools {w : World} {v : Value} {xs : List Bool} (h : SlR w v 1 IsB xs) :
    ∃ (n : Nat) (ts : Nat → Bool), ∃ a c, v = .slice a n c ∧ n ≤ maxLen ∧ ∀ i, i < n → ∃ g o, a = some ⟨g, o, none⟩ ∧ w.cell? ⟨g, o + i, none⟩ = some (.bool (ts i)) := by
  obtain ⟨a, c, rfl, h1, h2, h3⟩ := h
  refine ⟨xs.length, fun i => xs.getD i false, a, c, rfl, by omega, fun i hi => ?_⟩
  obtain ⟨g, o, cs, ha, hk, hr, hc⟩ := h3 i xs[i] (List.getElem?_eq_getElem hi)
  unfold IsB at hr
  subst hr
  refine ⟨g, o, ha, ?_⟩
  have := hc 0 (.bool xs[i]) rfl
  simpa [List.getD, hi] using this

set_option maxHeartbeats 1000000 in
theorem awake_any (w : World) : Calls Try.prog 7 #[] w fun e w' => e = .returned (.bool true) ∧ Fr noB w w' := by
  go_enter Try.func7, Try.ntmps7
  go_wp2_with fail
  refine (new_any 2 1 w (by omega)).mono ?_
  rintro e w1 ⟨rfl, hw1⟩
  have b1 : Blk w1 w.heap.size 39 (bk 2 1 2 0) := by rw [hw1]; exact Blk.new _ _ _
  have f1 : Fr noB w w1 := by rw [hw1]; exact (Fr.refl _ _).alloc _
  clear hw1
  go_wp2_with fail
  refine (new_no (-1) 0 w1 (by omega)).mono ?_
  rintro e w2 ⟨rfl, hw2⟩
  obtain rfl := hw2.symm
  go_wp2_with fail
  refine (take_yes _ _ _ _ _ _ b1 (by omega) (by omega)).mono ?_
  rintro e w3 ⟨rfl, b3, f3⟩
  go_wp2_with fail
  refine (take_yes _ _ _ _ _ _ b3 (by omega) (by omega)).mono ?_
  rintro e w4 ⟨rfl, b4, f4⟩
  go_wp2_with fail
  refine (take_no _ _ _ _ _ b4).mono ?_
  rintro e w5 ⟨rfl, hw5⟩
  obtain rfl := hw5.symm
  go_wp2_with fail
  refine (tick_any _ _ _ _ _ _ b4 (by omega) (by omega) (by omega)).mono ?_
  rintro e w6 ⟨rfl, b6, f6⟩
  go_wp2_with fail
  refine (left_any _ _ _ _ _ _ b6).mono ?_
  rintro e w7 ⟨rfl, hw7⟩
  obtain rfl := hw7.symm
  go_wp2_with fail
  refine (taken_any _ _ _ _ _ _ b6).mono ?_
  rintro e w8 ⟨rfl, hw8⟩
  obtain rfl := hw8.symm
  go_wp2
  go_ret
  refine ⟨by first | rfl | decide, ?_⟩
  have h := f1.trans (f3.trans f4 (U := onlyB w.heap.size) (fun _ _ q => q) (fun _ _ q => q)) (U := noB) (fun _ _ q => q) (fun i hi q => by unfold onlyB at q; omega)
  exact h.trans f6 (fun _ _ q => q) (fun i hi q => by unfold onlyB at q; omega)

set_option maxHeartbeats 1000000 in
theorem plays_any (b r : Int) (v : Value) (xs : List Bool) (w : World) (_ : (Lit.int .i64 b).wf = true) (_ : (Lit.int .i64 r).wf = true) (hxs : SlR w v 1 IsB xs) :
    Calls Try.prog 3 #[.int .i64 b, .int .i64 r, v] w fun e w' => e = .returned (.bool true) ∧ Fr noB w w' := by
  obtain ⟨n, ts, hv⟩ := slr_bools hxs
  clear hxs
  obtain ⟨a, c, rfl, hm, hcell⟩ := hv
  unfold maxLen at hm
  go_enter Try.func3, Try.ntmps3
  go_wp2_with fail
  refine (awake_any w).mono ?_
  rintro e w1 ⟨rfl, f1⟩
  by_cases hlen : 500 < n
  · go_wp2_with fail
    refine (awake_any w1).mono ?_
    rintro e w2 ⟨rfl, f2⟩
    go_wp2
    go_ret
    exact ⟨rfl, f1.seqN f2⟩
  go_wp2_with fail
  by_cases hbr : 0 ≤ b ∧ b ≤ 1000 ∧ 0 ≤ r ∧ r ≤ 1000
  · refine (new_any b r w1 hbr).mono ?_
    rintro e w2 ⟨rfl, hw2⟩
    have b2 : Blk w2 w1.heap.size 39 (bk b r b 0) := by rw [hw2]; exact Blk.new _ _ _
    have f2 : Fr noB w1 w2 := by rw [hw2]; exact (Fr.refl _ _).alloc _
    have z2 : w2.heap.size = w1.heap.size + 1 := by rw [hw2]; simp
    clear hw2
    have Z2 := Lib.hid z2
    clear z2
    go_wp2_with fail
    refine (rnew_any b r w2 hbr).mono ?_
    rintro e w3 ⟨rfl, hw3⟩
    have c3 : Blk w3 w2.heap.size 33 (bk b r b 0) := by rw [hw3]; exact Blk.new _ _ _
    have f3 : Fr noB w2 w3 := by rw [hw3]; exact (Fr.refl _ _).alloc _
    have b3 := f3.keepN b2
    clear hw3
    go_wp2_with fail
    have g1 : w.heap.size ≤ w1.heap.size := f1.size
    have g2 : w1.heap.size < w2.heap.size := by have := Z2.out; omega
    have f03 : Fr noB w w3 := (f1.seqN f2).seqN f3
    clear f1 f2 f3 Z2 b2
    generalize hG1 : w1.heap.size = G1 at *
    generalize hG2 : w2.heap.size = G2 at *
    have hb := Lib.hid hbr
    have hl := Lib.hid hlen
    clear hG1 hG2 hbr hlen
    go_loopw [59] (fun i wr => ∃ (k : Nat) (x y : Int), k ≤ n ∧ i = .int .i64 k ∧ 0 ≤ x ∧ x ≤ b ∧ 0 ≤ y ∧ y ≤ k ∧ Blk wr G1 39 (bk b r x y) ∧ Blk wr G2 33 (bk b r x y) ∧ Fr noB w wr) (fun i _ => n - (intOf i).toNat)
    case atStart => exact ⟨0, b, 0, by omega, rfl, by have := hb.out; omega, by omega, by omega, by omega, b3, c3, f03⟩
    case round =>
      obtain ⟨k, x, y, hk, rfl, hx1, hx2, hy1, hy2, hb1, hb2, hf⟩ := hrel
      by_cases hlt : k < n
      · obtain ⟨g, o, ha, hc⟩ := hcell k hlt
        subst ha
        have hc' := hf.cell hc (fun q => q)
        have hbo := hb.out
        obtain ⟨q1, q2, q3, q4⟩ := hbo
        have nG : G1 ≠ G2 := by omega
        have old : ∀ wx, Fr noB w wx → ∀ wy, Fr (onlyB G1) wx wy → Fr noB w wy := fun wx h1 wy h2 => h1.seqB h2 (fun q => by omega)
        have old2 : ∀ wx, Fr noB w wx → ∀ wy, Fr (onlyB G2) wx wy → Fr noB w wy := fun wx h1 wy h2 => h1.seqB h2 (fun q => by omega)
        have old := Lib.hid old
        have old2 := Lib.hid old2
        have nG := Lib.hid nG
        rename_i old2x nGx oldx
        clear oldx old2x nGx
        have hl2 := hl.out
        clear hcell
        cases ht : ts k with
        | true =>
          rw [ht] at hc'
          clear hc ht
          rcases (show x = 0 ∨ 1 ≤ x by omega) with rfl | hx
          · go_wp2_with fail
            refine (take_no _ _ _ _ _ hb1).mono ?_
            rintro e w4 ⟨rfl, hw4⟩
            obtain rfl := hw4.symm
            go_wp2_with fail
            refine (rtake_no _ _ _ _ _ hb2).mono ?_
            rintro e w4 ⟨rfl, hw4⟩
            obtain rfl := hw4.symm
            have d2 : wr.cell? ⟨G2, 2, none⟩ = some (.int .i64 0) := hb2.cell 2
            have d3 : wr.cell? ⟨G2, 3, none⟩ = some (.int .i64 y) := hb2.cell 3
            go_wp2_with fail
            go_quiet ((first | (go_at_call 14; exact Calls.quiet_of_same (left_any _ _ _ _ _ _ hb1)) | (go_at_call 15; exact Calls.quiet_of_same (taken_any _ _ _ _ _ _ hb1))))
            go_wp2_with fail
            go_roundw
            case rel => exact ⟨k + 1, 0, y, by omega, by go_num, by omega, by omega, by omega, by omega, hb1.drewN _, hb2.drewN _, hf.drewN _⟩
            case measure => simp [intOf]; omega
          · go_wp2_with fail
            refine (take_yes _ _ _ _ _ _ hb1 (by omega) (by omega)).mono ?_
            rintro e w4 ⟨rfl, hb4, f4⟩
            have hc4 := f4.keepB hb2 (fun q => by omega)
            have hf4 := old.out _ hf _ f4
            go_wp2_with fail
            refine (rtake_yes _ _ _ _ _ _ hc4 (by omega) (by omega)).mono ?_
            rintro e w5 ⟨rfl, hb5, f5⟩
            have hc5 := f5.keepB hb4 (fun q => by omega)
            have hf5 := old2.out _ hf4 _ f5
            have d2 : w5.cell? ⟨G2, 2, none⟩ = some (.int .i64 (x - 1)) := hb5.cell 2
            have d3 : w5.cell? ⟨G2, 3, none⟩ = some (.int .i64 (y + 1)) := hb5.cell 3
            go_wp2_with fail
            go_quiet ((first | (go_at_call 14; exact Calls.quiet_of_same (left_any _ _ _ _ _ _ hc5)) | (go_at_call 15; exact Calls.quiet_of_same (taken_any _ _ _ _ _ _ hc5))))
            go_wp2_with fail
            go_roundw
            case rel => exact ⟨k + 1, x - 1, y + 1, by omega, by go_num, by omega, by omega, by omega, by omega, hc5.drewN _, hb5.drewN _, hf5.drewN _⟩
            case measure => simp [intOf]; omega
        | false =>
          rw [ht] at hc'
          clear hc ht
          go_wp2_with fail
          refine (tick_any _ _ _ _ _ _ hb1 (by omega) (by omega) (by omega)).mono ?_
          rintro e w4 ⟨rfl, hb4, f4⟩
          have hc4 := f4.keepB hb2 (fun q => by omega)
          have hf4 := old.out _ hf _ f4
          go_wp2_with fail
          refine (rtick_any _ _ _ _ _ _ hc4 (by omega) (by omega) (by omega)).mono ?_
          rintro e w5 ⟨rfl, hb5, f5⟩
          have hc5 := f5.keepB hb4 (fun q => by omega)
          have hf5 := old2.out _ hf4 _ f5
          have hz1 : 0 ≤ min (x + r) b := by omega
          have hz2 : min (x + r) b ≤ b := by omega
          generalize min (x + r) b = z at *
          have d2 : w5.cell? ⟨G2, 2, none⟩ = some (.int .i64 z) := hb5.cell 2
          have d3 : w5.cell? ⟨G2, 3, none⟩ = some (.int .i64 y) := hb5.cell 3
          go_wp2_with fail
          go_quiet ((first | (go_at_call 14; exact Calls.quiet_of_same (left_any _ _ _ _ _ _ hc5)) | (go_at_call 15; exact Calls.quiet_of_same (taken_any _ _ _ _ _ _ hc5))))
          go_wp2_with fail
          go_roundw
          case rel => exact ⟨k + 1, z, y, by omega, by go_num, by omega, by omega, by omega, by omega, hc5.drewN _, hb5.drewN _, hf5.drewN _⟩
          case measure => simp [intOf]; omega
      · go_wp2
        go_ret
        exact ⟨rfl, hf⟩
  · refine (new_no b r w1 (by omega)).mono ?_
    rintro e w2 ⟨rfl, hw2⟩
    obtain rfl := hw2.symm
    go_wp2_with fail
    refine (rnew_no b r w1 (by omega)).mono ?_
    rintro e w2 ⟨rfl, hw2⟩
    obtain rfl := hw2.symm
    go_wp2
    go_ret
    exact ⟨rfl, f1⟩
end Go.Proofs.Ytefapdjedhbjaaa
