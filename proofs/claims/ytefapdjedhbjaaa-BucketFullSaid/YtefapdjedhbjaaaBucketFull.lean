import Derived.Test.YtefapdjedhbjaaaBucketLaws
set_option linter.unusedVariables false
set_option linter.unusedSimpArgs false
namespace Go.Proofs.Ytefapdjedhbjaaa
open Go.RowKit

set_option maxHeartbeats 1000000 in
theorem full_any (b r n : Int) (w : World) (hb : (Lit.int .i64 b).wf = true) (hr : (Lit.int .i64 r).wf = true) (hn : (Lit.int .i64 n).wf = true) :
    Calls Try.prog 5 #[.int .i64 b, .int .i64 r, .int .i64 n] w fun e w' => e = .returned (.bool true) ∧ Fr noB w w' := by
  obtain ⟨x, hx, x0, x1⟩ := umod b 50 (by omega) (by omega)
  obtain ⟨y, hy, y0, y1⟩ := umod r 10 (by omega) (by omega)
  obtain ⟨z, hz, z0, z1⟩ := umod n 60 (by omega) (by omega)
  replace hx := Lib.hid hx
  replace hy := Lib.hid hy
  replace hz := Lib.hid hz
  go_enter Try.func5, Try.ntmps5
  go_wp2_with fail
  rw [hx.out, hy.out, hz.out, IntWalk.wrap64_in (1 + y) (by omega)]
  clear hx hy hz
  refine (new_any x (1 + y) w (by omega)).mono ?_
  rintro e w2 ⟨rfl, hw2⟩
  have b2 : Blk w2 w.heap.size 39 (bk x (1 + y) x 0) := by rw [hw2]; exact Blk.new _ _ _
  have f2 : Fr noB w w2 := by rw [hw2]; exact (Fr.refl _ _).alloc _
  clear hw2
  have hG : w.heap.size ≤ w.heap.size := Nat.le_refl _
  obtain ⟨G, hG, hGe⟩ : ∃ G, w.heap.size ≤ G ∧ G = w.heap.size := ⟨_, hG, rfl⟩
  rw [← hGe] at b2 ⊢
  clear hGe
  go_wp2_with fail
  go_loopw [30] (fun i wr => ∃ (k : Nat) (c d : Int), ↑k ≤ z ∧ i = .int .i64 k ∧ Hid (c = x - d ∧ d = min ↑k x) ∧ Blk wr G 39 (bk x (1 + y) c d) ∧ Fr noB w wr) (fun i _ => z.toNat - (intOf i).toNat)
  case atStart => exact ⟨0, x, 0, by omega, rfl, ⟨by omega, by omega⟩, b2, f2⟩
  case round =>
    obtain ⟨k, c, d, hk, rfl, hcd, hb1, hf⟩ := hrel
    have hcd' := hcd.out
    have hc0 : 0 ≤ c ∧ c ≤ x := by omega
    have hd0 : 0 ≤ d ∧ d ≤ 50 := by omega
    clear hcd'
    obtain ⟨hc0, hc1⟩ := hc0
    obtain ⟨hd0, hd1⟩ := hd0
    by_cases hlt : (k : Int) < z
    · rcases (show c = 0 ∨ 1 ≤ c by omega) with rfl | hc
      · go_wp2_with fail
        refine (take_no _ _ _ _ _ hb1).mono ?_
        rintro e w4 ⟨rfl, hw4⟩
        obtain rfl := hw4.symm
        go_wp2_with fail
        go_roundw
        case rel => exact ⟨k + 1, 0, d, by omega, by go_num, (by have := hcd.out; exact ⟨by omega, by omega⟩), hb1, hf⟩
        case measure => simp [intOf]; omega
      · go_wp2_with fail
        refine (take_yes _ _ _ _ _ _ hb1 (by omega) (by omega)).mono ?_
        rintro e w4 ⟨rfl, hb4, f4⟩
        have hf4 := hf.seqB f4 (fun q => by omega)
        go_wp2_with fail
        go_roundw
        case rel => exact ⟨k + 1, c - 1, d + 1, by omega, by go_num, (by have := hcd.out; exact ⟨by omega, by omega⟩), hb4, hf4⟩
        case measure => simp [intOf]; omega
    · have hd : d = min z x := by have := hcd.out; omega
      have hc : c = x - d := hcd.out.1
      replace hd := Lib.hid hd
      replace hc := Lib.hid hc
      clear hcd
      go_wp2_with fail
      obtain ⟨wo, hwo⟩ : ∃ wo : World, wo = wr := ⟨_, rfl⟩
      subst hwo
      go_loopw [36] (fun i wr => ∃ (k : Nat) (c : Int), ↑k ≤ x ∧ i = .int .i64 k ∧ c ≤ x ∧ ↑k ≤ c ∧ 0 ≤ c ∧ Blk wr G 39 (bk x (1 + y) c d) ∧ Fr noB w wr) (fun i _ => x.toNat - (intOf i).toNat)
      case atStart => exact ⟨0, c, by omega, rfl, by omega, by omega, by omega, hb1, hf⟩
      case round =>
        obtain ⟨k, c2, hk, rfl, hc2, hc3, hc4, hb2, hf2⟩ := hrel
        by_cases hlt : (k : Int) < x
        · go_wp2_with fail
          refine (tick_any _ _ _ _ _ _ hb2 (by omega) (by omega) (by omega)).mono ?_
          rintro e w4 ⟨rfl, hb4, f4⟩
          have hf4 := hf2.seqB f4 (fun q => by omega)
          have e1 : min (c2 + (1 + y)) x ≤ x := by omega
          have e2 : ↑(k + 1) ≤ min (c2 + (1 + y)) x := by omega
          generalize min (c2 + (1 + y)) x = c5 at *
          go_wp2_with fail
          go_roundw
          case rel => exact ⟨k + 1, c5, by omega, by go_num, by omega, by omega, by omega, hb4, hf4⟩
          case measure => simp [intOf]; omega
        · obtain rfl : x = c2 := by omega
          go_wp2_with fail
          refine (tick_nil _).mono ?_
          rintro e w5 ⟨rfl, hw5⟩
          obtain rfl := hw5.symm
          go_wp2_with fail
          refine (awake_any _).mono ?_
          rintro e w5 ⟨rfl, f5⟩
          have hb5 := f5.keepN hb2
          have hf5 := hf2.seqN f5
          go_wp2_with fail
          refine (left_any _ _ _ _ _ _ hb5).mono ?_
          rintro e w6 ⟨rfl, hw6⟩
          obtain rfl := hw6.symm
          go_wp2_with fail
          refine (taken_any _ _ _ _ _ _ hb5).mono ?_
          rintro e w6 ⟨rfl, hw6⟩
          obtain rfl := hw6.symm
          have hdd : (d == (if z < x then z else x)) = true := by have := hd.out; simp; omega
          by_cases hzx : z < x
          · have hdd : (d == z) = true := by have := hd.out; simp; omega
            go_wp2_with fail
            refine (take_nil _).mono ?_
            rintro e w6 ⟨rfl, hw6⟩
            obtain rfl := hw6.symm
            go_wp2_with fail
            refine (left_nil _).mono ?_
            rintro e w6 ⟨rfl, hw6⟩
            obtain rfl := hw6.symm
            go_wp2_with fail
            refine (taken_nil _).mono ?_
            rintro e w6 ⟨rfl, hw6⟩
            obtain rfl := hw6.symm
            go_wp2
            go_ret
            exact ⟨rfl, hf5⟩
          · have hdd : (d == x) = true := by have := hd.out; simp; omega
            go_wp2_with fail
            refine (take_nil _).mono ?_
            rintro e w6 ⟨rfl, hw6⟩
            obtain rfl := hw6.symm
            go_wp2_with fail
            refine (left_nil _).mono ?_
            rintro e w6 ⟨rfl, hw6⟩
            obtain rfl := hw6.symm
            go_wp2_with fail
            refine (taken_nil _).mono ?_
            rintro e w6 ⟨rfl, hw6⟩
            obtain rfl := hw6.symm
            go_wp2
            go_ret
            exact ⟨rfl, hf5⟩
end Go.Proofs.Ytefapdjedhbjaaa
