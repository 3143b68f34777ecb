import Derived.Test.YtefapdjedhbjaaaBucketLaws
set_option linter.unusedVariables false
set_option linter.unusedSimpArgs false
namespace Go.Proofs.Ytefapdjedhbjaaa
open Go.RowKit

theorem mul_bd (z y : Int) (h0 : 0 ≤ z) (h1 : z ≤ 100) (h2 : 0 ≤ y) (h3 : y ≤ 1000) : 0 ≤ z * y ∧ z * y ≤ 100000 :=
  ⟨Int.mul_nonneg h0 h2, by have := Int.mul_le_mul h1 h3 h2 (by omega : (0 : Int) ≤ 100); omega⟩

set_option maxHeartbeats 1000000 in
theorem wait_any (b r n : Int) (w : World) (hb : (Lit.int .i64 b).wf = true) (hr : (Lit.int .i64 r).wf = true) (hn : (Lit.int .i64 n).wf = true) :
    Calls Try.prog 6 #[.int .i64 b, .int .i64 r, .int .i64 n] w fun e w' => e = .returned (.bool true) ∧ Fr noB w w' := by
  obtain ⟨x, hx, x0, x1⟩ := umod b 1001 (by omega) (by omega)
  obtain ⟨y, hy, y0, y1⟩ := umod r 1001 (by omega) (by omega)
  obtain ⟨z, hz, z0, z1⟩ := umod n 100 (by omega) (by omega)
  replace hx := Lib.hid hx
  replace hy := Lib.hid hy
  replace hz := Lib.hid hz
  go_enter Try.func6, Try.ntmps6
  go_wp2_with fail
  rw [hx.out, hy.out, hz.out]
  clear hx hy hz
  refine (new_any x y w (by omega)).mono ?_
  rintro e w2 ⟨rfl, hw2⟩
  have b2 : Blk w2 w.heap.size 39 (bk x y x 0) := by rw [hw2]; exact Blk.new _ _ _
  have f2 : Fr noB w w2 := by rw [hw2]; exact (Fr.refl _ _).alloc _
  have s2 : w2.heap.size = w.heap.size + 1 := by rw [hw2]; simp
  clear hw2
  replace s2 := Lib.hid s2
  go_wp2_with fail
  refine (new_any x y w2 (by omega)).mono ?_
  rintro e w3 ⟨rfl, hw3⟩
  have c3 : Blk w3 w2.heap.size 39 (bk x y x 0) := by rw [hw3]; exact Blk.new _ _ _
  have f3 : Fr noB w2 w3 := by rw [hw3]; exact (Fr.refl _ _).alloc _
  have b3 := f3.keepN b2
  have f03 := f2.seqN f3
  clear hw3 b2 f2 f3
  obtain ⟨G, hG, hGe⟩ : ∃ G, w.heap.size ≤ G ∧ G = w.heap.size := ⟨_, Nat.le_refl _, rfl⟩
  obtain ⟨K, hK, hKe⟩ : ∃ K, G < K ∧ K = w2.heap.size := ⟨_, by rw [s2.out]; omega, rfl⟩
  rw [← hKe] at c3
  rw [← hGe] at b3
  rw [← hKe, ← hGe]
  clear hGe hKe s2
  go_wp2_with fail
  refine (awake_any _).mono ?_
  rintro e w4 ⟨rfl, f4⟩
  have c4 := f4.keepN c3
  have b4 := f4.keepN b3
  have f04 := f03.seqN f4
  clear c3 b3 f03 f4
  go_wp2_with fail
  have nG : ∀ wx wy wz, Fr noB w wx → Fr (onlyB G) wx wy → Fr (onlyB K) wy wz → Fr noB w wz := fun wx wy wz h1 h2 h3 => (h1.seqB h2 (fun q => by omega)).seqB h3 (fun q => by omega)
  replace nG := Lib.hid nG
  have nGK : G ≠ K := by omega
  replace nGK := Lib.hid nGK
  go_loopw [46] (fun i wr => ∃ (k : Nat) (c d : Int), ↑k ≤ x ∧ i = .int .i64 k ∧ Hid (c = x - k) ∧ d ≤ k ∧ 0 ≤ d ∧ Blk wr G 39 (bk x y c d) ∧ Blk wr K 39 (bk x y c d) ∧ Fr noB w wr) (fun i _ => x.toNat - (intOf i).toNat)
  case atStart => exact ⟨0, x, 0, by omega, rfl, (by unfold Hid; omega), by omega, by omega, b4, c4, f04⟩
  case round =>
    obtain ⟨k, c, d, hk, rfl, hcd, hd, hd2, hb1, hb2, hf⟩ := hrel
    by_cases hlt : (k : Int) < x
    · have hc0 : 1 ≤ c := by have := hcd.out; omega
      have hc1 : c ≤ 1000 := by have := hcd.out; omega
      go_wp2_with fail
      refine (take_yes _ _ _ _ _ _ hb1 (by omega) (by omega)).mono ?_
      rintro e w5 ⟨rfl, hb5, f5⟩
      have hc5 := f5.keepB hb2 nGK.out.symm
      go_wp2_with fail
      refine (take_yes _ _ _ _ _ _ hc5 (by omega) (by omega)).mono ?_
      rintro e w6 ⟨rfl, hb6, f6⟩
      have hc6 := f6.keepB hb5 nGK.out
      have hf6 := nG.out _ _ _ hf f5 f6
      go_wp2_with fail
      go_roundw
      case rel => exact ⟨k + 1, c - 1, d + 1, by omega, by go_num, (by have := hcd.out; unfold Hid; omega), by omega, by omega, hc6, hb6, hf6⟩
      case measure => simp [intOf]; omega
    · have hc : c = 0 := by have := hcd.out; omega
      subst hc
      clear hcd
      go_wp2_with fail
      obtain ⟨wo, hwo⟩ : ∃ wo : World, wo = wr := ⟨_, rfl⟩
      subst hwo
      have hzy := mul_bd z y (by omega) (by omega) (by omega) (by omega)
      obtain ⟨hzy0, hzy1⟩ := hzy
      go_loopw [54] (fun i wr => ∃ (k : Nat) (c : Int), ↑k ≤ z ∧ i = .int .i64 k ∧ Hid (c = min x (k * y)) ∧ Blk wr G 39 (bk x y c d) ∧ Blk wr K 39 (bk x y c d) ∧ Fr noB w wr) (fun i _ => z.toNat - (intOf i).toNat)
      case atStart => exact ⟨0, 0, by omega, rfl, (by unfold Hid; simp; omega), hb1, hb2, hf⟩
      case round =>
        obtain ⟨m, c, hm, rfl, hcm, hb1, hb2, hf⟩ := hrel
        have hmy := mul_bd m y (by omega) (by omega) (by omega) (by omega)
        have hc0 : 0 ≤ c := by have := hcm.out; omega
        have hc1 : c ≤ x := by have := hcm.out; omega
        obtain ⟨hmy0, hmy1⟩ := hmy
        by_cases hlt : (m : Int) < z
        · have e1 : min (c + y) x = min x (((m + 1 : Nat) : Int) * y) := by
            have e2 : ((m + 1 : Nat) : Int) * y = m * y + y := by rw [Int.natCast_succ, Int.add_mul]; omega
            rw [e2]
            have := hcm.out
            omega
          go_wp2_with fail
          refine (tick_any _ _ _ _ _ _ hb1 (by omega) (by omega) (by omega)).mono ?_
          rintro e w5 ⟨rfl, hb5, f5⟩
          have hc5 := f5.keepB hb2 nGK.out.symm
          go_wp2_with fail
          refine (tick_any _ _ _ _ _ _ hc5 (by omega) (by omega) (by omega)).mono ?_
          rintro e w6 ⟨rfl, hb6, f6⟩
          have hc6 := f6.keepB hb5 nGK.out
          have hf6 := nG.out _ _ _ hf f5 f6
          have hcx : min (c + y) x ≤ x := by omega
          replace e1 := Lib.hid e1
          clear hcm
          generalize min (c + y) x = c5 at *
          go_wp2_with fail
          refine (left_any _ _ _ _ _ _ hc6).mono ?_
          rintro e w7 ⟨rfl, hw7⟩
          obtain rfl := hw7.symm
          go_wp2_with fail
          go_roundw
          case rel => exact ⟨m + 1, c5, by omega, by go_num, e1, hc6, hb6, hf6⟩
          case measure => simp [intOf]; omega
        · have hmz : (m : Int) = z := by omega
          have hcz : c = min x (z * y) := by rw [← hmz]; exact hcm.out
          clear hcm
          replace hmz := Lib.hid hmz
          replace hcz := Lib.hid hcz
          have hwz : wrap64 (z * y) = z * y := IntWalk.wrap64_in _ (by omega)
          have hdd : (c == (if z * y < x then z * y else x)) = true := by have := hcz.out; simp; omega
          replace hdd := Lib.hid hdd
          by_cases hzx : z * y < x
          · have hdd : (c == z * y) = true := by have := hcz.out; simp; omega
            go_wp2_with fail
            refine (left_any _ _ _ _ _ _ hb1).mono ?_
            rintro e w7 ⟨rfl, hw7⟩
            obtain rfl := hw7.symm
            go_wp2_with fail
            refine (left_any _ _ _ _ _ _ hb2).mono ?_
            rintro e w7 ⟨rfl, hw7⟩
            obtain rfl := hw7.symm
            go_wp2_with fail
            refine (left_any _ _ _ _ _ _ hb1).mono ?_
            rintro e w7 ⟨rfl, hw7⟩
            obtain rfl := hw7.symm
            go_wp2_with fail
            refine (taken_any _ _ _ _ _ _ hb1).mono ?_
            rintro e w7 ⟨rfl, hw7⟩
            obtain rfl := hw7.symm
            go_wp2_with fail
            refine (taken_any _ _ _ _ _ _ hb2).mono ?_
            rintro e w7 ⟨rfl, hw7⟩
            obtain rfl := hw7.symm
            go_wp2
            go_ret
            exact ⟨rfl, hf⟩
          · have hdd : (c == x) = true := by have := hcz.out; simp; omega
            go_wp2_with fail
            refine (left_any _ _ _ _ _ _ hb1).mono ?_
            rintro e w7 ⟨rfl, hw7⟩
            obtain rfl := hw7.symm
            go_wp2_with fail
            refine (left_any _ _ _ _ _ _ hb2).mono ?_
            rintro e w7 ⟨rfl, hw7⟩
            obtain rfl := hw7.symm
            go_wp2_with fail
            refine (left_any _ _ _ _ _ _ hb1).mono ?_
            rintro e w7 ⟨rfl, hw7⟩
            obtain rfl := hw7.symm
            go_wp2_with fail
            refine (taken_any _ _ _ _ _ _ hb1).mono ?_
            rintro e w7 ⟨rfl, hw7⟩
            obtain rfl := hw7.symm
            go_wp2_with fail
            refine (taken_any _ _ _ _ _ _ hb2).mono ?_
            rintro e w7 ⟨rfl, hw7⟩
            obtain rfl := hw7.symm
            go_wp2
            go_ret
            exact ⟨rfl, hf⟩
end Go.Proofs.Ytefapdjedhbjaaa
