import Derived.Test.YtgpeokhbpnbfeaaNet
set_option linter.unusedVariables false
set_option linter.unusedSimpArgs false
namespace Go.Proofs.Ytgpeokhbpnbfeaa
open Go.RowKit Go Go.Lib

def bA : ByteArray := ⟨#[97]⟩
def bB : ByteArray := ⟨#[98]⟩
def bC : ByteArray := ⟨#[99]⟩
theorem pl43 : placeN 4 3 = 1 := by decide +kernel
theorem pl12 : placeN 1 2 = 1 := by decide +kernel
theorem pl02 : placeN 0 2 = 0 := by decide +kernel

set_option maxHeartbeats 1000000 in
set_option maxRecDepth 10000 in
theorem awake_any (w : World) : Calls Try.prog 6 #[] w fun e w' => e = .returned (.bool true) ∧ Fr noB w w' := by
  go_enter Try.func6, Try.ntmps6
  go_wp2_with fail
  refine (nnew_any w).mono ?_
  rintro e w1 ⟨rfl, hw1⟩
  have z1 : w1.heap.size = w.heap.size + 1 := by rw [hw1]; simp
  have n1 : Nt w1 w.heap.size w1.heap.size [] := nt_new w w1 (by omega) (by rw [hw1]; exact Blk.new w _ _)
  have f1 : Fr noB w w1 := by rw [hw1]; exact (Fr.refl _ _).alloc _
  obtain ⟨B, hB⟩ : ∃ B, B = w1.heap.size := ⟨_, rfl⟩
  obtain ⟨g, hg⟩ : ∃ g, g = w.heap.size := ⟨_, rfl⟩
  rw [← hB, ← hg] at n1
  rw [← hg]
  have hgg : w.heap.size ≤ g := by omega
  have hBB : w.heap.size ≤ B := by omega
  clear hw1 z1 hB hg
  go_wp2_with fail
  refine (nsend_any g B _ 1 bA w1 n1 (by decide)).mono ?_
  rintro e w2 ⟨rfl, n2, f2⟩
  have f2' := f1.noT f2 n1 hgg hBB
  clear f2 f1 n1
  go_wp2_with fail
  refine (nsend_any g B _ 2 bB w2 n2 (by decide)).mono ?_
  rintro e w3 ⟨rfl, n3, f3⟩
  have f3' := f2'.noT f3 n2 hgg hBB
  clear f3 f2' n2
  go_wp2_with fail
  refine (nsend_any g B _ 3 bC w3 n3 (by decide)).mono ?_
  rintro e w4 ⟨rfl, n4, f4⟩
  have f4' := f3'.noT f4 n3 hgg hBB
  clear f4 f3' n3
  replace n4 : Nt w4 g B [((1 : Int), bA), (2, bB), (3, bC)] := n4
  go_wp2_with fail
  refine (nbring_any g B _ 4 (2, bB) w4 n4 (by decide) (by rw [show [((1 : Int), bA), (2, bB), (3, bC)].length = 3 from rfl, pl43]; rfl)).mono ?_
  rintro e w5 ⟨rfl, n5, f5⟩
  have f5' := f4'.noT f5 n4 hgg hBB
  rw [show [((1 : Int), bA), (2, bB), (3, bC)].length = 3 from rfl, pl43] at n5
  replace n5 : Nt w5 g B [((1 : Int), bA), (3, bC)] := n5
  clear f5 f4' n4
  go_wp2_with fail
  refine (nlook_any g B _ 1 (3, bC) w5 n5 (by decide) (by rw [show [((1 : Int), bA), (3, bC)].length = 2 from rfl, pl12]; rfl)).mono ?_
  rintro e w6 ⟨rfl, q, hw6⟩
  have n6 : Nt w6 g B [((1 : Int), bA), (3, bC)] := by rw [hw6]; exact n5
  have f6' : Fr noB w w6 := by rw [hw6]; exact f5'.drewN q
  clear hw6 f5' n5
  go_wp2_with fail
  refine (ndrop_any g B _ 0 w6 n6 (by decide)).mono ?_
  rintro e w7 ⟨rfl, n7, f7⟩
  have f7' := f6'.noT f7 n6 hgg hBB
  rw [show [((1 : Int), bA), (3, bC)].length = 2 from rfl, pl02] at n7
  replace n7 : Nt w7 g B [((3 : Int), bC)] := n7
  clear f7 f6' n6
  simp only [bB, bC]
  go_wp2_with fail
  refine (nlen_any g B _ w7 n7).mono ?_
  rintro e w8 ⟨rfl, hw8⟩
  obtain rfl := hw8.symm
  simp only [List.length_cons, List.length_nil]
  go_wp2_with fail
  go_ret
  exact ⟨rfl, f7'⟩

theorem pl0 (n : Nat) (h : 0 < n) : placeN 0 n = 0 := by
  unfold placeN
  rw [show IntKind.u64.wrap 0 = 0 from rfl]
  simp

set_option maxHeartbeats 1000000 in
set_option maxRecDepth 10000 in
theorem full_any (n : Int) (s : ByteArray) (w : World) (hn : (Lit.int .i64 n).wf = true) (hs : s.size ≤ maxLen) :
    Calls Try.prog 4 #[.int .i64 n, .string s] w fun e w' => e = .returned (.bool true) ∧ Fr noB w w' := by
  obtain ⟨z, hz, z0, z1⟩ := umod n 300 (by omega) (by omega)
  obtain ⟨N, rfl⟩ : ∃ N : Nat, z = N := ⟨z.toNat, by omega⟩
  clear z0
  replace hz := Lib.hid hz
  unfold maxLen at hs
  go_enter Try.func4, Try.ntmps4
  go_wp2_with fail
  rw [hz.out]
  clear hz
  refine (awake_any w).mono ?_
  rintro e w1 ⟨rfl, f1⟩
  by_cases hl : 100 < s.size
  · go_wp2_with fail
    refine (awake_any w1).mono ?_
    rintro e w2 ⟨rfl, f2⟩
    go_wp2
    go_ret
    exact ⟨rfl, f1.seqN f2⟩
  have hd1 : decide (100 < (s.size : Int)) = false := by simp; omega
  go_wp2_with fail
  refine (nnew_any w1).mono ?_
  rintro e w2 ⟨rfl, hw2⟩
  have z2 : w2.heap.size = w1.heap.size + 1 := by rw [hw2]; simp
  have n2 : Nt w2 w1.heap.size w2.heap.size [] := nt_new w1 w2 (by omega) (by rw [hw2]; exact Blk.new w1 _ _)
  have f2 : Fr noB w w2 := f1.seqN (by rw [hw2]; exact (Fr.refl _ _).alloc _)
  obtain ⟨B, hB⟩ : ∃ B, B = w2.heap.size := ⟨_, rfl⟩
  rw [← hB] at n2
  have hBB : w.heap.size ≤ B := by have := f1.size; omega
  have hg2 : w.heap.size ≤ w1.heap.size := f1.size
  clear hw2 z2 hB f1
  go_wp2_with fail
  generalize w1.heap.size = g at *
  go_loopw [28] (fun i wr => ∃ (k : Nat) (ms : List (Int × ByteArray)), k ≤ N ∧ i = .int .i64 k ∧ Hid (ms.length = min k 200) ∧ Nt wr g B ms ∧ Fr noB w wr) (fun i _ => N - (RowKit.intOf i).toNat)
  case atStart => exact ⟨0, [], by omega, rfl, Lib.hid (by simp), n2, f2⟩
  case round =>
    clear n2 f2
    obtain ⟨k, ms, hk, rfl, hms, nt, fr⟩ := hrel
    by_cases hlt : k < N
    · rcases (show k < 200 ∨ 200 ≤ k by omega) with h2 | h2
      · have hd3 : decide ((k : Int) < 200) = true := by simp; omega
        go_wp2_with fail
        refine (nsend_any g B ms _ s wr nt (by have := hms.out; omega)).mono ?_
        rintro e w4 ⟨rfl, n4, f4⟩
        have f4' := fr.noT f4 nt hg2 hBB
        clear f4 fr
        go_wp2_with fail
        go_roundw
        case rel => exact ⟨k + 1, _, by omega, by go_num, Lib.hid (by have := hms.out; simp; omega), n4, f4'⟩
        case measure => simp [RowKit.intOf]; omega
      · have hd3 : decide ((k : Int) < 200) = false := by simp; omega
        go_wp2_with fail
        refine (nsend_full g B ms _ s wr nt (by have := hms.out; omega)).mono ?_
        rintro e w4 ⟨rfl, hw4⟩
        obtain rfl := hw4.symm
        go_wp2_with fail
        go_roundw
        case rel => exact ⟨k + 1, _, by omega, by go_num, Lib.hid (by have := hms.out; omega), nt, fr⟩
        case measure => simp [RowKit.intOf]; omega
    · obtain rfl : k = N := by omega
      go_wp2_with fail
      refine (nbring_nil k wr).mono ?_
      rintro e w4 ⟨rfl, hw4⟩
      obtain rfl := hw4.symm
      go_wp2_with fail
      refine (nlook_nil k wr).mono ?_
      rintro e w4 ⟨rfl, hw4⟩
      obtain rfl := hw4.symm
      go_wp2_with fail
      refine (nlen_any g B ms wr nt).mono ?_
      rintro e w4 ⟨rfl, hw4⟩
      obtain rfl := hw4.symm
      have hq := hms.out
      rw [hq]
      by_cases h2 : (200 : Int) < k
      all_goals (
        go_wp2_with fail
        try (
        refine (nsend_nil 1 s wr).mono ?_
        rintro e w4 ⟨rfl, hw4⟩
        obtain rfl := hw4.symm
        go_wp2_with fail
        refine (ndrop_nil 0 wr).mono ?_
        rintro e w4 ⟨rfl, hw4⟩
        obtain rfl := hw4.symm
        go_wp2_with fail
        refine (nlen_nil wr).mono ?_
        rintro e w4 ⟨rfl, hw4⟩
        obtain rfl := hw4.symm
        go_wp2_with fail
        go_ret
        exact ⟨rfl, fr⟩))
end Go.Proofs.Ytgpeokhbpnbfeaa
