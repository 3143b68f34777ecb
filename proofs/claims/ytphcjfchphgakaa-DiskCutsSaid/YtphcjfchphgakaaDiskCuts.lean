import Derived.Test.YtphcjfchphgakaaDiskAwake
set_option linter.unusedVariables false
set_option linter.unusedSimpArgs false
namespace Go.Proofs.Ytphcjfchphgakaa
open Go.RowKit Go Go.Lib

theorem cr0 (L : Nat) : crN 0 L = 0 := by
  unfold crN
  rw [IntKind.wrap_u64]
  simp [wrap64]
theorem cr50 : crN 5 0 = 0 := by decide +kernel

set_option maxHeartbeats 2000000 in
theorem cuts_any (a b : ByteArray) (n : Int) (w : World) (ha : a.size ≤ 140737488351232) (hb : b.size ≤ 140737488351232) (hn : (Lit.int .i64 n).wf = true) :
    Calls Try.prog 5 #[.string a, .string b, .int .i64 n] w fun e w' => e = .returned (.bool true) ∧ Fr noB w w' := by
  have hn : -9223372036854775808 ≤ n ∧ n ≤ 9223372036854775807 := by simpa [Lit.wf, IntKind.min, IntKind.max, IntKind.signed, IntKind.bits] using hn
  go_enter Try.func5, Try.ntmps5
  go_wp2_with fail
  refine (awake_any w).mono ?_
  rintro e w1 ⟨rfl, f1⟩
  by_cases hl : a.size + b.size ≤ 3000
  · clear ha hb
    have hd : ¬ 3000 < (a.size : Int) + (b.size : Int) := by omega
    go_wp2_with fail
    refine (dnew_any w1).mono ?_
    rintro e w2 ⟨rfl, hw2⟩
    have z2 : w2.heap.size = w1.heap.size + 1 := by rw [hw2]; simp
    have d2 : Dk w2 w1.heap.size w2.heap.size [] 0 := dk_new w1 w2 (by omega) (by rw [hw2]; exact Blk.new w1 _ _)
    have f2 : Fr noB w w2 := f1.seqN (by rw [hw2]; exact (Fr.refl _ _).alloc _)
    obtain ⟨B, hB⟩ : ∃ B, B = w2.heap.size := ⟨_, rfl⟩
    rw [← hB] at d2
    have hBB : w.heap.size ≤ B := by have := f1.size; omega
    have hg2 : w.heap.size ≤ w1.heap.size := f1.size
    clear hw2 z2 hB f1
    generalize w1.heap.size = g at *
    go_wp2_with fail
    refine (dappend_any g B _ _ a _ d2 (by simp; omega)).mono ?_
    rintro e w3 ⟨rfl, d3, f3⟩
    replace f3 := f2.noD f3 d2 hg2 hBB
    rw [List.nil_append] at d3
    clear d2 f2
    go_wp2_with fail
    refine (dkept_any g B _ _ _ d3).mono ?_
    rintro e w4 ⟨rfl, hw4⟩
    obtain rfl := hw4.symm
    go_wp2_with fail
    refine (dcut_any g B _ _ n _ d3 hn).mono ?_
    rintro e w4 ⟨rfl, d4, f4⟩
    replace f4 := f3.noD f4 d3 hg2 hBB
    clear d3 f3
    have hm : (cutN n a.data.toList.length : Int) = min (max n 0) (a.size : Int) := by unfold cutN; rw [show a.data.toList.length = a.size from rfl]; omega
    have hml := cutN_le n a.data.toList.length
    have hex : a.extract 0 (cutN n a.data.toList.length) = strB (a.data.toList.take (cutN n a.data.toList.length)) := by
      rw [← extract_list, strB_of]
    have hlen : (a.data.toList.take (cutN n a.data.toList.length)).length = cutN n a.data.toList.length := by rw [List.length_take]; omega
    rw [show a.data.toList.length = a.size from rfl] at hml
    generalize cutN n a.data.toList.length = m at *
    generalize a.data.toList.take m = A1 at *
    replace hm := Lib.hid hm
    replace hlen := Lib.hid hlen
    have ht := strB_toList
    have hab : strB A1 ++ b = strB (A1 ++ b.data.toList) := by rw [← strB_append, strB_of]
    obtain ⟨hn0, hn1⟩ := hn
    have hcase : n < 0 ∧ m = 0 ∨ n = m ∨ (a.size : Int) < n ∧ m = a.size := by have := hm.out; omega
    have hle : (m : Int) ≤ a.size := by have := hm.out; omega
    clear hml
    replace hex := Lib.hid hex
    rcases hcase with ⟨h1, h2⟩ | h1 | ⟨h1, h2⟩
    focus (
      subst h2
      have hx : ¬ (a.size : Int) < 0 := by omega
      obtain rfl : A1 = [] := List.eq_nil_of_length_eq_zero hlen.out
      have t1 : ByteArray.empty.toList = [] := by rw [ByteArray.toList_eq]; rfl
      have t2 : b.toList = [] ++ b.data.toList := by rw [ByteArray.toList_eq]; rfl
      have t3 : (a.extract 0 0).toList = [] := by rw [hex.out]; exact ht []
      have t4 : (a.extract 0 0 ++ b).toList = [] ++ b.data.toList := by rw [hex.out, hab]; exact ht _)
    rotate_left
    focus (
      subst h1
      have hx : ¬ (m : Int) < 0 := by omega
      have hy : ¬ (a.size : Int) < (m : Int) := by omega
      have t1 : (a.extract 0 m).toList = A1 := by rw [hex.out]; exact ht _
      have t2 : (a.extract 0 m ++ b).toList = A1 ++ b.data.toList := by rw [hex.out, hab]; exact ht _
      have t3 : True := trivial
      have t4 : True := trivial)
    rotate_left
    focus (
      subst h2
      have hx : ¬ n < 0 := by omega
      have t1 : (a.extract 0 a.size).toList = A1 := by rw [hex.out]; exact ht _
      have t2 : (a.extract 0 a.size ++ b).toList = A1 ++ b.data.toList := by rw [hex.out, hab]; exact ht _
      have hea : a.extract 0 a.size = a := by simp
      have t3 : a.toList = A1 := by rw [hea] at t1; exact t1
      have t4 : (a ++ b).toList = A1 ++ b.data.toList := by rw [hea] at t2; exact t2
      clear hea)
    rotate_left
    all_goals
      replace hab := Lib.hid hab
      go_wp2_with fail
      refine (dkept_any g B _ _ _ d4).mono ?_
      rintro e w5 ⟨rfl, hw5⟩
      obtain rfl := hw5.symm
      go_wp2_with fail
      refine (dappend_any g B _ _ b _ d4 (by rw [hlen.out]; omega)).mono ?_
      rintro e w5 ⟨rfl, d5, f5⟩
      replace f5 := f4.noD f5 d4 hg2 hBB
      clear d4 f4
      go_wp2_with fail
      refine (dcrash_any g B _ _ 0 _ d5 (by omega)).mono ?_
      rintro e w6 ⟨rfl, d6, f6⟩
      replace f6 := f5.noD f6 d5 hg2 hBB
      rw [cr0, Nat.add_zero, List.take_left' hlen.out] at d6
      clear d5 f5
      go_wp2_with fail
      go_quiet ((go_at_call 15; exact Calls.quiet_of_same (dbytes_any g B _ _ _ (d6.drewN _))))
      have d7 := d6.drewN nq
      have f7 := f6.drewN nq
      generalize w6.drewN nq = w7 at *
      clear d6 f6
      go_wp2_with fail
      refine (dappend_any g B _ _ b _ d7 (by rw [hlen.out]; omega)).mono ?_
      rintro e w8 ⟨rfl, d8, f8⟩
      replace f8 := f7.noD f8 d7 hg2 hBB
      clear d7 f7
      go_wp2_with fail
      refine (dsync_any g B _ _ _ d8).mono ?_
      rintro e w9 ⟨rfl, d9, f9⟩
      replace f9 := f8.noD f9 d8 hg2 hBB
      clear d8 f8
      go_wp2_with fail
      refine (dcrash_any g B _ _ 5 _ d9 (by omega)).mono ?_
      rintro e w10 ⟨rfl, d10, f10⟩
      replace f10 := f9.noD f10 d9 hg2 hBB
      rw [Nat.sub_self, cr50, Nat.add_zero, List.take_of_length_le (Nat.le_refl _), List.length_append, hlen.out, show b.data.toList.length = b.size from rfl] at d10
      clear d9 f9
      go_wp2_with fail
      go_quiet ((first | (go_at_call 15; exact Calls.quiet_of_same (dbytes_any g B _ _ _ (d10.drewN _))) | (go_at_call 16; exact Calls.quiet_of_same (dkept_any g B _ _ _ (d10.drewN _)))))
      go_wp2
      go_ret
      exact ⟨by first | rfl | simp, f10.drewN _⟩
  · have hd : 3000 < (a.size : Int) + (b.size : Int) := by omega
    go_wp2_with fail
    refine (awake_any w1).mono ?_
    rintro e w2 ⟨rfl, f2⟩
    go_wp2
    go_ret
    exact ⟨rfl, f1.seqN f2⟩
end Go.Proofs.Ytphcjfchphgakaa
