import Derived.Test.YtdoeiehikbdoaaaHashAwake
set_option linter.unusedVariables false
set_option linter.unusedSimpArgs false
namespace Go.Proofs.Ytdoeiehikbdoaaa
open Go.RowKit

theorem Try.infoInt : (Try.prog.info? 3).map (fun i => (i.zero, i.size, i.bytes)) = some (some (.int .i64 0), 1, 8) := by kernel_rfl

set_option maxHeartbeats 1000000 in
theorem tells_any (s : ByteArray) (seed : Int) (v : Value) (xs : List Int) (w : World) (hs : s.size ≤ maxLen) (hsd : (Lit.int .u64 seed).wf = true) (hx : Ints w v xs) :
    Calls Try.prog 3 #[.string s, .int .u64 seed, v] w fun e w' => e = .returned (.bool true) ∧ Fr noB w w' := by
  have hU : U64 seed := wf_u64 hsd
  clear hsd
  have hxs := hx
  obtain ⟨a, c, rfl, h1, h2, h3, h4⟩ := hx.form
  clear hx
  unfold maxLen at h2
  obtain ⟨i0, hi, hz0, hz1, hz2⟩ := info_parts Try.infoInt
  generalize hn : xs.length = n at *
  replace h3 := Lib.hid h3
  replace hn := Lib.hid hn
  replace hs := Lib.hid hs
  replace h4 := Lib.hid h4
  go_enter Try.func3, Try.ntmps3
  go_wp2_with fail
  refine (awake_any w).mono ?_
  rintro e w1 ⟨rfl, f1⟩
  by_cases hl1 : 2000 < s.size
  · go_wp2_with fail
    refine (awake_any w1).mono ?_
    rintro e w2 ⟨rfl, f2⟩
    go_wp2
    go_ret
    exact ⟨rfl, f1.seqN f2⟩
  by_cases hl2 : 200 < n
  · go_wp2_with fail
    refine (awake_any w1).mono ?_
    rintro e w2 ⟨rfl, f2⟩
    go_wp2
    go_ret
    exact ⟨rfl, f1.seqN f2⟩
  have hb1 : decide (2000 < (s.size : Int)) = false := by simp; omega
  have hb2 : decide (200 < (n : Int)) = false := by simp; omega
  go_wp2_with fail
  go_loopw [24] (fun i wr => ∃ k : Nat, k ≤ n ∧ i = .int .i64 k ∧ Fr noB w wr) (fun i _ => n - (intOf i).toNat)
  case atStart => exact ⟨0, by omega, rfl, f1⟩
  case round =>
    obtain ⟨k, hk, rfl, hf⟩ := hrel
    by_cases hlt : k < n
    · obtain ⟨g, o, ha, hc⟩ := h4.out k hlt
      subst ha
      have hc' := hf.cell hc (fun q => q)
      have ht : I64 (xs.getD k 0) := h3.out _ (by simp [List.getD, show k < xs.length by rw [hn.out]; exact hlt])
      clear hc
      generalize xs.getD k 0 = t at *
      go_wp2_with fail
      refine (prio_any _ _ _ hU ht).mono ?_
      rintro e w2 ⟨rfl, f2⟩
      go_wp2_with fail
      refine (rprio_any _ _ _ hU ht).mono ?_
      rintro e w3 ⟨rfl, f3⟩
      have f4 := (hf.seqN f2).seqN f3
      generalize prio seed t = p at *
      go_wp2_with fail
      go_roundw
      case rel => exact ⟨k + 1, by omega, by go_num, f4⟩
      case measure => simp [intOf]; omega
    · have hxs := hxs.frame hf (fun _ _ q => q)
      go_wp2_with fail
      refine (sum_any _ _ hs.out).mono ?_
      rintro e w2 ⟨rfl, hw2⟩
      obtain rfl := hw2.symm
      go_wp2_with fail
      refine (rsum_any _ _ hs.out).mono ?_
      rintro e w2 ⟨rfl, hw2⟩
      obtain rfl := hw2.symm
      generalize sumL s.data.toList = q1
      go_wp2_with fail
      refine (check_any _ _ hs.out).mono ?_
      rintro e w2 ⟨rfl, hw2⟩
      obtain rfl := hw2.symm
      go_wp2_with fail
      refine (rcheck_any _ _ hs.out).mono ?_
      rintro e w2 ⟨rfl, hw2⟩
      obtain rfl := hw2.symm
      generalize checkL s.data.toList = q2
      have o1 := own_new wr 3 [] 1 0 rfl (by unfold maxLen; decide)
      have hxs1 := hxs.frame ((Fr.refl noB wr).alloc (.cells #[] 3)) (fun _ _ q => q)
      go_wp2_with (first
        | (at_builtin; refine wpList_append_ints _ rfl (.tmp 50) (.tmp 51) 23 rfl wr.heap.size 3 i0 (.int .i64 0) 8 Try.underlying23 hi hz0 hz1 hz2 rfl _ 0 [] rfl o1 _ xs rfl hxs1 ?_ ?_ ?_ ?_)
        | fail)
      · rw [hn.out]; unfold maxLen; omega
      · rw [hn.out]; omega
      · simp
      intro v' w2 o2 gr2 _
      have f2 : Fr noB wr w2 := ((Fr.refl noB wr).alloc (.cells #[] 3)).grown gr2 (fun g h q => by simp [Value.ownBlock] at h; omega)
      have hf2 := hf.seqN f2
      have hx2 : Ints w2 v' xs := Ints.own (by simpa using o2) h3.out
      have hxs2 := hxs.frame f2 (fun _ _ q => q)
      clear o2 gr2 o1 f2 hf hxs hxs1
      go_wp2_with fail
      refine (least_any _ _ xs _ hU hx2).mono ?_
      rintro e w3 ⟨rfl, f3⟩
      have hxs3 := hxs2.frame f3 (fun _ _ q => q)
      have hf3 := hf2.seqN f3
      clear hx2 hxs2
      go_wp2_with fail
      refine (rleast_any _ _ xs _ hU hxs3).mono ?_
      rintro e w4 ⟨rfl, f4⟩
      have hf4 := hf3.seqN f4
      generalize leastS seed xs = q3
      go_wp2
      go_ret
      exact ⟨by first | rfl | simp, hf4⟩
end Go.Proofs.Ytdoeiehikbdoaaa
