/-
  Where there is no job: New refuses. The document's answers: within, part, Right of what a job is told.
  The document's answer: may a part be?
  The document's answer: may a message be? By kind, for the kinds without parts and spans.
  The reference's Right of a Chunk.
-/
import Derived.Test.YtidcoddefebdpaaGreatJobLaws
import Derived.Test.YtidcoddefebdpaaGreatLike
import Derived.Test.YtidcoddefebdpaaGreatMsMayB
section
set_option linter.unusedVariables false
set_option linter.unusedSimpArgs false
set_option maxRecDepth 100000
namespace Go.Proofs.YtidcoddefebdpaaGreat
open Go.RowKit Go Go.Lib

set_option maxHeartbeats 1000000 in
set_option maxRecDepth 10000 in
theorem new_high (id ag a t c : Int) (w : World) (h : bTrigger a t c = true) (hid : 1 ≤ id) (hx : 1073741824 < id) :
    Calls Tryz.prog 71 #[.int .i64 id, .int .i64 ag, .agg #[.int .i64 a, .int .i64 t, .int .i64 c]] w fun e w' => e = .returned (.pointer none) ∧ Fr noB w w' := by
  have fX := (Fr.refl noB w).alloc (.cells #[.int .i64 a, .int .i64 t, .int .i64 c] 66)
  have bX := Blk.new w 66 [.int .i64 a, .int .i64 t, .int .i64 c]
  have hr := right_of (mayBe_Trigger a t c (w.alloc (.cells #[.int .i64 a, .int .i64 t, .int .i64 c] 66)))
  rw [h] at hr
  unfold mTrigger at hr
  have hd0 : decide (id < 1) = false := by simp; omega
  have hd1 : decide (1073741824 < id) = true := by simp; omega
  go_enter Tryz.func71, Tryz.ntmps71
  go_wp2_with fail
  refine hr.mono ?_
  rintro e w1 ⟨rfl, f1⟩
  have g1 := fX.seqN f1
  have c0 : w1.cell? ⟨w.heap.size, 0, none⟩ = some (.int .i64 a) := (f1.blk bX (fun q => q)).cell 0
  clear hr fX f1 bX
  go_wp2_with fail
  go_ret
  exact ⟨rfl, g1⟩
set_option maxHeartbeats 1000000 in
set_option maxRecDepth 10000 in
theorem new_none (id ag a t c : Int) (w : World) (h : bTrigger a t c = true) (hid : 1 ≤ id) (hid2 : id ≤ 1073741824) (hx : ag < 1) :
    Calls Tryz.prog 71 #[.int .i64 id, .int .i64 ag, .agg #[.int .i64 a, .int .i64 t, .int .i64 c]] w fun e w' => e = .returned (.pointer none) ∧ Fr noB w w' := by
  have fX := (Fr.refl noB w).alloc (.cells #[.int .i64 a, .int .i64 t, .int .i64 c] 66)
  have bX := Blk.new w 66 [.int .i64 a, .int .i64 t, .int .i64 c]
  have hr := right_of (mayBe_Trigger a t c (w.alloc (.cells #[.int .i64 a, .int .i64 t, .int .i64 c] 66)))
  rw [h] at hr
  unfold mTrigger at hr
  have hd0 : decide (id < 1) = false := by simp; omega
  have hd1 : decide (1073741824 < id) = false := by simp; omega
  have hd2 : decide (ag < 1) = true := by simp; omega
  go_enter Tryz.func71, Tryz.ntmps71
  go_wp2_with fail
  refine hr.mono ?_
  rintro e w1 ⟨rfl, f1⟩
  have g1 := fX.seqN f1
  have c0 : w1.cell? ⟨w.heap.size, 0, none⟩ = some (.int .i64 a) := (f1.blk bX (fun q => q)).cell 0
  clear hr fX f1 bX
  go_wp2_with fail
  go_ret
  exact ⟨rfl, g1⟩
set_option maxHeartbeats 1000000 in
set_option maxRecDepth 10000 in
theorem new_many (id ag a t c : Int) (w : World) (h : bTrigger a t c = true) (hid : 1 ≤ id) (hid2 : id ≤ 1073741824) (hg : 1 ≤ ag) (hx : 4 < ag) :
    Calls Tryz.prog 71 #[.int .i64 id, .int .i64 ag, .agg #[.int .i64 a, .int .i64 t, .int .i64 c]] w fun e w' => e = .returned (.pointer none) ∧ Fr noB w w' := by
  have fX := (Fr.refl noB w).alloc (.cells #[.int .i64 a, .int .i64 t, .int .i64 c] 66)
  have bX := Blk.new w 66 [.int .i64 a, .int .i64 t, .int .i64 c]
  have hr := right_of (mayBe_Trigger a t c (w.alloc (.cells #[.int .i64 a, .int .i64 t, .int .i64 c] 66)))
  rw [h] at hr
  unfold mTrigger at hr
  have hd0 : decide (id < 1) = false := by simp; omega
  have hd1 : decide (1073741824 < id) = false := by simp; omega
  have hd2 : decide (ag < 1) = false := by simp; omega
  have hd3 : decide (4 < ag) = true := by simp; omega
  go_enter Tryz.func71, Tryz.ntmps71
  go_wp2_with fail
  refine hr.mono ?_
  rintro e w1 ⟨rfl, f1⟩
  have g1 := fX.seqN f1
  have c0 : w1.cell? ⟨w.heap.size, 0, none⟩ = some (.int .i64 a) := (f1.blk bX (fun q => q)).cell 0
  clear hr fX f1 bX
  go_wp2_with fail
  go_ret
  exact ⟨rfl, g1⟩
set_option maxHeartbeats 1000000 in
set_option maxRecDepth 10000 in
theorem new_far (id ag a t c : Int) (w : World) (h : bTrigger a t c = true) (hid : 1 ≤ id) (hid2 : id ≤ 1073741824) (hg : 1 ≤ ag) (hg4 : ag ≤ 4) (hx : ag ≤ a) :
    Calls Tryz.prog 71 #[.int .i64 id, .int .i64 ag, .agg #[.int .i64 a, .int .i64 t, .int .i64 c]] w fun e w' => e = .returned (.pointer none) ∧ Fr noB w w' := by
  have fX := (Fr.refl noB w).alloc (.cells #[.int .i64 a, .int .i64 t, .int .i64 c] 66)
  have bX := Blk.new w 66 [.int .i64 a, .int .i64 t, .int .i64 c]
  have hr := right_of (mayBe_Trigger a t c (w.alloc (.cells #[.int .i64 a, .int .i64 t, .int .i64 c] 66)))
  rw [h] at hr
  unfold mTrigger at hr
  have hd0 : decide (id < 1) = false := by simp; omega
  have hd1 : decide (1073741824 < id) = false := by simp; omega
  have hd2 : decide (ag < 1) = false := by simp; omega
  have hd3 : decide (4 < ag) = false := by simp; omega
  have hd4 : decide (ag ≤ a) = true := by simp; omega
  go_enter Tryz.func71, Tryz.ntmps71
  go_wp2_with fail
  refine hr.mono ?_
  rintro e w1 ⟨rfl, f1⟩
  have g1 := fX.seqN f1
  have c0 : w1.cell? ⟨w.heap.size, 0, none⟩ = some (.int .i64 a) := (f1.blk bX (fun q => q)).cell 0
  clear hr fX f1 bX
  go_wp2_with fail
  go_ret
  exact ⟨rfl, g1⟩
/-- There is a job just if the trigger may be, and so on. -/
def mayNew (id ag a t c : Int) : Bool := bTrigger a t c && (inB 1 1073741824 id && (inB 1 4 ag && decide (a < ag)))
theorem new_nil (id ag a t c : Int) (w : World) (h : mayNew id ag a t c = false) :
    Calls Tryz.prog 71 #[.int .i64 id, .int .i64 ag, .agg #[.int .i64 a, .int .i64 t, .int .i64 c]] w fun e w' => e = .returned (.pointer none) ∧ Fr noB w w' := by
  cases hb : bTrigger a t c with
  | false => exact new_no id ag a t c w hb
  | true =>
    by_cases h1 : id < 1
    · exact new_low id ag a t c w hb h1
    by_cases h2 : 1073741824 < id
    · exact new_high id ag a t c w hb (by omega) h2
    by_cases h3 : ag < 1
    · exact new_none id ag a t c w hb (by omega) (by omega) h3
    by_cases h4 : 4 < ag
    · exact new_many id ag a t c w hb (by omega) (by omega) (by omega) h4
    by_cases h5 : ag ≤ a
    · exact new_far id ag a t c w hb (by omega) (by omega) (by omega) (by omega) h5
    · exfalso
      unfold mayNew inB at h
      rw [hb, decide_eq_true (show 1 ≤ id by omega), decide_eq_true (show id ≤ 1073741824 by omega), decide_eq_true (show 1 ≤ ag by omega), decide_eq_true (show ag ≤ 4 by omega), decide_eq_true (show a < ag by omega)] at h
      cases h
theorem within_any (n lo hi : Int) (w : World) : Calls Tryz.prog 49 #[.int .i64 n, .int .i64 lo, .int .i64 hi] w fun e w' => e = .returned (.bool (inB lo hi n)) ∧ w' = w := by
  unfold inB
  by_cases h1 : lo ≤ n
  · have d1 : decide (lo ≤ n) = true := by simpa using h1
    by_cases h2 : n ≤ hi
    · have d2 : decide (n ≤ hi) = true := by simpa using h2
      rw [d1, d2]
      go_enter Tryz.func49, Tryz.ntmps49
      go_wp2_with fail
      go_ret
      exact ⟨rfl, rfl⟩
    · have d2 : decide (n ≤ hi) = false := by simpa using h2
      rw [d1, d2]
      go_enter Tryz.func49, Tryz.ntmps49
      go_wp2_with fail
      go_ret
      exact ⟨rfl, rfl⟩
  · have d1 : decide (lo ≤ n) = false := by simpa using h1
    rw [d1]
    go_enter Tryz.func49, Tryz.ntmps49
    go_wp2_with fail
    go_ret
    exact ⟨rfl, rfl⟩
end Go.Proofs.YtidcoddefebdpaaGreat
end

section
set_option linter.unusedVariables false
set_option linter.unusedSimpArgs false
set_option maxRecDepth 100000
namespace Go.Proofs.YtidcoddefebdpaaGreat
open Go.RowKit Go Go.Lib

theorem risB_big {xs : List Int} (h : 4 < xs.length) : risB (-1) xs = false := by
  cases hq : risB (-1) xs with
  | false => rfl
  | true =>
    have := risB_len xs (-1) (by omega) (by omega) hq
    omega
def prevR (xs : List Int) (k : Nat) : Int := if k = 0 then -1 else xs.getD (k - 1) 0

set_option maxHeartbeats 4000000 in
set_option maxRecDepth 10000 in
theorem rpart_any (ag tr jb ct : Int) (v : Value) (lo : Bool) (xs : List Int) (w : World) (hv : RdI w v xs) :
    Calls Tryz.prog 48 #[.agg #[.int .i64 ag, .int .i64 tr, .int .i64 jb, .int .i64 ct, v, .bool lo]] w fun e w' => e = .returned (.bool (pinB ag tr jb ct xs)) ∧ Fr noB w w' := by
  obtain ⟨a, c, rfl, h1, h2, h3⟩ := hv
  have fX := (Fr.refl noB w).alloc (.cells #[.int .i64 ag, .int .i64 tr, .int .i64 jb, .int .i64 ct, .slice a xs.length c, .bool lo] 50)
  have bX := Blk.new w 50 [.int .i64 ag, .int .i64 tr, .int .i64 jb, .int .i64 ct, .slice a xs.length c, .bool lo]
  have k1 := within_any ag 0 3
  have k2 := within_any tr 1 65535
  have k3 := within_any jb 1 1073741824
  have k4 := within_any ct 0 1000
  have hbig := risB_big (xs := xs)
  rw [show pinB ag tr jb ct xs = (inB 0 3 ag && (inB 1 65535 tr && (inB 1 1073741824 jb && (inB 0 1000 ct && risB (-1) xs)))) from by unfold pinB; rw [← Bool.and_assoc (decide (0 ≤ ct))]; rfl]
  generalize hn : xs.length = n at *
  replace hn := Lib.hid hn
  replace h3 := Lib.hid h3
  replace hbig := Lib.hid hbig
  obtain ⟨wx, hwx⟩ : ∃ wx, wx = w.alloc (.cells #[.int .i64 ag, .int .i64 tr, .int .i64 jb, .int .i64 ct, .slice a n c, .bool lo] 50) := ⟨_, rfl⟩
  go_enter Tryz.func48, Tryz.ntmps48
  go_wp2_with fail
  refine (k1 _).mono ?_
  rintro e w1 ⟨rfl, hw1⟩
  obtain rfl := hw1.symm
  cases hb1 : inB 0 3 ag with
  | false =>
    go_wp2_with fail
    go_ret
    exact ⟨by simp [*], fX⟩
  | true =>
    go_wp2_with fail
    refine (k2 _).mono ?_
    rintro e w1 ⟨rfl, hw1⟩
    obtain rfl := hw1.symm
    cases hb2 : inB 1 65535 tr with
    | false =>
      go_wp2_with fail
      go_ret
      exact ⟨by simp [*], fX⟩
    | true =>
      go_wp2_with fail
      refine (k3 _).mono ?_
      rintro e w1 ⟨rfl, hw1⟩
      obtain rfl := hw1.symm
      cases hb3 : inB 1 1073741824 jb with
      | false =>
        go_wp2_with fail
        go_ret
        exact ⟨by simp [*], fX⟩
      | true =>
        go_wp2_with fail
        refine (k4 _).mono ?_
        rintro e w1 ⟨rfl, hw1⟩
        obtain rfl := hw1.symm
        cases hb4 : inB 0 1000 ct with
        | false =>
          go_wp2_with fail
          go_ret
          exact ⟨by simp [*], fX⟩
        | true =>
          by_cases hn4 : 4 < n
          · have hd : decide (4 < (n : Int)) = true := by simp; omega
            have hr := hbig.out hn4
            replace hr := Lib.hid hr
            go_wp2_with fail
            go_ret
            exact ⟨by rw [hr.out]; simp, fX⟩
          · have hd : decide (4 < (n : Int)) = false := by simp; omega
            replace hb1 := Lib.hid hb1
            replace hb2 := Lib.hid hb2
            replace hb3 := Lib.hid hb3
            replace hb4 := Lib.hid hb4
            have hcell : ∀ w', Fr noB wx w' → w'.cell? ⟨w.heap.size, 4, none⟩ = some (.slice a n c) := fun w' f => (f.blk (by rw [hwx]; exact bX) (fun q => q)).cell 4
            have hrow : ∀ w', Fr noB wx w' → ∀ i, i < n → ∃ g o, a = some ⟨g, o, none⟩ ∧ w'.cell? ⟨g, o + i, none⟩ = some (.int .i64 (xs.getD i 0)) := fun w' f i hi => by
              obtain ⟨g, o, e1, e2⟩ := h3.out i hi
              exact ⟨g, o, e1, ((by rw [hwx] at f; exact fX.seqN f : Fr noB w w')).cell e2 (fun q => q)⟩
            go_wp2_with fail
            rw [← hwx] at fX ⊢
            clear hwx bX h3 hbig
            generalize w.heap.size = pb at *
            replace hcell := Lib.hid hcell
            replace hrow := Lib.hid hrow
            go_loopw [3] (fun i wr => ∃ k : Nat, k ≤ n ∧ i = .int .i64 k ∧ Hid (risB (-1) xs = risB (prevR xs k) (xs.drop k)) ∧ Fr noB wx wr) (fun i _ => n - (RowKit.intOf i).toNat)
            case atStart => exact ⟨0, by omega, rfl, Lib.hid (by simp [prevR]), Fr.refl _ _⟩
            case round =>
              obtain ⟨k, hk, rfl, hE, fr⟩ := hrel
              have c4 := hcell.out _ fr
              by_cases hlt : k < n
              · obtain ⟨g, o, rfl, hc⟩ := hrow.out _ fr k hlt
                have hkx : k < xs.length := by rw [hn.out]; exact hlt
                have hd2 : xs.drop k = xs.getD k 0 :: xs.drop (k + 1) := by
                  rw [List.drop_eq_getElem_cons hkx]; simp [List.getD, hkx]
                have hE2 : risB (-1) xs = (inB 0 3 (xs.getD k 0) && decide (prevR xs k < xs.getD k 0) && risB (xs.getD k 0) (xs.drop (k + 1))) := by rw [hE.out, hd2]; rfl
                have hpn : prevR xs (k + 1) = xs.getD k 0 := by unfold prevR; rw [if_neg (by omega)]; rfl
                rw [← hpn] at hE2
                have hpk : prevR xs (k + 1) = xs.getD k 0 := hpn
                clear hd2 hkx hE
                cases hb : inB 0 3 (xs.getD k 0) with
                | false =>
                  have hres : Hid (risB (-1) xs = false) := Lib.hid (by rw [hE2, hpn, hb]; rfl)
                  have kx := within_any (xs.getD k 0) 0 3
                  rw [hb] at kx
                  generalize xs.getD k 0 = x at *
                  replace kx := Lib.hid kx
                  clear hE2 hpn hpk hb
                  go_wp2_with fail
                  go_quiet ((go_at_call 49; exact Calls.quiet_of_same (kx.out _)))
                  go_wp2_with fail
                  go_ret
                  exact ⟨by rw [hres.out]; simp, (fX.seqN fr).drewN _⟩
                | true =>
                  have kx := within_any (xs.getD k 0) 0 3
                  rw [hb] at kx
                  have hx0 : 0 ≤ xs.getD k 0 := by
                    unfold inB at hb
                    simp only [Bool.and_eq_true, decide_eq_true_eq] at hb
                    exact hb.1
                  rcases Nat.eq_zero_or_pos k with hk0 | hk0
                  · subst hk0
                    have hE3 : Hid (risB (-1) xs = risB (prevR xs (0 + 1)) (xs.drop (0 + 1))) := Lib.hid (by
                      rw [hE2, hpn, hb, decide_eq_true (show prevR xs 0 < xs.getD 0 0 by unfold prevR; rw [if_pos rfl]; omega)]; rfl)
                    generalize xs.getD 0 0 = x at *
                    rw [Nat.add_zero] at hc
                    replace kx := Lib.hid kx
                    clear hE2 hpn hpk hb
                    go_wp2_with fail
                    go_quiet ((go_at_call 49; exact Calls.quiet_of_same (kx.out _)))
                    go_wp2_with fail
                    go_roundw
                    case rel => exact ⟨0 + 1, by omega, by go_num, hE3, fr.drewN _⟩
                    case measure => first | (simp [RowKit.intOf]; done) | (simp [RowKit.intOf]; omega)
                  · obtain ⟨m, rfl⟩ : ∃ m, k = m + 1 := ⟨k - 1, by omega⟩
                    obtain ⟨g', o', e', hc'⟩ := hrow.out _ fr m (by omega)
                    cases e'
                    have hpm : prevR xs (m + 1) = xs.getD m 0 := by unfold prevR; rw [if_neg (by omega)]; rfl
                    by_cases hx : xs.getD m 0 < xs.getD (m + 1) 0
                    · have hE3 : Hid (risB (-1) xs = risB (prevR xs (m + 1 + 1)) (xs.drop (m + 1 + 1))) := Lib.hid (by
                        rw [hE2, hpn, hb, hpm, decide_eq_true hx]; rfl)
                      have hxd : decide (xs.getD (m + 1) 0 ≤ xs.getD m 0) = false := decide_eq_false (by omega)
                      generalize xs.getD (m + 1) 0 = x at *
                      generalize xs.getD m 0 = y at *
                      replace kx := Lib.hid kx
                      clear hE2 hpn hpk hb hpm hx
                      go_wp2_with fail
                      go_quiet ((go_at_call 49; exact Calls.quiet_of_same (kx.out _)))
                      go_wp2_with fail
                      go_roundw
                      case rel => exact ⟨m + 1 + 1, by omega, by go_num, hE3, fr.drewN _⟩
                      case measure => simp [RowKit.intOf]; omega
                    · have hres : Hid (risB (-1) xs = false) := Lib.hid (by rw [hE2, hpn, hpm, decide_eq_false hx]; simp)
                      have hxd : decide (xs.getD (m + 1) 0 ≤ xs.getD m 0) = true := decide_eq_true (by omega)
                      generalize xs.getD (m + 1) 0 = x at *
                      generalize xs.getD m 0 = y at *
                      replace kx := Lib.hid kx
                      clear hE2 hpn hpk hb hpm hx
                      go_wp2_with fail
                      go_quiet ((go_at_call 49; exact Calls.quiet_of_same (kx.out _)))
                      go_wp2_with fail
                      go_ret
                      exact ⟨by rw [hres.out]; simp, (fX.seqN fr).drewN _⟩
              · obtain rfl : k = n := by omega
                have hres : Hid (risB (-1) xs = true) := Lib.hid (by rw [hE.out, List.drop_eq_nil_of_le (by rw [hn.out]; exact Nat.le_refl _)]; rfl)
                go_wp2_with fail
                go_ret
                exact ⟨by rw [hres.out]; first | (simp; done) | (simp [hb1.out, hb2.out, hb3.out, hb4.out]; done) | (rw [hb1.out, hb2.out, hb3.out, hb4.out]; rfl), fX.seqN fr⟩
end Go.Proofs.YtidcoddefebdpaaGreat
end

section
set_option linter.unusedVariables false
set_option linter.unusedSimpArgs false
set_option maxRecDepth 100000
namespace Go.Proofs.YtidcoddefebdpaaGreat
open Go.RowKit Go Go.Lib

set_option maxHeartbeats 1000000 in
set_option maxRecDepth 10000 in
theorem rr_1 (a t c : Int) (w : World) :
    Calls Tryz.prog 27 #[mrV { k := 1, a := a, t := t, c := c }] w fun e w' => e = .returned (.bool (inB 1 65535 t && (inB 0 3 a && (inB 0 3 c)))) ∧ Fr noB w w' := by
  unfold mrV mrC
  have fX := (Fr.refl noB w).alloc (.cells (mrC { k := 1, a := a, t := t, c := c }).toArray 54)
  unfold mrC at fX
  have k0 := within_any t 1 65535
  have k1 := within_any a 0 3
  have k2 := within_any c 0 3
  go_enter Tryz.func27, Tryz.ntmps27
  go_wp2_with fail
  refine (k0 _).mono ?_
  rintro e w1 ⟨rfl, hw1⟩
  obtain rfl := hw1.symm
  cases hb0 : inB 1 65535 t with
  | false =>
    go_wp2_with fail
    go_ret
    exact ⟨by simp [*], fX⟩
  | true =>
    go_wp2_with fail
    refine (k1 _).mono ?_
    rintro e w1 ⟨rfl, hw1⟩
    obtain rfl := hw1.symm
    cases hb1 : inB 0 3 a with
    | false =>
      go_wp2_with fail
      go_ret
      exact ⟨by simp [*], fX⟩
    | true =>
      go_wp2_with fail
      refine (k2 _).mono ?_
      rintro e w1 ⟨rfl, hw1⟩
      obtain rfl := hw1.symm
      cases hb2 : inB 0 3 c with
      | false =>
        go_wp2_with fail
        go_ret
        exact ⟨by simp [*], fX⟩
      | true =>
        go_wp2_with fail
        go_ret
        exact ⟨by simp [*], fX⟩

set_option maxHeartbeats 1000000 in
set_option maxRecDepth 10000 in
theorem rr_2 (t j : Int) (w : World) :
    Calls Tryz.prog 27 #[mrV { k := 2, t := t, j := j }] w fun e w' => e = .returned (.bool (inB 1 65535 t && (inB 1 1073741824 j))) ∧ Fr noB w w' := by
  unfold mrV mrC
  have fX := (Fr.refl noB w).alloc (.cells (mrC { k := 2, t := t, j := j }).toArray 54)
  unfold mrC at fX
  have k0 := within_any t 1 65535
  have k1 := within_any j 1 1073741824
  go_enter Tryz.func27, Tryz.ntmps27
  go_wp2_with fail
  refine (k0 _).mono ?_
  rintro e w1 ⟨rfl, hw1⟩
  obtain rfl := hw1.symm
  cases hb0 : inB 1 65535 t with
  | false =>
    go_wp2_with fail
    go_ret
    exact ⟨by simp [*], fX⟩
  | true =>
    go_wp2_with fail
    refine (k1 _).mono ?_
    rintro e w1 ⟨rfl, hw1⟩
    obtain rfl := hw1.symm
    cases hb1 : inB 1 1073741824 j with
    | false =>
      go_wp2_with fail
      go_ret
      exact ⟨by simp [*], fX⟩
    | true =>
      go_wp2_with fail
      go_ret
      exact ⟨by simp [*], fX⟩

set_option maxHeartbeats 1000000 in
set_option maxRecDepth 10000 in
theorem rr_5 (t j : Int) (w : World) :
    Calls Tryz.prog 27 #[mrV { k := 5, t := t, j := j }] w fun e w' => e = .returned (.bool (inB 1 65535 t && (inB 1 1073741824 j))) ∧ Fr noB w w' := by
  unfold mrV mrC
  have fX := (Fr.refl noB w).alloc (.cells (mrC { k := 5, t := t, j := j }).toArray 54)
  unfold mrC at fX
  have k0 := within_any t 1 65535
  have k1 := within_any j 1 1073741824
  go_enter Tryz.func27, Tryz.ntmps27
  go_wp2_with fail
  refine (k0 _).mono ?_
  rintro e w1 ⟨rfl, hw1⟩
  obtain rfl := hw1.symm
  cases hb0 : inB 1 65535 t with
  | false =>
    go_wp2_with fail
    go_ret
    exact ⟨by simp [*], fX⟩
  | true =>
    go_wp2_with fail
    refine (k1 _).mono ?_
    rintro e w1 ⟨rfl, hw1⟩
    obtain rfl := hw1.symm
    cases hb1 : inB 1 1073741824 j with
    | false =>
      go_wp2_with fail
      go_ret
      exact ⟨by simp [*], fX⟩
    | true =>
      go_wp2_with fail
      go_ret
      exact ⟨by simp [*], fX⟩

set_option maxHeartbeats 1000000 in
set_option maxRecDepth 10000 in
theorem rr_8 (t j : Int) (w : World) :
    Calls Tryz.prog 27 #[mrV { k := 8, t := t, j := j }] w fun e w' => e = .returned (.bool (inB 1 65535 t && (inB 1 1073741824 j))) ∧ Fr noB w w' := by
  unfold mrV mrC
  have fX := (Fr.refl noB w).alloc (.cells (mrC { k := 8, t := t, j := j }).toArray 54)
  unfold mrC at fX
  have k0 := within_any t 1 65535
  have k1 := within_any j 1 1073741824
  go_enter Tryz.func27, Tryz.ntmps27
  go_wp2_with fail
  refine (k0 _).mono ?_
  rintro e w1 ⟨rfl, hw1⟩
  obtain rfl := hw1.symm
  cases hb0 : inB 1 65535 t with
  | false =>
    go_wp2_with fail
    go_ret
    exact ⟨by simp [*], fX⟩
  | true =>
    go_wp2_with fail
    refine (k1 _).mono ?_
    rintro e w1 ⟨rfl, hw1⟩
    obtain rfl := hw1.symm
    cases hb1 : inB 1 1073741824 j with
    | false =>
      go_wp2_with fail
      go_ret
      exact ⟨by simp [*], fX⟩
    | true =>
      go_wp2_with fail
      go_ret
      exact ⟨by simp [*], fX⟩

set_option maxHeartbeats 1000000 in
set_option maxRecDepth 10000 in
theorem rr_9 (t j : Int) (w : World) :
    Calls Tryz.prog 27 #[mrV { k := 9, t := t, j := j }] w fun e w' => e = .returned (.bool (inB 1 65535 t && (inB 1 1073741824 j))) ∧ Fr noB w w' := by
  unfold mrV mrC
  have fX := (Fr.refl noB w).alloc (.cells (mrC { k := 9, t := t, j := j }).toArray 54)
  unfold mrC at fX
  have k0 := within_any t 1 65535
  have k1 := within_any j 1 1073741824
  go_enter Tryz.func27, Tryz.ntmps27
  go_wp2_with fail
  refine (k0 _).mono ?_
  rintro e w1 ⟨rfl, hw1⟩
  obtain rfl := hw1.symm
  cases hb0 : inB 1 65535 t with
  | false =>
    go_wp2_with fail
    go_ret
    exact ⟨by simp [*], fX⟩
  | true =>
    go_wp2_with fail
    refine (k1 _).mono ?_
    rintro e w1 ⟨rfl, hw1⟩
    obtain rfl := hw1.symm
    cases hb1 : inB 1 1073741824 j with
    | false =>
      go_wp2_with fail
      go_ret
      exact ⟨by simp [*], fX⟩
    | true =>
      go_wp2_with fail
      go_ret
      exact ⟨by simp [*], fX⟩

set_option maxHeartbeats 1000000 in
set_option maxRecDepth 10000 in
theorem rr_4 (a t j : Int) (w : World) :
    Calls Tryz.prog 27 #[mrV { k := 4, a := a, t := t, j := j }] w fun e w' => e = .returned (.bool (inB 1 65535 t && (inB 1 1073741824 j && (inB 0 3 a)))) ∧ Fr noB w w' := by
  unfold mrV mrC
  have fX := (Fr.refl noB w).alloc (.cells (mrC { k := 4, a := a, t := t, j := j }).toArray 54)
  unfold mrC at fX
  have k0 := within_any t 1 65535
  have k1 := within_any j 1 1073741824
  have k2 := within_any a 0 3
  go_enter Tryz.func27, Tryz.ntmps27
  go_wp2_with fail
  refine (k0 _).mono ?_
  rintro e w1 ⟨rfl, hw1⟩
  obtain rfl := hw1.symm
  cases hb0 : inB 1 65535 t with
  | false =>
    go_wp2_with fail
    go_ret
    exact ⟨by simp [*], fX⟩
  | true =>
    go_wp2_with fail
    refine (k1 _).mono ?_
    rintro e w1 ⟨rfl, hw1⟩
    obtain rfl := hw1.symm
    cases hb1 : inB 1 1073741824 j with
    | false =>
      go_wp2_with fail
      go_ret
      exact ⟨by simp [*], fX⟩
    | true =>
      go_wp2_with fail
      refine (k2 _).mono ?_
      rintro e w1 ⟨rfl, hw1⟩
      obtain rfl := hw1.symm
      cases hb2 : inB 0 3 a with
      | false =>
        go_wp2_with fail
        go_ret
        exact ⟨by simp [*], fX⟩
      | true =>
        go_wp2_with fail
        go_ret
        exact ⟨by simp [*], fX⟩

set_option maxHeartbeats 1000000 in
set_option maxRecDepth 10000 in
theorem rr_10 (a t j : Int) (w : World) :
    Calls Tryz.prog 27 #[mrV { k := 10, a := a, t := t, j := j }] w fun e w' => e = .returned (.bool (inB 1 65535 t && (inB 1 1073741824 j && (inB 0 3 a)))) ∧ Fr noB w w' := by
  unfold mrV mrC
  have fX := (Fr.refl noB w).alloc (.cells (mrC { k := 10, a := a, t := t, j := j }).toArray 54)
  unfold mrC at fX
  have k0 := within_any t 1 65535
  have k1 := within_any j 1 1073741824
  have k2 := within_any a 0 3
  go_enter Tryz.func27, Tryz.ntmps27
  go_wp2_with fail
  refine (k0 _).mono ?_
  rintro e w1 ⟨rfl, hw1⟩
  obtain rfl := hw1.symm
  cases hb0 : inB 1 65535 t with
  | false =>
    go_wp2_with fail
    go_ret
    exact ⟨by simp [*], fX⟩
  | true =>
    go_wp2_with fail
    refine (k1 _).mono ?_
    rintro e w1 ⟨rfl, hw1⟩
    obtain rfl := hw1.symm
    cases hb1 : inB 1 1073741824 j with
    | false =>
      go_wp2_with fail
      go_ret
      exact ⟨by simp [*], fX⟩
    | true =>
      go_wp2_with fail
      refine (k2 _).mono ?_
      rintro e w1 ⟨rfl, hw1⟩
      obtain rfl := hw1.symm
      cases hb2 : inB 0 3 a with
      | false =>
        go_wp2_with fail
        go_ret
        exact ⟨by simp [*], fX⟩
      | true =>
        go_wp2_with fail
        go_ret
        exact ⟨by simp [*], fX⟩

set_option maxHeartbeats 1000000 in
set_option maxRecDepth 10000 in
theorem rr_3 (a t j c : Int) (ua : Option Addr) (un uc : Nat) (lo : Bool) (xs : List Int) (w : World) (hv : RdI w (.slice ua un uc) xs) :
    Calls Tryz.prog 27 #[mrV { k := 3, pa := a, pt := t, pj := j, pc := c, ua := ua, un := un, uc := uc, lo := lo }] w fun e w' => e = .returned (.bool (pinB a t j c xs)) ∧ Fr noB w w' := by
  unfold mrV mrC
  have fX := (Fr.refl noB w).alloc (.cells (mrC { k := 3, pa := a, pt := t, pj := j, pc := c, ua := ua, un := un, uc := uc, lo := lo }).toArray 54)
  have k := rpart_any a t j c (.slice ua un uc) lo xs _ (hv.fr fX (fun _ _ _ _ _ q => q))
  unfold mrC at fX k
  go_enter Tryz.func27, Tryz.ntmps27
  go_wp2_with fail
  refine k.mono ?_
  rintro e w1 ⟨rfl, f1⟩
  have g1 := fX.seqN f1
  clear k fX f1
  go_wp2_with fail
  go_ret
  exact ⟨rfl, g1⟩
end Go.Proofs.YtidcoddefebdpaaGreat
end

section
set_option linter.unusedVariables false
set_option linter.unusedSimpArgs false
set_option maxRecDepth 100000
set_option maxRecDepth 100000
namespace Go.Proofs.YtidcoddefebdpaaGreat
open Go.RowKit Go Go.Lib
theorem inB_lim {lo hi n : Int} (h : inB lo hi n = true) : lo ≤ n ∧ n ≤ hi := by
  unfold inB at h
  simpa using h

theorem chunkB_r (a t j i n : Int) (sp : List Sp) : chunkB a t j i n sp = (inB 1 65535 t && (inB 1 1073741824 j && (spsB t sp && (inB 0 3 a && (inB 1 500 n && (inB 0 (n - 1) i && decide (sp.length ≤ 2))))))) := by
  rw [Bool.eq_iff_iff]
  unfold chunkB
  simp only [Bool.and_eq_true, inB, decide_eq_true_eq]
  constructor
  · rintro ⟨h1, h2, h3, h4, h5, h6, h7, h8, h9⟩
    exact ⟨h2, h3, h9, h1, ⟨h4, h5⟩, ⟨h6, by omega⟩, h8⟩
  · rintro ⟨h2, h3, h9, h1, ⟨h4, h5⟩, ⟨h6, h7⟩, h8⟩
    exact ⟨h1, h2, h3, h4, h5, h6, by omega, h8, h9⟩

set_option maxHeartbeats 20000000 in
theorem rr_Chunk (a t j i n : Int) (sp : List Sp) (sa : Option Addr) (sn sc : Nat) (w : World) (hsp : RdSp w (.slice sa sn sc) sp) :
    Calls Tryz.prog 27 #[mrV { k := 6, a := a, t := t, j := j, i := i, n := n, sa := sa, sn := sn, sc := sc }] w fun e w' => e = .returned (.bool (chunkB a t j i n sp)) ∧ Fr noB w w' := by
  obtain ⟨b, hb⟩ : ∃ b, chunkB a t j i n sp = b := ⟨_, rfl⟩
  rw [hb]
  rw [chunkB_r] at hb
  have hget : ∀ k, k < sp.length → ∃ m, sp[k]? = some m := fun k hk => ⟨sp[k], List.getElem?_eq_getElem hk⟩
  have hdr := spsB_drop t sp
  have hd0 : spsB t (sp.drop 0) = spsB t sp := by rw [List.drop_zero]
  have hend : spsB t (sp.drop sp.length) = true := by rw [List.drop_length]; rfl
  obtain ⟨_, _, e1, hx1, hx2, _, hx3⟩ := hsp
  cases e1
  unfold maxLen at hx2
  obtain ⟨N, hN⟩ : ∃ N, sp.length = N := ⟨_, rfl⟩
  rw [hN] at hget hend hx1 hb ⊢
  have hNb : (N : Int) ≤ 9223372036854775807 := by omega
  clear hx2
  unfold mrV mrC
  have fX := (Fr.refl noB w).alloc (.cells #[.int .i64 6, .int .i64 a, .int .i64 t, .int .i64 j, .int .i64 0, .int .i64 i, .int .i64 n, .int .i64 0, .int .i64 0, .int .i64 0, .int .i64 0, .slice none 0 0, .bool false, .slice none 0 0, .slice sa N sc] 54)
  have bX := Blk.new w 54 [.int .i64 6, .int .i64 a, .int .i64 t, .int .i64 j, .int .i64 0, .int .i64 i, .int .i64 n, .int .i64 0, .int .i64 0, .int .i64 0, .int .i64 0, .slice none 0 0, .bool false, .slice none 0 0, .slice sa N sc]
  have k0 := within_any t 1 65535
  have k1 := within_any j 1 1073741824
  have k2 := within_any a 0 3
  have k3 := within_any n 1 500
  have k4 := within_any i 0
  obtain ⟨gx, hgx⟩ : ∃ g, w.heap.size = g := ⟨_, rfl⟩
  rw [hgx] at bX
  replace hx3 := Lib.hid hx3
  replace hget := Lib.hid hget
  replace hdr := Lib.hid hdr
  replace hend := Lib.hid hend
  replace hN := Lib.hid hN
  replace hb := Lib.hid hb
  replace hd0 := Lib.hid hd0
  replace k0 := Lib.hid k0
  replace k1 := Lib.hid k1
  replace k2 := Lib.hid k2
  replace k3 := Lib.hid k3
  replace k4 := Lib.hid k4
  have e2 : (w.alloc (.cells #[.int .i64 6, .int .i64 a, .int .i64 t, .int .i64 j, .int .i64 0, .int .i64 i, .int .i64 n, .int .i64 0, .int .i64 0, .int .i64 0, .int .i64 0, .slice none 0 0, .bool false, .slice none 0 0, .slice sa N sc] 54)).cell? ⟨gx, 2, none⟩ = some (.int .i64 t) := bX.cell 2
  have e0 : (w.alloc (.cells #[.int .i64 6, .int .i64 a, .int .i64 t, .int .i64 j, .int .i64 0, .int .i64 i, .int .i64 n, .int .i64 0, .int .i64 0, .int .i64 0, .int .i64 0, .slice none 0 0, .bool false, .slice none 0 0, .slice sa N sc] 54)).cell? ⟨gx, 0, none⟩ = some (.int .i64 6) := bX.cell 0
  have e3 : (w.alloc (.cells #[.int .i64 6, .int .i64 a, .int .i64 t, .int .i64 j, .int .i64 0, .int .i64 i, .int .i64 n, .int .i64 0, .int .i64 0, .int .i64 0, .int .i64 0, .slice none 0 0, .bool false, .slice none 0 0, .slice sa N sc] 54)).cell? ⟨gx, 3, none⟩ = some (.int .i64 j) := bX.cell 3
  go_enter Tryz.func27, Tryz.ntmps27
  go_wp2_with fail
  generalize (w.alloc (.cells #[.int .i64 6, .int .i64 a, .int .i64 t, .int .i64 j, .int .i64 0, .int .i64 i, .int .i64 n, .int .i64 0, .int .i64 0, .int .i64 0, .int .i64 0, .slice none 0 0, .bool false, .slice none 0 0, .slice sa N sc] 54)) = wx at *
  go_fit (k0.out _)
  rintro e w1 ⟨rfl, hw1⟩
  obtain rfl := hw1.symm
  cases hb1 : inB 1 65535 t with
  | false =>
    go_wp2_with fail
    go_ret
    exact ⟨ret_b (by rw [← hb.out, hb1]; rfl), fX⟩
  | true =>
  go_wp2_with fail
  go_fit (k1.out _)
  rintro e w1 ⟨rfl, hw1⟩
  obtain rfl := hw1.symm
  cases hb2 : inB 1 1073741824 j with
  | false =>
    go_wp2_with fail
    go_ret
    exact ⟨ret_b (by rw [← hb.out, hb1, hb2]; rfl), fX⟩
  | true =>
  have hbb := hb.out
  rw [hb1, hb2, Bool.true_and, Bool.true_and, ← hd0.out] at hbb
  replace hbb := Lib.hid hbb
  clear hb hb1 hb2 e0 e2 e3
  replace bX := Lib.hid bX
  have z0 : wx.cell? ⟨gx, 0, none⟩ = some (.int .i64 6) := bX.out.cell 0
  go_wp2_with fail
  clear z0
  go_loopw [3] (fun vi wr => ∃ k : Nat, k ≤ N ∧ vi = .int .i64 k ∧ Hid (spsB t (sp.drop 0) = spsB t (sp.drop k)) ∧ Fr noB wx wr) (fun vi _ => N - (RowKit.intOf vi).toNat)
  case atStart => exact ⟨0, by omega, rfl, Lib.hid rfl, Fr.refl _ _⟩
  case round =>
    obtain ⟨k, hk, rfl, hE, fr⟩ := hrel
    have bk := fr.blk bX.out (fun q => q)
    have d14 : wr.cell? ⟨gx, 14, none⟩ = some (.slice sa N sc) := bk.cell 14
    have frw := fX.seqN fr
    by_cases hlt : k < N
    · obtain ⟨s, hs⟩ := hget.out k hlt
      obtain ⟨g, o, rfl, c0, c1, c2⟩ := hx3.out k s hs
      have hS : ∀ w', Fr noB wr w' → ((w'.cell? ⟨gx, 14, none⟩ = some (.slice (some ⟨g, o, none⟩) N sc) ∧ w'.cell? ⟨gx, 2, none⟩ = some (.int .i64 t)) ∧ w'.cell? ⟨g, o + k * 3, none⟩ = some (.int .i64 s.t) ∧ w'.cell? ⟨g, o + k * 3 + 1, none⟩ = some (.int .i64 s.q) ∧ w'.cell? ⟨g, o + k * 3 + 2, none⟩ = some (.string s.x)) := fun w' f => by
        have b := f.blk bk (fun q => q)
        exact ⟨⟨b.cell 14, b.cell 2⟩, (frw.seqN f).cell c0 (fun q => q), (frw.seqN f).cell c1 (fun q => q), (frw.seqN f).cell c2 (fun q => q)⟩
      have hst := hdr.out k s hs
      rw [← hE.out] at hst
      have hb1 : (k : Int) < N := by omega
      have hrt := rright_any s
      generalize rightS s = rs at *
      replace hrt := Lib.hid hrt
      replace hs := Lib.hid hs
      obtain ⟨_, y0, y1, y2⟩ := hS wr (Fr.refl _ _)
      replace hS := Lib.hid hS
      clear c0 c1 c2 bk hE
      cases rs with
      | false =>
        rw [Bool.false_and, Bool.false_and] at hst
        replace hst := Lib.hid hst
        go_wp2_with fail
        clear y0 y1 y2
        refine wp_region_held_drew (S := fun w' => (w'.cell? ⟨gx, 14, none⟩ = some (.slice (some ⟨g, o, none⟩) N sc) ∧ w'.cell? ⟨gx, 2, none⟩ = some (.int .i64 t)) ∧ w'.cell? ⟨g, o + k * 3, none⟩ = some (.int .i64 s.t) ∧ w'.cell? ⟨g, o + k * 3 + 1, none⟩ = some (.int .i64 s.q) ∧ w'.cell? ⟨g, o + k * 3 + 2, none⟩ = some (.string s.x)) (by kernel_rfl) (hS.out _ ((Fr.refl noB wr).drewN 1)) (fun hHeld => ?_)
        (refine wpAnyH_take (i := 0) (oi := ?_) (v := ?_) ?_ (by kernel_rfl) (by kernel_rfl) (by kernel_rfl) ?_ ?_ (by assumption) ?_; rotate_left 2; (focus ((simp only [List.getElem?_toArray, List.getElem?_cons_succ, List.getElem?_cons_zero]); try rfl)); (focus (exact (fun _ _ _ h => h))); (focus (refine Or.inl ⟨by rfl, ?_⟩; intro w hSw; (try dsimp only at hSw); go_simp; try with_reducible rfl)); try simp only [Act.put, List.setIfInBounds_toArray, List.set_cons_zero, List.set_cons_succ])
        (refine wpAnyH_take (i := 1) (oi := ?_) (v := ?_) ?_ (by kernel_rfl) (by kernel_rfl) (by kernel_rfl) ?_ ?_ (by assumption) ?_; rotate_left 2; (focus ((simp only [List.getElem?_toArray, List.getElem?_cons_succ, List.getElem?_cons_zero]); try rfl)); (focus (exact (fun _ _ _ h => h))); (focus (refine Or.inl ⟨by rfl, ?_⟩; intro w hSw; (try dsimp only at hSw); go_simp; try with_reducible rfl)); try simp only [Act.put, List.setIfInBounds_toArray, List.set_cons_zero, List.set_cons_succ])
        (refine wpAnyH_take (i := 2) (oi := ?_) (v := ?_) ?_ (by kernel_rfl) (by kernel_rfl) (by kernel_rfl) ?_ ?_ (by assumption) ?_; rotate_left 2; (focus ((simp only [List.getElem?_toArray, List.getElem?_cons_succ, List.getElem?_cons_zero]); try rfl)); (focus (exact (fun _ _ _ h => h))); (focus (refine Or.inl ⟨by rfl, ?_⟩; intro w hSw; (try dsimp only at hSw); go_simp; try with_reducible rfl)); try simp only [Act.put, List.setIfInBounds_toArray, List.set_cons_zero, List.set_cons_succ])
        (refine wpAnyH_take (i := 3) (oi := ?_) (v := ?_) ?_ (by kernel_rfl) (by kernel_rfl) (by kernel_rfl) ?_ ?_ (by assumption) ?_; rotate_left 2; (focus ((simp only [List.getElem?_toArray, List.getElem?_cons_succ, List.getElem?_cons_zero]); try rfl)); (focus (exact (fun _ _ _ h => h))); (focus (refine Or.inl ⟨by rfl, ?_⟩; intro w hSw; (try dsimp only at hSw); go_simp; try with_reducible rfl)); try simp only [Act.put, List.setIfInBounds_toArray, List.set_cons_zero, List.set_cons_succ])
        (refine wpAnyH_take (i := 4) (oi := ?_) (v := ?_) ?_ (by kernel_rfl) (by kernel_rfl) (by kernel_rfl) ?_ ?_ (by assumption) ?_; rotate_left 2; (focus ((simp only [List.getElem?_toArray, List.getElem?_cons_succ, List.getElem?_cons_zero]); try rfl)); (focus (exact (fun _ _ _ h => h))); (focus (refine Or.inl ⟨by rfl, ?_⟩; intro w hSw; (try dsimp only at hSw); go_simp; try with_reducible rfl)); try simp only [Act.put, List.setIfInBounds_toArray, List.set_cons_zero, List.set_cons_succ])
        refine wpAnyH_ready (rs := [5]) (by kernel_rfl) (by simp) (AllReadyH.cons rfl (fun K hK => ?_) AllReadyH.nil)
        go_simp
        go_at_call 50; refine (hrt.out _).mono ?_; rintro e w5 ⟨rfl, f5⟩; have fq := ((Fr.refl noB wr).drewN 1).seqN f5
        go_wp2_with fail
        refine hK.out _ _ (hS.out _ fq) (fun hHeld => ?_)
        clear hK K
        try simp only [Act.put, List.setIfInBounds_toArray, List.set_cons_zero, List.set_cons_succ]
        (refine wpAnyH_take (i := 6) (oi := ?_) (v := ?_) ?_ (by kernel_rfl) (by kernel_rfl) (by kernel_rfl) ?_ ?_ (by assumption) ?_; rotate_left 2; (focus ((simp only [List.getElem?_toArray, List.getElem?_cons_succ, List.getElem?_cons_zero]); try rfl)); (focus (exact (fun _ _ _ h => h))); (focus (refine Or.inl ⟨by rfl, ?_⟩; intro w hSw; (try dsimp only at hSw); go_simp; try with_reducible rfl)); try simp only [Act.put, List.setIfInBounds_toArray, List.set_cons_zero, List.set_cons_succ])
        (refine wpAnyH_take (i := 7) (oi := ?_) (v := ?_) ?_ (by kernel_rfl) (by kernel_rfl) (by kernel_rfl) ?_ ?_ (by assumption) ?_; rotate_left 2; (focus ((simp only [List.getElem?_toArray, List.getElem?_cons_succ, List.getElem?_cons_zero]); try rfl)); (focus (exact (fun _ _ _ h => h))); (focus (refine Or.inl ⟨by rfl, ?_⟩; intro w hSw; (try dsimp only at hSw); go_simp; try with_reducible rfl)); try simp only [Act.put, List.setIfInBounds_toArray, List.set_cons_zero, List.set_cons_succ])
        (refine wpAnyH_take (i := 8) (oi := ?_) (v := undef) ?_ (by kernel_rfl) (by kernel_rfl) (by kernel_rfl) ?_ ?_ (by assumption) ?_; rotate_left 1; (focus ((simp only [List.getElem?_toArray, List.getElem?_cons_succ, List.getElem?_cons_zero]); try rfl)); (focus (exact (fun _ _ _ h => h))); (focus (exact Or.inr ⟨by rfl, rfl⟩)); try simp only [Act.put, List.setIfInBounds_toArray, List.set_cons_zero, List.set_cons_succ])
        (refine wpAnyH_take (i := 9) (oi := ?_) (v := undef) ?_ (by kernel_rfl) (by kernel_rfl) (by kernel_rfl) ?_ ?_ (by assumption) ?_; rotate_left 1; (focus ((simp only [List.getElem?_toArray, List.getElem?_cons_succ, List.getElem?_cons_zero]); try rfl)); (focus (exact (fun _ _ _ h => h))); (focus (exact Or.inr ⟨by rfl, rfl⟩)); try simp only [Act.put, List.setIfInBounds_toArray, List.set_cons_zero, List.set_cons_succ])
        (refine wpAnyH_take (i := 10) (oi := ?_) (v := undef) ?_ (by kernel_rfl) (by kernel_rfl) (by kernel_rfl) ?_ ?_ (by assumption) ?_; rotate_left 1; (focus ((simp only [List.getElem?_toArray, List.getElem?_cons_succ, List.getElem?_cons_zero]); try rfl)); (focus (exact (fun _ _ _ h => h))); (focus (exact Or.inr ⟨by rfl, rfl⟩)); try simp only [Act.put, List.setIfInBounds_toArray, List.set_cons_zero, List.set_cons_succ])
        (refine wpAnyH_take (i := 11) (oi := ?_) (v := undef) ?_ (by kernel_rfl) (by kernel_rfl) (by kernel_rfl) ?_ ?_ (by assumption) ?_; rotate_left 1; (focus ((simp only [List.getElem?_toArray, List.getElem?_cons_succ, List.getElem?_cons_zero]); try rfl)); (focus (exact (fun _ _ _ h => h))); (focus (exact Or.inr ⟨by rfl, rfl⟩)); try simp only [Act.put, List.setIfInBounds_toArray, List.set_cons_zero, List.set_cons_succ])
        (refine wpAnyH_take (i := 12) (oi := ?_) (v := undef) ?_ (by kernel_rfl) (by kernel_rfl) (by kernel_rfl) ?_ ?_ (by assumption) ?_; rotate_left 1; (focus ((simp only [List.getElem?_toArray, List.getElem?_cons_succ, List.getElem?_cons_zero]); try rfl)); (focus (exact (fun _ _ _ h => h))); (focus (exact Or.inr ⟨by rfl, rfl⟩)); try simp only [Act.put, List.setIfInBounds_toArray, List.set_cons_zero, List.set_cons_succ])
        (refine wpAnyH_take (i := 13) (oi := ?_) (v := undef) ?_ (by kernel_rfl) (by kernel_rfl) (by kernel_rfl) ?_ ?_ (by assumption) ?_; rotate_left 1; (focus ((simp only [List.getElem?_toArray, List.getElem?_cons_succ, List.getElem?_cons_zero]); try rfl)); (focus (exact (fun _ _ _ h => h))); (focus (exact Or.inr ⟨by rfl, rfl⟩)); try simp only [Act.put, List.setIfInBounds_toArray, List.set_cons_zero, List.set_cons_succ])
        (refine wpAnyH_take (i := 14) (oi := ?_) (v := undef) ?_ (by kernel_rfl) (by kernel_rfl) (by kernel_rfl) ?_ ?_ (by assumption) ?_; rotate_left 1; (focus ((simp only [List.getElem?_toArray, List.getElem?_cons_succ, List.getElem?_cons_zero]); try rfl)); (focus (exact (fun _ _ _ h => h))); (focus (exact Or.inr ⟨by rfl, rfl⟩)); try simp only [Act.put, List.setIfInBounds_toArray, List.set_cons_zero, List.set_cons_succ])
        (refine wpAnyH_take (i := 15) (oi := ?_) (v := undef) ?_ (by kernel_rfl) (by kernel_rfl) (by kernel_rfl) ?_ ?_ (by assumption) ?_; rotate_left 1; (focus ((simp only [List.getElem?_toArray, List.getElem?_cons_succ, List.getElem?_cons_zero]); try rfl)); (focus (exact (fun _ _ _ h => h))); (focus (exact Or.inr ⟨by rfl, rfl⟩)); try simp only [Act.put, List.setIfInBounds_toArray, List.set_cons_zero, List.set_cons_succ])
        (refine wpAnyH_take (i := 16) (oi := ?_) (v := undef) ?_ (by kernel_rfl) (by kernel_rfl) (by kernel_rfl) ?_ ?_ (by assumption) ?_; rotate_left 1; (focus ((simp only [List.getElem?_toArray, List.getElem?_cons_succ, List.getElem?_cons_zero]); try rfl)); (focus (exact (fun _ _ _ h => h))); (focus (exact Or.inr ⟨by rfl, rfl⟩)); try simp only [Act.put, List.setIfInBounds_toArray, List.set_cons_zero, List.set_cons_succ])
        (refine wpAnyH_take (i := 17) (oi := ?_) (v := ?_) ?_ (by kernel_rfl) (by kernel_rfl) (by kernel_rfl) ?_ ?_ (by assumption) ?_; rotate_left 2; (focus ((simp only [List.getElem?_toArray, List.getElem?_cons_succ, List.getElem?_cons_zero]); try rfl)); (focus (exact (fun _ _ _ h => h))); (focus (refine Or.inl ⟨by rfl, ?_⟩; intro w hSw; (try dsimp only at hSw); go_simp; try with_reducible rfl)); try simp only [Act.put, List.setIfInBounds_toArray, List.set_cons_zero, List.set_cons_succ])
        refine wpAnyH_done (by kernel_rfl) ?_ _
        go_wp2_with fail
        go_ret
        exact ⟨ret_b (by rw [← hbb.out, hst.out]; rfl), frw.seqN fq⟩
      | true =>
        clear y0 y1 y2
        have fq := (Fr.refl noB wr).drewN 1
        rw [Bool.true_and] at hst
        rcases Bool.eq_false_or_eq_true (s.t == t) with h1 | h1
        · have hbn : (s.t != t) = false := by simp [bne, h1]
          rw [h1, Bool.true_and] at hst
          replace hst := Lib.hid hst
          go_wp2_with fail
          go_region_held3 (fun w' => (w'.cell? ⟨gx, 14, none⟩ = some (.slice (some ⟨g, o, none⟩) N sc) ∧ w'.cell? ⟨gx, 2, none⟩ = some (.int .i64 t)) ∧ w'.cell? ⟨g, o + k * 3, none⟩ = some (.int .i64 s.t) ∧ w'.cell? ⟨g, o + k * 3 + 1, none⟩ = some (.int .i64 s.q) ∧ w'.cell? ⟨g, o + k * 3 + 2, none⟩ = some (.string s.x))
            (first | exact hS.out _ fq | exact hS.out _ ((Fr.refl noB _).drewN 1) | fail)
            (first | (go_at_call 50; refine (hrt.out _).mono ?_; rintro e w5 ⟨rfl, f5⟩; have fq := fq.seqN f5) | fail)
          all_goals (
            go_wp2_with fail
            go_roundw
            case rel => exact ⟨k + 1, by omega, by go_num, hst, fr.seqN fq⟩
            case measure => simp [RowKit.intOf]; omega)
        · have hbn : (s.t != t) = true := by simp [bne, h1]
          rw [h1, Bool.false_and] at hst
          replace hst := Lib.hid hst
          go_wp2_with fail
          go_region_held3 (fun w' => (w'.cell? ⟨gx, 14, none⟩ = some (.slice (some ⟨g, o, none⟩) N sc) ∧ w'.cell? ⟨gx, 2, none⟩ = some (.int .i64 t)) ∧ w'.cell? ⟨g, o + k * 3, none⟩ = some (.int .i64 s.t) ∧ w'.cell? ⟨g, o + k * 3 + 1, none⟩ = some (.int .i64 s.q) ∧ w'.cell? ⟨g, o + k * 3 + 2, none⟩ = some (.string s.x))
            (first | exact hS.out _ fq | exact hS.out _ ((Fr.refl noB _).drewN 1) | fail)
            (first | (go_at_call 50; refine (hrt.out _).mono ?_; rintro e w5 ⟨rfl, f5⟩; have fq := fq.seqN f5) | fail)
          all_goals (
            go_wp2_with fail
            go_ret
            exact ⟨ret_b (by rw [← hbb.out, hst.out]; rfl), frw.seqN fq⟩)
    · obtain rfl : k = N := by omega
      have hf : spsB t (sp.drop 0) = true := by rw [hE.out, hend.out]
      have hbc := hbb.out
      rw [hf, Bool.true_and] at hbc
      have d1 : wr.cell? ⟨gx, 1, none⟩ = some (.int .i64 a) := bk.cell 1
      have d5 : wr.cell? ⟨gx, 5, none⟩ = some (.int .i64 i) := bk.cell 5
      have d6 : wr.cell? ⟨gx, 6, none⟩ = some (.int .i64 n) := bk.cell 6
      replace bk := Lib.hid bk
      replace hbc := Lib.hid hbc
      go_wp2_with fail
      go_fit (k2.out _)
      rintro e w1 ⟨rfl, hw1⟩
      obtain rfl := hw1.symm
      cases hb1 : inB 0 3 a with
      | false =>
        go_wp2_with fail
        go_ret
        exact ⟨ret_b (by rw [← hbc.out, hb1]; rfl), frw⟩
      | true =>
      go_wp2_with fail
      go_fit (k3.out _)
      rintro e w1 ⟨rfl, hw1⟩
      obtain rfl := hw1.symm
      cases hb2 : inB 1 500 n with
      | false =>
        go_wp2_with fail
        go_ret
        exact ⟨ret_b (by rw [← hbc.out, hb1, hb2]; rfl), frw⟩
      | true =>
      have hn := inB_lim hb2
      have i9 : wrap64 (n - 1) = n - 1 := IntWalk.wrap64_in _ (by omega)
      go_wp2_with fail
      go_fit (k4.out (n - 1) _)
      rintro e w1 ⟨rfl, hw1⟩
      obtain rfl := hw1.symm
      cases hb3 : inB 0 (n - 1) i with
      | false =>
        go_wp2_with fail
        go_ret
        exact ⟨ret_b (by rw [← hbc.out, hb1, hb2, hb3]; rfl), frw⟩
      | true =>
      have hfin := hbc.out
      rw [hb1, hb2, hb3, Bool.true_and, Bool.true_and, Bool.true_and] at hfin
      replace hfin := Lib.hid hfin
      by_cases h9 : (k : Int) ≤ 2
      · go_wp2_with fail
        go_ret
        exact ⟨ret_b (by rw [← hfin.out]; simp; omega), frw⟩
      · go_wp2_with fail
        go_ret
        exact ⟨ret_b (by rw [← hfin.out]; simp; omega), frw⟩
end Go.Proofs.YtidcoddefebdpaaGreat
end
