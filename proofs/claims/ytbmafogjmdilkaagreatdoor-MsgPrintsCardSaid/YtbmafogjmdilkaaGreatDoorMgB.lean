/-
  The reference's within; rising agents.
  The document's answer: may a part be?
  The document's answer: may a message be? By kind, for the kinds without parts and spans.
  The reference's Right of a Chunk.
  The reference's Right of a Manifest.
  The reference's Right of any message.
  Stage 9's awake.
  A message of a call: spoorlaw09.Make by its kind, spoorlaw13.message; may calls be played?
  MsgPrints, what its walks share.
-/
import Derived.Test.YtbmafogjmdilkaaGreatDoorMsg
import Derived.Test.YtbmafogjmdilkaaGreatDoorMgA
import Derived.Test.YtbmafogjmdilkaaGreatDoorMsWrite2
import Derived.Test.YtbmafogjmdilkaaGreatDoorArgs
section
set_option linter.unusedVariables false
set_option linter.unusedSimpArgs false
set_option maxRecDepth 100000
set_option maxRecDepth 100000
namespace Go.Proofs.YtbmafogjmdilkaaGreatDoor
open Go.RowKit Go Go.Lib

theorem within_any (n lo hi : Int) (w : World) : Calls Tryz.prog 27 #[.int .i64 n, .int .i64 lo, .int .i64 hi] w fun e w' => e = .returned (.bool (inB lo hi n)) ∧ w' = w := by
  unfold inB
  by_cases h1 : lo ≤ n
  · have d1 : decide (lo ≤ n) = true := by simpa using h1
    by_cases h2 : n ≤ hi
    · have d2 : decide (n ≤ hi) = true := by simpa using h2
      rw [d1, d2]
      go_enter Tryz.func27, Tryz.ntmps27
      go_wp2_with fail
      go_ret
      exact ⟨rfl, rfl⟩
    · have d2 : decide (n ≤ hi) = false := by simpa using h2
      rw [d1, d2]
      go_enter Tryz.func27, Tryz.ntmps27
      go_wp2_with fail
      go_ret
      exact ⟨rfl, rfl⟩
  · have d1 : decide (lo ≤ n) = false := by simpa using h1
    rw [d1]
    go_enter Tryz.func27, Tryz.ntmps27
    go_wp2_with fail
    go_ret
    exact ⟨rfl, rfl⟩
theorem risB_len : ∀ (xs : List Int) (l : Int), -1 ≤ l → l ≤ 3 → risB l xs = true → (xs.length : Int) ≤ 3 - l
  | [], l, h0, h1, _ => by simp; omega
  | a :: r, l, h0, h1, h => by
    unfold risB inB at h
    simp only [Bool.and_eq_true, decide_eq_true_eq] at h
    have := risB_len r a (by omega) h.1.1.2 h.2
    simp only [List.length_cons]
    omega
end Go.Proofs.YtbmafogjmdilkaaGreatDoor
end

section
set_option linter.unusedVariables false
set_option linter.unusedSimpArgs false
set_option maxRecDepth 100000
namespace Go.Proofs.YtbmafogjmdilkaaGreatDoor
open Go.RowKit Go Go.Lib

theorem risB_big {xs : List Int} (h : 4 < xs.length) : risB (-1) xs = false := by
  cases hq : risB (-1) xs with
  | false => rfl
  | true =>
    have := risB_len xs (-1) (by omega) (by omega) hq
    omega
def prevR (xs : List Int) (k : Nat) : Int := if k = 0 then -1 else xs.getD (k - 1) 0

set_option maxHeartbeats 4000000 in
set_option maxRecDepth 10000 in
theorem rpart_any (ag tr jb ct : Int) (v : Value) (lo : Bool) (xs : List Int) (w : World) (hv : RdI w v xs) :
    Calls Tryz.prog 26 #[.agg #[.int .i64 ag, .int .i64 tr, .int .i64 jb, .int .i64 ct, v, .bool lo]] w fun e w' => e = .returned (.bool (pinB ag tr jb ct xs)) ∧ Fr noB w w' := by
  obtain ⟨a, c, rfl, h1, h2, h3⟩ := hv
  have fX := (Fr.refl noB w).alloc (.cells #[.int .i64 ag, .int .i64 tr, .int .i64 jb, .int .i64 ct, .slice a xs.length c, .bool lo] 32)
  have bX := Blk.new w 32 [.int .i64 ag, .int .i64 tr, .int .i64 jb, .int .i64 ct, .slice a xs.length c, .bool lo]
  have k1 := within_any ag 0 3
  have k2 := within_any tr 1 65535
  have k3 := within_any jb 1 1073741824
  have k4 := within_any ct 0 1000
  have hbig := risB_big (xs := xs)
  rw [show pinB ag tr jb ct xs = (inB 0 3 ag && (inB 1 65535 tr && (inB 1 1073741824 jb && (inB 0 1000 ct && risB (-1) xs)))) from by unfold pinB; rw [← Bool.and_assoc (decide (0 ≤ ct))]; rfl]
  generalize hn : xs.length = n at *
  replace hn := Lib.hid hn
  replace h3 := Lib.hid h3
  replace hbig := Lib.hid hbig
  obtain ⟨wx, hwx⟩ : ∃ wx, wx = w.alloc (.cells #[.int .i64 ag, .int .i64 tr, .int .i64 jb, .int .i64 ct, .slice a n c, .bool lo] 32) := ⟨_, rfl⟩
  go_enter Tryz.func26, Tryz.ntmps26
  go_wp2_with fail
  refine (k1 _).mono ?_
  rintro e w1 ⟨rfl, hw1⟩
  obtain rfl := hw1.symm
  cases hb1 : inB 0 3 ag with
  | false =>
    go_wp2_with fail
    go_ret
    exact ⟨by simp [*], fX⟩
  | true =>
    go_wp2_with fail
    refine (k2 _).mono ?_
    rintro e w1 ⟨rfl, hw1⟩
    obtain rfl := hw1.symm
    cases hb2 : inB 1 65535 tr with
    | false =>
      go_wp2_with fail
      go_ret
      exact ⟨by simp [*], fX⟩
    | true =>
      go_wp2_with fail
      refine (k3 _).mono ?_
      rintro e w1 ⟨rfl, hw1⟩
      obtain rfl := hw1.symm
      cases hb3 : inB 1 1073741824 jb with
      | false =>
        go_wp2_with fail
        go_ret
        exact ⟨by simp [*], fX⟩
      | true =>
        go_wp2_with fail
        refine (k4 _).mono ?_
        rintro e w1 ⟨rfl, hw1⟩
        obtain rfl := hw1.symm
        cases hb4 : inB 0 1000 ct with
        | false =>
          go_wp2_with fail
          go_ret
          exact ⟨by simp [*], fX⟩
        | true =>
          by_cases hn4 : 4 < n
          · have hd : decide (4 < (n : Int)) = true := by simp; omega
            have hr := hbig.out hn4
            replace hr := Lib.hid hr
            go_wp2_with fail
            go_ret
            exact ⟨by rw [hr.out]; simp, fX⟩
          · have hd : decide (4 < (n : Int)) = false := by simp; omega
            replace hb1 := Lib.hid hb1
            replace hb2 := Lib.hid hb2
            replace hb3 := Lib.hid hb3
            replace hb4 := Lib.hid hb4
            have hcell : ∀ w', Fr noB wx w' → w'.cell? ⟨w.heap.size, 4, none⟩ = some (.slice a n c) := fun w' f => (f.blk (by rw [hwx]; exact bX) (fun q => q)).cell 4
            have hrow : ∀ w', Fr noB wx w' → ∀ i, i < n → ∃ g o, a = some ⟨g, o, none⟩ ∧ w'.cell? ⟨g, o + i, none⟩ = some (.int .i64 (xs.getD i 0)) := fun w' f i hi => by
              obtain ⟨g, o, e1, e2⟩ := h3.out i hi
              exact ⟨g, o, e1, ((by rw [hwx] at f; exact fX.seqN f : Fr noB w w')).cell e2 (fun q => q)⟩
            go_wp2_with fail
            rw [← hwx] at fX ⊢
            clear hwx bX h3 hbig
            generalize w.heap.size = pb at *
            replace hcell := Lib.hid hcell
            replace hrow := Lib.hid hrow
            go_loopw [3] (fun i wr => ∃ k : Nat, k ≤ n ∧ i = .int .i64 k ∧ Hid (risB (-1) xs = risB (prevR xs k) (xs.drop k)) ∧ Fr noB wx wr) (fun i _ => n - (RowKit.intOf i).toNat)
            case atStart => exact ⟨0, by omega, rfl, Lib.hid (by simp [prevR]), Fr.refl _ _⟩
            case round =>
              obtain ⟨k, hk, rfl, hE, fr⟩ := hrel
              have c4 := hcell.out _ fr
              by_cases hlt : k < n
              · obtain ⟨g, o, rfl, hc⟩ := hrow.out _ fr k hlt
                have hkx : k < xs.length := by rw [hn.out]; exact hlt
                have hd2 : xs.drop k = xs.getD k 0 :: xs.drop (k + 1) := by
                  rw [List.drop_eq_getElem_cons hkx]; simp [List.getD, hkx]
                have hE2 : risB (-1) xs = (inB 0 3 (xs.getD k 0) && decide (prevR xs k < xs.getD k 0) && risB (xs.getD k 0) (xs.drop (k + 1))) := by rw [hE.out, hd2]; rfl
                have hpn : prevR xs (k + 1) = xs.getD k 0 := by unfold prevR; rw [if_neg (by omega)]; rfl
                rw [← hpn] at hE2
                have hpk : prevR xs (k + 1) = xs.getD k 0 := hpn
                clear hd2 hkx hE
                cases hb : inB 0 3 (xs.getD k 0) with
                | false =>
                  have hres : Hid (risB (-1) xs = false) := Lib.hid (by rw [hE2, hpn, hb]; rfl)
                  have kx := within_any (xs.getD k 0) 0 3
                  rw [hb] at kx
                  generalize xs.getD k 0 = x at *
                  replace kx := Lib.hid kx
                  clear hE2 hpn hpk hb
                  go_wp2_with fail
                  go_quiet ((go_at_call 27; exact Calls.quiet_of_same (kx.out _)))
                  go_wp2_with fail
                  go_ret
                  exact ⟨by rw [hres.out]; simp, (fX.seqN fr).drewN _⟩
                | true =>
                  have kx := within_any (xs.getD k 0) 0 3
                  rw [hb] at kx
                  have hx0 : 0 ≤ xs.getD k 0 := by
                    unfold inB at hb
                    simp only [Bool.and_eq_true, decide_eq_true_eq] at hb
                    exact hb.1
                  rcases Nat.eq_zero_or_pos k with hk0 | hk0
                  · subst hk0
                    have hE3 : Hid (risB (-1) xs = risB (prevR xs (0 + 1)) (xs.drop (0 + 1))) := Lib.hid (by
                      rw [hE2, hpn, hb, decide_eq_true (show prevR xs 0 < xs.getD 0 0 by unfold prevR; rw [if_pos rfl]; omega)]; rfl)
                    generalize xs.getD 0 0 = x at *
                    rw [Nat.add_zero] at hc
                    replace kx := Lib.hid kx
                    clear hE2 hpn hpk hb
                    go_wp2_with fail
                    go_quiet ((go_at_call 27; exact Calls.quiet_of_same (kx.out _)))
                    go_wp2_with fail
                    go_roundw
                    case rel => exact ⟨0 + 1, by omega, by go_num, hE3, fr.drewN _⟩
                    case measure => first | (simp [RowKit.intOf]; done) | (simp [RowKit.intOf]; omega)
                  · obtain ⟨m, rfl⟩ : ∃ m, k = m + 1 := ⟨k - 1, by omega⟩
                    obtain ⟨g', o', e', hc'⟩ := hrow.out _ fr m (by omega)
                    cases e'
                    have hpm : prevR xs (m + 1) = xs.getD m 0 := by unfold prevR; rw [if_neg (by omega)]; rfl
                    by_cases hx : xs.getD m 0 < xs.getD (m + 1) 0
                    · have hE3 : Hid (risB (-1) xs = risB (prevR xs (m + 1 + 1)) (xs.drop (m + 1 + 1))) := Lib.hid (by
                        rw [hE2, hpn, hb, hpm, decide_eq_true hx]; rfl)
                      have hxd : decide (xs.getD (m + 1) 0 ≤ xs.getD m 0) = false := decide_eq_false (by omega)
                      generalize xs.getD (m + 1) 0 = x at *
                      generalize xs.getD m 0 = y at *
                      replace kx := Lib.hid kx
                      clear hE2 hpn hpk hb hpm hx
                      go_wp2_with fail
                      go_quiet ((go_at_call 27; exact Calls.quiet_of_same (kx.out _)))
                      go_wp2_with fail
                      go_roundw
                      case rel => exact ⟨m + 1 + 1, by omega, by go_num, hE3, fr.drewN _⟩
                      case measure => simp [RowKit.intOf]; omega
                    · have hres : Hid (risB (-1) xs = false) := Lib.hid (by rw [hE2, hpn, hpm, decide_eq_false hx]; simp)
                      have hxd : decide (xs.getD (m + 1) 0 ≤ xs.getD m 0) = true := decide_eq_true (by omega)
                      generalize xs.getD (m + 1) 0 = x at *
                      generalize xs.getD m 0 = y at *
                      replace kx := Lib.hid kx
                      clear hE2 hpn hpk hb hpm hx
                      go_wp2_with fail
                      go_quiet ((go_at_call 27; exact Calls.quiet_of_same (kx.out _)))
                      go_wp2_with fail
                      go_ret
                      exact ⟨by rw [hres.out]; simp, (fX.seqN fr).drewN _⟩
              · obtain rfl : k = n := by omega
                have hres : Hid (risB (-1) xs = true) := Lib.hid (by rw [hE.out, List.drop_eq_nil_of_le (by rw [hn.out]; exact Nat.le_refl _)]; rfl)
                go_wp2_with fail
                go_ret
                exact ⟨by rw [hres.out]; first | (simp; done) | (simp [hb1.out, hb2.out, hb3.out, hb4.out]; done) | (rw [hb1.out, hb2.out, hb3.out, hb4.out]; rfl), fX.seqN fr⟩
end Go.Proofs.YtbmafogjmdilkaaGreatDoor
end

section
set_option linter.unusedVariables false
set_option linter.unusedSimpArgs false
set_option maxRecDepth 100000
namespace Go.Proofs.YtbmafogjmdilkaaGreatDoor
open Go.RowKit Go Go.Lib

set_option maxHeartbeats 1000000 in
set_option maxRecDepth 10000 in
theorem rr_1 (a t c : Int) (w : World) :
    Calls Tryz.prog 12 #[mrV { k := 1, a := a, t := t, c := c }] w fun e w' => e = .returned (.bool (inB 1 65535 t && (inB 0 3 a && (inB 0 3 c)))) ∧ Fr noB w w' := by
  unfold mrV mrC
  have fX := (Fr.refl noB w).alloc (.cells (mrC { k := 1, a := a, t := t, c := c }).toArray 35)
  unfold mrC at fX
  have k0 := within_any t 1 65535
  have k1 := within_any a 0 3
  have k2 := within_any c 0 3
  go_enter Tryz.func12, Tryz.ntmps12
  go_wp2_with fail
  refine (k0 _).mono ?_
  rintro e w1 ⟨rfl, hw1⟩
  obtain rfl := hw1.symm
  cases hb0 : inB 1 65535 t with
  | false =>
    go_wp2_with fail
    go_ret
    exact ⟨by simp [*], fX⟩
  | true =>
    go_wp2_with fail
    refine (k1 _).mono ?_
    rintro e w1 ⟨rfl, hw1⟩
    obtain rfl := hw1.symm
    cases hb1 : inB 0 3 a with
    | false =>
      go_wp2_with fail
      go_ret
      exact ⟨by simp [*], fX⟩
    | true =>
      go_wp2_with fail
      refine (k2 _).mono ?_
      rintro e w1 ⟨rfl, hw1⟩
      obtain rfl := hw1.symm
      cases hb2 : inB 0 3 c with
      | false =>
        go_wp2_with fail
        go_ret
        exact ⟨by simp [*], fX⟩
      | true =>
        go_wp2_with fail
        go_ret
        exact ⟨by simp [*], fX⟩

set_option maxHeartbeats 1000000 in
set_option maxRecDepth 10000 in
theorem rr_2 (t j : Int) (w : World) :
    Calls Tryz.prog 12 #[mrV { k := 2, t := t, j := j }] w fun e w' => e = .returned (.bool (inB 1 65535 t && (inB 1 1073741824 j))) ∧ Fr noB w w' := by
  unfold mrV mrC
  have fX := (Fr.refl noB w).alloc (.cells (mrC { k := 2, t := t, j := j }).toArray 35)
  unfold mrC at fX
  have k0 := within_any t 1 65535
  have k1 := within_any j 1 1073741824
  go_enter Tryz.func12, Tryz.ntmps12
  go_wp2_with fail
  refine (k0 _).mono ?_
  rintro e w1 ⟨rfl, hw1⟩
  obtain rfl := hw1.symm
  cases hb0 : inB 1 65535 t with
  | false =>
    go_wp2_with fail
    go_ret
    exact ⟨by simp [*], fX⟩
  | true =>
    go_wp2_with fail
    refine (k1 _).mono ?_
    rintro e w1 ⟨rfl, hw1⟩
    obtain rfl := hw1.symm
    cases hb1 : inB 1 1073741824 j with
    | false =>
      go_wp2_with fail
      go_ret
      exact ⟨by simp [*], fX⟩
    | true =>
      go_wp2_with fail
      go_ret
      exact ⟨by simp [*], fX⟩

set_option maxHeartbeats 1000000 in
set_option maxRecDepth 10000 in
theorem rr_5 (t j : Int) (w : World) :
    Calls Tryz.prog 12 #[mrV { k := 5, t := t, j := j }] w fun e w' => e = .returned (.bool (inB 1 65535 t && (inB 1 1073741824 j))) ∧ Fr noB w w' := by
  unfold mrV mrC
  have fX := (Fr.refl noB w).alloc (.cells (mrC { k := 5, t := t, j := j }).toArray 35)
  unfold mrC at fX
  have k0 := within_any t 1 65535
  have k1 := within_any j 1 1073741824
  go_enter Tryz.func12, Tryz.ntmps12
  go_wp2_with fail
  refine (k0 _).mono ?_
  rintro e w1 ⟨rfl, hw1⟩
  obtain rfl := hw1.symm
  cases hb0 : inB 1 65535 t with
  | false =>
    go_wp2_with fail
    go_ret
    exact ⟨by simp [*], fX⟩
  | true =>
    go_wp2_with fail
    refine (k1 _).mono ?_
    rintro e w1 ⟨rfl, hw1⟩
    obtain rfl := hw1.symm
    cases hb1 : inB 1 1073741824 j with
    | false =>
      go_wp2_with fail
      go_ret
      exact ⟨by simp [*], fX⟩
    | true =>
      go_wp2_with fail
      go_ret
      exact ⟨by simp [*], fX⟩

set_option maxHeartbeats 1000000 in
set_option maxRecDepth 10000 in
theorem rr_8 (t j : Int) (w : World) :
    Calls Tryz.prog 12 #[mrV { k := 8, t := t, j := j }] w fun e w' => e = .returned (.bool (inB 1 65535 t && (inB 1 1073741824 j))) ∧ Fr noB w w' := by
  unfold mrV mrC
  have fX := (Fr.refl noB w).alloc (.cells (mrC { k := 8, t := t, j := j }).toArray 35)
  unfold mrC at fX
  have k0 := within_any t 1 65535
  have k1 := within_any j 1 1073741824
  go_enter Tryz.func12, Tryz.ntmps12
  go_wp2_with fail
  refine (k0 _).mono ?_
  rintro e w1 ⟨rfl, hw1⟩
  obtain rfl := hw1.symm
  cases hb0 : inB 1 65535 t with
  | false =>
    go_wp2_with fail
    go_ret
    exact ⟨by simp [*], fX⟩
  | true =>
    go_wp2_with fail
    refine (k1 _).mono ?_
    rintro e w1 ⟨rfl, hw1⟩
    obtain rfl := hw1.symm
    cases hb1 : inB 1 1073741824 j with
    | false =>
      go_wp2_with fail
      go_ret
      exact ⟨by simp [*], fX⟩
    | true =>
      go_wp2_with fail
      go_ret
      exact ⟨by simp [*], fX⟩

set_option maxHeartbeats 1000000 in
set_option maxRecDepth 10000 in
theorem rr_9 (t j : Int) (w : World) :
    Calls Tryz.prog 12 #[mrV { k := 9, t := t, j := j }] w fun e w' => e = .returned (.bool (inB 1 65535 t && (inB 1 1073741824 j))) ∧ Fr noB w w' := by
  unfold mrV mrC
  have fX := (Fr.refl noB w).alloc (.cells (mrC { k := 9, t := t, j := j }).toArray 35)
  unfold mrC at fX
  have k0 := within_any t 1 65535
  have k1 := within_any j 1 1073741824
  go_enter Tryz.func12, Tryz.ntmps12
  go_wp2_with fail
  refine (k0 _).mono ?_
  rintro e w1 ⟨rfl, hw1⟩
  obtain rfl := hw1.symm
  cases hb0 : inB 1 65535 t with
  | false =>
    go_wp2_with fail
    go_ret
    exact ⟨by simp [*], fX⟩
  | true =>
    go_wp2_with fail
    refine (k1 _).mono ?_
    rintro e w1 ⟨rfl, hw1⟩
    obtain rfl := hw1.symm
    cases hb1 : inB 1 1073741824 j with
    | false =>
      go_wp2_with fail
      go_ret
      exact ⟨by simp [*], fX⟩
    | true =>
      go_wp2_with fail
      go_ret
      exact ⟨by simp [*], fX⟩

set_option maxHeartbeats 1000000 in
set_option maxRecDepth 10000 in
theorem rr_4 (a t j : Int) (w : World) :
    Calls Tryz.prog 12 #[mrV { k := 4, a := a, t := t, j := j }] w fun e w' => e = .returned (.bool (inB 1 65535 t && (inB 1 1073741824 j && (inB 0 3 a)))) ∧ Fr noB w w' := by
  unfold mrV mrC
  have fX := (Fr.refl noB w).alloc (.cells (mrC { k := 4, a := a, t := t, j := j }).toArray 35)
  unfold mrC at fX
  have k0 := within_any t 1 65535
  have k1 := within_any j 1 1073741824
  have k2 := within_any a 0 3
  go_enter Tryz.func12, Tryz.ntmps12
  go_wp2_with fail
  refine (k0 _).mono ?_
  rintro e w1 ⟨rfl, hw1⟩
  obtain rfl := hw1.symm
  cases hb0 : inB 1 65535 t with
  | false =>
    go_wp2_with fail
    go_ret
    exact ⟨by simp [*], fX⟩
  | true =>
    go_wp2_with fail
    refine (k1 _).mono ?_
    rintro e w1 ⟨rfl, hw1⟩
    obtain rfl := hw1.symm
    cases hb1 : inB 1 1073741824 j with
    | false =>
      go_wp2_with fail
      go_ret
      exact ⟨by simp [*], fX⟩
    | true =>
      go_wp2_with fail
      refine (k2 _).mono ?_
      rintro e w1 ⟨rfl, hw1⟩
      obtain rfl := hw1.symm
      cases hb2 : inB 0 3 a with
      | false =>
        go_wp2_with fail
        go_ret
        exact ⟨by simp [*], fX⟩
      | true =>
        go_wp2_with fail
        go_ret
        exact ⟨by simp [*], fX⟩

set_option maxHeartbeats 1000000 in
set_option maxRecDepth 10000 in
theorem rr_10 (a t j : Int) (w : World) :
    Calls Tryz.prog 12 #[mrV { k := 10, a := a, t := t, j := j }] w fun e w' => e = .returned (.bool (inB 1 65535 t && (inB 1 1073741824 j && (inB 0 3 a)))) ∧ Fr noB w w' := by
  unfold mrV mrC
  have fX := (Fr.refl noB w).alloc (.cells (mrC { k := 10, a := a, t := t, j := j }).toArray 35)
  unfold mrC at fX
  have k0 := within_any t 1 65535
  have k1 := within_any j 1 1073741824
  have k2 := within_any a 0 3
  go_enter Tryz.func12, Tryz.ntmps12
  go_wp2_with fail
  refine (k0 _).mono ?_
  rintro e w1 ⟨rfl, hw1⟩
  obtain rfl := hw1.symm
  cases hb0 : inB 1 65535 t with
  | false =>
    go_wp2_with fail
    go_ret
    exact ⟨by simp [*], fX⟩
  | true =>
    go_wp2_with fail
    refine (k1 _).mono ?_
    rintro e w1 ⟨rfl, hw1⟩
    obtain rfl := hw1.symm
    cases hb1 : inB 1 1073741824 j with
    | false =>
      go_wp2_with fail
      go_ret
      exact ⟨by simp [*], fX⟩
    | true =>
      go_wp2_with fail
      refine (k2 _).mono ?_
      rintro e w1 ⟨rfl, hw1⟩
      obtain rfl := hw1.symm
      cases hb2 : inB 0 3 a with
      | false =>
        go_wp2_with fail
        go_ret
        exact ⟨by simp [*], fX⟩
      | true =>
        go_wp2_with fail
        go_ret
        exact ⟨by simp [*], fX⟩

set_option maxHeartbeats 1000000 in
set_option maxRecDepth 10000 in
theorem rr_3 (a t j c : Int) (ua : Option Addr) (un uc : Nat) (lo : Bool) (xs : List Int) (w : World) (hv : RdI w (.slice ua un uc) xs) :
    Calls Tryz.prog 12 #[mrV { k := 3, pa := a, pt := t, pj := j, pc := c, ua := ua, un := un, uc := uc, lo := lo }] w fun e w' => e = .returned (.bool (pinB a t j c xs)) ∧ Fr noB w w' := by
  unfold mrV mrC
  have fX := (Fr.refl noB w).alloc (.cells (mrC { k := 3, pa := a, pt := t, pj := j, pc := c, ua := ua, un := un, uc := uc, lo := lo }).toArray 35)
  have k := rpart_any a t j c (.slice ua un uc) lo xs _ (hv.fr fX (fun _ _ _ _ _ q => q))
  unfold mrC at fX k
  go_enter Tryz.func12, Tryz.ntmps12
  go_wp2_with fail
  refine k.mono ?_
  rintro e w1 ⟨rfl, f1⟩
  have g1 := fX.seqN f1
  clear k fX f1
  go_wp2_with fail
  go_ret
  exact ⟨rfl, g1⟩
end Go.Proofs.YtbmafogjmdilkaaGreatDoor
end

section
set_option linter.unusedVariables false
set_option linter.unusedSimpArgs false
set_option maxRecDepth 100000
namespace Go.Proofs.YtbmafogjmdilkaaGreatDoor
open Go.RowKit Go Go.Lib

theorem chunkB_r (a t j i n : Int) (sp : List Sp) : chunkB a t j i n sp = (inB 1 65535 t && (inB 1 1073741824 j && (spsB t sp && (inB 0 3 a && (inB 1 500 n && (inB 0 (n - 1) i && decide (sp.length ≤ 2))))))) := by
  rw [Bool.eq_iff_iff]
  unfold chunkB
  simp only [Bool.and_eq_true, inB, decide_eq_true_eq]
  constructor
  · rintro ⟨h1, h2, h3, h4, h5, h6, h7, h8, h9⟩
    exact ⟨h2, h3, h9, h1, ⟨h4, h5⟩, ⟨h6, by omega⟩, h8⟩
  · rintro ⟨h2, h3, h9, h1, ⟨h4, h5⟩, ⟨h6, h7⟩, h8⟩
    exact ⟨h1, h2, h3, h4, h5, h6, by omega, h8, h9⟩

set_option maxHeartbeats 20000000 in
theorem rr_Chunk (a t j i n : Int) (sp : List Sp) (sa : Option Addr) (sn sc : Nat) (w : World) (hsp : RdSp w (.slice sa sn sc) sp) :
    Calls Tryz.prog 12 #[mrV { k := 6, a := a, t := t, j := j, i := i, n := n, sa := sa, sn := sn, sc := sc }] w fun e w' => e = .returned (.bool (chunkB a t j i n sp)) ∧ Fr noB w w' := by
  obtain ⟨b, hb⟩ : ∃ b, chunkB a t j i n sp = b := ⟨_, rfl⟩
  rw [hb]
  rw [chunkB_r] at hb
  have hget : ∀ k, k < sp.length → ∃ m, sp[k]? = some m := fun k hk => ⟨sp[k], List.getElem?_eq_getElem hk⟩
  have hdr := spsB_drop t sp
  have hd0 : spsB t (sp.drop 0) = spsB t sp := by rw [List.drop_zero]
  have hend : spsB t (sp.drop sp.length) = true := by rw [List.drop_length]; rfl
  obtain ⟨_, _, e1, hx1, hx2, _, hx3⟩ := hsp
  cases e1
  unfold maxLen at hx2
  obtain ⟨N, hN⟩ : ∃ N, sp.length = N := ⟨_, rfl⟩
  rw [hN] at hget hend hx1 hb ⊢
  have hNb : (N : Int) ≤ 9223372036854775807 := by omega
  clear hx2
  unfold mrV mrC
  have fX := (Fr.refl noB w).alloc (.cells #[.int .i64 6, .int .i64 a, .int .i64 t, .int .i64 j, .int .i64 0, .int .i64 i, .int .i64 n, .int .i64 0, .int .i64 0, .int .i64 0, .int .i64 0, .slice none 0 0, .bool false, .slice none 0 0, .slice sa N sc] 35)
  have bX := Blk.new w 35 [.int .i64 6, .int .i64 a, .int .i64 t, .int .i64 j, .int .i64 0, .int .i64 i, .int .i64 n, .int .i64 0, .int .i64 0, .int .i64 0, .int .i64 0, .slice none 0 0, .bool false, .slice none 0 0, .slice sa N sc]
  have k0 := within_any t 1 65535
  have k1 := within_any j 1 1073741824
  have k2 := within_any a 0 3
  have k3 := within_any n 1 500
  have k4 := within_any i 0
  obtain ⟨gx, hgx⟩ : ∃ g, w.heap.size = g := ⟨_, rfl⟩
  rw [hgx] at bX
  replace hx3 := Lib.hid hx3
  replace hget := Lib.hid hget
  replace hdr := Lib.hid hdr
  replace hend := Lib.hid hend
  replace hN := Lib.hid hN
  replace hb := Lib.hid hb
  replace hd0 := Lib.hid hd0
  replace k0 := Lib.hid k0
  replace k1 := Lib.hid k1
  replace k2 := Lib.hid k2
  replace k3 := Lib.hid k3
  replace k4 := Lib.hid k4
  have e2 : (w.alloc (.cells #[.int .i64 6, .int .i64 a, .int .i64 t, .int .i64 j, .int .i64 0, .int .i64 i, .int .i64 n, .int .i64 0, .int .i64 0, .int .i64 0, .int .i64 0, .slice none 0 0, .bool false, .slice none 0 0, .slice sa N sc] 35)).cell? ⟨gx, 2, none⟩ = some (.int .i64 t) := bX.cell 2
  have e0 : (w.alloc (.cells #[.int .i64 6, .int .i64 a, .int .i64 t, .int .i64 j, .int .i64 0, .int .i64 i, .int .i64 n, .int .i64 0, .int .i64 0, .int .i64 0, .int .i64 0, .slice none 0 0, .bool false, .slice none 0 0, .slice sa N sc] 35)).cell? ⟨gx, 0, none⟩ = some (.int .i64 6) := bX.cell 0
  have e3 : (w.alloc (.cells #[.int .i64 6, .int .i64 a, .int .i64 t, .int .i64 j, .int .i64 0, .int .i64 i, .int .i64 n, .int .i64 0, .int .i64 0, .int .i64 0, .int .i64 0, .slice none 0 0, .bool false, .slice none 0 0, .slice sa N sc] 35)).cell? ⟨gx, 3, none⟩ = some (.int .i64 j) := bX.cell 3
  go_enter Tryz.func12, Tryz.ntmps12
  go_wp2_with fail
  generalize (w.alloc (.cells #[.int .i64 6, .int .i64 a, .int .i64 t, .int .i64 j, .int .i64 0, .int .i64 i, .int .i64 n, .int .i64 0, .int .i64 0, .int .i64 0, .int .i64 0, .slice none 0 0, .bool false, .slice none 0 0, .slice sa N sc] 35)) = wx at *
  go_fit (k0.out _)
  rintro e w1 ⟨rfl, hw1⟩
  obtain rfl := hw1.symm
  cases hb1 : inB 1 65535 t with
  | false =>
    go_wp2_with fail
    go_ret
    exact ⟨ret_b (by rw [← hb.out, hb1]; rfl), fX⟩
  | true =>
  go_wp2_with fail
  go_fit (k1.out _)
  rintro e w1 ⟨rfl, hw1⟩
  obtain rfl := hw1.symm
  cases hb2 : inB 1 1073741824 j with
  | false =>
    go_wp2_with fail
    go_ret
    exact ⟨ret_b (by rw [← hb.out, hb1, hb2]; rfl), fX⟩
  | true =>
  have hbb := hb.out
  rw [hb1, hb2, Bool.true_and, Bool.true_and, ← hd0.out] at hbb
  replace hbb := Lib.hid hbb
  clear hb hb1 hb2 e0 e2 e3
  replace bX := Lib.hid bX
  have z0 : wx.cell? ⟨gx, 0, none⟩ = some (.int .i64 6) := bX.out.cell 0
  go_wp2_with fail
  clear z0
  go_loopw [3] (fun vi wr => ∃ k : Nat, k ≤ N ∧ vi = .int .i64 k ∧ Hid (spsB t (sp.drop 0) = spsB t (sp.drop k)) ∧ Fr noB wx wr) (fun vi _ => N - (RowKit.intOf vi).toNat)
  case atStart => exact ⟨0, by omega, rfl, Lib.hid rfl, Fr.refl _ _⟩
  case round =>
    obtain ⟨k, hk, rfl, hE, fr⟩ := hrel
    have bk := fr.blk bX.out (fun q => q)
    have d14 : wr.cell? ⟨gx, 14, none⟩ = some (.slice sa N sc) := bk.cell 14
    have frw := fX.seqN fr
    by_cases hlt : k < N
    · obtain ⟨s, hs⟩ := hget.out k hlt
      obtain ⟨g, o, rfl, c0, c1, c2⟩ := hx3.out k s hs
      have hS : ∀ w', Fr noB wr w' → ((w'.cell? ⟨gx, 14, none⟩ = some (.slice (some ⟨g, o, none⟩) N sc) ∧ w'.cell? ⟨gx, 2, none⟩ = some (.int .i64 t)) ∧ w'.cell? ⟨g, o + k * 3, none⟩ = some (.int .i64 s.t) ∧ w'.cell? ⟨g, o + k * 3 + 1, none⟩ = some (.int .i64 s.q) ∧ w'.cell? ⟨g, o + k * 3 + 2, none⟩ = some (.string s.x)) := fun w' f => by
        have b := f.blk bk (fun q => q)
        exact ⟨⟨b.cell 14, b.cell 2⟩, (frw.seqN f).cell c0 (fun q => q), (frw.seqN f).cell c1 (fun q => q), (frw.seqN f).cell c2 (fun q => q)⟩
      have hst := hdr.out k s hs
      rw [← hE.out] at hst
      have hb1 : (k : Int) < N := by omega
      have hrt := rright_any s
      generalize rightS s = rs at *
      replace hrt := Lib.hid hrt
      replace hs := Lib.hid hs
      obtain ⟨_, y0, y1, y2⟩ := hS wr (Fr.refl _ _)
      replace hS := Lib.hid hS
      clear c0 c1 c2 bk hE
      cases rs with
      | false =>
        rw [Bool.false_and, Bool.false_and] at hst
        replace hst := Lib.hid hst
        go_wp2_with fail
        clear y0 y1 y2
        refine wp_region_held_drew (S := fun w' => (w'.cell? ⟨gx, 14, none⟩ = some (.slice (some ⟨g, o, none⟩) N sc) ∧ w'.cell? ⟨gx, 2, none⟩ = some (.int .i64 t)) ∧ w'.cell? ⟨g, o + k * 3, none⟩ = some (.int .i64 s.t) ∧ w'.cell? ⟨g, o + k * 3 + 1, none⟩ = some (.int .i64 s.q) ∧ w'.cell? ⟨g, o + k * 3 + 2, none⟩ = some (.string s.x)) (by kernel_rfl) (hS.out _ ((Fr.refl noB wr).drewN 1)) (fun hHeld => ?_)
        (refine wpAnyH_take (i := 0) (oi := ?_) (v := ?_) ?_ (by kernel_rfl) (by kernel_rfl) (by kernel_rfl) ?_ ?_ (by assumption) ?_; rotate_left 2; (focus ((simp only [List.getElem?_toArray, List.getElem?_cons_succ, List.getElem?_cons_zero]); try rfl)); (focus (exact (fun _ _ _ h => h))); (focus (refine Or.inl ⟨by rfl, ?_⟩; intro w hSw; (try dsimp only at hSw); go_simp; try with_reducible rfl)); try simp only [Act.put, List.setIfInBounds_toArray, List.set_cons_zero, List.set_cons_succ])
        (refine wpAnyH_take (i := 1) (oi := ?_) (v := ?_) ?_ (by kernel_rfl) (by kernel_rfl) (by kernel_rfl) ?_ ?_ (by assumption) ?_; rotate_left 2; (focus ((simp only [List.getElem?_toArray, List.getElem?_cons_succ, List.getElem?_cons_zero]); try rfl)); (focus (exact (fun _ _ _ h => h))); (focus (refine Or.inl ⟨by rfl, ?_⟩; intro w hSw; (try dsimp only at hSw); go_simp; try with_reducible rfl)); try simp only [Act.put, List.setIfInBounds_toArray, List.set_cons_zero, List.set_cons_succ])
        (refine wpAnyH_take (i := 2) (oi := ?_) (v := ?_) ?_ (by kernel_rfl) (by kernel_rfl) (by kernel_rfl) ?_ ?_ (by assumption) ?_; rotate_left 2; (focus ((simp only [List.getElem?_toArray, List.getElem?_cons_succ, List.getElem?_cons_zero]); try rfl)); (focus (exact (fun _ _ _ h => h))); (focus (refine Or.inl ⟨by rfl, ?_⟩; intro w hSw; (try dsimp only at hSw); go_simp; try with_reducible rfl)); try simp only [Act.put, List.setIfInBounds_toArray, List.set_cons_zero, List.set_cons_succ])
        (refine wpAnyH_take (i := 3) (oi := ?_) (v := ?_) ?_ (by kernel_rfl) (by kernel_rfl) (by kernel_rfl) ?_ ?_ (by assumption) ?_; rotate_left 2; (focus ((simp only [List.getElem?_toArray, List.getElem?_cons_succ, List.getElem?_cons_zero]); try rfl)); (focus (exact (fun _ _ _ h => h))); (focus (refine Or.inl ⟨by rfl, ?_⟩; intro w hSw; (try dsimp only at hSw); go_simp; try with_reducible rfl)); try simp only [Act.put, List.setIfInBounds_toArray, List.set_cons_zero, List.set_cons_succ])
        (refine wpAnyH_take (i := 4) (oi := ?_) (v := ?_) ?_ (by kernel_rfl) (by kernel_rfl) (by kernel_rfl) ?_ ?_ (by assumption) ?_; rotate_left 2; (focus ((simp only [List.getElem?_toArray, List.getElem?_cons_succ, List.getElem?_cons_zero]); try rfl)); (focus (exact (fun _ _ _ h => h))); (focus (refine Or.inl ⟨by rfl, ?_⟩; intro w hSw; (try dsimp only at hSw); go_simp; try with_reducible rfl)); try simp only [Act.put, List.setIfInBounds_toArray, List.set_cons_zero, List.set_cons_succ])
        refine wpAnyH_ready (rs := [5]) (by kernel_rfl) (by simp) (AllReadyH.cons rfl (fun K hK => ?_) AllReadyH.nil)
        go_simp
        go_at_call 28; refine (hrt.out _).mono ?_; rintro e w5 ⟨rfl, f5⟩; have fq := ((Fr.refl noB wr).drewN 1).seqN f5
        go_wp2_with fail
        refine hK.out _ _ (hS.out _ fq) (fun hHeld => ?_)
        clear hK K
        try simp only [Act.put, List.setIfInBounds_toArray, List.set_cons_zero, List.set_cons_succ]
        (refine wpAnyH_take (i := 6) (oi := ?_) (v := ?_) ?_ (by kernel_rfl) (by kernel_rfl) (by kernel_rfl) ?_ ?_ (by assumption) ?_; rotate_left 2; (focus ((simp only [List.getElem?_toArray, List.getElem?_cons_succ, List.getElem?_cons_zero]); try rfl)); (focus (exact (fun _ _ _ h => h))); (focus (refine Or.inl ⟨by rfl, ?_⟩; intro w hSw; (try dsimp only at hSw); go_simp; try with_reducible rfl)); try simp only [Act.put, List.setIfInBounds_toArray, List.set_cons_zero, List.set_cons_succ])
        (refine wpAnyH_take (i := 7) (oi := ?_) (v := ?_) ?_ (by kernel_rfl) (by kernel_rfl) (by kernel_rfl) ?_ ?_ (by assumption) ?_; rotate_left 2; (focus ((simp only [List.getElem?_toArray, List.getElem?_cons_succ, List.getElem?_cons_zero]); try rfl)); (focus (exact (fun _ _ _ h => h))); (focus (refine Or.inl ⟨by rfl, ?_⟩; intro w hSw; (try dsimp only at hSw); go_simp; try with_reducible rfl)); try simp only [Act.put, List.setIfInBounds_toArray, List.set_cons_zero, List.set_cons_succ])
        (refine wpAnyH_take (i := 8) (oi := ?_) (v := undef) ?_ (by kernel_rfl) (by kernel_rfl) (by kernel_rfl) ?_ ?_ (by assumption) ?_; rotate_left 1; (focus ((simp only [List.getElem?_toArray, List.getElem?_cons_succ, List.getElem?_cons_zero]); try rfl)); (focus (exact (fun _ _ _ h => h))); (focus (exact Or.inr ⟨by rfl, rfl⟩)); try simp only [Act.put, List.setIfInBounds_toArray, List.set_cons_zero, List.set_cons_succ])
        (refine wpAnyH_take (i := 9) (oi := ?_) (v := undef) ?_ (by kernel_rfl) (by kernel_rfl) (by kernel_rfl) ?_ ?_ (by assumption) ?_; rotate_left 1; (focus ((simp only [List.getElem?_toArray, List.getElem?_cons_succ, List.getElem?_cons_zero]); try rfl)); (focus (exact (fun _ _ _ h => h))); (focus (exact Or.inr ⟨by rfl, rfl⟩)); try simp only [Act.put, List.setIfInBounds_toArray, List.set_cons_zero, List.set_cons_succ])
        (refine wpAnyH_take (i := 10) (oi := ?_) (v := undef) ?_ (by kernel_rfl) (by kernel_rfl) (by kernel_rfl) ?_ ?_ (by assumption) ?_; rotate_left 1; (focus ((simp only [List.getElem?_toArray, List.getElem?_cons_succ, List.getElem?_cons_zero]); try rfl)); (focus (exact (fun _ _ _ h => h))); (focus (exact Or.inr ⟨by rfl, rfl⟩)); try simp only [Act.put, List.setIfInBounds_toArray, List.set_cons_zero, List.set_cons_succ])
        (refine wpAnyH_take (i := 11) (oi := ?_) (v := undef) ?_ (by kernel_rfl) (by kernel_rfl) (by kernel_rfl) ?_ ?_ (by assumption) ?_; rotate_left 1; (focus ((simp only [List.getElem?_toArray, List.getElem?_cons_succ, List.getElem?_cons_zero]); try rfl)); (focus (exact (fun _ _ _ h => h))); (focus (exact Or.inr ⟨by rfl, rfl⟩)); try simp only [Act.put, List.setIfInBounds_toArray, List.set_cons_zero, List.set_cons_succ])
        (refine wpAnyH_take (i := 12) (oi := ?_) (v := undef) ?_ (by kernel_rfl) (by kernel_rfl) (by kernel_rfl) ?_ ?_ (by assumption) ?_; rotate_left 1; (focus ((simp only [List.getElem?_toArray, List.getElem?_cons_succ, List.getElem?_cons_zero]); try rfl)); (focus (exact (fun _ _ _ h => h))); (focus (exact Or.inr ⟨by rfl, rfl⟩)); try simp only [Act.put, List.setIfInBounds_toArray, List.set_cons_zero, List.set_cons_succ])
        (refine wpAnyH_take (i := 13) (oi := ?_) (v := undef) ?_ (by kernel_rfl) (by kernel_rfl) (by kernel_rfl) ?_ ?_ (by assumption) ?_; rotate_left 1; (focus ((simp only [List.getElem?_toArray, List.getElem?_cons_succ, List.getElem?_cons_zero]); try rfl)); (focus (exact (fun _ _ _ h => h))); (focus (exact Or.inr ⟨by rfl, rfl⟩)); try simp only [Act.put, List.setIfInBounds_toArray, List.set_cons_zero, List.set_cons_succ])
        (refine wpAnyH_take (i := 14) (oi := ?_) (v := undef) ?_ (by kernel_rfl) (by kernel_rfl) (by kernel_rfl) ?_ ?_ (by assumption) ?_; rotate_left 1; (focus ((simp only [List.getElem?_toArray, List.getElem?_cons_succ, List.getElem?_cons_zero]); try rfl)); (focus (exact (fun _ _ _ h => h))); (focus (exact Or.inr ⟨by rfl, rfl⟩)); try simp only [Act.put, List.setIfInBounds_toArray, List.set_cons_zero, List.set_cons_succ])
        (refine wpAnyH_take (i := 15) (oi := ?_) (v := undef) ?_ (by kernel_rfl) (by kernel_rfl) (by kernel_rfl) ?_ ?_ (by assumption) ?_; rotate_left 1; (focus ((simp only [List.getElem?_toArray, List.getElem?_cons_succ, List.getElem?_cons_zero]); try rfl)); (focus (exact (fun _ _ _ h => h))); (focus (exact Or.inr ⟨by rfl, rfl⟩)); try simp only [Act.put, List.setIfInBounds_toArray, List.set_cons_zero, List.set_cons_succ])
        (refine wpAnyH_take (i := 16) (oi := ?_) (v := undef) ?_ (by kernel_rfl) (by kernel_rfl) (by kernel_rfl) ?_ ?_ (by assumption) ?_; rotate_left 1; (focus ((simp only [List.getElem?_toArray, List.getElem?_cons_succ, List.getElem?_cons_zero]); try rfl)); (focus (exact (fun _ _ _ h => h))); (focus (exact Or.inr ⟨by rfl, rfl⟩)); try simp only [Act.put, List.setIfInBounds_toArray, List.set_cons_zero, List.set_cons_succ])
        (refine wpAnyH_take (i := 17) (oi := ?_) (v := ?_) ?_ (by kernel_rfl) (by kernel_rfl) (by kernel_rfl) ?_ ?_ (by assumption) ?_; rotate_left 2; (focus ((simp only [List.getElem?_toArray, List.getElem?_cons_succ, List.getElem?_cons_zero]); try rfl)); (focus (exact (fun _ _ _ h => h))); (focus (refine Or.inl ⟨by rfl, ?_⟩; intro w hSw; (try dsimp only at hSw); go_simp; try with_reducible rfl)); try simp only [Act.put, List.setIfInBounds_toArray, List.set_cons_zero, List.set_cons_succ])
        refine wpAnyH_done (by kernel_rfl) ?_ _
        go_wp2_with fail
        go_ret
        exact ⟨ret_b (by rw [← hbb.out, hst.out]; rfl), frw.seqN fq⟩
      | true =>
        clear y0 y1 y2
        have fq := (Fr.refl noB wr).drewN 1
        rw [Bool.true_and] at hst
        rcases Bool.eq_false_or_eq_true (s.t == t) with h1 | h1
        · have hbn : (s.t != t) = false := by simp [bne, h1]
          rw [h1, Bool.true_and] at hst
          replace hst := Lib.hid hst
          go_wp2_with fail
          go_region_held3 (fun w' => (w'.cell? ⟨gx, 14, none⟩ = some (.slice (some ⟨g, o, none⟩) N sc) ∧ w'.cell? ⟨gx, 2, none⟩ = some (.int .i64 t)) ∧ w'.cell? ⟨g, o + k * 3, none⟩ = some (.int .i64 s.t) ∧ w'.cell? ⟨g, o + k * 3 + 1, none⟩ = some (.int .i64 s.q) ∧ w'.cell? ⟨g, o + k * 3 + 2, none⟩ = some (.string s.x))
            (first | exact hS.out _ fq | exact hS.out _ ((Fr.refl noB _).drewN 1) | fail)
            (first | (go_at_call 28; refine (hrt.out _).mono ?_; rintro e w5 ⟨rfl, f5⟩; have fq := fq.seqN f5) | fail)
          all_goals (
            go_wp2_with fail
            go_roundw
            case rel => exact ⟨k + 1, by omega, by go_num, hst, fr.seqN fq⟩
            case measure => simp [RowKit.intOf]; omega)
        · have hbn : (s.t != t) = true := by simp [bne, h1]
          rw [h1, Bool.false_and] at hst
          replace hst := Lib.hid hst
          go_wp2_with fail
          go_region_held3 (fun w' => (w'.cell? ⟨gx, 14, none⟩ = some (.slice (some ⟨g, o, none⟩) N sc) ∧ w'.cell? ⟨gx, 2, none⟩ = some (.int .i64 t)) ∧ w'.cell? ⟨g, o + k * 3, none⟩ = some (.int .i64 s.t) ∧ w'.cell? ⟨g, o + k * 3 + 1, none⟩ = some (.int .i64 s.q) ∧ w'.cell? ⟨g, o + k * 3 + 2, none⟩ = some (.string s.x))
            (first | exact hS.out _ fq | exact hS.out _ ((Fr.refl noB _).drewN 1) | fail)
            (first | (go_at_call 28; refine (hrt.out _).mono ?_; rintro e w5 ⟨rfl, f5⟩; have fq := fq.seqN f5) | fail)
          all_goals (
            go_wp2_with fail
            go_ret
            exact ⟨ret_b (by rw [← hbb.out, hst.out]; rfl), frw.seqN fq⟩)
    · obtain rfl : k = N := by omega
      have hf : spsB t (sp.drop 0) = true := by rw [hE.out, hend.out]
      have hbc := hbb.out
      rw [hf, Bool.true_and] at hbc
      have d1 : wr.cell? ⟨gx, 1, none⟩ = some (.int .i64 a) := bk.cell 1
      have d5 : wr.cell? ⟨gx, 5, none⟩ = some (.int .i64 i) := bk.cell 5
      have d6 : wr.cell? ⟨gx, 6, none⟩ = some (.int .i64 n) := bk.cell 6
      replace bk := Lib.hid bk
      replace hbc := Lib.hid hbc
      go_wp2_with fail
      go_fit (k2.out _)
      rintro e w1 ⟨rfl, hw1⟩
      obtain rfl := hw1.symm
      cases hb1 : inB 0 3 a with
      | false =>
        go_wp2_with fail
        go_ret
        exact ⟨ret_b (by rw [← hbc.out, hb1]; rfl), frw⟩
      | true =>
      go_wp2_with fail
      go_fit (k3.out _)
      rintro e w1 ⟨rfl, hw1⟩
      obtain rfl := hw1.symm
      cases hb2 : inB 1 500 n with
      | false =>
        go_wp2_with fail
        go_ret
        exact ⟨ret_b (by rw [← hbc.out, hb1, hb2]; rfl), frw⟩
      | true =>
      have hn := inB_lim hb2
      have i9 : wrap64 (n - 1) = n - 1 := IntWalk.wrap64_in _ (by omega)
      go_wp2_with fail
      go_fit (k4.out (n - 1) _)
      rintro e w1 ⟨rfl, hw1⟩
      obtain rfl := hw1.symm
      cases hb3 : inB 0 (n - 1) i with
      | false =>
        go_wp2_with fail
        go_ret
        exact ⟨ret_b (by rw [← hbc.out, hb1, hb2, hb3]; rfl), frw⟩
      | true =>
      have hfin := hbc.out
      rw [hb1, hb2, hb3, Bool.true_and, Bool.true_and, Bool.true_and] at hfin
      replace hfin := Lib.hid hfin
      by_cases h9 : (k : Int) ≤ 2
      · go_wp2_with fail
        go_ret
        exact ⟨ret_b (by rw [← hfin.out]; simp; omega), frw⟩
      · go_wp2_with fail
        go_ret
        exact ⟨ret_b (by rw [← hfin.out]; simp; omega), frw⟩
end Go.Proofs.YtbmafogjmdilkaaGreatDoor
end

section
set_option linter.unusedVariables false
set_option linter.unusedSimpArgs false
set_option maxRecDepth 100000
namespace Go.Proofs.YtbmafogjmdilkaaGreatDoor
open Go.RowKit Go Go.Lib

/-- the parts from the k-th on, the one ahead being of the agent last -/
theorem manF_get (t j : Int) (L : List Pn) (k : Nat) (p : Pn) (h : L[k]? = some p) (last : Int) : manF t j last (L.drop k) = (pnB p && (p.t == t && (p.j == j && (decide (last < p.a) && manF t j p.a (L.drop (k + 1)))))) := manF_drop t j last L k p h
def lastOf (L : List Pn) : Nat → Int
  | 0 => -1
  | k + 1 => match L[k]? with | some p => p.a | none => 0
theorem lastOf_succ {L : List Pn} {k : Nat} {p : Pn} (h : L[k]? = some p) : lastOf L (k + 1) = p.a := by simp [lastOf, h]
theorem manB_r (t j c : Int) (ps : List Pn) (h4 : manF t j (-1) ps = true → ps.length ≤ 4) : manB t j c ps = (inB 1 65535 t && (inB 1 1073741824 j && (manF t j (-1) ps && (inB 0 3 c && inB 1 4 (ps.length : Int))))) := by
  rw [Bool.eq_iff_iff]
  unfold manB
  simp only [Bool.and_eq_true, inB, decide_eq_true_eq]
  constructor
  · rintro ⟨h1, h2, h3, h5, h6⟩
    exact ⟨h1, h2, h6, h3, by omega, by have := h4 h6; omega⟩
  · rintro ⟨h1, h2, h3, h5, h6, h7⟩
    exact ⟨h1, h2, h5, by omega, h3⟩
theorem pnB_a {p : Pn} (h : pnB p = true) : 0 ≤ p.a ∧ p.a ≤ 3 := by
  unfold pnB pinB inB at h
  simp only [Bool.and_eq_true, decide_eq_true_eq] at h
  omega
theorem manF_len (t j : Int) : ∀ (ps : List Pn) (last : Int), -1 ≤ last → last ≤ 3 → manF t j last ps = true → (ps.length : Int) ≤ 3 - last
  | [], last, h0, h1, _ => by simp; omega
  | p :: r, last, h0, h1, h => by
    unfold manF at h
    simp only [Bool.and_eq_true, decide_eq_true_eq] at h
    have ha := pnB_a h.1
    have := manF_len t j r p.a (by omega) (by omega) h.2.2.2.2
    simp only [List.length_cons]
    omega

set_option maxHeartbeats 100000000 in
theorem rr_Manifest (t j c : Int) (ps : List Pn) (qa : Option Addr) (qn qc : Nat) (w : World) (hps : RdPs w (.slice qa qn qc) ps) :
    Calls Tryz.prog 12 #[mrV { k := 7, t := t, j := j, c := c, qa := qa, qn := qn, qc := qc }] w fun e w' => e = .returned (.bool (manB t j c ps)) ∧ Fr noB w w' := by
  obtain ⟨b, hb⟩ : ∃ b, manB t j c ps = b := ⟨_, rfl⟩
  rw [hb]
  rw [manB_r t j c ps (fun h => by have := manF_len t j ps (-1) (by omega) (by omega) h; omega)] at hb
  have hget : ∀ k, k < ps.length → ∃ m, ps[k]? = some m := fun k hk => ⟨ps[k], List.getElem?_eq_getElem hk⟩
  have hdr := fun k p (h : ps[k]? = some p) => manF_get t j ps k p h (lastOf ps k)
  have hls := fun k p (h : ps[k]? = some p) => lastOf_succ h
  have hd0 : manF t j (lastOf ps 0) (ps.drop 0) = manF t j (-1) ps := by rw [List.drop_zero]; rfl
  have hend : ∀ last, manF t j last (ps.drop ps.length) = true := fun last => by rw [List.drop_length]; rfl
  obtain ⟨_, _, e1, hx1, hx2, hx3⟩ := hps
  cases e1
  obtain ⟨N, hN⟩ : ∃ N, ps.length = N := ⟨_, rfl⟩
  rw [hN] at hget hend hx1 hx2 hb ⊢
  have hNb : (N : Int) ≤ 9223372036854775807 := by omega
  unfold mrV mrC
  have fX := (Fr.refl noB w).alloc (.cells #[.int .i64 7, .int .i64 0, .int .i64 t, .int .i64 j, .int .i64 c, .int .i64 0, .int .i64 0, .int .i64 0, .int .i64 0, .int .i64 0, .int .i64 0, .slice none 0 0, .bool false, .slice qa N qc, .slice none 0 0] 35)
  have bX := Blk.new w 35 [.int .i64 7, .int .i64 0, .int .i64 t, .int .i64 j, .int .i64 c, .int .i64 0, .int .i64 0, .int .i64 0, .int .i64 0, .int .i64 0, .int .i64 0, .slice none 0 0, .bool false, .slice qa N qc, .slice none 0 0]
  have k0 := within_any t 1 65535
  have k1 := within_any j 1 1073741824
  have k2 := within_any c 0 3
  have k3 := within_any (N : Int) 1 4
  obtain ⟨gx, hgx⟩ : ∃ g, w.heap.size = g := ⟨_, rfl⟩
  rw [hgx] at bX
  replace hx3 := Lib.hid hx3
  replace hget := Lib.hid hget
  replace hdr := Lib.hid hdr
  replace hls := Lib.hid hls
  replace hend := Lib.hid hend
  replace hN := Lib.hid hN
  replace hb := Lib.hid hb
  replace hd0 := Lib.hid hd0
  replace k0 := Lib.hid k0
  replace k1 := Lib.hid k1
  replace k2 := Lib.hid k2
  replace k3 := Lib.hid k3
  have e2 : (w.alloc (.cells #[.int .i64 7, .int .i64 0, .int .i64 t, .int .i64 j, .int .i64 c, .int .i64 0, .int .i64 0, .int .i64 0, .int .i64 0, .int .i64 0, .int .i64 0, .slice none 0 0, .bool false, .slice qa N qc, .slice none 0 0] 35)).cell? ⟨gx, 2, none⟩ = some (.int .i64 t) := bX.cell 2
  have e0 : (w.alloc (.cells #[.int .i64 7, .int .i64 0, .int .i64 t, .int .i64 j, .int .i64 c, .int .i64 0, .int .i64 0, .int .i64 0, .int .i64 0, .int .i64 0, .int .i64 0, .slice none 0 0, .bool false, .slice qa N qc, .slice none 0 0] 35)).cell? ⟨gx, 0, none⟩ = some (.int .i64 7) := bX.cell 0
  have e3 : (w.alloc (.cells #[.int .i64 7, .int .i64 0, .int .i64 t, .int .i64 j, .int .i64 c, .int .i64 0, .int .i64 0, .int .i64 0, .int .i64 0, .int .i64 0, .int .i64 0, .slice none 0 0, .bool false, .slice qa N qc, .slice none 0 0] 35)).cell? ⟨gx, 3, none⟩ = some (.int .i64 j) := bX.cell 3
  go_enter Tryz.func12, Tryz.ntmps12
  go_wp2_with fail
  generalize (w.alloc (.cells #[.int .i64 7, .int .i64 0, .int .i64 t, .int .i64 j, .int .i64 c, .int .i64 0, .int .i64 0, .int .i64 0, .int .i64 0, .int .i64 0, .int .i64 0, .slice none 0 0, .bool false, .slice qa N qc, .slice none 0 0] 35)) = wx at *
  go_fit (k0.out _)
  rintro e w1 ⟨rfl, hw1⟩
  obtain rfl := hw1.symm
  cases hb1 : inB 1 65535 t with
  | false =>
    go_wp2_with fail
    go_ret
    exact ⟨ret_b (by rw [← hb.out, hb1]; rfl), fX⟩
  | true =>
  go_wp2_with fail
  go_fit (k1.out _)
  rintro e w1 ⟨rfl, hw1⟩
  obtain rfl := hw1.symm
  cases hb2 : inB 1 1073741824 j with
  | false =>
    go_wp2_with fail
    go_ret
    exact ⟨ret_b (by rw [← hb.out, hb1, hb2]; rfl), fX⟩
  | true =>
  have hbb := hb.out
  rw [hb1, hb2, Bool.true_and, Bool.true_and, ← hd0.out] at hbb
  replace hbb := Lib.hid hbb
  clear hb hb1 hb2 e0 e2 e3
  replace bX := Lib.hid bX
  have z0 : wx.cell? ⟨gx, 0, none⟩ = some (.int .i64 7) := bX.out.cell 0
  go_wp2_with fail
  clear z0
  go_loopw [4] (fun vi wr => ∃ k : Nat, k ≤ N ∧ vi = .int .i64 k ∧ Hid (manF t j (lastOf ps 0) (ps.drop 0) = manF t j (lastOf ps k) (ps.drop k)) ∧ Fr noB wx wr) (fun vi _ => N - (RowKit.intOf vi).toNat)
  case atStart => exact ⟨0, by omega, rfl, Lib.hid rfl, Fr.refl _ _⟩
  case round =>
    obtain ⟨k, hk, rfl, hE, fr⟩ := hrel
    have bk := fr.blk bX.out (fun q => q)
    have d13 : wr.cell? ⟨gx, 13, none⟩ = some (.slice qa N qc) := bk.cell 13
    have frw := fX.seqN fr
    by_cases hlt : k < N
    · obtain ⟨p, hs⟩ := hget.out k hlt
      obtain ⟨g, o, ua, uc, rfl, hc, hri⟩ := hx3.out k p hs
      have hst := hdr.out k p hs
      have hls1 := hls.out k p hs
      rw [← hE.out] at hst
      have hb1 : (k : Int) < N := by omega
      have c0 : wr.cell? ⟨g, o + k * 6, none⟩ = some (.int .i64 p.a) := frw.cell (hc 0 _ rfl) (fun q => q)
      have c1 : wr.cell? ⟨g, o + k * 6 + 1, none⟩ = some (.int .i64 p.t) := frw.cell (hc 1 _ rfl) (fun q => q)
      have c2 : wr.cell? ⟨g, o + k * 6 + 2, none⟩ = some (.int .i64 p.j) := frw.cell (hc 2 _ rfl) (fun q => q)
      have c3 : wr.cell? ⟨g, o + k * 6 + 3, none⟩ = some (.int .i64 p.n) := frw.cell (hc 3 _ rfl) (fun q => q)
      have c4 : wr.cell? ⟨g, o + k * 6 + 4, none⟩ = some (.slice ua p.cr.length uc) := frw.cell (hc 4 _ rfl) (fun q => q)
      have c5 : wr.cell? ⟨g, o + k * 6 + 5, none⟩ = some (.bool p.lo) := frw.cell (hc 5 _ rfl) (fun q => q)
      have fA := fr.alloc (.cells #[.int .i64 p.a, .int .i64 p.t, .int .i64 p.j, .int .i64 p.n, .slice ua p.cr.length uc, .bool p.lo] 32)
      have bA := Blk.new wr 32 [.int .i64 p.a, .int .i64 p.t, .int .i64 p.j, .int .i64 p.n, .slice ua p.cr.length uc, .bool p.lo]
      have hrt := fun w' (f : Fr noB w w') => rpart_any p.a p.t p.j p.n (.slice ua p.cr.length uc) p.lo p.cr w' (hri.frN f)
      rw [show pinB p.a p.t p.j p.n p.cr = pnB p from rfl] at hrt
      have hprev : 0 < k → ∃ q, ps[k - 1]? = some q ∧ lastOf ps k = q.a ∧ ∀ w', Fr noB w w' → w'.cell? ⟨g, o + (k - 1) * 6, none⟩ = some (.int .i64 q.a) := fun h0 => by
        obtain ⟨q, hq⟩ := hget.out (k - 1) (by omega)
        have hl := hls.out (k - 1) q hq
        rw [show k - 1 + 1 = k by omega] at hl
        obtain ⟨g2, o2, ua2, uc2, e2, hc2, _⟩ := hx3.out (k - 1) q hq
        cases e2
        exact ⟨q, hq, hl, fun w' f => f.cell (hc2 0 _ rfl) (fun q => q)⟩
      have hS : ∀ w', Fr noB (wr.alloc (.cells #[.int .i64 p.a, .int .i64 p.t, .int .i64 p.j, .int .i64 p.n, .slice ua p.cr.length uc, .bool p.lo] 32)) w' → ((w'.cell? ⟨gx, 13, none⟩ = some (.slice (some ⟨g, o, none⟩) N qc) ∧ w'.cell? ⟨gx, 2, none⟩ = some (.int .i64 t) ∧ w'.cell? ⟨gx, 3, none⟩ = some (.int .i64 j)) ∧ w'.cell? ⟨wr.heap.size, 0, none⟩ = some (.int .i64 p.a) ∧ w'.cell? ⟨wr.heap.size, 1, none⟩ = some (.int .i64 p.t) ∧ w'.cell? ⟨wr.heap.size, 2, none⟩ = some (.int .i64 p.j) ∧ w'.cell? ⟨wr.heap.size, 3, none⟩ = some (.int .i64 p.n) ∧ w'.cell? ⟨wr.heap.size, 4, none⟩ = some (.slice ua p.cr.length uc) ∧ w'.cell? ⟨wr.heap.size, 5, none⟩ = some (.bool p.lo)) := fun w' f => by
        have b := (fA.seqN f).blk bX.out (fun q => q)
        have b2 := f.blk bA (fun q => q)
        exact ⟨⟨b.cell 13, b.cell 2, b.cell 3⟩, b2.cell 0, b2.cell 1, b2.cell 2, b2.cell 3, b2.cell 4, b2.cell 5⟩
      have fwA := fX.seqN fA
      have hpa0 := Lib.hid (fun h => (pnB_a (p := p) h).1)
      generalize pnB p = rs at *
      generalize p.cr.length = cl at *
      replace hrt := Lib.hid hrt
      replace hs := Lib.hid hs
      replace hS := Lib.hid hS
      replace hprev := Lib.hid hprev
      replace hls1 := Lib.hid hls1
      replace hE := Lib.hid hE
      clear hc hri bA bk
      cases rs with
      | false =>
        rw [Bool.false_and] at hst
        replace hst := Lib.hid hst
        go_upto_region 23 with fail
        generalize (wr.alloc (.cells #[.int .i64 p.a, .int .i64 p.t, .int .i64 p.j, .int .i64 p.n, .slice ua cl uc, .bool p.lo] 32)) = wA at *
        obtain ⟨ga, hga⟩ : ∃ g, wr.heap.size = g := ⟨_, rfl⟩
        rw [hga] at hS ⊢
        replace hga := Lib.hid hga
        clear c0 c1 c2 c3 c4 c5 d13
        refine wp_region_held_drew (S := fun w' => (w'.cell? ⟨gx, 13, none⟩ = some (.slice (some ⟨g, o, none⟩) N qc) ∧ w'.cell? ⟨gx, 2, none⟩ = some (.int .i64 t) ∧ w'.cell? ⟨gx, 3, none⟩ = some (.int .i64 j)) ∧ w'.cell? ⟨ga, 0, none⟩ = some (.int .i64 p.a) ∧ w'.cell? ⟨ga, 1, none⟩ = some (.int .i64 p.t) ∧ w'.cell? ⟨ga, 2, none⟩ = some (.int .i64 p.j) ∧ w'.cell? ⟨ga, 3, none⟩ = some (.int .i64 p.n) ∧ w'.cell? ⟨ga, 4, none⟩ = some (.slice ua cl uc) ∧ w'.cell? ⟨ga, 5, none⟩ = some (.bool p.lo)) (by kernel_rfl) (hS.out _ ((Fr.refl noB _).drewN 1)) (fun hHeld => ?_)
        (refine wpAnyH_take (i := 0) (oi := ?_) (v := ?_) ?_ (by kernel_rfl) (by kernel_rfl) (by kernel_rfl) ?_ ?_ (by assumption) ?_; rotate_left 2; (focus ((simp only [List.getElem?_toArray, List.getElem?_cons_succ, List.getElem?_cons_zero]); try rfl)); (focus (exact (fun _ _ _ h => h))); (focus (refine Or.inl ⟨by rfl, ?_⟩; intro w hSw; (try dsimp only at hSw); go_simp; try with_reducible rfl)); try simp only [Act.put, List.setIfInBounds_toArray, List.set_cons_zero, List.set_cons_succ])
        refine wpAnyH_ready (rs := [1]) (by kernel_rfl) (by simp) (AllReadyH.cons rfl (fun K hK => ?_) AllReadyH.nil)
        go_simp
        go_at_call 26; refine (hrt.out _ (fwA.seqN ((Fr.refl noB _).drewN 1))).mono ?_; rintro e w5 ⟨rfl, f5⟩; have fq := ((Fr.refl noB wA).drewN 1).seqN f5
        go_wp2_with fail
        refine hK.out _ _ (hS.out _ (fq)) (fun hHeld => ?_)
        clear hK K
        try simp only [Act.put, List.setIfInBounds_toArray, List.set_cons_zero, List.set_cons_succ]
        (refine wpAnyH_take (i := 2) (oi := ?_) (v := ?_) ?_ (by kernel_rfl) (by kernel_rfl) (by kernel_rfl) ?_ ?_ (by assumption) ?_; rotate_left 2; (focus ((simp only [List.getElem?_toArray, List.getElem?_cons_succ, List.getElem?_cons_zero]); try rfl)); (focus (exact (fun _ _ _ h => h))); (focus (refine Or.inl ⟨by rfl, ?_⟩; intro w hSw; (try dsimp only at hSw); go_simp; try with_reducible rfl)); try simp only [Act.put, List.setIfInBounds_toArray, List.set_cons_zero, List.set_cons_succ])
        (refine wpAnyH_take (i := 3) (oi := ?_) (v := ?_) ?_ (by kernel_rfl) (by kernel_rfl) (by kernel_rfl) ?_ ?_ (by assumption) ?_; rotate_left 2; (focus ((simp only [List.getElem?_toArray, List.getElem?_cons_succ, List.getElem?_cons_zero]); try rfl)); (focus (exact (fun _ _ _ h => h))); (focus (refine Or.inl ⟨by rfl, ?_⟩; intro w hSw; (try dsimp only at hSw); go_simp; try with_reducible rfl)); try simp only [Act.put, List.setIfInBounds_toArray, List.set_cons_zero, List.set_cons_succ])
        (refine wpAnyH_take (i := 4) (oi := ?_) (v := undef) ?_ (by kernel_rfl) (by kernel_rfl) (by kernel_rfl) ?_ ?_ (by assumption) ?_; rotate_left 1; (focus ((simp only [List.getElem?_toArray, List.getElem?_cons_succ, List.getElem?_cons_zero]); try rfl)); (focus (exact (fun _ _ _ h => h))); (focus (exact Or.inr ⟨by rfl, rfl⟩)); try simp only [Act.put, List.setIfInBounds_toArray, List.set_cons_zero, List.set_cons_succ])
        (refine wpAnyH_take (i := 5) (oi := ?_) (v := undef) ?_ (by kernel_rfl) (by kernel_rfl) (by kernel_rfl) ?_ ?_ (by assumption) ?_; rotate_left 1; (focus ((simp only [List.getElem?_toArray, List.getElem?_cons_succ, List.getElem?_cons_zero]); try rfl)); (focus (exact (fun _ _ _ h => h))); (focus (exact Or.inr ⟨by rfl, rfl⟩)); try simp only [Act.put, List.setIfInBounds_toArray, List.set_cons_zero, List.set_cons_succ])
        (refine wpAnyH_take (i := 6) (oi := ?_) (v := undef) ?_ (by kernel_rfl) (by kernel_rfl) (by kernel_rfl) ?_ ?_ (by assumption) ?_; rotate_left 1; (focus ((simp only [List.getElem?_toArray, List.getElem?_cons_succ, List.getElem?_cons_zero]); try rfl)); (focus (exact (fun _ _ _ h => h))); (focus (exact Or.inr ⟨by rfl, rfl⟩)); try simp only [Act.put, List.setIfInBounds_toArray, List.set_cons_zero, List.set_cons_succ])
        (refine wpAnyH_take (i := 7) (oi := ?_) (v := undef) ?_ (by kernel_rfl) (by kernel_rfl) (by kernel_rfl) ?_ ?_ (by assumption) ?_; rotate_left 1; (focus ((simp only [List.getElem?_toArray, List.getElem?_cons_succ, List.getElem?_cons_zero]); try rfl)); (focus (exact (fun _ _ _ h => h))); (focus (exact Or.inr ⟨by rfl, rfl⟩)); try simp only [Act.put, List.setIfInBounds_toArray, List.set_cons_zero, List.set_cons_succ])
        (refine wpAnyH_take (i := 8) (oi := ?_) (v := undef) ?_ (by kernel_rfl) (by kernel_rfl) (by kernel_rfl) ?_ ?_ (by assumption) ?_; rotate_left 1; (focus ((simp only [List.getElem?_toArray, List.getElem?_cons_succ, List.getElem?_cons_zero]); try rfl)); (focus (exact (fun _ _ _ h => h))); (focus (exact Or.inr ⟨by rfl, rfl⟩)); try simp only [Act.put, List.setIfInBounds_toArray, List.set_cons_zero, List.set_cons_succ])
        (refine wpAnyH_take (i := 9) (oi := ?_) (v := ?_) ?_ (by kernel_rfl) (by kernel_rfl) (by kernel_rfl) ?_ ?_ (by assumption) ?_; rotate_left 2; (focus ((simp only [List.getElem?_toArray, List.getElem?_cons_succ, List.getElem?_cons_zero]); try rfl)); (focus (exact (fun _ _ _ h => h))); (focus (refine Or.inl ⟨by rfl, ?_⟩; intro w hSw; (try dsimp only at hSw); go_simp; try with_reducible rfl)); try simp only [Act.put, List.setIfInBounds_toArray, List.set_cons_zero, List.set_cons_succ])
        (refine wpAnyH_take (i := 10) (oi := ?_) (v := ?_) ?_ (by kernel_rfl) (by kernel_rfl) (by kernel_rfl) ?_ ?_ (by assumption) ?_; rotate_left 2; (focus ((simp only [List.getElem?_toArray, List.getElem?_cons_succ, List.getElem?_cons_zero]); try rfl)); (focus (exact (fun _ _ _ h => h))); (focus (refine Or.inl ⟨by rfl, ?_⟩; intro w hSw; (try dsimp only at hSw); go_simp; try with_reducible rfl)); try simp only [Act.put, List.setIfInBounds_toArray, List.set_cons_zero, List.set_cons_succ])
        (refine wpAnyH_take (i := 11) (oi := ?_) (v := undef) ?_ (by kernel_rfl) (by kernel_rfl) (by kernel_rfl) ?_ ?_ (by assumption) ?_; rotate_left 1; (focus ((simp only [List.getElem?_toArray, List.getElem?_cons_succ, List.getElem?_cons_zero]); try rfl)); (focus (exact (fun _ _ _ h => h))); (focus (exact Or.inr ⟨by rfl, rfl⟩)); try simp only [Act.put, List.setIfInBounds_toArray, List.set_cons_zero, List.set_cons_succ])
        (refine wpAnyH_take (i := 12) (oi := ?_) (v := undef) ?_ (by kernel_rfl) (by kernel_rfl) (by kernel_rfl) ?_ ?_ (by assumption) ?_; rotate_left 1; (focus ((simp only [List.getElem?_toArray, List.getElem?_cons_succ, List.getElem?_cons_zero]); try rfl)); (focus (exact (fun _ _ _ h => h))); (focus (exact Or.inr ⟨by rfl, rfl⟩)); try simp only [Act.put, List.setIfInBounds_toArray, List.set_cons_zero, List.set_cons_succ])
        (refine wpAnyH_take (i := 13) (oi := ?_) (v := undef) ?_ (by kernel_rfl) (by kernel_rfl) (by kernel_rfl) ?_ ?_ (by assumption) ?_; rotate_left 1; (focus ((simp only [List.getElem?_toArray, List.getElem?_cons_succ, List.getElem?_cons_zero]); try rfl)); (focus (exact (fun _ _ _ h => h))); (focus (exact Or.inr ⟨by rfl, rfl⟩)); try simp only [Act.put, List.setIfInBounds_toArray, List.set_cons_zero, List.set_cons_succ])
        (refine wpAnyH_take (i := 14) (oi := ?_) (v := undef) ?_ (by kernel_rfl) (by kernel_rfl) (by kernel_rfl) ?_ ?_ (by assumption) ?_; rotate_left 1; (focus ((simp only [List.getElem?_toArray, List.getElem?_cons_succ, List.getElem?_cons_zero]); try rfl)); (focus (exact (fun _ _ _ h => h))); (focus (exact Or.inr ⟨by rfl, rfl⟩)); try simp only [Act.put, List.setIfInBounds_toArray, List.set_cons_zero, List.set_cons_succ])
        (refine wpAnyH_take (i := 15) (oi := ?_) (v := undef) ?_ (by kernel_rfl) (by kernel_rfl) (by kernel_rfl) ?_ ?_ (by assumption) ?_; rotate_left 1; (focus ((simp only [List.getElem?_toArray, List.getElem?_cons_succ, List.getElem?_cons_zero]); try rfl)); (focus (exact (fun _ _ _ h => h))); (focus (exact Or.inr ⟨by rfl, rfl⟩)); try simp only [Act.put, List.setIfInBounds_toArray, List.set_cons_zero, List.set_cons_succ])
        (refine wpAnyH_take (i := 16) (oi := ?_) (v := ?_) ?_ (by kernel_rfl) (by kernel_rfl) (by kernel_rfl) ?_ ?_ (by assumption) ?_; rotate_left 2; (focus ((simp only [List.getElem?_toArray, List.getElem?_cons_succ, List.getElem?_cons_zero]); try rfl)); (focus (exact (fun _ _ _ h => h))); (focus (refine Or.inl ⟨by rfl, ?_⟩; intro w hSw; (try dsimp only at hSw); go_simp; try with_reducible rfl)); try simp only [Act.put, List.setIfInBounds_toArray, List.set_cons_zero, List.set_cons_succ])
        (refine wpAnyH_take (i := 17) (oi := ?_) (v := ?_) ?_ (by kernel_rfl) (by kernel_rfl) (by kernel_rfl) ?_ ?_ (by assumption) ?_; rotate_left 2; (focus ((simp only [List.getElem?_toArray, List.getElem?_cons_succ, List.getElem?_cons_zero]); try rfl)); (focus (exact (fun _ _ _ h => h))); (focus (refine Or.inl ⟨by rfl, ?_⟩; intro w hSw; (try dsimp only at hSw); go_simp; try with_reducible rfl)); try simp only [Act.put, List.setIfInBounds_toArray, List.set_cons_zero, List.set_cons_succ])
        (refine wpAnyH_take (i := 18) (oi := ?_) (v := undef) ?_ (by kernel_rfl) (by kernel_rfl) (by kernel_rfl) ?_ ?_ (by assumption) ?_; rotate_left 1; (focus ((simp only [List.getElem?_toArray, List.getElem?_cons_succ, List.getElem?_cons_zero]); try rfl)); (focus (exact (fun _ _ _ h => h))); (focus (exact Or.inr ⟨by rfl, rfl⟩)); try simp only [Act.put, List.setIfInBounds_toArray, List.set_cons_zero, List.set_cons_succ])
        (refine wpAnyH_take (i := 19) (oi := ?_) (v := undef) ?_ (by kernel_rfl) (by kernel_rfl) (by kernel_rfl) ?_ ?_ (by assumption) ?_; rotate_left 1; (focus ((simp only [List.getElem?_toArray, List.getElem?_cons_succ, List.getElem?_cons_zero]); try rfl)); (focus (exact (fun _ _ _ h => h))); (focus (exact Or.inr ⟨by rfl, rfl⟩)); try simp only [Act.put, List.setIfInBounds_toArray, List.set_cons_zero, List.set_cons_succ])
        (refine wpAnyH_take (i := 20) (oi := ?_) (v := undef) ?_ (by kernel_rfl) (by kernel_rfl) (by kernel_rfl) ?_ ?_ (by assumption) ?_; rotate_left 1; (focus ((simp only [List.getElem?_toArray, List.getElem?_cons_succ, List.getElem?_cons_zero]); try rfl)); (focus (exact (fun _ _ _ h => h))); (focus (exact Or.inr ⟨by rfl, rfl⟩)); try simp only [Act.put, List.setIfInBounds_toArray, List.set_cons_zero, List.set_cons_succ])
        (refine wpAnyH_take (i := 21) (oi := ?_) (v := undef) ?_ (by kernel_rfl) (by kernel_rfl) (by kernel_rfl) ?_ ?_ (by assumption) ?_; rotate_left 1; (focus ((simp only [List.getElem?_toArray, List.getElem?_cons_succ, List.getElem?_cons_zero]); try rfl)); (focus (exact (fun _ _ _ h => h))); (focus (exact Or.inr ⟨by rfl, rfl⟩)); try simp only [Act.put, List.setIfInBounds_toArray, List.set_cons_zero, List.set_cons_succ])
        (refine wpAnyH_take (i := 22) (oi := ?_) (v := undef) ?_ (by kernel_rfl) (by kernel_rfl) (by kernel_rfl) ?_ ?_ (by assumption) ?_; rotate_left 1; (focus ((simp only [List.getElem?_toArray, List.getElem?_cons_succ, List.getElem?_cons_zero]); try rfl)); (focus (exact (fun _ _ _ h => h))); (focus (exact Or.inr ⟨by rfl, rfl⟩)); try simp only [Act.put, List.setIfInBounds_toArray, List.set_cons_zero, List.set_cons_succ])
        (refine wpAnyH_take (i := 23) (oi := ?_) (v := undef) ?_ (by kernel_rfl) (by kernel_rfl) (by kernel_rfl) ?_ ?_ (by assumption) ?_; rotate_left 1; (focus ((simp only [List.getElem?_toArray, List.getElem?_cons_succ, List.getElem?_cons_zero]); try rfl)); (focus (exact (fun _ _ _ h => h))); (focus (exact Or.inr ⟨by rfl, rfl⟩)); try simp only [Act.put, List.setIfInBounds_toArray, List.set_cons_zero, List.set_cons_succ])
        (refine wpAnyH_take (i := 24) (oi := ?_) (v := undef) ?_ (by kernel_rfl) (by kernel_rfl) (by kernel_rfl) ?_ ?_ (by assumption) ?_; rotate_left 1; (focus ((simp only [List.getElem?_toArray, List.getElem?_cons_succ, List.getElem?_cons_zero]); try rfl)); (focus (exact (fun _ _ _ h => h))); (focus (exact Or.inr ⟨by rfl, rfl⟩)); try simp only [Act.put, List.setIfInBounds_toArray, List.set_cons_zero, List.set_cons_succ])
        (refine wpAnyH_take (i := 25) (oi := ?_) (v := undef) ?_ (by kernel_rfl) (by kernel_rfl) (by kernel_rfl) ?_ ?_ (by assumption) ?_; rotate_left 1; (focus ((simp only [List.getElem?_toArray, List.getElem?_cons_succ, List.getElem?_cons_zero]); try rfl)); (focus (exact (fun _ _ _ h => h))); (focus (exact Or.inr ⟨by rfl, rfl⟩)); try simp only [Act.put, List.setIfInBounds_toArray, List.set_cons_zero, List.set_cons_succ])
        (refine wpAnyH_take (i := 26) (oi := ?_) (v := undef) ?_ (by kernel_rfl) (by kernel_rfl) (by kernel_rfl) ?_ ?_ (by assumption) ?_; rotate_left 1; (focus ((simp only [List.getElem?_toArray, List.getElem?_cons_succ, List.getElem?_cons_zero]); try rfl)); (focus (exact (fun _ _ _ h => h))); (focus (exact Or.inr ⟨by rfl, rfl⟩)); try simp only [Act.put, List.setIfInBounds_toArray, List.set_cons_zero, List.set_cons_succ])
        (refine wpAnyH_take (i := 27) (oi := ?_) (v := undef) ?_ (by kernel_rfl) (by kernel_rfl) (by kernel_rfl) ?_ ?_ (by assumption) ?_; rotate_left 1; (focus ((simp only [List.getElem?_toArray, List.getElem?_cons_succ, List.getElem?_cons_zero]); try rfl)); (focus (exact (fun _ _ _ h => h))); (focus (exact Or.inr ⟨by rfl, rfl⟩)); try simp only [Act.put, List.setIfInBounds_toArray, List.set_cons_zero, List.set_cons_succ])
        (refine wpAnyH_take (i := 28) (oi := ?_) (v := undef) ?_ (by kernel_rfl) (by kernel_rfl) (by kernel_rfl) ?_ ?_ (by assumption) ?_; rotate_left 1; (focus ((simp only [List.getElem?_toArray, List.getElem?_cons_succ, List.getElem?_cons_zero]); try rfl)); (focus (exact (fun _ _ _ h => h))); (focus (exact Or.inr ⟨by rfl, rfl⟩)); try simp only [Act.put, List.setIfInBounds_toArray, List.set_cons_zero, List.set_cons_succ])
        (refine wpAnyH_take (i := 29) (oi := ?_) (v := undef) ?_ (by kernel_rfl) (by kernel_rfl) (by kernel_rfl) ?_ ?_ (by assumption) ?_; rotate_left 1; (focus ((simp only [List.getElem?_toArray, List.getElem?_cons_succ, List.getElem?_cons_zero]); try rfl)); (focus (exact (fun _ _ _ h => h))); (focus (exact Or.inr ⟨by rfl, rfl⟩)); try simp only [Act.put, List.setIfInBounds_toArray, List.set_cons_zero, List.set_cons_succ])
        (refine wpAnyH_take (i := 30) (oi := ?_) (v := undef) ?_ (by kernel_rfl) (by kernel_rfl) (by kernel_rfl) ?_ ?_ (by assumption) ?_; rotate_left 1; (focus ((simp only [List.getElem?_toArray, List.getElem?_cons_succ, List.getElem?_cons_zero]); try rfl)); (focus (exact (fun _ _ _ h => h))); (focus (exact Or.inr ⟨by rfl, rfl⟩)); try simp only [Act.put, List.setIfInBounds_toArray, List.set_cons_zero, List.set_cons_succ])
        (refine wpAnyH_take (i := 31) (oi := ?_) (v := undef) ?_ (by kernel_rfl) (by kernel_rfl) (by kernel_rfl) ?_ ?_ (by assumption) ?_; rotate_left 1; (focus ((simp only [List.getElem?_toArray, List.getElem?_cons_succ, List.getElem?_cons_zero]); try rfl)); (focus (exact (fun _ _ _ h => h))); (focus (exact Or.inr ⟨by rfl, rfl⟩)); try simp only [Act.put, List.setIfInBounds_toArray, List.set_cons_zero, List.set_cons_succ])
        (refine wpAnyH_take (i := 32) (oi := ?_) (v := ?_) ?_ (by kernel_rfl) (by kernel_rfl) (by kernel_rfl) ?_ ?_ (by assumption) ?_; rotate_left 2; (focus ((simp only [List.getElem?_toArray, List.getElem?_cons_succ, List.getElem?_cons_zero]); try rfl)); (focus (exact (fun _ _ _ h => h))); (focus (refine Or.inl ⟨by rfl, ?_⟩; intro w hSw; (try dsimp only at hSw); go_simp; try with_reducible rfl)); try simp only [Act.put, List.setIfInBounds_toArray, List.set_cons_zero, List.set_cons_succ])
        refine wpAnyH_done (by kernel_rfl) ?_ _
        go_wp2_with fail
        go_ret
        exact ⟨ret_b (by rw [← hbb.out, hst.out]; rfl), fwA.seqN fq⟩
      | true =>
      rw [Bool.true_and] at hst
      cases h1 : p.t == t with
      | false =>
        rw [h1, Bool.false_and] at hst
        have hbn : (p.t != t) = true := by simp [bne, h1]
        replace hst := Lib.hid hst
        go_upto_region 23 with fail
        generalize (wr.alloc (.cells #[.int .i64 p.a, .int .i64 p.t, .int .i64 p.j, .int .i64 p.n, .slice ua cl uc, .bool p.lo] 32)) = wA at *
        obtain ⟨ga, hga⟩ : ∃ g, wr.heap.size = g := ⟨_, rfl⟩
        rw [hga] at hS ⊢
        replace hga := Lib.hid hga
        clear c0 c1 c2 c3 c4 c5 d13
        refine wp_region_held_drew (S := fun w' => (w'.cell? ⟨gx, 13, none⟩ = some (.slice (some ⟨g, o, none⟩) N qc) ∧ w'.cell? ⟨gx, 2, none⟩ = some (.int .i64 t) ∧ w'.cell? ⟨gx, 3, none⟩ = some (.int .i64 j)) ∧ w'.cell? ⟨ga, 0, none⟩ = some (.int .i64 p.a) ∧ w'.cell? ⟨ga, 1, none⟩ = some (.int .i64 p.t) ∧ w'.cell? ⟨ga, 2, none⟩ = some (.int .i64 p.j) ∧ w'.cell? ⟨ga, 3, none⟩ = some (.int .i64 p.n) ∧ w'.cell? ⟨ga, 4, none⟩ = some (.slice ua cl uc) ∧ w'.cell? ⟨ga, 5, none⟩ = some (.bool p.lo)) (by kernel_rfl) (hS.out _ ((Fr.refl noB _).drewN 1)) (fun hHeld => ?_)
        (refine wpAnyH_take (i := 0) (oi := ?_) (v := ?_) ?_ (by kernel_rfl) (by kernel_rfl) (by kernel_rfl) ?_ ?_ (by assumption) ?_; rotate_left 2; (focus ((simp only [List.getElem?_toArray, List.getElem?_cons_succ, List.getElem?_cons_zero]); try rfl)); (focus (exact (fun _ _ _ h => h))); (focus (refine Or.inl ⟨by rfl, ?_⟩; intro w hSw; (try dsimp only at hSw); go_simp; try with_reducible rfl)); try simp only [Act.put, List.setIfInBounds_toArray, List.set_cons_zero, List.set_cons_succ])
        refine wpAnyH_ready (rs := [1]) (by kernel_rfl) (by simp) (AllReadyH.cons rfl (fun K hK => ?_) AllReadyH.nil)
        go_simp
        go_at_call 26; refine (hrt.out _ (fwA.seqN ((Fr.refl noB _).drewN 1))).mono ?_; rintro e w5 ⟨rfl, f5⟩; have fq := ((Fr.refl noB wA).drewN 1).seqN f5
        go_wp2_with fail
        refine hK.out _ _ (hS.out _ (fq)) (fun hHeld => ?_)
        clear hK K
        try simp only [Act.put, List.setIfInBounds_toArray, List.set_cons_zero, List.set_cons_succ]
        (refine wpAnyH_take (i := 2) (oi := ?_) (v := ?_) ?_ (by kernel_rfl) (by kernel_rfl) (by kernel_rfl) ?_ ?_ (by assumption) ?_; rotate_left 2; (focus ((simp only [List.getElem?_toArray, List.getElem?_cons_succ, List.getElem?_cons_zero]); try rfl)); (focus (exact (fun _ _ _ h => h))); (focus (refine Or.inl ⟨by rfl, ?_⟩; intro w hSw; (try dsimp only at hSw); go_simp; try with_reducible rfl)); try simp only [Act.put, List.setIfInBounds_toArray, List.set_cons_zero, List.set_cons_succ])
        (refine wpAnyH_take (i := 3) (oi := ?_) (v := ?_) ?_ (by kernel_rfl) (by kernel_rfl) (by kernel_rfl) ?_ ?_ (by assumption) ?_; rotate_left 2; (focus ((simp only [List.getElem?_toArray, List.getElem?_cons_succ, List.getElem?_cons_zero]); try rfl)); (focus (exact (fun _ _ _ h => h))); (focus (refine Or.inl ⟨by rfl, ?_⟩; intro w hSw; (try dsimp only at hSw); go_simp; try with_reducible rfl)); try simp only [Act.put, List.setIfInBounds_toArray, List.set_cons_zero, List.set_cons_succ])
        (refine wpAnyH_take (i := 4) (oi := ?_) (v := ?_) ?_ (by kernel_rfl) (by kernel_rfl) (by kernel_rfl) ?_ ?_ (by assumption) ?_; rotate_left 2; (focus ((simp only [List.getElem?_toArray, List.getElem?_cons_succ, List.getElem?_cons_zero]); try rfl)); (focus (exact (fun _ _ _ h => h))); (focus (refine Or.inl ⟨by rfl, ?_⟩; intro w hSw; (try dsimp only at hSw); go_simp; try with_reducible rfl)); try simp only [Act.put, List.setIfInBounds_toArray, List.set_cons_zero, List.set_cons_succ])
        (refine wpAnyH_take (i := 5) (oi := ?_) (v := ?_) ?_ (by kernel_rfl) (by kernel_rfl) (by kernel_rfl) ?_ ?_ (by assumption) ?_; rotate_left 2; (focus ((simp only [List.getElem?_toArray, List.getElem?_cons_succ, List.getElem?_cons_zero]); try rfl)); (focus (exact (fun _ _ _ h => h))); (focus (refine Or.inl ⟨by rfl, ?_⟩; intro w hSw; (try dsimp only at hSw); go_simp; try with_reducible rfl)); try simp only [Act.put, List.setIfInBounds_toArray, List.set_cons_zero, List.set_cons_succ])
        (refine wpAnyH_take (i := 6) (oi := ?_) (v := ?_) ?_ (by kernel_rfl) (by kernel_rfl) (by kernel_rfl) ?_ ?_ (by assumption) ?_; rotate_left 2; (focus ((simp only [List.getElem?_toArray, List.getElem?_cons_succ, List.getElem?_cons_zero]); try rfl)); (focus (exact (fun _ _ _ h => h))); (focus (refine Or.inl ⟨by rfl, ?_⟩; intro w hSw; (try dsimp only at hSw); go_simp; try with_reducible rfl)); try simp only [Act.put, List.setIfInBounds_toArray, List.set_cons_zero, List.set_cons_succ])
        (refine wpAnyH_take (i := 7) (oi := ?_) (v := ?_) ?_ (by kernel_rfl) (by kernel_rfl) (by kernel_rfl) ?_ ?_ (by assumption) ?_; rotate_left 2; (focus ((simp only [List.getElem?_toArray, List.getElem?_cons_succ, List.getElem?_cons_zero]); try rfl)); (focus (exact (fun _ _ _ h => h))); (focus (refine Or.inl ⟨by rfl, ?_⟩; intro w hSw; (try dsimp only at hSw); go_simp; try with_reducible rfl)); try simp only [Act.put, List.setIfInBounds_toArray, List.set_cons_zero, List.set_cons_succ])
        (refine wpAnyH_take (i := 8) (oi := ?_) (v := ?_) ?_ (by kernel_rfl) (by kernel_rfl) (by kernel_rfl) ?_ ?_ (by assumption) ?_; rotate_left 2; (focus ((simp only [List.getElem?_toArray, List.getElem?_cons_succ, List.getElem?_cons_zero]); try rfl)); (focus (exact (fun _ _ _ h => h))); (focus (refine Or.inl ⟨by rfl, ?_⟩; intro w hSw; (try dsimp only at hSw); go_simp; try with_reducible rfl)); try simp only [Act.put, List.setIfInBounds_toArray, List.set_cons_zero, List.set_cons_succ])
        (refine wpAnyH_take (i := 9) (oi := ?_) (v := ?_) ?_ (by kernel_rfl) (by kernel_rfl) (by kernel_rfl) ?_ ?_ (by assumption) ?_; rotate_left 2; (focus ((simp only [List.getElem?_toArray, List.getElem?_cons_succ, List.getElem?_cons_zero]); try rfl)); (focus (exact (fun _ _ _ h => h))); (focus (refine Or.inl ⟨by rfl, ?_⟩; intro w hSw; (try dsimp only at hSw); go_simp; try with_reducible rfl)); try simp only [Act.put, List.setIfInBounds_toArray, List.set_cons_zero, List.set_cons_succ])
        (refine wpAnyH_take (i := 10) (oi := ?_) (v := ?_) ?_ (by kernel_rfl) (by kernel_rfl) (by kernel_rfl) ?_ ?_ (by assumption) ?_; rotate_left 2; (focus ((simp only [List.getElem?_toArray, List.getElem?_cons_succ, List.getElem?_cons_zero]); try rfl)); (focus (exact (fun _ _ _ h => h))); (focus (refine Or.inl ⟨by rfl, ?_⟩; intro w hSw; (try dsimp only at hSw); go_simp; try with_reducible rfl)); try simp only [Act.put, List.setIfInBounds_toArray, List.set_cons_zero, List.set_cons_succ])
        (refine wpAnyH_take (i := 11) (oi := ?_) (v := undef) ?_ (by kernel_rfl) (by kernel_rfl) (by kernel_rfl) ?_ ?_ (by assumption) ?_; rotate_left 1; (focus ((simp only [List.getElem?_toArray, List.getElem?_cons_succ, List.getElem?_cons_zero]); try rfl)); (focus (exact (fun _ _ _ h => h))); (focus (exact Or.inr ⟨by rfl, rfl⟩)); try simp only [Act.put, List.setIfInBounds_toArray, List.set_cons_zero, List.set_cons_succ])
        (refine wpAnyH_take (i := 12) (oi := ?_) (v := undef) ?_ (by kernel_rfl) (by kernel_rfl) (by kernel_rfl) ?_ ?_ (by assumption) ?_; rotate_left 1; (focus ((simp only [List.getElem?_toArray, List.getElem?_cons_succ, List.getElem?_cons_zero]); try rfl)); (focus (exact (fun _ _ _ h => h))); (focus (exact Or.inr ⟨by rfl, rfl⟩)); try simp only [Act.put, List.setIfInBounds_toArray, List.set_cons_zero, List.set_cons_succ])
        (refine wpAnyH_take (i := 13) (oi := ?_) (v := undef) ?_ (by kernel_rfl) (by kernel_rfl) (by kernel_rfl) ?_ ?_ (by assumption) ?_; rotate_left 1; (focus ((simp only [List.getElem?_toArray, List.getElem?_cons_succ, List.getElem?_cons_zero]); try rfl)); (focus (exact (fun _ _ _ h => h))); (focus (exact Or.inr ⟨by rfl, rfl⟩)); try simp only [Act.put, List.setIfInBounds_toArray, List.set_cons_zero, List.set_cons_succ])
        (refine wpAnyH_take (i := 14) (oi := ?_) (v := undef) ?_ (by kernel_rfl) (by kernel_rfl) (by kernel_rfl) ?_ ?_ (by assumption) ?_; rotate_left 1; (focus ((simp only [List.getElem?_toArray, List.getElem?_cons_succ, List.getElem?_cons_zero]); try rfl)); (focus (exact (fun _ _ _ h => h))); (focus (exact Or.inr ⟨by rfl, rfl⟩)); try simp only [Act.put, List.setIfInBounds_toArray, List.set_cons_zero, List.set_cons_succ])
        (refine wpAnyH_take (i := 15) (oi := ?_) (v := undef) ?_ (by kernel_rfl) (by kernel_rfl) (by kernel_rfl) ?_ ?_ (by assumption) ?_; rotate_left 1; (focus ((simp only [List.getElem?_toArray, List.getElem?_cons_succ, List.getElem?_cons_zero]); try rfl)); (focus (exact (fun _ _ _ h => h))); (focus (exact Or.inr ⟨by rfl, rfl⟩)); try simp only [Act.put, List.setIfInBounds_toArray, List.set_cons_zero, List.set_cons_succ])
        (refine wpAnyH_take (i := 16) (oi := ?_) (v := ?_) ?_ (by kernel_rfl) (by kernel_rfl) (by kernel_rfl) ?_ ?_ (by assumption) ?_; rotate_left 2; (focus ((simp only [List.getElem?_toArray, List.getElem?_cons_succ, List.getElem?_cons_zero]); try rfl)); (focus (exact (fun _ _ _ h => h))); (focus (refine Or.inl ⟨by rfl, ?_⟩; intro w hSw; (try dsimp only at hSw); go_simp; try with_reducible rfl)); try simp only [Act.put, List.setIfInBounds_toArray, List.set_cons_zero, List.set_cons_succ])
        (refine wpAnyH_take (i := 17) (oi := ?_) (v := ?_) ?_ (by kernel_rfl) (by kernel_rfl) (by kernel_rfl) ?_ ?_ (by assumption) ?_; rotate_left 2; (focus ((simp only [List.getElem?_toArray, List.getElem?_cons_succ, List.getElem?_cons_zero]); try rfl)); (focus (exact (fun _ _ _ h => h))); (focus (refine Or.inl ⟨by rfl, ?_⟩; intro w hSw; (try dsimp only at hSw); go_simp; try with_reducible rfl)); try simp only [Act.put, List.setIfInBounds_toArray, List.set_cons_zero, List.set_cons_succ])
        (refine wpAnyH_take (i := 18) (oi := ?_) (v := undef) ?_ (by kernel_rfl) (by kernel_rfl) (by kernel_rfl) ?_ ?_ (by assumption) ?_; rotate_left 1; (focus ((simp only [List.getElem?_toArray, List.getElem?_cons_succ, List.getElem?_cons_zero]); try rfl)); (focus (exact (fun _ _ _ h => h))); (focus (exact Or.inr ⟨by rfl, rfl⟩)); try simp only [Act.put, List.setIfInBounds_toArray, List.set_cons_zero, List.set_cons_succ])
        (refine wpAnyH_take (i := 19) (oi := ?_) (v := undef) ?_ (by kernel_rfl) (by kernel_rfl) (by kernel_rfl) ?_ ?_ (by assumption) ?_; rotate_left 1; (focus ((simp only [List.getElem?_toArray, List.getElem?_cons_succ, List.getElem?_cons_zero]); try rfl)); (focus (exact (fun _ _ _ h => h))); (focus (exact Or.inr ⟨by rfl, rfl⟩)); try simp only [Act.put, List.setIfInBounds_toArray, List.set_cons_zero, List.set_cons_succ])
        (refine wpAnyH_take (i := 20) (oi := ?_) (v := undef) ?_ (by kernel_rfl) (by kernel_rfl) (by kernel_rfl) ?_ ?_ (by assumption) ?_; rotate_left 1; (focus ((simp only [List.getElem?_toArray, List.getElem?_cons_succ, List.getElem?_cons_zero]); try rfl)); (focus (exact (fun _ _ _ h => h))); (focus (exact Or.inr ⟨by rfl, rfl⟩)); try simp only [Act.put, List.setIfInBounds_toArray, List.set_cons_zero, List.set_cons_succ])
        (refine wpAnyH_take (i := 21) (oi := ?_) (v := undef) ?_ (by kernel_rfl) (by kernel_rfl) (by kernel_rfl) ?_ ?_ (by assumption) ?_; rotate_left 1; (focus ((simp only [List.getElem?_toArray, List.getElem?_cons_succ, List.getElem?_cons_zero]); try rfl)); (focus (exact (fun _ _ _ h => h))); (focus (exact Or.inr ⟨by rfl, rfl⟩)); try simp only [Act.put, List.setIfInBounds_toArray, List.set_cons_zero, List.set_cons_succ])
        (refine wpAnyH_take (i := 22) (oi := ?_) (v := undef) ?_ (by kernel_rfl) (by kernel_rfl) (by kernel_rfl) ?_ ?_ (by assumption) ?_; rotate_left 1; (focus ((simp only [List.getElem?_toArray, List.getElem?_cons_succ, List.getElem?_cons_zero]); try rfl)); (focus (exact (fun _ _ _ h => h))); (focus (exact Or.inr ⟨by rfl, rfl⟩)); try simp only [Act.put, List.setIfInBounds_toArray, List.set_cons_zero, List.set_cons_succ])
        (refine wpAnyH_take (i := 23) (oi := ?_) (v := undef) ?_ (by kernel_rfl) (by kernel_rfl) (by kernel_rfl) ?_ ?_ (by assumption) ?_; rotate_left 1; (focus ((simp only [List.getElem?_toArray, List.getElem?_cons_succ, List.getElem?_cons_zero]); try rfl)); (focus (exact (fun _ _ _ h => h))); (focus (exact Or.inr ⟨by rfl, rfl⟩)); try simp only [Act.put, List.setIfInBounds_toArray, List.set_cons_zero, List.set_cons_succ])
        (refine wpAnyH_take (i := 24) (oi := ?_) (v := undef) ?_ (by kernel_rfl) (by kernel_rfl) (by kernel_rfl) ?_ ?_ (by assumption) ?_; rotate_left 1; (focus ((simp only [List.getElem?_toArray, List.getElem?_cons_succ, List.getElem?_cons_zero]); try rfl)); (focus (exact (fun _ _ _ h => h))); (focus (exact Or.inr ⟨by rfl, rfl⟩)); try simp only [Act.put, List.setIfInBounds_toArray, List.set_cons_zero, List.set_cons_succ])
        (refine wpAnyH_take (i := 25) (oi := ?_) (v := undef) ?_ (by kernel_rfl) (by kernel_rfl) (by kernel_rfl) ?_ ?_ (by assumption) ?_; rotate_left 1; (focus ((simp only [List.getElem?_toArray, List.getElem?_cons_succ, List.getElem?_cons_zero]); try rfl)); (focus (exact (fun _ _ _ h => h))); (focus (exact Or.inr ⟨by rfl, rfl⟩)); try simp only [Act.put, List.setIfInBounds_toArray, List.set_cons_zero, List.set_cons_succ])
        (refine wpAnyH_take (i := 26) (oi := ?_) (v := undef) ?_ (by kernel_rfl) (by kernel_rfl) (by kernel_rfl) ?_ ?_ (by assumption) ?_; rotate_left 1; (focus ((simp only [List.getElem?_toArray, List.getElem?_cons_succ, List.getElem?_cons_zero]); try rfl)); (focus (exact (fun _ _ _ h => h))); (focus (exact Or.inr ⟨by rfl, rfl⟩)); try simp only [Act.put, List.setIfInBounds_toArray, List.set_cons_zero, List.set_cons_succ])
        (refine wpAnyH_take (i := 27) (oi := ?_) (v := undef) ?_ (by kernel_rfl) (by kernel_rfl) (by kernel_rfl) ?_ ?_ (by assumption) ?_; rotate_left 1; (focus ((simp only [List.getElem?_toArray, List.getElem?_cons_succ, List.getElem?_cons_zero]); try rfl)); (focus (exact (fun _ _ _ h => h))); (focus (exact Or.inr ⟨by rfl, rfl⟩)); try simp only [Act.put, List.setIfInBounds_toArray, List.set_cons_zero, List.set_cons_succ])
        (refine wpAnyH_take (i := 28) (oi := ?_) (v := undef) ?_ (by kernel_rfl) (by kernel_rfl) (by kernel_rfl) ?_ ?_ (by assumption) ?_; rotate_left 1; (focus ((simp only [List.getElem?_toArray, List.getElem?_cons_succ, List.getElem?_cons_zero]); try rfl)); (focus (exact (fun _ _ _ h => h))); (focus (exact Or.inr ⟨by rfl, rfl⟩)); try simp only [Act.put, List.setIfInBounds_toArray, List.set_cons_zero, List.set_cons_succ])
        (refine wpAnyH_take (i := 29) (oi := ?_) (v := undef) ?_ (by kernel_rfl) (by kernel_rfl) (by kernel_rfl) ?_ ?_ (by assumption) ?_; rotate_left 1; (focus ((simp only [List.getElem?_toArray, List.getElem?_cons_succ, List.getElem?_cons_zero]); try rfl)); (focus (exact (fun _ _ _ h => h))); (focus (exact Or.inr ⟨by rfl, rfl⟩)); try simp only [Act.put, List.setIfInBounds_toArray, List.set_cons_zero, List.set_cons_succ])
        (refine wpAnyH_take (i := 30) (oi := ?_) (v := undef) ?_ (by kernel_rfl) (by kernel_rfl) (by kernel_rfl) ?_ ?_ (by assumption) ?_; rotate_left 1; (focus ((simp only [List.getElem?_toArray, List.getElem?_cons_succ, List.getElem?_cons_zero]); try rfl)); (focus (exact (fun _ _ _ h => h))); (focus (exact Or.inr ⟨by rfl, rfl⟩)); try simp only [Act.put, List.setIfInBounds_toArray, List.set_cons_zero, List.set_cons_succ])
        (refine wpAnyH_take (i := 31) (oi := ?_) (v := undef) ?_ (by kernel_rfl) (by kernel_rfl) (by kernel_rfl) ?_ ?_ (by assumption) ?_; rotate_left 1; (focus ((simp only [List.getElem?_toArray, List.getElem?_cons_succ, List.getElem?_cons_zero]); try rfl)); (focus (exact (fun _ _ _ h => h))); (focus (exact Or.inr ⟨by rfl, rfl⟩)); try simp only [Act.put, List.setIfInBounds_toArray, List.set_cons_zero, List.set_cons_succ])
        (refine wpAnyH_take (i := 32) (oi := ?_) (v := ?_) ?_ (by kernel_rfl) (by kernel_rfl) (by kernel_rfl) ?_ ?_ (by assumption) ?_; rotate_left 2; (focus ((simp only [List.getElem?_toArray, List.getElem?_cons_succ, List.getElem?_cons_zero]); try rfl)); (focus (exact (fun _ _ _ h => h))); (focus (refine Or.inl ⟨by rfl, ?_⟩; intro w hSw; (try dsimp only at hSw); go_simp; try with_reducible rfl)); try simp only [Act.put, List.setIfInBounds_toArray, List.set_cons_zero, List.set_cons_succ])
        refine wpAnyH_done (by kernel_rfl) ?_ _
        go_wp2_with fail
        go_ret
        exact ⟨ret_b (by rw [← hbb.out, hst.out]; rfl), fwA.seqN fq⟩
      | true =>
      rw [h1, Bool.true_and] at hst
      have hbn : (p.t != t) = false := by simp [bne, h1]
      cases h2 : p.j == j with
      | false =>
        rw [h2, Bool.false_and] at hst
        have hbj : (p.j != j) = true := by simp [bne, h2]
        replace hst := Lib.hid hst
        go_upto_region 23 with fail
        generalize (wr.alloc (.cells #[.int .i64 p.a, .int .i64 p.t, .int .i64 p.j, .int .i64 p.n, .slice ua cl uc, .bool p.lo] 32)) = wA at *
        obtain ⟨ga, hga⟩ : ∃ g, wr.heap.size = g := ⟨_, rfl⟩
        rw [hga] at hS ⊢
        replace hga := Lib.hid hga
        clear c0 c1 c2 c3 c4 c5 d13
        refine wp_region_held_drew (S := fun w' => (w'.cell? ⟨gx, 13, none⟩ = some (.slice (some ⟨g, o, none⟩) N qc) ∧ w'.cell? ⟨gx, 2, none⟩ = some (.int .i64 t) ∧ w'.cell? ⟨gx, 3, none⟩ = some (.int .i64 j)) ∧ w'.cell? ⟨ga, 0, none⟩ = some (.int .i64 p.a) ∧ w'.cell? ⟨ga, 1, none⟩ = some (.int .i64 p.t) ∧ w'.cell? ⟨ga, 2, none⟩ = some (.int .i64 p.j) ∧ w'.cell? ⟨ga, 3, none⟩ = some (.int .i64 p.n) ∧ w'.cell? ⟨ga, 4, none⟩ = some (.slice ua cl uc) ∧ w'.cell? ⟨ga, 5, none⟩ = some (.bool p.lo)) (by kernel_rfl) (hS.out _ ((Fr.refl noB _).drewN 1)) (fun hHeld => ?_)
        (refine wpAnyH_take (i := 0) (oi := ?_) (v := ?_) ?_ (by kernel_rfl) (by kernel_rfl) (by kernel_rfl) ?_ ?_ (by assumption) ?_; rotate_left 2; (focus ((simp only [List.getElem?_toArray, List.getElem?_cons_succ, List.getElem?_cons_zero]); try rfl)); (focus (exact (fun _ _ _ h => h))); (focus (refine Or.inl ⟨by rfl, ?_⟩; intro w hSw; (try dsimp only at hSw); go_simp; try with_reducible rfl)); try simp only [Act.put, List.setIfInBounds_toArray, List.set_cons_zero, List.set_cons_succ])
        refine wpAnyH_ready (rs := [1]) (by kernel_rfl) (by simp) (AllReadyH.cons rfl (fun K hK => ?_) AllReadyH.nil)
        go_simp
        go_at_call 26; refine (hrt.out _ (fwA.seqN ((Fr.refl noB _).drewN 1))).mono ?_; rintro e w5 ⟨rfl, f5⟩; have fq := ((Fr.refl noB wA).drewN 1).seqN f5
        go_wp2_with fail
        refine hK.out _ _ (hS.out _ (fq)) (fun hHeld => ?_)
        clear hK K
        try simp only [Act.put, List.setIfInBounds_toArray, List.set_cons_zero, List.set_cons_succ]
        (refine wpAnyH_take (i := 2) (oi := ?_) (v := ?_) ?_ (by kernel_rfl) (by kernel_rfl) (by kernel_rfl) ?_ ?_ (by assumption) ?_; rotate_left 2; (focus ((simp only [List.getElem?_toArray, List.getElem?_cons_succ, List.getElem?_cons_zero]); try rfl)); (focus (exact (fun _ _ _ h => h))); (focus (refine Or.inl ⟨by rfl, ?_⟩; intro w hSw; (try dsimp only at hSw); go_simp; try with_reducible rfl)); try simp only [Act.put, List.setIfInBounds_toArray, List.set_cons_zero, List.set_cons_succ])
        (refine wpAnyH_take (i := 3) (oi := ?_) (v := ?_) ?_ (by kernel_rfl) (by kernel_rfl) (by kernel_rfl) ?_ ?_ (by assumption) ?_; rotate_left 2; (focus ((simp only [List.getElem?_toArray, List.getElem?_cons_succ, List.getElem?_cons_zero]); try rfl)); (focus (exact (fun _ _ _ h => h))); (focus (refine Or.inl ⟨by rfl, ?_⟩; intro w hSw; (try dsimp only at hSw); go_simp; try with_reducible rfl)); try simp only [Act.put, List.setIfInBounds_toArray, List.set_cons_zero, List.set_cons_succ])
        (refine wpAnyH_take (i := 4) (oi := ?_) (v := ?_) ?_ (by kernel_rfl) (by kernel_rfl) (by kernel_rfl) ?_ ?_ (by assumption) ?_; rotate_left 2; (focus ((simp only [List.getElem?_toArray, List.getElem?_cons_succ, List.getElem?_cons_zero]); try rfl)); (focus (exact (fun _ _ _ h => h))); (focus (refine Or.inl ⟨by rfl, ?_⟩; intro w hSw; (try dsimp only at hSw); go_simp; try with_reducible rfl)); try simp only [Act.put, List.setIfInBounds_toArray, List.set_cons_zero, List.set_cons_succ])
        (refine wpAnyH_take (i := 5) (oi := ?_) (v := ?_) ?_ (by kernel_rfl) (by kernel_rfl) (by kernel_rfl) ?_ ?_ (by assumption) ?_; rotate_left 2; (focus ((simp only [List.getElem?_toArray, List.getElem?_cons_succ, List.getElem?_cons_zero]); try rfl)); (focus (exact (fun _ _ _ h => h))); (focus (refine Or.inl ⟨by rfl, ?_⟩; intro w hSw; (try dsimp only at hSw); go_simp; try with_reducible rfl)); try simp only [Act.put, List.setIfInBounds_toArray, List.set_cons_zero, List.set_cons_succ])
        (refine wpAnyH_take (i := 6) (oi := ?_) (v := ?_) ?_ (by kernel_rfl) (by kernel_rfl) (by kernel_rfl) ?_ ?_ (by assumption) ?_; rotate_left 2; (focus ((simp only [List.getElem?_toArray, List.getElem?_cons_succ, List.getElem?_cons_zero]); try rfl)); (focus (exact (fun _ _ _ h => h))); (focus (refine Or.inl ⟨by rfl, ?_⟩; intro w hSw; (try dsimp only at hSw); go_simp; try with_reducible rfl)); try simp only [Act.put, List.setIfInBounds_toArray, List.set_cons_zero, List.set_cons_succ])
        (refine wpAnyH_take (i := 7) (oi := ?_) (v := ?_) ?_ (by kernel_rfl) (by kernel_rfl) (by kernel_rfl) ?_ ?_ (by assumption) ?_; rotate_left 2; (focus ((simp only [List.getElem?_toArray, List.getElem?_cons_succ, List.getElem?_cons_zero]); try rfl)); (focus (exact (fun _ _ _ h => h))); (focus (refine Or.inl ⟨by rfl, ?_⟩; intro w hSw; (try dsimp only at hSw); go_simp; try with_reducible rfl)); try simp only [Act.put, List.setIfInBounds_toArray, List.set_cons_zero, List.set_cons_succ])
        (refine wpAnyH_take (i := 8) (oi := ?_) (v := ?_) ?_ (by kernel_rfl) (by kernel_rfl) (by kernel_rfl) ?_ ?_ (by assumption) ?_; rotate_left 2; (focus ((simp only [List.getElem?_toArray, List.getElem?_cons_succ, List.getElem?_cons_zero]); try rfl)); (focus (exact (fun _ _ _ h => h))); (focus (refine Or.inl ⟨by rfl, ?_⟩; intro w hSw; (try dsimp only at hSw); go_simp; try with_reducible rfl)); try simp only [Act.put, List.setIfInBounds_toArray, List.set_cons_zero, List.set_cons_succ])
        (refine wpAnyH_take (i := 9) (oi := ?_) (v := ?_) ?_ (by kernel_rfl) (by kernel_rfl) (by kernel_rfl) ?_ ?_ (by assumption) ?_; rotate_left 2; (focus ((simp only [List.getElem?_toArray, List.getElem?_cons_succ, List.getElem?_cons_zero]); try rfl)); (focus (exact (fun _ _ _ h => h))); (focus (refine Or.inl ⟨by rfl, ?_⟩; intro w hSw; (try dsimp only at hSw); go_simp; try with_reducible rfl)); try simp only [Act.put, List.setIfInBounds_toArray, List.set_cons_zero, List.set_cons_succ])
        (refine wpAnyH_take (i := 10) (oi := ?_) (v := ?_) ?_ (by kernel_rfl) (by kernel_rfl) (by kernel_rfl) ?_ ?_ (by assumption) ?_; rotate_left 2; (focus ((simp only [List.getElem?_toArray, List.getElem?_cons_succ, List.getElem?_cons_zero]); try rfl)); (focus (exact (fun _ _ _ h => h))); (focus (refine Or.inl ⟨by rfl, ?_⟩; intro w hSw; (try dsimp only at hSw); go_simp; try with_reducible rfl)); try simp only [Act.put, List.setIfInBounds_toArray, List.set_cons_zero, List.set_cons_succ])
        (refine wpAnyH_take (i := 11) (oi := ?_) (v := ?_) ?_ (by kernel_rfl) (by kernel_rfl) (by kernel_rfl) ?_ ?_ (by assumption) ?_; rotate_left 2; (focus ((simp only [List.getElem?_toArray, List.getElem?_cons_succ, List.getElem?_cons_zero]); try rfl)); (focus (exact (fun _ _ _ h => h))); (focus (refine Or.inl ⟨by rfl, ?_⟩; intro w hSw; (try dsimp only at hSw); go_simp; try with_reducible rfl)); try simp only [Act.put, List.setIfInBounds_toArray, List.set_cons_zero, List.set_cons_succ])
        (refine wpAnyH_take (i := 12) (oi := ?_) (v := ?_) ?_ (by kernel_rfl) (by kernel_rfl) (by kernel_rfl) ?_ ?_ (by assumption) ?_; rotate_left 2; (focus ((simp only [List.getElem?_toArray, List.getElem?_cons_succ, List.getElem?_cons_zero]); try rfl)); (focus (exact (fun _ _ _ h => h))); (focus (refine Or.inl ⟨by rfl, ?_⟩; intro w hSw; (try dsimp only at hSw); go_simp; try with_reducible rfl)); try simp only [Act.put, List.setIfInBounds_toArray, List.set_cons_zero, List.set_cons_succ])
        (refine wpAnyH_take (i := 13) (oi := ?_) (v := ?_) ?_ (by kernel_rfl) (by kernel_rfl) (by kernel_rfl) ?_ ?_ (by assumption) ?_; rotate_left 2; (focus ((simp only [List.getElem?_toArray, List.getElem?_cons_succ, List.getElem?_cons_zero]); try rfl)); (focus (exact (fun _ _ _ h => h))); (focus (refine Or.inl ⟨by rfl, ?_⟩; intro w hSw; (try dsimp only at hSw); go_simp; try with_reducible rfl)); try simp only [Act.put, List.setIfInBounds_toArray, List.set_cons_zero, List.set_cons_succ])
        (refine wpAnyH_take (i := 14) (oi := ?_) (v := ?_) ?_ (by kernel_rfl) (by kernel_rfl) (by kernel_rfl) ?_ ?_ (by assumption) ?_; rotate_left 2; (focus ((simp only [List.getElem?_toArray, List.getElem?_cons_succ, List.getElem?_cons_zero]); try rfl)); (focus (exact (fun _ _ _ h => h))); (focus (refine Or.inl ⟨by rfl, ?_⟩; intro w hSw; (try dsimp only at hSw); go_simp; try with_reducible rfl)); try simp only [Act.put, List.setIfInBounds_toArray, List.set_cons_zero, List.set_cons_succ])
        (refine wpAnyH_take (i := 15) (oi := ?_) (v := ?_) ?_ (by kernel_rfl) (by kernel_rfl) (by kernel_rfl) ?_ ?_ (by assumption) ?_; rotate_left 2; (focus ((simp only [List.getElem?_toArray, List.getElem?_cons_succ, List.getElem?_cons_zero]); try rfl)); (focus (exact (fun _ _ _ h => h))); (focus (refine Or.inl ⟨by rfl, ?_⟩; intro w hSw; (try dsimp only at hSw); go_simp; try with_reducible rfl)); try simp only [Act.put, List.setIfInBounds_toArray, List.set_cons_zero, List.set_cons_succ])
        (refine wpAnyH_take (i := 16) (oi := ?_) (v := ?_) ?_ (by kernel_rfl) (by kernel_rfl) (by kernel_rfl) ?_ ?_ (by assumption) ?_; rotate_left 2; (focus ((simp only [List.getElem?_toArray, List.getElem?_cons_succ, List.getElem?_cons_zero]); try rfl)); (focus (exact (fun _ _ _ h => h))); (focus (refine Or.inl ⟨by rfl, ?_⟩; intro w hSw; (try dsimp only at hSw); go_simp; try with_reducible rfl)); try simp only [Act.put, List.setIfInBounds_toArray, List.set_cons_zero, List.set_cons_succ])
        (refine wpAnyH_take (i := 17) (oi := ?_) (v := ?_) ?_ (by kernel_rfl) (by kernel_rfl) (by kernel_rfl) ?_ ?_ (by assumption) ?_; rotate_left 2; (focus ((simp only [List.getElem?_toArray, List.getElem?_cons_succ, List.getElem?_cons_zero]); try rfl)); (focus (exact (fun _ _ _ h => h))); (focus (refine Or.inl ⟨by rfl, ?_⟩; intro w hSw; (try dsimp only at hSw); go_simp; try with_reducible rfl)); try simp only [Act.put, List.setIfInBounds_toArray, List.set_cons_zero, List.set_cons_succ])
        (refine wpAnyH_take (i := 18) (oi := ?_) (v := undef) ?_ (by kernel_rfl) (by kernel_rfl) (by kernel_rfl) ?_ ?_ (by assumption) ?_; rotate_left 1; (focus ((simp only [List.getElem?_toArray, List.getElem?_cons_succ, List.getElem?_cons_zero]); try rfl)); (focus (exact (fun _ _ _ h => h))); (focus (exact Or.inr ⟨by rfl, rfl⟩)); try simp only [Act.put, List.setIfInBounds_toArray, List.set_cons_zero, List.set_cons_succ])
        (refine wpAnyH_take (i := 19) (oi := ?_) (v := undef) ?_ (by kernel_rfl) (by kernel_rfl) (by kernel_rfl) ?_ ?_ (by assumption) ?_; rotate_left 1; (focus ((simp only [List.getElem?_toArray, List.getElem?_cons_succ, List.getElem?_cons_zero]); try rfl)); (focus (exact (fun _ _ _ h => h))); (focus (exact Or.inr ⟨by rfl, rfl⟩)); try simp only [Act.put, List.setIfInBounds_toArray, List.set_cons_zero, List.set_cons_succ])
        (refine wpAnyH_take (i := 20) (oi := ?_) (v := undef) ?_ (by kernel_rfl) (by kernel_rfl) (by kernel_rfl) ?_ ?_ (by assumption) ?_; rotate_left 1; (focus ((simp only [List.getElem?_toArray, List.getElem?_cons_succ, List.getElem?_cons_zero]); try rfl)); (focus (exact (fun _ _ _ h => h))); (focus (exact Or.inr ⟨by rfl, rfl⟩)); try simp only [Act.put, List.setIfInBounds_toArray, List.set_cons_zero, List.set_cons_succ])
        (refine wpAnyH_take (i := 21) (oi := ?_) (v := undef) ?_ (by kernel_rfl) (by kernel_rfl) (by kernel_rfl) ?_ ?_ (by assumption) ?_; rotate_left 1; (focus ((simp only [List.getElem?_toArray, List.getElem?_cons_succ, List.getElem?_cons_zero]); try rfl)); (focus (exact (fun _ _ _ h => h))); (focus (exact Or.inr ⟨by rfl, rfl⟩)); try simp only [Act.put, List.setIfInBounds_toArray, List.set_cons_zero, List.set_cons_succ])
        (refine wpAnyH_take (i := 22) (oi := ?_) (v := undef) ?_ (by kernel_rfl) (by kernel_rfl) (by kernel_rfl) ?_ ?_ (by assumption) ?_; rotate_left 1; (focus ((simp only [List.getElem?_toArray, List.getElem?_cons_succ, List.getElem?_cons_zero]); try rfl)); (focus (exact (fun _ _ _ h => h))); (focus (exact Or.inr ⟨by rfl, rfl⟩)); try simp only [Act.put, List.setIfInBounds_toArray, List.set_cons_zero, List.set_cons_succ])
        (refine wpAnyH_take (i := 23) (oi := ?_) (v := undef) ?_ (by kernel_rfl) (by kernel_rfl) (by kernel_rfl) ?_ ?_ (by assumption) ?_; rotate_left 1; (focus ((simp only [List.getElem?_toArray, List.getElem?_cons_succ, List.getElem?_cons_zero]); try rfl)); (focus (exact (fun _ _ _ h => h))); (focus (exact Or.inr ⟨by rfl, rfl⟩)); try simp only [Act.put, List.setIfInBounds_toArray, List.set_cons_zero, List.set_cons_succ])
        (refine wpAnyH_take (i := 24) (oi := ?_) (v := undef) ?_ (by kernel_rfl) (by kernel_rfl) (by kernel_rfl) ?_ ?_ (by assumption) ?_; rotate_left 1; (focus ((simp only [List.getElem?_toArray, List.getElem?_cons_succ, List.getElem?_cons_zero]); try rfl)); (focus (exact (fun _ _ _ h => h))); (focus (exact Or.inr ⟨by rfl, rfl⟩)); try simp only [Act.put, List.setIfInBounds_toArray, List.set_cons_zero, List.set_cons_succ])
        (refine wpAnyH_take (i := 25) (oi := ?_) (v := undef) ?_ (by kernel_rfl) (by kernel_rfl) (by kernel_rfl) ?_ ?_ (by assumption) ?_; rotate_left 1; (focus ((simp only [List.getElem?_toArray, List.getElem?_cons_succ, List.getElem?_cons_zero]); try rfl)); (focus (exact (fun _ _ _ h => h))); (focus (exact Or.inr ⟨by rfl, rfl⟩)); try simp only [Act.put, List.setIfInBounds_toArray, List.set_cons_zero, List.set_cons_succ])
        (refine wpAnyH_take (i := 26) (oi := ?_) (v := undef) ?_ (by kernel_rfl) (by kernel_rfl) (by kernel_rfl) ?_ ?_ (by assumption) ?_; rotate_left 1; (focus ((simp only [List.getElem?_toArray, List.getElem?_cons_succ, List.getElem?_cons_zero]); try rfl)); (focus (exact (fun _ _ _ h => h))); (focus (exact Or.inr ⟨by rfl, rfl⟩)); try simp only [Act.put, List.setIfInBounds_toArray, List.set_cons_zero, List.set_cons_succ])
        (refine wpAnyH_take (i := 27) (oi := ?_) (v := undef) ?_ (by kernel_rfl) (by kernel_rfl) (by kernel_rfl) ?_ ?_ (by assumption) ?_; rotate_left 1; (focus ((simp only [List.getElem?_toArray, List.getElem?_cons_succ, List.getElem?_cons_zero]); try rfl)); (focus (exact (fun _ _ _ h => h))); (focus (exact Or.inr ⟨by rfl, rfl⟩)); try simp only [Act.put, List.setIfInBounds_toArray, List.set_cons_zero, List.set_cons_succ])
        (refine wpAnyH_take (i := 28) (oi := ?_) (v := undef) ?_ (by kernel_rfl) (by kernel_rfl) (by kernel_rfl) ?_ ?_ (by assumption) ?_; rotate_left 1; (focus ((simp only [List.getElem?_toArray, List.getElem?_cons_succ, List.getElem?_cons_zero]); try rfl)); (focus (exact (fun _ _ _ h => h))); (focus (exact Or.inr ⟨by rfl, rfl⟩)); try simp only [Act.put, List.setIfInBounds_toArray, List.set_cons_zero, List.set_cons_succ])
        (refine wpAnyH_take (i := 29) (oi := ?_) (v := undef) ?_ (by kernel_rfl) (by kernel_rfl) (by kernel_rfl) ?_ ?_ (by assumption) ?_; rotate_left 1; (focus ((simp only [List.getElem?_toArray, List.getElem?_cons_succ, List.getElem?_cons_zero]); try rfl)); (focus (exact (fun _ _ _ h => h))); (focus (exact Or.inr ⟨by rfl, rfl⟩)); try simp only [Act.put, List.setIfInBounds_toArray, List.set_cons_zero, List.set_cons_succ])
        (refine wpAnyH_take (i := 30) (oi := ?_) (v := undef) ?_ (by kernel_rfl) (by kernel_rfl) (by kernel_rfl) ?_ ?_ (by assumption) ?_; rotate_left 1; (focus ((simp only [List.getElem?_toArray, List.getElem?_cons_succ, List.getElem?_cons_zero]); try rfl)); (focus (exact (fun _ _ _ h => h))); (focus (exact Or.inr ⟨by rfl, rfl⟩)); try simp only [Act.put, List.setIfInBounds_toArray, List.set_cons_zero, List.set_cons_succ])
        (refine wpAnyH_take (i := 31) (oi := ?_) (v := undef) ?_ (by kernel_rfl) (by kernel_rfl) (by kernel_rfl) ?_ ?_ (by assumption) ?_; rotate_left 1; (focus ((simp only [List.getElem?_toArray, List.getElem?_cons_succ, List.getElem?_cons_zero]); try rfl)); (focus (exact (fun _ _ _ h => h))); (focus (exact Or.inr ⟨by rfl, rfl⟩)); try simp only [Act.put, List.setIfInBounds_toArray, List.set_cons_zero, List.set_cons_succ])
        (refine wpAnyH_take (i := 32) (oi := ?_) (v := ?_) ?_ (by kernel_rfl) (by kernel_rfl) (by kernel_rfl) ?_ ?_ (by assumption) ?_; rotate_left 2; (focus ((simp only [List.getElem?_toArray, List.getElem?_cons_succ, List.getElem?_cons_zero]); try rfl)); (focus (exact (fun _ _ _ h => h))); (focus (refine Or.inl ⟨by rfl, ?_⟩; intro w hSw; (try dsimp only at hSw); go_simp; try with_reducible rfl)); try simp only [Act.put, List.setIfInBounds_toArray, List.set_cons_zero, List.set_cons_succ])
        refine wpAnyH_done (by kernel_rfl) ?_ _
        go_wp2_with fail
        go_ret
        exact ⟨ret_b (by rw [← hbb.out, hst.out]; rfl), fwA.seqN fq⟩
      | true =>
      rw [h2, Bool.true_and] at hst
      have hbj : (p.j != j) = false := by simp [bne, h2]
      by_cases hk0 : k = 0
      · have ha0 : 0 ≤ p.a := hpa0.out rfl
        have hl0 : lastOf ps k = -1 := by rw [hk0]; rfl
        rw [hl0] at hst
        rw [show decide (-1 < p.a) = true by simp; omega, Bool.true_and] at hst
        have hk5 : decide ((0 : Int) < k) = false := by simp; omega
        have hk6 : ¬ (0 < k) := by omega
        replace hst := Lib.hid hst
        replace hl0 := Lib.hid hl0
        replace hk0 := Lib.hid hk0
        go_upto_region 23 with fail
        generalize (wr.alloc (.cells #[.int .i64 p.a, .int .i64 p.t, .int .i64 p.j, .int .i64 p.n, .slice ua cl uc, .bool p.lo] 32)) = wA at *
        obtain ⟨ga, hga⟩ : ∃ g, wr.heap.size = g := ⟨_, rfl⟩
        rw [hga] at hS ⊢
        replace hga := Lib.hid hga
        clear c0 c1 c2 c3 c4 c5 d13
        refine wp_region_held_drew (S := fun w' => (w'.cell? ⟨gx, 13, none⟩ = some (.slice (some ⟨g, o, none⟩) N qc) ∧ w'.cell? ⟨gx, 2, none⟩ = some (.int .i64 t) ∧ w'.cell? ⟨gx, 3, none⟩ = some (.int .i64 j)) ∧ w'.cell? ⟨ga, 0, none⟩ = some (.int .i64 p.a) ∧ w'.cell? ⟨ga, 1, none⟩ = some (.int .i64 p.t) ∧ w'.cell? ⟨ga, 2, none⟩ = some (.int .i64 p.j) ∧ w'.cell? ⟨ga, 3, none⟩ = some (.int .i64 p.n) ∧ w'.cell? ⟨ga, 4, none⟩ = some (.slice ua cl uc) ∧ w'.cell? ⟨ga, 5, none⟩ = some (.bool p.lo)) (by kernel_rfl) (hS.out _ ((Fr.refl noB _).drewN 1)) (fun hHeld => ?_)
        (refine wpAnyH_take (i := 0) (oi := ?_) (v := ?_) ?_ (by kernel_rfl) (by kernel_rfl) (by kernel_rfl) ?_ ?_ (by assumption) ?_; rotate_left 2; (focus ((simp only [List.getElem?_toArray, List.getElem?_cons_succ, List.getElem?_cons_zero]); try rfl)); (focus (exact (fun _ _ _ h => h))); (focus (refine Or.inl ⟨by rfl, ?_⟩; intro w hSw; (try dsimp only at hSw); go_simp; try with_reducible rfl)); try simp only [Act.put, List.setIfInBounds_toArray, List.set_cons_zero, List.set_cons_succ])
        refine wpAnyH_ready (rs := [1]) (by kernel_rfl) (by simp) (AllReadyH.cons rfl (fun K hK => ?_) AllReadyH.nil)
        go_simp
        go_at_call 26; refine (hrt.out _ (fwA.seqN ((Fr.refl noB _).drewN 1))).mono ?_; rintro e w5 ⟨rfl, f5⟩; have fq := ((Fr.refl noB wA).drewN 1).seqN f5
        go_wp2_with fail
        refine hK.out _ _ (hS.out _ (fq)) (fun hHeld => ?_)
        clear hK K
        try simp only [Act.put, List.setIfInBounds_toArray, List.set_cons_zero, List.set_cons_succ]
        (refine wpAnyH_take (i := 2) (oi := ?_) (v := ?_) ?_ (by kernel_rfl) (by kernel_rfl) (by kernel_rfl) ?_ ?_ (by assumption) ?_; rotate_left 2; (focus ((simp only [List.getElem?_toArray, List.getElem?_cons_succ, List.getElem?_cons_zero]); try rfl)); (focus (exact (fun _ _ _ h => h))); (focus (refine Or.inl ⟨by rfl, ?_⟩; intro w hSw; (try dsimp only at hSw); go_simp; try with_reducible rfl)); try simp only [Act.put, List.setIfInBounds_toArray, List.set_cons_zero, List.set_cons_succ])
        (refine wpAnyH_take (i := 3) (oi := ?_) (v := ?_) ?_ (by kernel_rfl) (by kernel_rfl) (by kernel_rfl) ?_ ?_ (by assumption) ?_; rotate_left 2; (focus ((simp only [List.getElem?_toArray, List.getElem?_cons_succ, List.getElem?_cons_zero]); try rfl)); (focus (exact (fun _ _ _ h => h))); (focus (refine Or.inl ⟨by rfl, ?_⟩; intro w hSw; (try dsimp only at hSw); go_simp; try with_reducible rfl)); try simp only [Act.put, List.setIfInBounds_toArray, List.set_cons_zero, List.set_cons_succ])
        (refine wpAnyH_take (i := 4) (oi := ?_) (v := ?_) ?_ (by kernel_rfl) (by kernel_rfl) (by kernel_rfl) ?_ ?_ (by assumption) ?_; rotate_left 2; (focus ((simp only [List.getElem?_toArray, List.getElem?_cons_succ, List.getElem?_cons_zero]); try rfl)); (focus (exact (fun _ _ _ h => h))); (focus (refine Or.inl ⟨by rfl, ?_⟩; intro w hSw; (try dsimp only at hSw); go_simp; try with_reducible rfl)); try simp only [Act.put, List.setIfInBounds_toArray, List.set_cons_zero, List.set_cons_succ])
        (refine wpAnyH_take (i := 5) (oi := ?_) (v := ?_) ?_ (by kernel_rfl) (by kernel_rfl) (by kernel_rfl) ?_ ?_ (by assumption) ?_; rotate_left 2; (focus ((simp only [List.getElem?_toArray, List.getElem?_cons_succ, List.getElem?_cons_zero]); try rfl)); (focus (exact (fun _ _ _ h => h))); (focus (refine Or.inl ⟨by rfl, ?_⟩; intro w hSw; (try dsimp only at hSw); go_simp; try with_reducible rfl)); try simp only [Act.put, List.setIfInBounds_toArray, List.set_cons_zero, List.set_cons_succ])
        (refine wpAnyH_take (i := 6) (oi := ?_) (v := ?_) ?_ (by kernel_rfl) (by kernel_rfl) (by kernel_rfl) ?_ ?_ (by assumption) ?_; rotate_left 2; (focus ((simp only [List.getElem?_toArray, List.getElem?_cons_succ, List.getElem?_cons_zero]); try rfl)); (focus (exact (fun _ _ _ h => h))); (focus (refine Or.inl ⟨by rfl, ?_⟩; intro w hSw; (try dsimp only at hSw); go_simp; try with_reducible rfl)); try simp only [Act.put, List.setIfInBounds_toArray, List.set_cons_zero, List.set_cons_succ])
        (refine wpAnyH_take (i := 7) (oi := ?_) (v := ?_) ?_ (by kernel_rfl) (by kernel_rfl) (by kernel_rfl) ?_ ?_ (by assumption) ?_; rotate_left 2; (focus ((simp only [List.getElem?_toArray, List.getElem?_cons_succ, List.getElem?_cons_zero]); try rfl)); (focus (exact (fun _ _ _ h => h))); (focus (refine Or.inl ⟨by rfl, ?_⟩; intro w hSw; (try dsimp only at hSw); go_simp; try with_reducible rfl)); try simp only [Act.put, List.setIfInBounds_toArray, List.set_cons_zero, List.set_cons_succ])
        (refine wpAnyH_take (i := 8) (oi := ?_) (v := ?_) ?_ (by kernel_rfl) (by kernel_rfl) (by kernel_rfl) ?_ ?_ (by assumption) ?_; rotate_left 2; (focus ((simp only [List.getElem?_toArray, List.getElem?_cons_succ, List.getElem?_cons_zero]); try rfl)); (focus (exact (fun _ _ _ h => h))); (focus (refine Or.inl ⟨by rfl, ?_⟩; intro w hSw; (try dsimp only at hSw); go_simp; try with_reducible rfl)); try simp only [Act.put, List.setIfInBounds_toArray, List.set_cons_zero, List.set_cons_succ])
        (refine wpAnyH_take (i := 9) (oi := ?_) (v := ?_) ?_ (by kernel_rfl) (by kernel_rfl) (by kernel_rfl) ?_ ?_ (by assumption) ?_; rotate_left 2; (focus ((simp only [List.getElem?_toArray, List.getElem?_cons_succ, List.getElem?_cons_zero]); try rfl)); (focus (exact (fun _ _ _ h => h))); (focus (refine Or.inl ⟨by rfl, ?_⟩; intro w hSw; (try dsimp only at hSw); go_simp; try with_reducible rfl)); try simp only [Act.put, List.setIfInBounds_toArray, List.set_cons_zero, List.set_cons_succ])
        (refine wpAnyH_take (i := 10) (oi := ?_) (v := ?_) ?_ (by kernel_rfl) (by kernel_rfl) (by kernel_rfl) ?_ ?_ (by assumption) ?_; rotate_left 2; (focus ((simp only [List.getElem?_toArray, List.getElem?_cons_succ, List.getElem?_cons_zero]); try rfl)); (focus (exact (fun _ _ _ h => h))); (focus (refine Or.inl ⟨by rfl, ?_⟩; intro w hSw; (try dsimp only at hSw); go_simp; try with_reducible rfl)); try simp only [Act.put, List.setIfInBounds_toArray, List.set_cons_zero, List.set_cons_succ])
        (refine wpAnyH_take (i := 11) (oi := ?_) (v := ?_) ?_ (by kernel_rfl) (by kernel_rfl) (by kernel_rfl) ?_ ?_ (by assumption) ?_; rotate_left 2; (focus ((simp only [List.getElem?_toArray, List.getElem?_cons_succ, List.getElem?_cons_zero]); try rfl)); (focus (exact (fun _ _ _ h => h))); (focus (refine Or.inl ⟨by rfl, ?_⟩; intro w hSw; (try dsimp only at hSw); go_simp; try with_reducible rfl)); try simp only [Act.put, List.setIfInBounds_toArray, List.set_cons_zero, List.set_cons_succ])
        (refine wpAnyH_take (i := 12) (oi := ?_) (v := ?_) ?_ (by kernel_rfl) (by kernel_rfl) (by kernel_rfl) ?_ ?_ (by assumption) ?_; rotate_left 2; (focus ((simp only [List.getElem?_toArray, List.getElem?_cons_succ, List.getElem?_cons_zero]); try rfl)); (focus (exact (fun _ _ _ h => h))); (focus (refine Or.inl ⟨by rfl, ?_⟩; intro w hSw; (try dsimp only at hSw); go_simp; try with_reducible rfl)); try simp only [Act.put, List.setIfInBounds_toArray, List.set_cons_zero, List.set_cons_succ])
        (refine wpAnyH_take (i := 13) (oi := ?_) (v := ?_) ?_ (by kernel_rfl) (by kernel_rfl) (by kernel_rfl) ?_ ?_ (by assumption) ?_; rotate_left 2; (focus ((simp only [List.getElem?_toArray, List.getElem?_cons_succ, List.getElem?_cons_zero]); try rfl)); (focus (exact (fun _ _ _ h => h))); (focus (refine Or.inl ⟨by rfl, ?_⟩; intro w hSw; (try dsimp only at hSw); go_simp; try with_reducible rfl)); try simp only [Act.put, List.setIfInBounds_toArray, List.set_cons_zero, List.set_cons_succ])
        (refine wpAnyH_take (i := 14) (oi := ?_) (v := ?_) ?_ (by kernel_rfl) (by kernel_rfl) (by kernel_rfl) ?_ ?_ (by assumption) ?_; rotate_left 2; (focus ((simp only [List.getElem?_toArray, List.getElem?_cons_succ, List.getElem?_cons_zero]); try rfl)); (focus (exact (fun _ _ _ h => h))); (focus (refine Or.inl ⟨by rfl, ?_⟩; intro w hSw; (try dsimp only at hSw); go_simp; try with_reducible rfl)); try simp only [Act.put, List.setIfInBounds_toArray, List.set_cons_zero, List.set_cons_succ])
        (refine wpAnyH_take (i := 15) (oi := ?_) (v := ?_) ?_ (by kernel_rfl) (by kernel_rfl) (by kernel_rfl) ?_ ?_ (by assumption) ?_; rotate_left 2; (focus ((simp only [List.getElem?_toArray, List.getElem?_cons_succ, List.getElem?_cons_zero]); try rfl)); (focus (exact (fun _ _ _ h => h))); (focus (refine Or.inl ⟨by rfl, ?_⟩; intro w hSw; (try dsimp only at hSw); go_simp; try with_reducible rfl)); try simp only [Act.put, List.setIfInBounds_toArray, List.set_cons_zero, List.set_cons_succ])
        (refine wpAnyH_take (i := 16) (oi := ?_) (v := ?_) ?_ (by kernel_rfl) (by kernel_rfl) (by kernel_rfl) ?_ ?_ (by assumption) ?_; rotate_left 2; (focus ((simp only [List.getElem?_toArray, List.getElem?_cons_succ, List.getElem?_cons_zero]); try rfl)); (focus (exact (fun _ _ _ h => h))); (focus (refine Or.inl ⟨by rfl, ?_⟩; intro w hSw; (try dsimp only at hSw); go_simp; try with_reducible rfl)); try simp only [Act.put, List.setIfInBounds_toArray, List.set_cons_zero, List.set_cons_succ])
        (refine wpAnyH_take (i := 17) (oi := ?_) (v := ?_) ?_ (by kernel_rfl) (by kernel_rfl) (by kernel_rfl) ?_ ?_ (by assumption) ?_; rotate_left 2; (focus ((simp only [List.getElem?_toArray, List.getElem?_cons_succ, List.getElem?_cons_zero]); try rfl)); (focus (exact (fun _ _ _ h => h))); (focus (refine Or.inl ⟨by rfl, ?_⟩; intro w hSw; (try dsimp only at hSw); go_simp; try with_reducible rfl)); try simp only [Act.put, List.setIfInBounds_toArray, List.set_cons_zero, List.set_cons_succ])
        (refine wpAnyH_take (i := 18) (oi := ?_) (v := ?_) ?_ (by kernel_rfl) (by kernel_rfl) (by kernel_rfl) ?_ ?_ (by assumption) ?_; rotate_left 2; (focus ((simp only [List.getElem?_toArray, List.getElem?_cons_succ, List.getElem?_cons_zero]); try rfl)); (focus (exact (fun _ _ _ h => h))); (focus (refine Or.inl ⟨by rfl, ?_⟩; intro w hSw; (try dsimp only at hSw); go_simp; try with_reducible rfl)); try simp only [Act.put, List.setIfInBounds_toArray, List.set_cons_zero, List.set_cons_succ])
        (refine wpAnyH_take (i := 19) (oi := ?_) (v := ?_) ?_ (by kernel_rfl) (by kernel_rfl) (by kernel_rfl) ?_ ?_ (by assumption) ?_; rotate_left 2; (focus ((simp only [List.getElem?_toArray, List.getElem?_cons_succ, List.getElem?_cons_zero]); try rfl)); (focus (exact (fun _ _ _ h => h))); (focus (refine Or.inl ⟨by rfl, ?_⟩; intro w hSw; (try dsimp only at hSw); go_simp; try with_reducible rfl)); try simp only [Act.put, List.setIfInBounds_toArray, List.set_cons_zero, List.set_cons_succ])
        (refine wpAnyH_take (i := 20) (oi := ?_) (v := ?_) ?_ (by kernel_rfl) (by kernel_rfl) (by kernel_rfl) ?_ ?_ (by assumption) ?_; rotate_left 2; (focus ((simp only [List.getElem?_toArray, List.getElem?_cons_succ, List.getElem?_cons_zero]); try rfl)); (focus (exact (fun _ _ _ h => h))); (focus (refine Or.inl ⟨by rfl, ?_⟩; intro w hSw; (try dsimp only at hSw); go_simp; try with_reducible rfl)); try simp only [Act.put, List.setIfInBounds_toArray, List.set_cons_zero, List.set_cons_succ])
        (refine wpAnyH_take (i := 21) (oi := ?_) (v := undef) ?_ (by kernel_rfl) (by kernel_rfl) (by kernel_rfl) ?_ ?_ (by assumption) ?_; rotate_left 1; (focus ((simp only [List.getElem?_toArray, List.getElem?_cons_succ, List.getElem?_cons_zero]); try rfl)); (focus (exact (fun _ _ _ h => h))); (focus (exact Or.inr ⟨by rfl, rfl⟩)); try simp only [Act.put, List.setIfInBounds_toArray, List.set_cons_zero, List.set_cons_succ])
        (refine wpAnyH_take (i := 22) (oi := ?_) (v := undef) ?_ (by kernel_rfl) (by kernel_rfl) (by kernel_rfl) ?_ ?_ (by assumption) ?_; rotate_left 1; (focus ((simp only [List.getElem?_toArray, List.getElem?_cons_succ, List.getElem?_cons_zero]); try rfl)); (focus (exact (fun _ _ _ h => h))); (focus (exact Or.inr ⟨by rfl, rfl⟩)); try simp only [Act.put, List.setIfInBounds_toArray, List.set_cons_zero, List.set_cons_succ])
        (refine wpAnyH_take (i := 23) (oi := ?_) (v := undef) ?_ (by kernel_rfl) (by kernel_rfl) (by kernel_rfl) ?_ ?_ (by assumption) ?_; rotate_left 1; (focus ((simp only [List.getElem?_toArray, List.getElem?_cons_succ, List.getElem?_cons_zero]); try rfl)); (focus (exact (fun _ _ _ h => h))); (focus (exact Or.inr ⟨by rfl, rfl⟩)); try simp only [Act.put, List.setIfInBounds_toArray, List.set_cons_zero, List.set_cons_succ])
        (refine wpAnyH_take (i := 24) (oi := ?_) (v := undef) ?_ (by kernel_rfl) (by kernel_rfl) (by kernel_rfl) ?_ ?_ (by assumption) ?_; rotate_left 1; (focus ((simp only [List.getElem?_toArray, List.getElem?_cons_succ, List.getElem?_cons_zero]); try rfl)); (focus (exact (fun _ _ _ h => h))); (focus (exact Or.inr ⟨by rfl, rfl⟩)); try simp only [Act.put, List.setIfInBounds_toArray, List.set_cons_zero, List.set_cons_succ])
        (refine wpAnyH_take (i := 25) (oi := ?_) (v := undef) ?_ (by kernel_rfl) (by kernel_rfl) (by kernel_rfl) ?_ ?_ (by assumption) ?_; rotate_left 1; (focus ((simp only [List.getElem?_toArray, List.getElem?_cons_succ, List.getElem?_cons_zero]); try rfl)); (focus (exact (fun _ _ _ h => h))); (focus (exact Or.inr ⟨by rfl, rfl⟩)); try simp only [Act.put, List.setIfInBounds_toArray, List.set_cons_zero, List.set_cons_succ])
        (refine wpAnyH_take (i := 26) (oi := ?_) (v := undef) ?_ (by kernel_rfl) (by kernel_rfl) (by kernel_rfl) ?_ ?_ (by assumption) ?_; rotate_left 1; (focus ((simp only [List.getElem?_toArray, List.getElem?_cons_succ, List.getElem?_cons_zero]); try rfl)); (focus (exact (fun _ _ _ h => h))); (focus (exact Or.inr ⟨by rfl, rfl⟩)); try simp only [Act.put, List.setIfInBounds_toArray, List.set_cons_zero, List.set_cons_succ])
        (refine wpAnyH_take (i := 27) (oi := ?_) (v := undef) ?_ (by kernel_rfl) (by kernel_rfl) (by kernel_rfl) ?_ ?_ (by assumption) ?_; rotate_left 1; (focus ((simp only [List.getElem?_toArray, List.getElem?_cons_succ, List.getElem?_cons_zero]); try rfl)); (focus (exact (fun _ _ _ h => h))); (focus (exact Or.inr ⟨by rfl, rfl⟩)); try simp only [Act.put, List.setIfInBounds_toArray, List.set_cons_zero, List.set_cons_succ])
        (refine wpAnyH_take (i := 28) (oi := ?_) (v := undef) ?_ (by kernel_rfl) (by kernel_rfl) (by kernel_rfl) ?_ ?_ (by assumption) ?_; rotate_left 1; (focus ((simp only [List.getElem?_toArray, List.getElem?_cons_succ, List.getElem?_cons_zero]); try rfl)); (focus (exact (fun _ _ _ h => h))); (focus (exact Or.inr ⟨by rfl, rfl⟩)); try simp only [Act.put, List.setIfInBounds_toArray, List.set_cons_zero, List.set_cons_succ])
        (refine wpAnyH_take (i := 29) (oi := ?_) (v := undef) ?_ (by kernel_rfl) (by kernel_rfl) (by kernel_rfl) ?_ ?_ (by assumption) ?_; rotate_left 1; (focus ((simp only [List.getElem?_toArray, List.getElem?_cons_succ, List.getElem?_cons_zero]); try rfl)); (focus (exact (fun _ _ _ h => h))); (focus (exact Or.inr ⟨by rfl, rfl⟩)); try simp only [Act.put, List.setIfInBounds_toArray, List.set_cons_zero, List.set_cons_succ])
        (refine wpAnyH_take (i := 30) (oi := ?_) (v := undef) ?_ (by kernel_rfl) (by kernel_rfl) (by kernel_rfl) ?_ ?_ (by assumption) ?_; rotate_left 1; (focus ((simp only [List.getElem?_toArray, List.getElem?_cons_succ, List.getElem?_cons_zero]); try rfl)); (focus (exact (fun _ _ _ h => h))); (focus (exact Or.inr ⟨by rfl, rfl⟩)); try simp only [Act.put, List.setIfInBounds_toArray, List.set_cons_zero, List.set_cons_succ])
        (refine wpAnyH_take (i := 31) (oi := ?_) (v := ?_) ?_ (by kernel_rfl) (by kernel_rfl) (by kernel_rfl) ?_ ?_ (by assumption) ?_; rotate_left 2; (focus ((simp only [List.getElem?_toArray, List.getElem?_cons_succ, List.getElem?_cons_zero]); try rfl)); (focus (exact (fun _ _ _ h => h))); (focus (refine Or.inl ⟨by rfl, ?_⟩; intro w hSw; (try dsimp only at hSw); go_simp; try with_reducible rfl)); try simp only [Act.put, List.setIfInBounds_toArray, List.set_cons_zero, List.set_cons_succ])
        (refine wpAnyH_take (i := 32) (oi := ?_) (v := ?_) ?_ (by kernel_rfl) (by kernel_rfl) (by kernel_rfl) ?_ ?_ (by assumption) ?_; rotate_left 2; (focus ((simp only [List.getElem?_toArray, List.getElem?_cons_succ, List.getElem?_cons_zero]); try rfl)); (focus (exact (fun _ _ _ h => h))); (focus (refine Or.inl ⟨by rfl, ?_⟩; intro w hSw; (try dsimp only at hSw); go_simp; try with_reducible rfl)); try simp only [Act.put, List.setIfInBounds_toArray, List.set_cons_zero, List.set_cons_succ])
        refine wpAnyH_done (by kernel_rfl) ?_ _
        go_wp2_with fail
        go_roundw
        case rel => exact ⟨k + 1, by omega, by go_num, Lib.hid (by rw [hls1.out]; exact hst.out), fA.seqN fq⟩
        case measure => simp [RowKit.intOf]; omega
      · obtain ⟨q, hq, hql, hpc⟩ := hprev.out (by omega)
        rw [hql] at hst
        have hk1 : wrap64 ((k : Int) - 1) = (k : Int) - 1 := IntWalk.wrap64_in _ (by omega)
        have hk2 : ((k : Int) - 1).toNat = k - 1 := by omega
        have hk3 : 0 ≤ (k : Int) - 1 := by omega
        have hk4 : (k : Int) - 1 < N := by omega
        have hk5 : decide ((0 : Int) < k) = true := by simp; omega
        have hk6 : 0 < k := by omega
        have hk7 : (1 : Int) ≤ k := by omega
        have hk8 : (k : Int) ≤ N := by omega
        have hk9 : IntKind.i64.wrap ((k : Int) - 1) = (k : Int) - 1 := IntWalk.i64_in _ (by omega)
        have hk10 : 1 ≤ k := by omega
        replace hq := Lib.hid hq
        replace hql := Lib.hid hql
        replace hpc := Lib.hid hpc
        by_cases hle : p.a ≤ q.a
        · have hd : decide (p.a ≤ q.a) = true := by simpa using hle
          rw [show decide (q.a < p.a) = false by simp; omega, Bool.false_and] at hst
          replace hst := Lib.hid hst
          go_upto_region 23 with fail
          generalize (wr.alloc (.cells #[.int .i64 p.a, .int .i64 p.t, .int .i64 p.j, .int .i64 p.n, .slice ua cl uc, .bool p.lo] 32)) = wA at *
          obtain ⟨ga, hga⟩ : ∃ g, wr.heap.size = g := ⟨_, rfl⟩
          rw [hga] at hS ⊢
          replace hga := Lib.hid hga
          clear c0 c1 c2 c3 c4 c5 d13
          refine wp_region_held_drew (S := fun w' => ((w'.cell? ⟨gx, 13, none⟩ = some (.slice (some ⟨g, o, none⟩) N qc) ∧ w'.cell? ⟨gx, 2, none⟩ = some (.int .i64 t) ∧ w'.cell? ⟨gx, 3, none⟩ = some (.int .i64 j)) ∧ w'.cell? ⟨ga, 0, none⟩ = some (.int .i64 p.a) ∧ w'.cell? ⟨ga, 1, none⟩ = some (.int .i64 p.t) ∧ w'.cell? ⟨ga, 2, none⟩ = some (.int .i64 p.j) ∧ w'.cell? ⟨ga, 3, none⟩ = some (.int .i64 p.n) ∧ w'.cell? ⟨ga, 4, none⟩ = some (.slice ua cl uc) ∧ w'.cell? ⟨ga, 5, none⟩ = some (.bool p.lo)) ∧ w'.cell? ⟨g, o + (k - 1) * 6, none⟩ = some (.int .i64 q.a)) (by kernel_rfl) (⟨hS.out _ ((Fr.refl noB _).drewN 1), hpc.out _ (fwA.seqN ((Fr.refl noB _).drewN 1))⟩) (fun hHeld => ?_)
          (refine wpAnyH_take (i := 0) (oi := ?_) (v := ?_) ?_ (by kernel_rfl) (by kernel_rfl) (by kernel_rfl) ?_ ?_ (by assumption) ?_; rotate_left 2; (focus ((simp only [List.getElem?_toArray, List.getElem?_cons_succ, List.getElem?_cons_zero]); try rfl)); (focus (exact (fun _ _ _ h => h))); (focus (refine Or.inl ⟨by rfl, ?_⟩; intro w hSw; (try dsimp only at hSw); go_simp; try with_reducible rfl)); try simp only [Act.put, List.setIfInBounds_toArray, List.set_cons_zero, List.set_cons_succ])
          refine wpAnyH_ready (rs := [1]) (by kernel_rfl) (by simp) (AllReadyH.cons rfl (fun K hK => ?_) AllReadyH.nil)
          go_simp
          go_at_call 26; refine (hrt.out _ (fwA.seqN ((Fr.refl noB _).drewN 1))).mono ?_; rintro e w5 ⟨rfl, f5⟩; have fq := ((Fr.refl noB wA).drewN 1).seqN f5
          go_wp2_with fail
          refine hK.out _ _ (⟨hS.out _ (fq), hpc.out _ (fwA.seqN (fq))⟩) (fun hHeld => ?_)
          clear hK K
          try simp only [Act.put, List.setIfInBounds_toArray, List.set_cons_zero, List.set_cons_succ]
          (refine wpAnyH_take (i := 2) (oi := ?_) (v := ?_) ?_ (by kernel_rfl) (by kernel_rfl) (by kernel_rfl) ?_ ?_ (by assumption) ?_; rotate_left 2; (focus ((simp only [List.getElem?_toArray, List.getElem?_cons_succ, List.getElem?_cons_zero]); try rfl)); (focus (exact (fun _ _ _ h => h))); (focus (refine Or.inl ⟨by rfl, ?_⟩; intro w hSw; (try dsimp only at hSw); go_simp; try with_reducible rfl)); try simp only [Act.put, List.setIfInBounds_toArray, List.set_cons_zero, List.set_cons_succ])
          (refine wpAnyH_take (i := 3) (oi := ?_) (v := ?_) ?_ (by kernel_rfl) (by kernel_rfl) (by kernel_rfl) ?_ ?_ (by assumption) ?_; rotate_left 2; (focus ((simp only [List.getElem?_toArray, List.getElem?_cons_succ, List.getElem?_cons_zero]); try rfl)); (focus (exact (fun _ _ _ h => h))); (focus (refine Or.inl ⟨by rfl, ?_⟩; intro w hSw; (try dsimp only at hSw); go_simp; try with_reducible rfl)); try simp only [Act.put, List.setIfInBounds_toArray, List.set_cons_zero, List.set_cons_succ])
          (refine wpAnyH_take (i := 4) (oi := ?_) (v := ?_) ?_ (by kernel_rfl) (by kernel_rfl) (by kernel_rfl) ?_ ?_ (by assumption) ?_; rotate_left 2; (focus ((simp only [List.getElem?_toArray, List.getElem?_cons_succ, List.getElem?_cons_zero]); try rfl)); (focus (exact (fun _ _ _ h => h))); (focus (refine Or.inl ⟨by rfl, ?_⟩; intro w hSw; (try dsimp only at hSw); go_simp; try with_reducible rfl)); try simp only [Act.put, List.setIfInBounds_toArray, List.set_cons_zero, List.set_cons_succ])
          (refine wpAnyH_take (i := 5) (oi := ?_) (v := ?_) ?_ (by kernel_rfl) (by kernel_rfl) (by kernel_rfl) ?_ ?_ (by assumption) ?_; rotate_left 2; (focus ((simp only [List.getElem?_toArray, List.getElem?_cons_succ, List.getElem?_cons_zero]); try rfl)); (focus (exact (fun _ _ _ h => h))); (focus (refine Or.inl ⟨by rfl, ?_⟩; intro w hSw; (try dsimp only at hSw); go_simp; try with_reducible rfl)); try simp only [Act.put, List.setIfInBounds_toArray, List.set_cons_zero, List.set_cons_succ])
          (refine wpAnyH_take (i := 6) (oi := ?_) (v := ?_) ?_ (by kernel_rfl) (by kernel_rfl) (by kernel_rfl) ?_ ?_ (by assumption) ?_; rotate_left 2; (focus ((simp only [List.getElem?_toArray, List.getElem?_cons_succ, List.getElem?_cons_zero]); try rfl)); (focus (exact (fun _ _ _ h => h))); (focus (refine Or.inl ⟨by rfl, ?_⟩; intro w hSw; (try dsimp only at hSw); go_simp; try with_reducible rfl)); try simp only [Act.put, List.setIfInBounds_toArray, List.set_cons_zero, List.set_cons_succ])
          (refine wpAnyH_take (i := 7) (oi := ?_) (v := ?_) ?_ (by kernel_rfl) (by kernel_rfl) (by kernel_rfl) ?_ ?_ (by assumption) ?_; rotate_left 2; (focus ((simp only [List.getElem?_toArray, List.getElem?_cons_succ, List.getElem?_cons_zero]); try rfl)); (focus (exact (fun _ _ _ h => h))); (focus (refine Or.inl ⟨by rfl, ?_⟩; intro w hSw; (try dsimp only at hSw); go_simp; try with_reducible rfl)); try simp only [Act.put, List.setIfInBounds_toArray, List.set_cons_zero, List.set_cons_succ])
          (refine wpAnyH_take (i := 8) (oi := ?_) (v := ?_) ?_ (by kernel_rfl) (by kernel_rfl) (by kernel_rfl) ?_ ?_ (by assumption) ?_; rotate_left 2; (focus ((simp only [List.getElem?_toArray, List.getElem?_cons_succ, List.getElem?_cons_zero]); try rfl)); (focus (exact (fun _ _ _ h => h))); (focus (refine Or.inl ⟨by rfl, ?_⟩; intro w hSw; (try dsimp only at hSw); go_simp; try with_reducible rfl)); try simp only [Act.put, List.setIfInBounds_toArray, List.set_cons_zero, List.set_cons_succ])
          (refine wpAnyH_take (i := 9) (oi := ?_) (v := ?_) ?_ (by kernel_rfl) (by kernel_rfl) (by kernel_rfl) ?_ ?_ (by assumption) ?_; rotate_left 2; (focus ((simp only [List.getElem?_toArray, List.getElem?_cons_succ, List.getElem?_cons_zero]); try rfl)); (focus (exact (fun _ _ _ h => h))); (focus (refine Or.inl ⟨by rfl, ?_⟩; intro w hSw; (try dsimp only at hSw); go_simp; try with_reducible rfl)); try simp only [Act.put, List.setIfInBounds_toArray, List.set_cons_zero, List.set_cons_succ])
          (refine wpAnyH_take (i := 10) (oi := ?_) (v := ?_) ?_ (by kernel_rfl) (by kernel_rfl) (by kernel_rfl) ?_ ?_ (by assumption) ?_; rotate_left 2; (focus ((simp only [List.getElem?_toArray, List.getElem?_cons_succ, List.getElem?_cons_zero]); try rfl)); (focus (exact (fun _ _ _ h => h))); (focus (refine Or.inl ⟨by rfl, ?_⟩; intro w hSw; (try dsimp only at hSw); go_simp; try with_reducible rfl)); try simp only [Act.put, List.setIfInBounds_toArray, List.set_cons_zero, List.set_cons_succ])
          (refine wpAnyH_take (i := 11) (oi := ?_) (v := ?_) ?_ (by kernel_rfl) (by kernel_rfl) (by kernel_rfl) ?_ ?_ (by assumption) ?_; rotate_left 2; (focus ((simp only [List.getElem?_toArray, List.getElem?_cons_succ, List.getElem?_cons_zero]); try rfl)); (focus (exact (fun _ _ _ h => h))); (focus (refine Or.inl ⟨by rfl, ?_⟩; intro w hSw; (try dsimp only at hSw); go_simp; try with_reducible rfl)); try simp only [Act.put, List.setIfInBounds_toArray, List.set_cons_zero, List.set_cons_succ])
          (refine wpAnyH_take (i := 12) (oi := ?_) (v := ?_) ?_ (by kernel_rfl) (by kernel_rfl) (by kernel_rfl) ?_ ?_ (by assumption) ?_; rotate_left 2; (focus ((simp only [List.getElem?_toArray, List.getElem?_cons_succ, List.getElem?_cons_zero]); try rfl)); (focus (exact (fun _ _ _ h => h))); (focus (refine Or.inl ⟨by rfl, ?_⟩; intro w hSw; (try dsimp only at hSw); go_simp; try with_reducible rfl)); try simp only [Act.put, List.setIfInBounds_toArray, List.set_cons_zero, List.set_cons_succ])
          (refine wpAnyH_take (i := 13) (oi := ?_) (v := ?_) ?_ (by kernel_rfl) (by kernel_rfl) (by kernel_rfl) ?_ ?_ (by assumption) ?_; rotate_left 2; (focus ((simp only [List.getElem?_toArray, List.getElem?_cons_succ, List.getElem?_cons_zero]); try rfl)); (focus (exact (fun _ _ _ h => h))); (focus (refine Or.inl ⟨by rfl, ?_⟩; intro w hSw; (try dsimp only at hSw); go_simp; try with_reducible rfl)); try simp only [Act.put, List.setIfInBounds_toArray, List.set_cons_zero, List.set_cons_succ])
          (refine wpAnyH_take (i := 14) (oi := ?_) (v := ?_) ?_ (by kernel_rfl) (by kernel_rfl) (by kernel_rfl) ?_ ?_ (by assumption) ?_; rotate_left 2; (focus ((simp only [List.getElem?_toArray, List.getElem?_cons_succ, List.getElem?_cons_zero]); try rfl)); (focus (exact (fun _ _ _ h => h))); (focus (refine Or.inl ⟨by rfl, ?_⟩; intro w hSw; (try dsimp only at hSw); go_simp; try with_reducible rfl)); try simp only [Act.put, List.setIfInBounds_toArray, List.set_cons_zero, List.set_cons_succ])
          (refine wpAnyH_take (i := 15) (oi := ?_) (v := ?_) ?_ (by kernel_rfl) (by kernel_rfl) (by kernel_rfl) ?_ ?_ (by assumption) ?_; rotate_left 2; (focus ((simp only [List.getElem?_toArray, List.getElem?_cons_succ, List.getElem?_cons_zero]); try rfl)); (focus (exact (fun _ _ _ h => h))); (focus (refine Or.inl ⟨by rfl, ?_⟩; intro w hSw; (try dsimp only at hSw); go_simp; try with_reducible rfl)); try simp only [Act.put, List.setIfInBounds_toArray, List.set_cons_zero, List.set_cons_succ])
          (refine wpAnyH_take (i := 16) (oi := ?_) (v := ?_) ?_ (by kernel_rfl) (by kernel_rfl) (by kernel_rfl) ?_ ?_ (by assumption) ?_; rotate_left 2; (focus ((simp only [List.getElem?_toArray, List.getElem?_cons_succ, List.getElem?_cons_zero]); try rfl)); (focus (exact (fun _ _ _ h => h))); (focus (refine Or.inl ⟨by rfl, ?_⟩; intro w hSw; (try dsimp only at hSw); go_simp; try with_reducible rfl)); try simp only [Act.put, List.setIfInBounds_toArray, List.set_cons_zero, List.set_cons_succ])
          (refine wpAnyH_take (i := 17) (oi := ?_) (v := ?_) ?_ (by kernel_rfl) (by kernel_rfl) (by kernel_rfl) ?_ ?_ (by assumption) ?_; rotate_left 2; (focus ((simp only [List.getElem?_toArray, List.getElem?_cons_succ, List.getElem?_cons_zero]); try rfl)); (focus (exact (fun _ _ _ h => h))); (focus (refine Or.inl ⟨by rfl, ?_⟩; intro w hSw; (try dsimp only at hSw); go_simp; try with_reducible rfl)); try simp only [Act.put, List.setIfInBounds_toArray, List.set_cons_zero, List.set_cons_succ])
          (refine wpAnyH_take (i := 18) (oi := ?_) (v := ?_) ?_ (by kernel_rfl) (by kernel_rfl) (by kernel_rfl) ?_ ?_ (by assumption) ?_; rotate_left 2; (focus ((simp only [List.getElem?_toArray, List.getElem?_cons_succ, List.getElem?_cons_zero]); try rfl)); (focus (exact (fun _ _ _ h => h))); (focus (refine Or.inl ⟨by rfl, ?_⟩; intro w hSw; (try dsimp only at hSw); go_simp; try with_reducible rfl)); try simp only [Act.put, List.setIfInBounds_toArray, List.set_cons_zero, List.set_cons_succ])
          (refine wpAnyH_take (i := 19) (oi := ?_) (v := ?_) ?_ (by kernel_rfl) (by kernel_rfl) (by kernel_rfl) ?_ ?_ (by assumption) ?_; rotate_left 2; (focus ((simp only [List.getElem?_toArray, List.getElem?_cons_succ, List.getElem?_cons_zero]); try rfl)); (focus (exact (fun _ _ _ h => h))); (focus (refine Or.inl ⟨by rfl, ?_⟩; intro w hSw; (try dsimp only at hSw); go_simp; try with_reducible rfl)); try simp only [Act.put, List.setIfInBounds_toArray, List.set_cons_zero, List.set_cons_succ])
          (refine wpAnyH_take (i := 20) (oi := ?_) (v := ?_) ?_ (by kernel_rfl) (by kernel_rfl) (by kernel_rfl) ?_ ?_ (by assumption) ?_; rotate_left 2; (focus ((simp only [List.getElem?_toArray, List.getElem?_cons_succ, List.getElem?_cons_zero]); try rfl)); (focus (exact (fun _ _ _ h => h))); (focus (refine Or.inl ⟨by rfl, ?_⟩; intro w hSw; (try dsimp only at hSw); go_simp; try with_reducible rfl)); try simp only [Act.put, List.setIfInBounds_toArray, List.set_cons_zero, List.set_cons_succ])
          (refine wpAnyH_take (i := 21) (oi := ?_) (v := ?_) ?_ (by kernel_rfl) (by kernel_rfl) (by kernel_rfl) ?_ ?_ (by assumption) ?_; rotate_left 2; (focus ((simp only [List.getElem?_toArray, List.getElem?_cons_succ, List.getElem?_cons_zero]); try rfl)); (focus (exact (fun _ _ _ h => h))); (focus (refine Or.inl ⟨by rfl, ?_⟩; intro w hSw; (try dsimp only at hSw); go_simp; try with_reducible rfl)); try simp only [Act.put, List.setIfInBounds_toArray, List.set_cons_zero, List.set_cons_succ])
          (refine wpAnyH_take (i := 22) (oi := ?_) (v := ?_) ?_ (by kernel_rfl) (by kernel_rfl) (by kernel_rfl) ?_ ?_ (by assumption) ?_; rotate_left 2; (focus ((simp only [List.getElem?_toArray, List.getElem?_cons_succ, List.getElem?_cons_zero]); try rfl)); (focus (exact (fun _ _ _ h => h))); (focus (refine Or.inl ⟨by rfl, ?_⟩; intro w hSw; (try dsimp only at hSw); go_simp; try with_reducible rfl)); try simp only [Act.put, List.setIfInBounds_toArray, List.set_cons_zero, List.set_cons_succ])
          (refine wpAnyH_take (i := 23) (oi := ?_) (v := ?_) ?_ (by kernel_rfl) (by kernel_rfl) (by kernel_rfl) ?_ ?_ (by assumption) ?_; rotate_left 2; (focus ((simp only [List.getElem?_toArray, List.getElem?_cons_succ, List.getElem?_cons_zero]); try rfl)); (focus (exact (fun _ _ _ h => h))); (focus (refine Or.inl ⟨by rfl, ?_⟩; intro w hSw; (try dsimp only at hSw); go_simp; try with_reducible rfl)); try simp only [Act.put, List.setIfInBounds_toArray, List.set_cons_zero, List.set_cons_succ])
          (refine wpAnyH_take (i := 24) (oi := ?_) (v := ?_) ?_ (by kernel_rfl) (by kernel_rfl) (by kernel_rfl) ?_ ?_ (by assumption) ?_; rotate_left 2; (focus ((simp only [List.getElem?_toArray, List.getElem?_cons_succ, List.getElem?_cons_zero]); try rfl)); (focus (exact (fun _ _ _ h => h))); (focus (refine Or.inl ⟨by rfl, ?_⟩; intro w hSw; (try dsimp only at hSw); go_simp; try with_reducible rfl)); try simp only [Act.put, List.setIfInBounds_toArray, List.set_cons_zero, List.set_cons_succ])
          (refine wpAnyH_take (i := 25) (oi := ?_) (v := ?_) ?_ (by kernel_rfl) (by kernel_rfl) (by kernel_rfl) ?_ ?_ (by assumption) ?_; rotate_left 2; (focus ((simp only [List.getElem?_toArray, List.getElem?_cons_succ, List.getElem?_cons_zero]); try rfl)); (focus (exact (fun _ _ _ h => h))); (focus (refine Or.inl ⟨by rfl, ?_⟩; intro w hSw; (try dsimp only at hSw); go_simp; try with_reducible rfl)); try simp only [Act.put, List.setIfInBounds_toArray, List.set_cons_zero, List.set_cons_succ])
          (refine wpAnyH_take (i := 26) (oi := ?_) (v := ?_) ?_ (by kernel_rfl) (by kernel_rfl) (by kernel_rfl) ?_ ?_ (by assumption) ?_; rotate_left 2; (focus ((simp only [List.getElem?_toArray, List.getElem?_cons_succ, List.getElem?_cons_zero]); try rfl)); (focus (exact (fun _ _ _ h => h))); (focus (refine Or.inl ⟨by rfl, ?_⟩; intro w hSw; (try dsimp only at hSw); go_simp; try with_reducible rfl)); try simp only [Act.put, List.setIfInBounds_toArray, List.set_cons_zero, List.set_cons_succ])
          (refine wpAnyH_take (i := 27) (oi := ?_) (v := ?_) ?_ (by kernel_rfl) (by kernel_rfl) (by kernel_rfl) ?_ ?_ (by assumption) ?_; rotate_left 2; (focus ((simp only [List.getElem?_toArray, List.getElem?_cons_succ, List.getElem?_cons_zero]); try rfl)); (focus (exact (fun _ _ _ h => h))); (focus (refine Or.inl ⟨by rfl, ?_⟩; intro w hSw; (try dsimp only at hSw); go_simp; try with_reducible rfl)); try simp only [Act.put, List.setIfInBounds_toArray, List.set_cons_zero, List.set_cons_succ])
          (refine wpAnyH_take (i := 28) (oi := ?_) (v := ?_) ?_ (by kernel_rfl) (by kernel_rfl) (by kernel_rfl) ?_ ?_ (by assumption) ?_; rotate_left 2; (focus ((simp only [List.getElem?_toArray, List.getElem?_cons_succ, List.getElem?_cons_zero]); try rfl)); (focus (exact (fun _ _ _ h => h))); (focus (refine Or.inl ⟨by rfl, ?_⟩; intro w hSw; (try dsimp only at hSw); go_simp; try with_reducible rfl)); try simp only [Act.put, List.setIfInBounds_toArray, List.set_cons_zero, List.set_cons_succ])
          (refine wpAnyH_take (i := 29) (oi := ?_) (v := ?_) ?_ (by kernel_rfl) (by kernel_rfl) (by kernel_rfl) ?_ ?_ (by assumption) ?_; rotate_left 2; (focus ((simp only [List.getElem?_toArray, List.getElem?_cons_succ, List.getElem?_cons_zero]); try rfl)); (focus (exact (fun _ _ _ h => h))); (focus (refine Or.inl ⟨by rfl, ?_⟩; intro w hSw; (try dsimp only at hSw); go_simp; try with_reducible rfl)); try simp only [Act.put, List.setIfInBounds_toArray, List.set_cons_zero, List.set_cons_succ])
          (refine wpAnyH_take (i := 30) (oi := ?_) (v := ?_) ?_ (by kernel_rfl) (by kernel_rfl) (by kernel_rfl) ?_ ?_ (by assumption) ?_; rotate_left 2; (focus ((simp only [List.getElem?_toArray, List.getElem?_cons_succ, List.getElem?_cons_zero]); try rfl)); (focus (exact (fun _ _ _ h => h))); (focus (refine Or.inl ⟨by rfl, ?_⟩; intro w hSw; (try dsimp only at hSw); go_simp; try with_reducible rfl)); try simp only [Act.put, List.setIfInBounds_toArray, List.set_cons_zero, List.set_cons_succ])
          (refine wpAnyH_take (i := 31) (oi := ?_) (v := ?_) ?_ (by kernel_rfl) (by kernel_rfl) (by kernel_rfl) ?_ ?_ (by assumption) ?_; rotate_left 2; (focus ((simp only [List.getElem?_toArray, List.getElem?_cons_succ, List.getElem?_cons_zero]); try rfl)); (focus (exact (fun _ _ _ h => h))); (focus (refine Or.inl ⟨by rfl, ?_⟩; intro w hSw; (try dsimp only at hSw); go_simp; try with_reducible rfl)); try simp only [Act.put, List.setIfInBounds_toArray, List.set_cons_zero, List.set_cons_succ])
          (refine wpAnyH_take (i := 32) (oi := ?_) (v := ?_) ?_ (by kernel_rfl) (by kernel_rfl) (by kernel_rfl) ?_ ?_ (by assumption) ?_; rotate_left 2; (focus ((simp only [List.getElem?_toArray, List.getElem?_cons_succ, List.getElem?_cons_zero]); try rfl)); (focus (exact (fun _ _ _ h => h))); (focus (refine Or.inl ⟨by rfl, ?_⟩; intro w hSw; (try dsimp only at hSw); go_simp; try with_reducible rfl)); try simp only [Act.put, List.setIfInBounds_toArray, List.set_cons_zero, List.set_cons_succ])
          refine wpAnyH_done (by kernel_rfl) ?_ _
          go_wp2_with fail
          go_ret
          exact ⟨ret_b (by rw [← hbb.out, hst.out]; rfl), fwA.seqN fq⟩
        · have hd : decide (p.a ≤ q.a) = false := by simpa using hle
          rw [show decide (q.a < p.a) = true by simp; omega, Bool.true_and] at hst
          replace hst := Lib.hid hst
          go_upto_region 23 with fail
          generalize (wr.alloc (.cells #[.int .i64 p.a, .int .i64 p.t, .int .i64 p.j, .int .i64 p.n, .slice ua cl uc, .bool p.lo] 32)) = wA at *
          obtain ⟨ga, hga⟩ : ∃ g, wr.heap.size = g := ⟨_, rfl⟩
          rw [hga] at hS ⊢
          replace hga := Lib.hid hga
          clear c0 c1 c2 c3 c4 c5 d13
          refine wp_region_held_drew (S := fun w' => ((w'.cell? ⟨gx, 13, none⟩ = some (.slice (some ⟨g, o, none⟩) N qc) ∧ w'.cell? ⟨gx, 2, none⟩ = some (.int .i64 t) ∧ w'.cell? ⟨gx, 3, none⟩ = some (.int .i64 j)) ∧ w'.cell? ⟨ga, 0, none⟩ = some (.int .i64 p.a) ∧ w'.cell? ⟨ga, 1, none⟩ = some (.int .i64 p.t) ∧ w'.cell? ⟨ga, 2, none⟩ = some (.int .i64 p.j) ∧ w'.cell? ⟨ga, 3, none⟩ = some (.int .i64 p.n) ∧ w'.cell? ⟨ga, 4, none⟩ = some (.slice ua cl uc) ∧ w'.cell? ⟨ga, 5, none⟩ = some (.bool p.lo)) ∧ w'.cell? ⟨g, o + (k - 1) * 6, none⟩ = some (.int .i64 q.a)) (by kernel_rfl) (⟨hS.out _ ((Fr.refl noB _).drewN 1), hpc.out _ (fwA.seqN ((Fr.refl noB _).drewN 1))⟩) (fun hHeld => ?_)
          (refine wpAnyH_take (i := 0) (oi := ?_) (v := ?_) ?_ (by kernel_rfl) (by kernel_rfl) (by kernel_rfl) ?_ ?_ (by assumption) ?_; rotate_left 2; (focus ((simp only [List.getElem?_toArray, List.getElem?_cons_succ, List.getElem?_cons_zero]); try rfl)); (focus (exact (fun _ _ _ h => h))); (focus (refine Or.inl ⟨by rfl, ?_⟩; intro w hSw; (try dsimp only at hSw); go_simp; try with_reducible rfl)); try simp only [Act.put, List.setIfInBounds_toArray, List.set_cons_zero, List.set_cons_succ])
          refine wpAnyH_ready (rs := [1]) (by kernel_rfl) (by simp) (AllReadyH.cons rfl (fun K hK => ?_) AllReadyH.nil)
          go_simp
          go_at_call 26; refine (hrt.out _ (fwA.seqN ((Fr.refl noB _).drewN 1))).mono ?_; rintro e w5 ⟨rfl, f5⟩; have fq := ((Fr.refl noB wA).drewN 1).seqN f5
          go_wp2_with fail
          refine hK.out _ _ (⟨hS.out _ (fq), hpc.out _ (fwA.seqN (fq))⟩) (fun hHeld => ?_)
          clear hK K
          try simp only [Act.put, List.setIfInBounds_toArray, List.set_cons_zero, List.set_cons_succ]
          (refine wpAnyH_take (i := 2) (oi := ?_) (v := ?_) ?_ (by kernel_rfl) (by kernel_rfl) (by kernel_rfl) ?_ ?_ (by assumption) ?_; rotate_left 2; (focus ((simp only [List.getElem?_toArray, List.getElem?_cons_succ, List.getElem?_cons_zero]); try rfl)); (focus (exact (fun _ _ _ h => h))); (focus (refine Or.inl ⟨by rfl, ?_⟩; intro w hSw; (try dsimp only at hSw); go_simp; try with_reducible rfl)); try simp only [Act.put, List.setIfInBounds_toArray, List.set_cons_zero, List.set_cons_succ])
          (refine wpAnyH_take (i := 3) (oi := ?_) (v := ?_) ?_ (by kernel_rfl) (by kernel_rfl) (by kernel_rfl) ?_ ?_ (by assumption) ?_; rotate_left 2; (focus ((simp only [List.getElem?_toArray, List.getElem?_cons_succ, List.getElem?_cons_zero]); try rfl)); (focus (exact (fun _ _ _ h => h))); (focus (refine Or.inl ⟨by rfl, ?_⟩; intro w hSw; (try dsimp only at hSw); go_simp; try with_reducible rfl)); try simp only [Act.put, List.setIfInBounds_toArray, List.set_cons_zero, List.set_cons_succ])
          (refine wpAnyH_take (i := 4) (oi := ?_) (v := ?_) ?_ (by kernel_rfl) (by kernel_rfl) (by kernel_rfl) ?_ ?_ (by assumption) ?_; rotate_left 2; (focus ((simp only [List.getElem?_toArray, List.getElem?_cons_succ, List.getElem?_cons_zero]); try rfl)); (focus (exact (fun _ _ _ h => h))); (focus (refine Or.inl ⟨by rfl, ?_⟩; intro w hSw; (try dsimp only at hSw); go_simp; try with_reducible rfl)); try simp only [Act.put, List.setIfInBounds_toArray, List.set_cons_zero, List.set_cons_succ])
          (refine wpAnyH_take (i := 5) (oi := ?_) (v := ?_) ?_ (by kernel_rfl) (by kernel_rfl) (by kernel_rfl) ?_ ?_ (by assumption) ?_; rotate_left 2; (focus ((simp only [List.getElem?_toArray, List.getElem?_cons_succ, List.getElem?_cons_zero]); try rfl)); (focus (exact (fun _ _ _ h => h))); (focus (refine Or.inl ⟨by rfl, ?_⟩; intro w hSw; (try dsimp only at hSw); go_simp; try with_reducible rfl)); try simp only [Act.put, List.setIfInBounds_toArray, List.set_cons_zero, List.set_cons_succ])
          (refine wpAnyH_take (i := 6) (oi := ?_) (v := ?_) ?_ (by kernel_rfl) (by kernel_rfl) (by kernel_rfl) ?_ ?_ (by assumption) ?_; rotate_left 2; (focus ((simp only [List.getElem?_toArray, List.getElem?_cons_succ, List.getElem?_cons_zero]); try rfl)); (focus (exact (fun _ _ _ h => h))); (focus (refine Or.inl ⟨by rfl, ?_⟩; intro w hSw; (try dsimp only at hSw); go_simp; try with_reducible rfl)); try simp only [Act.put, List.setIfInBounds_toArray, List.set_cons_zero, List.set_cons_succ])
          (refine wpAnyH_take (i := 7) (oi := ?_) (v := ?_) ?_ (by kernel_rfl) (by kernel_rfl) (by kernel_rfl) ?_ ?_ (by assumption) ?_; rotate_left 2; (focus ((simp only [List.getElem?_toArray, List.getElem?_cons_succ, List.getElem?_cons_zero]); try rfl)); (focus (exact (fun _ _ _ h => h))); (focus (refine Or.inl ⟨by rfl, ?_⟩; intro w hSw; (try dsimp only at hSw); go_simp; try with_reducible rfl)); try simp only [Act.put, List.setIfInBounds_toArray, List.set_cons_zero, List.set_cons_succ])
          (refine wpAnyH_take (i := 8) (oi := ?_) (v := ?_) ?_ (by kernel_rfl) (by kernel_rfl) (by kernel_rfl) ?_ ?_ (by assumption) ?_; rotate_left 2; (focus ((simp only [List.getElem?_toArray, List.getElem?_cons_succ, List.getElem?_cons_zero]); try rfl)); (focus (exact (fun _ _ _ h => h))); (focus (refine Or.inl ⟨by rfl, ?_⟩; intro w hSw; (try dsimp only at hSw); go_simp; try with_reducible rfl)); try simp only [Act.put, List.setIfInBounds_toArray, List.set_cons_zero, List.set_cons_succ])
          (refine wpAnyH_take (i := 9) (oi := ?_) (v := ?_) ?_ (by kernel_rfl) (by kernel_rfl) (by kernel_rfl) ?_ ?_ (by assumption) ?_; rotate_left 2; (focus ((simp only [List.getElem?_toArray, List.getElem?_cons_succ, List.getElem?_cons_zero]); try rfl)); (focus (exact (fun _ _ _ h => h))); (focus (refine Or.inl ⟨by rfl, ?_⟩; intro w hSw; (try dsimp only at hSw); go_simp; try with_reducible rfl)); try simp only [Act.put, List.setIfInBounds_toArray, List.set_cons_zero, List.set_cons_succ])
          (refine wpAnyH_take (i := 10) (oi := ?_) (v := ?_) ?_ (by kernel_rfl) (by kernel_rfl) (by kernel_rfl) ?_ ?_ (by assumption) ?_; rotate_left 2; (focus ((simp only [List.getElem?_toArray, List.getElem?_cons_succ, List.getElem?_cons_zero]); try rfl)); (focus (exact (fun _ _ _ h => h))); (focus (refine Or.inl ⟨by rfl, ?_⟩; intro w hSw; (try dsimp only at hSw); go_simp; try with_reducible rfl)); try simp only [Act.put, List.setIfInBounds_toArray, List.set_cons_zero, List.set_cons_succ])
          (refine wpAnyH_take (i := 11) (oi := ?_) (v := ?_) ?_ (by kernel_rfl) (by kernel_rfl) (by kernel_rfl) ?_ ?_ (by assumption) ?_; rotate_left 2; (focus ((simp only [List.getElem?_toArray, List.getElem?_cons_succ, List.getElem?_cons_zero]); try rfl)); (focus (exact (fun _ _ _ h => h))); (focus (refine Or.inl ⟨by rfl, ?_⟩; intro w hSw; (try dsimp only at hSw); go_simp; try with_reducible rfl)); try simp only [Act.put, List.setIfInBounds_toArray, List.set_cons_zero, List.set_cons_succ])
          (refine wpAnyH_take (i := 12) (oi := ?_) (v := ?_) ?_ (by kernel_rfl) (by kernel_rfl) (by kernel_rfl) ?_ ?_ (by assumption) ?_; rotate_left 2; (focus ((simp only [List.getElem?_toArray, List.getElem?_cons_succ, List.getElem?_cons_zero]); try rfl)); (focus (exact (fun _ _ _ h => h))); (focus (refine Or.inl ⟨by rfl, ?_⟩; intro w hSw; (try dsimp only at hSw); go_simp; try with_reducible rfl)); try simp only [Act.put, List.setIfInBounds_toArray, List.set_cons_zero, List.set_cons_succ])
          (refine wpAnyH_take (i := 13) (oi := ?_) (v := ?_) ?_ (by kernel_rfl) (by kernel_rfl) (by kernel_rfl) ?_ ?_ (by assumption) ?_; rotate_left 2; (focus ((simp only [List.getElem?_toArray, List.getElem?_cons_succ, List.getElem?_cons_zero]); try rfl)); (focus (exact (fun _ _ _ h => h))); (focus (refine Or.inl ⟨by rfl, ?_⟩; intro w hSw; (try dsimp only at hSw); go_simp; try with_reducible rfl)); try simp only [Act.put, List.setIfInBounds_toArray, List.set_cons_zero, List.set_cons_succ])
          (refine wpAnyH_take (i := 14) (oi := ?_) (v := ?_) ?_ (by kernel_rfl) (by kernel_rfl) (by kernel_rfl) ?_ ?_ (by assumption) ?_; rotate_left 2; (focus ((simp only [List.getElem?_toArray, List.getElem?_cons_succ, List.getElem?_cons_zero]); try rfl)); (focus (exact (fun _ _ _ h => h))); (focus (refine Or.inl ⟨by rfl, ?_⟩; intro w hSw; (try dsimp only at hSw); go_simp; try with_reducible rfl)); try simp only [Act.put, List.setIfInBounds_toArray, List.set_cons_zero, List.set_cons_succ])
          (refine wpAnyH_take (i := 15) (oi := ?_) (v := ?_) ?_ (by kernel_rfl) (by kernel_rfl) (by kernel_rfl) ?_ ?_ (by assumption) ?_; rotate_left 2; (focus ((simp only [List.getElem?_toArray, List.getElem?_cons_succ, List.getElem?_cons_zero]); try rfl)); (focus (exact (fun _ _ _ h => h))); (focus (refine Or.inl ⟨by rfl, ?_⟩; intro w hSw; (try dsimp only at hSw); go_simp; try with_reducible rfl)); try simp only [Act.put, List.setIfInBounds_toArray, List.set_cons_zero, List.set_cons_succ])
          (refine wpAnyH_take (i := 16) (oi := ?_) (v := ?_) ?_ (by kernel_rfl) (by kernel_rfl) (by kernel_rfl) ?_ ?_ (by assumption) ?_; rotate_left 2; (focus ((simp only [List.getElem?_toArray, List.getElem?_cons_succ, List.getElem?_cons_zero]); try rfl)); (focus (exact (fun _ _ _ h => h))); (focus (refine Or.inl ⟨by rfl, ?_⟩; intro w hSw; (try dsimp only at hSw); go_simp; try with_reducible rfl)); try simp only [Act.put, List.setIfInBounds_toArray, List.set_cons_zero, List.set_cons_succ])
          (refine wpAnyH_take (i := 17) (oi := ?_) (v := ?_) ?_ (by kernel_rfl) (by kernel_rfl) (by kernel_rfl) ?_ ?_ (by assumption) ?_; rotate_left 2; (focus ((simp only [List.getElem?_toArray, List.getElem?_cons_succ, List.getElem?_cons_zero]); try rfl)); (focus (exact (fun _ _ _ h => h))); (focus (refine Or.inl ⟨by rfl, ?_⟩; intro w hSw; (try dsimp only at hSw); go_simp; try with_reducible rfl)); try simp only [Act.put, List.setIfInBounds_toArray, List.set_cons_zero, List.set_cons_succ])
          (refine wpAnyH_take (i := 18) (oi := ?_) (v := ?_) ?_ (by kernel_rfl) (by kernel_rfl) (by kernel_rfl) ?_ ?_ (by assumption) ?_; rotate_left 2; (focus ((simp only [List.getElem?_toArray, List.getElem?_cons_succ, List.getElem?_cons_zero]); try rfl)); (focus (exact (fun _ _ _ h => h))); (focus (refine Or.inl ⟨by rfl, ?_⟩; intro w hSw; (try dsimp only at hSw); go_simp; try with_reducible rfl)); try simp only [Act.put, List.setIfInBounds_toArray, List.set_cons_zero, List.set_cons_succ])
          (refine wpAnyH_take (i := 19) (oi := ?_) (v := ?_) ?_ (by kernel_rfl) (by kernel_rfl) (by kernel_rfl) ?_ ?_ (by assumption) ?_; rotate_left 2; (focus ((simp only [List.getElem?_toArray, List.getElem?_cons_succ, List.getElem?_cons_zero]); try rfl)); (focus (exact (fun _ _ _ h => h))); (focus (refine Or.inl ⟨by rfl, ?_⟩; intro w hSw; (try dsimp only at hSw); go_simp; try with_reducible rfl)); try simp only [Act.put, List.setIfInBounds_toArray, List.set_cons_zero, List.set_cons_succ])
          (refine wpAnyH_take (i := 20) (oi := ?_) (v := ?_) ?_ (by kernel_rfl) (by kernel_rfl) (by kernel_rfl) ?_ ?_ (by assumption) ?_; rotate_left 2; (focus ((simp only [List.getElem?_toArray, List.getElem?_cons_succ, List.getElem?_cons_zero]); try rfl)); (focus (exact (fun _ _ _ h => h))); (focus (refine Or.inl ⟨by rfl, ?_⟩; intro w hSw; (try dsimp only at hSw); go_simp; try with_reducible rfl)); try simp only [Act.put, List.setIfInBounds_toArray, List.set_cons_zero, List.set_cons_succ])
          (refine wpAnyH_take (i := 21) (oi := ?_) (v := ?_) ?_ (by kernel_rfl) (by kernel_rfl) (by kernel_rfl) ?_ ?_ (by assumption) ?_; rotate_left 2; (focus ((simp only [List.getElem?_toArray, List.getElem?_cons_succ, List.getElem?_cons_zero]); try rfl)); (focus (exact (fun _ _ _ h => h))); (focus (refine Or.inl ⟨by rfl, ?_⟩; intro w hSw; (try dsimp only at hSw); go_simp; try with_reducible rfl)); try simp only [Act.put, List.setIfInBounds_toArray, List.set_cons_zero, List.set_cons_succ])
          (refine wpAnyH_take (i := 22) (oi := ?_) (v := ?_) ?_ (by kernel_rfl) (by kernel_rfl) (by kernel_rfl) ?_ ?_ (by assumption) ?_; rotate_left 2; (focus ((simp only [List.getElem?_toArray, List.getElem?_cons_succ, List.getElem?_cons_zero]); try rfl)); (focus (exact (fun _ _ _ h => h))); (focus (refine Or.inl ⟨by rfl, ?_⟩; intro w hSw; (try dsimp only at hSw); go_simp; try with_reducible rfl)); try simp only [Act.put, List.setIfInBounds_toArray, List.set_cons_zero, List.set_cons_succ])
          (refine wpAnyH_take (i := 23) (oi := ?_) (v := ?_) ?_ (by kernel_rfl) (by kernel_rfl) (by kernel_rfl) ?_ ?_ (by assumption) ?_; rotate_left 2; (focus ((simp only [List.getElem?_toArray, List.getElem?_cons_succ, List.getElem?_cons_zero]); try rfl)); (focus (exact (fun _ _ _ h => h))); (focus (refine Or.inl ⟨by rfl, ?_⟩; intro w hSw; (try dsimp only at hSw); go_simp; try with_reducible rfl)); try simp only [Act.put, List.setIfInBounds_toArray, List.set_cons_zero, List.set_cons_succ])
          (refine wpAnyH_take (i := 24) (oi := ?_) (v := ?_) ?_ (by kernel_rfl) (by kernel_rfl) (by kernel_rfl) ?_ ?_ (by assumption) ?_; rotate_left 2; (focus ((simp only [List.getElem?_toArray, List.getElem?_cons_succ, List.getElem?_cons_zero]); try rfl)); (focus (exact (fun _ _ _ h => h))); (focus (refine Or.inl ⟨by rfl, ?_⟩; intro w hSw; (try dsimp only at hSw); go_simp; try with_reducible rfl)); try simp only [Act.put, List.setIfInBounds_toArray, List.set_cons_zero, List.set_cons_succ])
          (refine wpAnyH_take (i := 25) (oi := ?_) (v := ?_) ?_ (by kernel_rfl) (by kernel_rfl) (by kernel_rfl) ?_ ?_ (by assumption) ?_; rotate_left 2; (focus ((simp only [List.getElem?_toArray, List.getElem?_cons_succ, List.getElem?_cons_zero]); try rfl)); (focus (exact (fun _ _ _ h => h))); (focus (refine Or.inl ⟨by rfl, ?_⟩; intro w hSw; (try dsimp only at hSw); go_simp; try with_reducible rfl)); try simp only [Act.put, List.setIfInBounds_toArray, List.set_cons_zero, List.set_cons_succ])
          (refine wpAnyH_take (i := 26) (oi := ?_) (v := ?_) ?_ (by kernel_rfl) (by kernel_rfl) (by kernel_rfl) ?_ ?_ (by assumption) ?_; rotate_left 2; (focus ((simp only [List.getElem?_toArray, List.getElem?_cons_succ, List.getElem?_cons_zero]); try rfl)); (focus (exact (fun _ _ _ h => h))); (focus (refine Or.inl ⟨by rfl, ?_⟩; intro w hSw; (try dsimp only at hSw); go_simp; try with_reducible rfl)); try simp only [Act.put, List.setIfInBounds_toArray, List.set_cons_zero, List.set_cons_succ])
          (refine wpAnyH_take (i := 27) (oi := ?_) (v := ?_) ?_ (by kernel_rfl) (by kernel_rfl) (by kernel_rfl) ?_ ?_ (by assumption) ?_; rotate_left 2; (focus ((simp only [List.getElem?_toArray, List.getElem?_cons_succ, List.getElem?_cons_zero]); try rfl)); (focus (exact (fun _ _ _ h => h))); (focus (refine Or.inl ⟨by rfl, ?_⟩; intro w hSw; (try dsimp only at hSw); go_simp; try with_reducible rfl)); try simp only [Act.put, List.setIfInBounds_toArray, List.set_cons_zero, List.set_cons_succ])
          (refine wpAnyH_take (i := 28) (oi := ?_) (v := ?_) ?_ (by kernel_rfl) (by kernel_rfl) (by kernel_rfl) ?_ ?_ (by assumption) ?_; rotate_left 2; (focus ((simp only [List.getElem?_toArray, List.getElem?_cons_succ, List.getElem?_cons_zero]); try rfl)); (focus (exact (fun _ _ _ h => h))); (focus (refine Or.inl ⟨by rfl, ?_⟩; intro w hSw; (try dsimp only at hSw); go_simp; try with_reducible rfl)); try simp only [Act.put, List.setIfInBounds_toArray, List.set_cons_zero, List.set_cons_succ])
          (refine wpAnyH_take (i := 29) (oi := ?_) (v := ?_) ?_ (by kernel_rfl) (by kernel_rfl) (by kernel_rfl) ?_ ?_ (by assumption) ?_; rotate_left 2; (focus ((simp only [List.getElem?_toArray, List.getElem?_cons_succ, List.getElem?_cons_zero]); try rfl)); (focus (exact (fun _ _ _ h => h))); (focus (refine Or.inl ⟨by rfl, ?_⟩; intro w hSw; (try dsimp only at hSw); go_simp; try with_reducible rfl)); try simp only [Act.put, List.setIfInBounds_toArray, List.set_cons_zero, List.set_cons_succ])
          (refine wpAnyH_take (i := 30) (oi := ?_) (v := ?_) ?_ (by kernel_rfl) (by kernel_rfl) (by kernel_rfl) ?_ ?_ (by assumption) ?_; rotate_left 2; (focus ((simp only [List.getElem?_toArray, List.getElem?_cons_succ, List.getElem?_cons_zero]); try rfl)); (focus (exact (fun _ _ _ h => h))); (focus (refine Or.inl ⟨by rfl, ?_⟩; intro w hSw; (try dsimp only at hSw); go_simp; try with_reducible rfl)); try simp only [Act.put, List.setIfInBounds_toArray, List.set_cons_zero, List.set_cons_succ])
          (refine wpAnyH_take (i := 31) (oi := ?_) (v := ?_) ?_ (by kernel_rfl) (by kernel_rfl) (by kernel_rfl) ?_ ?_ (by assumption) ?_; rotate_left 2; (focus ((simp only [List.getElem?_toArray, List.getElem?_cons_succ, List.getElem?_cons_zero]); try rfl)); (focus (exact (fun _ _ _ h => h))); (focus (refine Or.inl ⟨by rfl, ?_⟩; intro w hSw; (try dsimp only at hSw); go_simp; try with_reducible rfl)); try simp only [Act.put, List.setIfInBounds_toArray, List.set_cons_zero, List.set_cons_succ])
          (refine wpAnyH_take (i := 32) (oi := ?_) (v := ?_) ?_ (by kernel_rfl) (by kernel_rfl) (by kernel_rfl) ?_ ?_ (by assumption) ?_; rotate_left 2; (focus ((simp only [List.getElem?_toArray, List.getElem?_cons_succ, List.getElem?_cons_zero]); try rfl)); (focus (exact (fun _ _ _ h => h))); (focus (refine Or.inl ⟨by rfl, ?_⟩; intro w hSw; (try dsimp only at hSw); go_simp; try with_reducible rfl)); try simp only [Act.put, List.setIfInBounds_toArray, List.set_cons_zero, List.set_cons_succ])
          refine wpAnyH_done (by kernel_rfl) ?_ _
          go_wp2_with fail
          go_roundw
          case rel => exact ⟨k + 1, by omega, by go_num, Lib.hid (by rw [hls1.out]; exact hst.out), fA.seqN fq⟩
          case measure => simp [RowKit.intOf]; omega
    · obtain rfl : k = N := by omega
      have hf : manF t j (lastOf ps 0) (ps.drop 0) = true := by rw [hE.out, hend.out]
      have hbc := hbb.out
      rw [hf, Bool.true_and] at hbc
      have d4 : wr.cell? ⟨gx, 4, none⟩ = some (.int .i64 c) := bk.cell 4
      replace bk := Lib.hid bk
      replace hbc := Lib.hid hbc
      go_wp2_with fail
      go_fit (k2.out _)
      rintro e w1 ⟨rfl, hw1⟩
      obtain rfl := hw1.symm
      cases hb1 : inB 0 3 c with
      | false =>
        go_wp2_with fail
        go_ret
        exact ⟨ret_b (by rw [← hbc.out, hb1]; rfl), frw⟩
      | true =>
      go_wp2_with fail
      go_fit (k3.out _)
      rintro e w1 ⟨rfl, hw1⟩
      obtain rfl := hw1.symm
      cases hb2 : inB 1 4 (k : Int) with
      | false =>
        go_wp2_with fail
        go_ret
        exact ⟨ret_b (by rw [← hbc.out, hb1, hb2]; rfl), frw⟩
      | true =>
        go_wp2_with fail
        go_ret
        exact ⟨ret_b (by rw [← hbc.out, hb1, hb2]; rfl), frw⟩
end Go.Proofs.YtbmafogjmdilkaaGreatDoor
end

section
set_option linter.unusedVariables false
set_option linter.unusedSimpArgs false
set_option maxRecDepth 100000
namespace Go.Proofs.YtbmafogjmdilkaaGreatDoor
open Go.RowKit Go Go.Lib

theorem and3a (x y z : Bool) : (y && (x && z)) = (x && (y && z)) := by cases x <;> cases y <;> rfl
theorem and3b (x y z : Bool) : (y && (z && x)) = (x && (y && z)) := by cases x <;> cases y <;> cases z <;> rfl
theorem rr_ms (v : Value) (m : Ms) (w : World) (h : RfW w v m) : Calls Tryz.prog 12 #[v] w fun e w' => e = .returned (.bool m.ok) ∧ Fr noB w w' := by
  cases m with
  | trigger a t c => obtain rfl := h; exact (rr_1 a t c w).mono fun e w' ⟨h1, f⟩ => ⟨h1.trans (ret_b (and3a _ _ _)), f⟩
  | pin t j => obtain rfl := h; exact rr_2 t j w
  | pinned p => obtain ⟨ua, uc, rfl, h1⟩ := h; exact rr_3 p.a p.t p.j p.n ua _ uc p.lo p.cr w h1
  | gone a t j => obtain rfl := h; exact (rr_4 a t j w).mono fun e w' ⟨h1, f⟩ => ⟨h1.trans (ret_b (and3b _ _ _)), f⟩
  | collect t j => obtain rfl := h; exact rr_5 t j w
  | chunk a t j i n sp => obtain ⟨sa, sc, rfl, h1⟩ := h; exact rr_Chunk a t j i n sp sa _ sc w h1
  | manifest t j c ps => obtain ⟨qa, qc, rfl, h1⟩ := h; exact rr_Manifest t j c ps qa _ qc w h1
  | stored t j => obtain rfl := h; exact rr_8 t j w
  | unpin t j => obtain rfl := h; exact rr_9 t j w
  | unpinned a t j => obtain rfl := h; exact (rr_10 a t j w).mono fun e w' ⟨h1, f⟩ => ⟨h1.trans (ret_b (and3b _ _ _)), f⟩
end Go.Proofs.YtbmafogjmdilkaaGreatDoor
end

section
set_option linter.unusedVariables false
set_option linter.unusedSimpArgs false
set_option maxRecDepth 100000
set_option maxRecDepth 100000
namespace Go.Proofs.YtbmafogjmdilkaaGreatDoor
open Go.RowKit Go Go.Lib

def aB : List UInt8 := Ms.body (.pin 7 1)
def aC : Int := checkL aB
theorem aC_ne : aC ≠ 0 := by decide +kernel
theorem aC_bd : 0 ≤ aC ∧ aC ≤ 4294967295 := checkL_bd _
theorem aOk : Ms.ok (.pin 7 1) = true := by decide +kernel
theorem aTxt : Ms.txt (.pin 7 1) = Ms.body (.pin 7 1) ++ numsL [aC / 65536, aC % 65536] := by
  unfold Ms.txt
  rw [aOk]
  rfl
theorem nums_inj {a b c d : Int} (ha : 0 ≤ a ∧ a ≤ 65535) (hb : 0 ≤ b ∧ b ≤ 65535) (hc : 0 ≤ c ∧ c ≤ 65535) (hd : 0 ≤ d ∧ d ≤ 65535) (h : numsL [a, b] = numsL [c, d]) : a = c ∧ b = d := by
  rw [two_eq, two_eq] at h
  obtain ⟨h1, h2⟩ := num_pre (by omega) (by omega) h
  obtain ⟨h3, h4⟩ := num_pre (by omega) (by omega) h2
  omega
theorem a_no : intS 1 10 [120] = none := by decide +kernel
theorem aIface (w : World) : (binOp .eql 27 (.iface 56 (.agg #[.int .i64 7, .int .i64 1])) (.iface 56 (.agg #[.int .i64 7, .int .i64 1]))).run Tryz.prog w = .ok (.bool true) w := by kernel_rfl
theorem aZero : strB (numL (2 : Int).toNat) ++ strB (numL (7 : Int).toNat) ++ strB (numL (1 : Int).toNat) ++ strB (numL (0 : Int).toNat) ++ strB (numL (0 : Int).toNat) = strB (Ms.body (.pin 7 1) ++ numsL [0, 0]) := by
  rw [strB_append, strB_append, strB_append, strB_append]
  congr 1

set_option maxHeartbeats 4000000 in
theorem awake_any (w : World) (hg : Gl w) : Calls Tryz.prog 6 #[] w fun e w' => e = .returned (.bool true) ∧ Fr noB w w' := by
  have f1 : Fr noB w (w.alloc (.cells #[.int .i64 7, .int .i64 1] 56)) := (Fr.refl _ w).alloc _
  have b1 := Blk.new w 56 [.int .i64 7, .int .i64 1]
  obtain ⟨B, hB⟩ : ∃ B, w.heap.size = B := ⟨_, rfl⟩
  rw [hB] at b1
  have hgl := fun w' (f : Fr noB w w') => hg.fr f
  have hpr := fun w' (f : Fr noB w w') => print_ms (mPin 7 1) (.pin 7 1) w' (hgl w' f) rfl
  have hbd := aC_bd
  have hrd := fun w' (f : Fr noB w w') => read_body (.pin 7 1) (aC / 65536) (aC % 65536) w' (hgl w' f) aOk (by omega) (by omega)
  have hrz := fun w' (f : Fr noB w w') => read_body (.pin 7 1) 0 0 w' (hgl w' f) aOk (by omega) (by omega)
  have hrx := fun w' (f : Fr noB w w') => read_bad (ByteArray.mk #[120]) w' (hgl w' f) (by decide) a_no
  have hri := fun (n : Int) h0 h1 w' => refint_any n w' h0 h1
  have hz := aZero
  have hne : Ms.txt (.pin 7 1) ≠ Ms.body (.pin 7 1) ++ numsL [0, 0] := fun h => by
    rw [aTxt] at h
    have := nums_inj (by omega) (by omega) (by omega) (by omega) (List.append_cancel_left h)
    have h2 := aC_ne
    omega
  have hr2 := fun w' => rprint_2 7 1 w' (by omega) (by omega)
  rw [show Ms.body (.pin 7 1) ++ sums (checkL (Ms.body (.pin 7 1))) = Ms.txt (.pin 7 1) from aTxt.symm] at hr2
  have hn := fun n => (num_len n).2
  have l1 : (strB (numL (2 : Int).toNat)).size + (strB (numL (7 : Int).toNat)).size ≤ 9223372036854775807 := by rw [strB_size, strB_size]; have := hn (2 : Int).toNat; have := hn (7 : Int).toNat; omega
  have ad1 := fun w => run_string_add_sum (P := Tryz.prog) (w := w) (strB (numL (2 : Int).toNat)) (strB (numL (7 : Int).toNat)) l1
  have ad2 := fun w => run_string_add_sum (P := Tryz.prog) (w := w) (strB (numL (2 : Int).toNat) ++ strB (numL (7 : Int).toNat)) (strB (numL (1 : Int).toNat)) (by rw [ByteArray.size_append, strB_size, strB_size, strB_size]; have := hn (2 : Int).toNat; have := hn (7 : Int).toNat; have := hn (1 : Int).toNat; omega)
  have ad3 := fun w => run_string_add_sum (P := Tryz.prog) (w := w) (strB (numL (2 : Int).toNat) ++ strB (numL (7 : Int).toNat) ++ strB (numL (1 : Int).toNat)) (strB (numL (0 : Int).toNat)) (by rw [ByteArray.size_append, ByteArray.size_append, strB_size, strB_size, strB_size, strB_size]; have := hn (2 : Int).toNat; have := hn (7 : Int).toNat; have := hn (1 : Int).toNat; have := hn (0 : Int).toNat; omega)
  have ad4 := fun w => run_string_add_sum (P := Tryz.prog) (w := w) (strB (numL (2 : Int).toNat) ++ strB (numL (7 : Int).toNat) ++ strB (numL (1 : Int).toNat) ++ strB (numL (0 : Int).toNat)) (strB (numL (0 : Int).toNat)) (by rw [ByteArray.size_append, ByteArray.size_append, ByteArray.size_append, strB_size, strB_size, strB_size, strB_size]; have := hn (2 : Int).toNat; have := hn (7 : Int).toNat; have := hn (1 : Int).toNat; have := hn (0 : Int).toNat; omega)
  have r2 := hri 2 (by omega) (by omega)
  have r7 := hri 7 (by omega) (by omega)
  have r1 := hri 1 (by omega) (by omega)
  have r0 := hri 0 (by omega) (by omega)
  have hself : ((strB (Ms.txt (.pin 7 1))).toList == (strB (Ms.txt (.pin 7 1))).toList) = true := by simp
  rw [← aTxt] at hrd
  generalize strB (Ms.txt (.pin 7 1)) = TX at *
  generalize strB (numL (2 : Int).toNat) = A2 at *
  generalize strB (numL (7 : Int).toNat) = A7 at *
  generalize strB (numL (1 : Int).toNat) = A1 at *
  generalize strB (numL (0 : Int).toNat) = A0 at *
  rw [← hz] at hrz
  have hof := fun w' => of_of (v := .nilIface) (of_Trigger 1 5 0 w')
  have hgo := fun w' => agent_of (sender_Gone 2 0 0 w')
  have hap := fun w' => agent_of (sender_Pin 7 1 w')
  have hrt := fun w' => right_ms (mPin 7 1) (.pin 7 1) w' rfl
  rw [aOk] at hrt
  have hq := aIface
  unfold mPin mGone mTrigger at *
  replace hpr := Lib.hid hpr
  replace hrd := Lib.hid hrd
  replace hrz := Lib.hid hrz
  replace hrx := Lib.hid hrx
  replace hri := Lib.hid hri
  replace hr2 := Lib.hid hr2
  replace hgl := Lib.hid hgl
  replace hne := Lib.hid hne
  replace hz := Lib.hid hz
  replace hn := Lib.hid hn
  replace r2 := Lib.hid r2
  replace r7 := Lib.hid r7
  replace r1 := Lib.hid r1
  replace r0 := Lib.hid r0
  replace hof := Lib.hid hof
  replace hgo := Lib.hid hgo
  replace hap := Lib.hid hap
  replace hrt := Lib.hid hrt
  replace hbd := Lib.hid hbd
  clear l1
  go_enter Tryz.func6, Tryz.ntmps6
  go_wp2_with fail
  generalize (w.alloc (.cells #[.int .i64 7, .int .i64 1] 56)) = w1 at *
  go_fit (hpr.out w1 f1)
  rintro e w2 ⟨rfl, f2⟩
  have fr2 := f1.seqN f2
  have b2 := f2.blk b1 (fun q => q)
  clear f2 b1 f1
  go_wp2_with fail
  go_fit (hrd.out w2 fr2)
  rintro e w3 ⟨f3, h3⟩
  have h4 : e = .returned (.tuple #[.iface 56 (.agg #[.int .i64 7, .int .i64 1]), .int .i64 0]) := by
    rcases h3 with ⟨_, v3, q, h5⟩ | ⟨h5, _⟩
    · rw [q, show v3 = .iface 56 (.agg #[.int .i64 7, .int .i64 1]) from h5]
    · exact absurd rfl h5
  subst h4
  clear h3
  have fr3 := fr2.seqN f3
  have b3 := f3.blk b2 (fun q => q)
  clear f3 b2 fr2
  go_wp2_with fail
  go_fit (hrx.out w3 fr3)
  rintro e w4 ⟨rfl, f4⟩
  have fr4 := fr3.seqN f4
  have b4 := f4.blk b3 (fun q => q)
  clear f4 b3 fr3
  go_wp2_with fail
  go_fit (r2.out w4)
  rintro e w5 ⟨rfl, f5⟩
  go_wp2_with fail
  go_fit (r7.out w5)
  rintro e w6 ⟨rfl, f6⟩
  go_wp2_with fail
  go_fit (r1.out w6)
  rintro e w7 ⟨rfl, f7⟩
  go_wp2_with fail
  go_fit (r0.out w7)
  rintro e w8 ⟨rfl, f8⟩
  go_wp2_with fail
  go_fit (r0.out w8)
  rintro e w9 ⟨rfl, f9⟩
  have fr9 := ((((fr4.seqN f5).seqN f6).seqN f7).seqN f8).seqN f9
  have b9 := ((((f5.seqN f6).seqN f7).seqN f8).seqN f9).blk b4 (fun q => q)
  clear f5 f6 f7 f8 f9 fr4 b4
  go_wp2_with fail
  go_fit (hrz.out w9 fr9)
  rintro e wA ⟨fA, hA⟩
  rcases hA with ⟨hA, _⟩ | ⟨_, rfl⟩
  · exact absurd hA hne.out
  have frA := fr9.seqN fA
  have bA := fA.blk b9 (fun q => q)
  clear fA b9 fr9
  go_wp2_with fail
  go_fit (hof.out wA)
  rintro e wB ⟨rfl, fB⟩
  have frB := frA.seqN fB
  have bB := fB.blk bA (fun q => q)
  clear fB bA frA
  go_wp2_with fail
  go_fit (hgo.out wB)
  rintro e wC ⟨rfl, fC⟩
  have frC := frB.seqN fC
  have bC := fC.blk bB (fun q => q)
  have d0 : wC.cell? ⟨B, 0, none⟩ = some (.int .i64 7) := bC.cell 0
  have d1 : wC.cell? ⟨B, 1, none⟩ = some (.int .i64 1) := bC.cell 1
  clear fC bB frB
  go_wp2_with fail
  go_fit (hap.out wC)
  rintro e wD ⟨rfl, fD⟩
  have frD := frC.seqN fD
  have bD := fD.blk bC (fun q => q)
  clear fD bC frC d0 d1
  go_wp2_with fail
  go_fit (of_nil wD)
  rintro e wE ⟨rfl, fE⟩
  have frE := frD.seqN fE
  have bE := fE.blk bD (fun q => q)
  clear fE bD frD
  go_wp2_with fail
  go_fit (hr2.out wE)
  rintro e wF ⟨rfl, fF⟩
  have frF := frE.seqN fF
  have bF := fF.blk bE (fun q => q)
  have d0 : wF.cell? ⟨B, 0, none⟩ = some (.int .i64 7) := bF.cell 0
  have d1 : wF.cell? ⟨B, 1, none⟩ = some (.int .i64 1) := bF.cell 1
  clear fF bE frE
  go_wp2_with fail
  go_fit (hrt.out wF)
  rintro e wG ⟨rfl, fG⟩
  have frG := frF.seqN fG
  have bG := fG.blk bF (fun q => q)
  clear fG bF frF d0 d1
  go_wp2_with fail
  go_fit (right_nil wG)
  rintro e wH ⟨rfl, fH⟩
  have frH := frG.seqN fH
  have bH := fH.blk bG (fun q => q)
  clear fH bG frG
  go_wp2_with fail
  go_fit (mayBe_none wH)
  rintro e wI ⟨rfl, fI⟩
  have frI := frH.seqN fI
  have bI := fI.blk bH (fun q => q)
  have d0 : wI.cell? ⟨B, 0, none⟩ = some (.int .i64 7) := bI.cell 0
  have d1 : wI.cell? ⟨B, 1, none⟩ = some (.int .i64 1) := bI.cell 1
  rw [show strB [] = ByteArray.mk #[] from rfl]
  clear fI bH frH
  go_wp2_with fail
  go_fit (kind_Pin 7 1 wI)
  rintro e wJ ⟨rfl, fJ⟩
  go_wp2_with fail
  go_ret
  exact ⟨rfl, frI.seqN fJ⟩
end Go.Proofs.YtbmafogjmdilkaaGreatDoor
end

section
set_option linter.unusedVariables false
set_option linter.unusedSimpArgs false
set_option maxRecDepth 100000
namespace Go.Proofs.YtbmafogjmdilkaaGreatDoor
open Go.RowKit Go Go.Lib

set_option maxHeartbeats 1000000 in
set_option maxRecDepth 10000 in
theorem make_1 (a t j c n : Int) (ua : Option Addr) (un uc : Nat) (lo : Bool) (sa : Option Addr) (sn sc : Nat) (w : World) :
    Calls Tryz.prog 8 #[.int .i64 1, .int .i64 a, .int .i64 t, .int .i64 j, .int .i64 c, .int .i64 n, .slice ua un uc, .bool lo, .slice sa sn sc] w fun e w' => e = .returned (mTrigger a t c) ∧ Fr noB w w' := by
  unfold mTrigger
  have fX := (Fr.refl noB w).alloc (.cells #[.int .i64 a, .int .i64 t, .int .i64 j, .int .i64 n, .slice ua un uc, .bool lo] 63)
  go_enter Tryz.func8, Tryz.ntmps8
  go_wp2_with fail
  go_ret
  exact ⟨rfl, fX⟩
set_option maxHeartbeats 1000000 in
set_option maxRecDepth 10000 in
theorem make_2 (a t j c n : Int) (ua : Option Addr) (un uc : Nat) (lo : Bool) (sa : Option Addr) (sn sc : Nat) (w : World) :
    Calls Tryz.prog 8 #[.int .i64 2, .int .i64 a, .int .i64 t, .int .i64 j, .int .i64 c, .int .i64 n, .slice ua un uc, .bool lo, .slice sa sn sc] w fun e w' => e = .returned (mPin t j) ∧ Fr noB w w' := by
  unfold mPin
  have fX := (Fr.refl noB w).alloc (.cells #[.int .i64 a, .int .i64 t, .int .i64 j, .int .i64 n, .slice ua un uc, .bool lo] 63)
  go_enter Tryz.func8, Tryz.ntmps8
  go_wp2_with fail
  go_ret
  exact ⟨rfl, fX⟩
set_option maxHeartbeats 1000000 in
set_option maxRecDepth 10000 in
theorem make_3 (a t j c n : Int) (ua : Option Addr) (un uc : Nat) (lo : Bool) (sa : Option Addr) (sn sc : Nat) (w : World) :
    Calls Tryz.prog 8 #[.int .i64 3, .int .i64 a, .int .i64 t, .int .i64 j, .int .i64 c, .int .i64 n, .slice ua un uc, .bool lo, .slice sa sn sc] w fun e w' => e = .returned (mPinned a t j n (.slice ua un uc) lo) ∧ Fr noB w w' := by
  unfold mPinned
  have fX := (Fr.refl noB w).alloc (.cells #[.int .i64 a, .int .i64 t, .int .i64 j, .int .i64 n, .slice ua un uc, .bool lo] 63)
  go_enter Tryz.func8, Tryz.ntmps8
  go_wp2_with fail
  go_ret
  exact ⟨rfl, fX⟩
set_option maxHeartbeats 1000000 in
set_option maxRecDepth 10000 in
theorem make_4 (a t j c n : Int) (ua : Option Addr) (un uc : Nat) (lo : Bool) (sa : Option Addr) (sn sc : Nat) (w : World) :
    Calls Tryz.prog 8 #[.int .i64 4, .int .i64 a, .int .i64 t, .int .i64 j, .int .i64 c, .int .i64 n, .slice ua un uc, .bool lo, .slice sa sn sc] w fun e w' => e = .returned (mGone a t j) ∧ Fr noB w w' := by
  unfold mGone
  have fX := (Fr.refl noB w).alloc (.cells #[.int .i64 a, .int .i64 t, .int .i64 j, .int .i64 n, .slice ua un uc, .bool lo] 63)
  go_enter Tryz.func8, Tryz.ntmps8
  go_wp2_with fail
  go_ret
  exact ⟨rfl, fX⟩
set_option maxHeartbeats 1000000 in
set_option maxRecDepth 10000 in
theorem make_5 (a t j c n : Int) (ua : Option Addr) (un uc : Nat) (lo : Bool) (sa : Option Addr) (sn sc : Nat) (w : World) :
    Calls Tryz.prog 8 #[.int .i64 5, .int .i64 a, .int .i64 t, .int .i64 j, .int .i64 c, .int .i64 n, .slice ua un uc, .bool lo, .slice sa sn sc] w fun e w' => e = .returned (mCollect t j) ∧ Fr noB w w' := by
  unfold mCollect
  have fX := (Fr.refl noB w).alloc (.cells #[.int .i64 a, .int .i64 t, .int .i64 j, .int .i64 n, .slice ua un uc, .bool lo] 63)
  go_enter Tryz.func8, Tryz.ntmps8
  go_wp2_with fail
  go_ret
  exact ⟨rfl, fX⟩
set_option maxHeartbeats 1000000 in
set_option maxRecDepth 10000 in
theorem make_6 (a t j c n : Int) (ua : Option Addr) (un uc : Nat) (lo : Bool) (sa : Option Addr) (sn sc : Nat) (w : World) :
    Calls Tryz.prog 8 #[.int .i64 6, .int .i64 a, .int .i64 t, .int .i64 j, .int .i64 c, .int .i64 n, .slice ua un uc, .bool lo, .slice sa sn sc] w fun e w' => e = .returned (mChunk a t j c n (.slice sa sn sc)) ∧ Fr noB w w' := by
  unfold mChunk
  have fX := (Fr.refl noB w).alloc (.cells #[.int .i64 a, .int .i64 t, .int .i64 j, .int .i64 n, .slice ua un uc, .bool lo] 63)
  go_enter Tryz.func8, Tryz.ntmps8
  go_wp2_with fail
  go_ret
  exact ⟨rfl, fX⟩
set_option maxHeartbeats 1000000 in
set_option maxRecDepth 10000 in
theorem make_8 (a t j c n : Int) (ua : Option Addr) (un uc : Nat) (lo : Bool) (sa : Option Addr) (sn sc : Nat) (w : World) :
    Calls Tryz.prog 8 #[.int .i64 8, .int .i64 a, .int .i64 t, .int .i64 j, .int .i64 c, .int .i64 n, .slice ua un uc, .bool lo, .slice sa sn sc] w fun e w' => e = .returned (mStored t j) ∧ Fr noB w w' := by
  unfold mStored
  have fX := (Fr.refl noB w).alloc (.cells #[.int .i64 a, .int .i64 t, .int .i64 j, .int .i64 n, .slice ua un uc, .bool lo] 63)
  go_enter Tryz.func8, Tryz.ntmps8
  go_wp2_with fail
  go_ret
  exact ⟨rfl, fX⟩
set_option maxHeartbeats 1000000 in
set_option maxRecDepth 10000 in
theorem make_9 (a t j c n : Int) (ua : Option Addr) (un uc : Nat) (lo : Bool) (sa : Option Addr) (sn sc : Nat) (w : World) :
    Calls Tryz.prog 8 #[.int .i64 9, .int .i64 a, .int .i64 t, .int .i64 j, .int .i64 c, .int .i64 n, .slice ua un uc, .bool lo, .slice sa sn sc] w fun e w' => e = .returned (mUnpin t j) ∧ Fr noB w w' := by
  unfold mUnpin
  have fX := (Fr.refl noB w).alloc (.cells #[.int .i64 a, .int .i64 t, .int .i64 j, .int .i64 n, .slice ua un uc, .bool lo] 63)
  go_enter Tryz.func8, Tryz.ntmps8
  go_wp2_with fail
  go_ret
  exact ⟨rfl, fX⟩
set_option maxHeartbeats 1000000 in
set_option maxRecDepth 10000 in
theorem make_10 (a t j c n : Int) (ua : Option Addr) (un uc : Nat) (lo : Bool) (sa : Option Addr) (sn sc : Nat) (w : World) :
    Calls Tryz.prog 8 #[.int .i64 10, .int .i64 a, .int .i64 t, .int .i64 j, .int .i64 c, .int .i64 n, .slice ua un uc, .bool lo, .slice sa sn sc] w fun e w' => e = .returned (mUnpinned a t j) ∧ Fr noB w w' := by
  unfold mUnpinned
  have fX := (Fr.refl noB w).alloc (.cells #[.int .i64 a, .int .i64 t, .int .i64 j, .int .i64 n, .slice ua un uc, .bool lo] 63)
  go_enter Tryz.func8, Tryz.ntmps8
  go_wp2_with fail
  go_ret
  exact ⟨rfl, fX⟩
set_option maxHeartbeats 1000000 in
set_option maxRecDepth 10000 in
theorem make_0 (k a t j c n : Int) (ua : Option Addr) (un uc : Nat) (lo : Bool) (sa : Option Addr) (sn sc : Nat) (w : World) (h : k < 1 ∨ 10 < k) :
    Calls Tryz.prog 8 #[.int .i64 k, .int .i64 a, .int .i64 t, .int .i64 j, .int .i64 c, .int .i64 n, .slice ua un uc, .bool lo, .slice sa sn sc] w fun e w' => e = .returned .nilIface ∧ Fr noB w w' := by
  have h1 : (k == 1) = false := beq_eq_false_iff_ne.2 (by omega)
  have h2 : (k == 2) = false := beq_eq_false_iff_ne.2 (by omega)
  have h3 : (k == 3) = false := beq_eq_false_iff_ne.2 (by omega)
  have h4 : (k == 4) = false := beq_eq_false_iff_ne.2 (by omega)
  have h5 : (k == 5) = false := beq_eq_false_iff_ne.2 (by omega)
  have h6 : (k == 6) = false := beq_eq_false_iff_ne.2 (by omega)
  have h7 : (k == 7) = false := beq_eq_false_iff_ne.2 (by omega)
  have h8 : (k == 8) = false := beq_eq_false_iff_ne.2 (by omega)
  have h9 : (k == 9) = false := beq_eq_false_iff_ne.2 (by omega)
  have h10 : (k == 10) = false := beq_eq_false_iff_ne.2 (by omega)
  have fX := (Fr.refl noB w).alloc (.cells #[.int .i64 a, .int .i64 t, .int .i64 j, .int .i64 n, .slice ua un uc, .bool lo] 63)
  go_enter Tryz.func8, Tryz.ntmps8
  go_wp2_with fail
  go_ret
  exact ⟨rfl, fX⟩
set_option maxHeartbeats 1000000 in
set_option maxRecDepth 10000 in
theorem make_7 (a t j c n : Int) (ua : Option Addr) (un uc : Nat) (lo : Bool) (sa : Option Addr) (sn sc : Nat) (w : World) :
    Calls Tryz.prog 8 #[.int .i64 7, .int .i64 a, .int .i64 t, .int .i64 j, .int .i64 c, .int .i64 n, .slice ua un uc, .bool lo, .slice sa sn sc] w fun e w' => ∃ g, e = .returned (mManifest t j c (.slice (some ⟨g, 0, none⟩) 2 2)) ∧ w.heap.size ≤ g ∧
      Blk w' g 63 [.int .i64 a, .int .i64 t, .int .i64 j, .int .i64 n, .slice ua un uc, .bool lo, .int .i64 (wrap64 (a + 1)), .int .i64 t, .int .i64 j, .int .i64 n, .slice ua un uc, .bool lo] ∧ Fr noB w w' := by
  unfold mManifest
  have fX := (Fr.refl noB w).alloc (.cells #[.int .i64 a, .int .i64 t, .int .i64 j, .int .i64 n, .slice ua un uc, .bool lo] 63)
  go_enter Tryz.func8, Tryz.ntmps8
  go_wp2_with fail
  go_ret
  refine ⟨w.heap.size + 1 + 1, rfl, by omega, ?_, ((fX.alloc _).alloc _)⟩
  have hb := Blk.new ((w.alloc (.cells #[.int .i64 a, .int .i64 t, .int .i64 j, .int .i64 n, .slice ua un uc, .bool lo] 63)).alloc (.cells #[.int .i64 (wrap64 (a + 1)), .int .i64 t, .int .i64 j, .int .i64 n, .slice ua un uc, .bool lo] 63)) 63 [.int .i64 a, .int .i64 t, .int .i64 j, .int .i64 n, .slice ua un uc, .bool lo, .int .i64 (wrap64 (a + 1)), .int .i64 t, .int .i64 j, .int .i64 n, .slice ua un uc, .bool lo]
  simp at hb
  exact hb
end Go.Proofs.YtbmafogjmdilkaaGreatDoor
end

section
set_option linter.unusedVariables false
set_option linter.unusedSimpArgs false
set_option maxRecDepth 100000
namespace Go.Proofs.YtbmafogjmdilkaaGreatDoor
open Go.RowKit Go Go.Lib

theorem txt_eqP {m : Ms} (h : m.ok = true) : m.txt = m.body ++ numsL [checkL m.body / 65536, checkL m.body % 65536] := by
  unfold Ms.txt
  rw [h]
  rfl
theorem read_own (m : Ms) (w : World) (hg : Gl w) (hok : m.ok = true) : Calls Tryz.prog 15 #[.string (strB m.txt)] w fun e w' => ∃ x, e = .returned (.tuple #[x, .int .i64 0]) ∧ MsW w' x m ∧ Fr noB w w' := by
  have h1 := checkL_bd m.body
  have h2 := read_body m (checkL m.body / 65536) (checkL m.body % 65536) w hg hok (by omega) (by omega)
  rw [← txt_eqP hok] at h2
  refine h2.mono ?_
  rintro e w' ⟨f, ⟨_, x, rfl, hx⟩ | ⟨hn, _⟩⟩
  · exact ⟨x, rfl, hx, f⟩
  · exact absurd rfl hn
theorem txt_no {m : Ms} (h : m.ok = false) : strB m.txt = ByteArray.mk #[] := by unfold Ms.txt; rw [h]; rfl
end Go.Proofs.YtbmafogjmdilkaaGreatDoor
end
