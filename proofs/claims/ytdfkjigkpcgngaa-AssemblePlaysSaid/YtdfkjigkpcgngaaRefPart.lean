/-
  The document's answer: may a part be?
-/
import Derived.Test.YtdfkjigkpcgngaaPlay0
set_option linter.unusedVariables false
set_option linter.unusedSimpArgs false
namespace Go.Proofs.Ytdfkjigkpcgngaa
open Go.RowKit Go Go.Lib

theorem risB_big {xs : List Int} (h : 4 < xs.length) : risB (-1) xs = false := by
  cases hq : risB (-1) xs with
  | false => rfl
  | true =>
    have := risB_len xs (-1) (by omega) (by omega) hq
    omega
def prevR (xs : List Int) (k : Nat) : Int := if k = 0 then -1 else xs.getD (k - 1) 0

set_option maxHeartbeats 4000000 in
set_option maxRecDepth 10000 in
theorem rpart_any (ag tr jb ct : Int) (v : Value) (lo : Bool) (xs : List Int) (w : World) (hv : RdI w v xs) :
    Calls Try.prog 36 #[.agg #[.int .i64 ag, .int .i64 tr, .int .i64 jb, .int .i64 ct, v, .bool lo]] w fun e w' => e = .returned (.bool (pinB ag tr jb ct xs)) ∧ Fr noB w w' := by
  obtain ⟨a, c, rfl, h1, h2, h3⟩ := hv
  have fX := (Fr.refl noB w).alloc (.cells #[.int .i64 ag, .int .i64 tr, .int .i64 jb, .int .i64 ct, .slice a xs.length c, .bool lo] 30)
  have bX := Blk.new w 30 [.int .i64 ag, .int .i64 tr, .int .i64 jb, .int .i64 ct, .slice a xs.length c, .bool lo]
  have k1 := within_any ag 0 3
  have k2 := within_any tr 1 65535
  have k3 := within_any jb 1 1073741824
  have k4 := within_any ct 0 1000
  have hbig := risB_big (xs := xs)
  rw [show pinB ag tr jb ct xs = (inB 0 3 ag && (inB 1 65535 tr && (inB 1 1073741824 jb && (inB 0 1000 ct && risB (-1) xs)))) from by unfold pinB; rw [← Bool.and_assoc (decide (0 ≤ ct))]; rfl]
  generalize hn : xs.length = n at *
  replace hn := Lib.hid hn
  replace h3 := Lib.hid h3
  replace hbig := Lib.hid hbig
  obtain ⟨wx, hwx⟩ : ∃ wx, wx = w.alloc (.cells #[.int .i64 ag, .int .i64 tr, .int .i64 jb, .int .i64 ct, .slice a n c, .bool lo] 30) := ⟨_, rfl⟩
  go_enter Try.func36, Try.ntmps36
  go_wp2_with fail
  refine (k1 _).mono ?_
  rintro e w1 ⟨rfl, hw1⟩
  obtain rfl := hw1.symm
  cases hb1 : inB 0 3 ag with
  | false =>
    go_wp2_with fail
    go_ret
    exact ⟨by simp [*], fX⟩
  | true =>
    go_wp2_with fail
    refine (k2 _).mono ?_
    rintro e w1 ⟨rfl, hw1⟩
    obtain rfl := hw1.symm
    cases hb2 : inB 1 65535 tr with
    | false =>
      go_wp2_with fail
      go_ret
      exact ⟨by simp [*], fX⟩
    | true =>
      go_wp2_with fail
      refine (k3 _).mono ?_
      rintro e w1 ⟨rfl, hw1⟩
      obtain rfl := hw1.symm
      cases hb3 : inB 1 1073741824 jb with
      | false =>
        go_wp2_with fail
        go_ret
        exact ⟨by simp [*], fX⟩
      | true =>
        go_wp2_with fail
        refine (k4 _).mono ?_
        rintro e w1 ⟨rfl, hw1⟩
        obtain rfl := hw1.symm
        cases hb4 : inB 0 1000 ct with
        | false =>
          go_wp2_with fail
          go_ret
          exact ⟨by simp [*], fX⟩
        | true =>
          by_cases hn4 : 4 < n
          · have hd : decide (4 < (n : Int)) = true := by simp; omega
            have hr := hbig.out hn4
            replace hr := Lib.hid hr
            go_wp2_with fail
            go_ret
            exact ⟨by rw [hr.out]; simp, fX⟩
          · have hd : decide (4 < (n : Int)) = false := by simp; omega
            replace hb1 := Lib.hid hb1
            replace hb2 := Lib.hid hb2
            replace hb3 := Lib.hid hb3
            replace hb4 := Lib.hid hb4
            have hcell : ∀ w', Fr noB wx w' → w'.cell? ⟨w.heap.size, 4, none⟩ = some (.slice a n c) := fun w' f => (f.blk (by rw [hwx]; exact bX) (fun q => q)).cell 4
            have hrow : ∀ w', Fr noB wx w' → ∀ i, i < n → ∃ g o, a = some ⟨g, o, none⟩ ∧ w'.cell? ⟨g, o + i, none⟩ = some (.int .i64 (xs.getD i 0)) := fun w' f i hi => by
              obtain ⟨g, o, e1, e2⟩ := h3.out i hi
              exact ⟨g, o, e1, ((by rw [hwx] at f; exact fX.seqN f : Fr noB w w')).cell e2 (fun q => q)⟩
            go_wp2_with fail
            rw [← hwx] at fX ⊢
            clear hwx bX h3 hbig
            generalize w.heap.size = pb at *
            replace hcell := Lib.hid hcell
            replace hrow := Lib.hid hrow
            go_loopw [3] (fun i wr => ∃ k : Nat, k ≤ n ∧ i = .int .i64 k ∧ Hid (risB (-1) xs = risB (prevR xs k) (xs.drop k)) ∧ Fr noB wx wr) (fun i _ => n - (RowKit.intOf i).toNat)
            case atStart => exact ⟨0, by omega, rfl, Lib.hid (by simp [prevR]), Fr.refl _ _⟩
            case round =>
              obtain ⟨k, hk, rfl, hE, fr⟩ := hrel
              have c4 := hcell.out _ fr
              by_cases hlt : k < n
              · obtain ⟨g, o, rfl, hc⟩ := hrow.out _ fr k hlt
                have hkx : k < xs.length := by rw [hn.out]; exact hlt
                have hd2 : xs.drop k = xs.getD k 0 :: xs.drop (k + 1) := by
                  rw [List.drop_eq_getElem_cons hkx]; simp [List.getD, hkx]
                have hE2 : risB (-1) xs = (inB 0 3 (xs.getD k 0) && decide (prevR xs k < xs.getD k 0) && risB (xs.getD k 0) (xs.drop (k + 1))) := by rw [hE.out, hd2]; rfl
                have hpn : prevR xs (k + 1) = xs.getD k 0 := by unfold prevR; rw [if_neg (by omega)]; rfl
                rw [← hpn] at hE2
                have hpk : prevR xs (k + 1) = xs.getD k 0 := hpn
                clear hd2 hkx hE
                cases hb : inB 0 3 (xs.getD k 0) with
                | false =>
                  have hres : Hid (risB (-1) xs = false) := Lib.hid (by rw [hE2, hpn, hb]; rfl)
                  have kx := within_any (xs.getD k 0) 0 3
                  rw [hb] at kx
                  generalize xs.getD k 0 = x at *
                  replace kx := Lib.hid kx
                  clear hE2 hpn hpk hb
                  go_wp2_with fail
                  go_quiet ((go_at_call 37; exact Calls.quiet_of_same (kx.out _)))
                  go_wp2_with fail
                  go_ret
                  exact ⟨by rw [hres.out]; simp, (fX.seqN fr).drewN _⟩
                | true =>
                  have kx := within_any (xs.getD k 0) 0 3
                  rw [hb] at kx
                  have hx0 : 0 ≤ xs.getD k 0 := by
                    unfold inB at hb
                    simp only [Bool.and_eq_true, decide_eq_true_eq] at hb
                    exact hb.1
                  rcases Nat.eq_zero_or_pos k with hk0 | hk0
                  · subst hk0
                    have hE3 : Hid (risB (-1) xs = risB (prevR xs (0 + 1)) (xs.drop (0 + 1))) := Lib.hid (by
                      rw [hE2, hpn, hb, decide_eq_true (show prevR xs 0 < xs.getD 0 0 by unfold prevR; rw [if_pos rfl]; omega)]; rfl)
                    generalize xs.getD 0 0 = x at *
                    rw [Nat.add_zero] at hc
                    replace kx := Lib.hid kx
                    clear hE2 hpn hpk hb
                    go_wp2_with fail
                    go_quiet ((go_at_call 37; exact Calls.quiet_of_same (kx.out _)))
                    go_wp2_with fail
                    go_roundw
                    case rel => exact ⟨0 + 1, by omega, by go_num, hE3, fr.drewN _⟩
                    case measure => first | (simp [RowKit.intOf]; done) | (simp [RowKit.intOf]; omega)
                  · obtain ⟨m, rfl⟩ : ∃ m, k = m + 1 := ⟨k - 1, by omega⟩
                    obtain ⟨g', o', e', hc'⟩ := hrow.out _ fr m (by omega)
                    cases e'
                    have hpm : prevR xs (m + 1) = xs.getD m 0 := by unfold prevR; rw [if_neg (by omega)]; rfl
                    by_cases hx : xs.getD m 0 < xs.getD (m + 1) 0
                    · have hE3 : Hid (risB (-1) xs = risB (prevR xs (m + 1 + 1)) (xs.drop (m + 1 + 1))) := Lib.hid (by
                        rw [hE2, hpn, hb, hpm, decide_eq_true hx]; rfl)
                      have hxd : decide (xs.getD (m + 1) 0 ≤ xs.getD m 0) = false := decide_eq_false (by omega)
                      generalize xs.getD (m + 1) 0 = x at *
                      generalize xs.getD m 0 = y at *
                      replace kx := Lib.hid kx
                      clear hE2 hpn hpk hb hpm hx
                      go_wp2_with fail
                      go_quiet ((go_at_call 37; exact Calls.quiet_of_same (kx.out _)))
                      go_wp2_with fail
                      go_roundw
                      case rel => exact ⟨m + 1 + 1, by omega, by go_num, hE3, fr.drewN _⟩
                      case measure => simp [RowKit.intOf]; omega
                    · have hres : Hid (risB (-1) xs = false) := Lib.hid (by rw [hE2, hpn, hpm, decide_eq_false hx]; simp)
                      have hxd : decide (xs.getD (m + 1) 0 ≤ xs.getD m 0) = true := decide_eq_true (by omega)
                      generalize xs.getD (m + 1) 0 = x at *
                      generalize xs.getD m 0 = y at *
                      replace kx := Lib.hid kx
                      clear hE2 hpn hpk hb hpm hx
                      go_wp2_with fail
                      go_quiet ((go_at_call 37; exact Calls.quiet_of_same (kx.out _)))
                      go_wp2_with fail
                      go_ret
                      exact ⟨by rw [hres.out]; simp, (fX.seqN fr).drewN _⟩
              · obtain rfl : k = n := by omega
                have hres : Hid (risB (-1) xs = true) := Lib.hid (by rw [hE.out, List.drop_eq_nil_of_le (by rw [hn.out]; exact Nat.le_refl _)]; rfl)
                go_wp2_with fail
                go_ret
                exact ⟨by rw [hres.out]; first | (simp; done) | (simp [hb1.out, hb2.out, hb3.out, hb4.out]; done) | (rw [hb1.out, hb2.out, hb3.out, hb4.out]; rfl), fX.seqN fr⟩
end Go.Proofs.Ytdfkjigkpcgngaa
