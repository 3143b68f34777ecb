/-
  The reference's Print of spans.
-/
import Derived.Test.YtbmafogjmdilkaaGreatDoorSpan2
import Derived.Test.YtbmafogjmdilkaaGreatDoorWireRef
import Derived.Deep.RegionHeld3
set_option linter.unusedVariables false
set_option linter.unusedSimpArgs false
set_option maxRecDepth 100000
set_option maxRecDepth 100000
namespace Go.Proofs.YtbmafogjmdilkaaGreatDoor
open Go.RowKit Go Go.Lib

theorem reftext_lim (s : ByteArray) (w : World) (hs : s.size ≤ 40) : Calls Tryz.prog 37 #[.string s] w fun e w' => e = .returned (.string (strB (textL s.data.toList))) ∧ Fr noB w w' := reftext_any s w (by omega)
theorem refint_lim (n : Int) (w : World) (h0 : 0 ≤ n) (hn : n ≤ 2147483648) : Calls Tryz.prog 19 #[.int .i64 n] w fun e w' => e = .returned (.string (strB (numL n.toNat))) ∧ Fr noB w w' := by
  have h := refint_any n w (by omega) (by omega)
  exact h
theorem pre_step2 (L : List Sp) (k : Nat) (s : Sp) (h : L[k]? = some s) : strB (pre L k) ++ (strB (numL s.t.toNat) ++ strB (numL s.q.toNat) ++ strB (textL s.x.data.toList)) = strB (pre L (k + 1)) := by
  rw [pre_step L k s h, strB_append, strB_append, strB_append]
  congr 1
  unfold numsL
  simp

set_option maxHeartbeats 4000000 in
theorem rprint_any (v : Value) (L : List Sp) (w : World) (hv : RdSp w v L) (hl : L.length ≤ 200) :
    Calls Tryz.prog 38 #[v] w fun e w' => e = .returned (.string (strB (printL L))) ∧ Fr noB w w' := by
  obtain ⟨a, c, rfl, hx1, hx2, _, hx3⟩ := hv
  clear hx2
  have hget : ∀ k, k < L.length → ∃ m, L[k]? = some m := fun k hk => ⟨L[k], List.getElem?_eq_getElem hk⟩
  have hst := pre_step2 L
  have hno := print_no L
  have hyes := print_yes L (by omega)
  have hplen := pre_len L
  have hp0 := pre_zero L
  have hri := refint_lim L.length w (by omega) (by omega)
  rw [show ((L.length : Int)).toNat = L.length by omega, ← hp0] at hri
  generalize hn : L.length = n at *
  generalize hpr : printL L = P at *
  replace hpr := Lib.hid hpr
  replace hx3 := Lib.hid hx3
  replace hget := Lib.hid hget
  replace hst := Lib.hid hst
  replace hno := Lib.hid hno
  replace hyes := Lib.hid hyes
  replace hplen := Lib.hid hplen
  replace hn := Lib.hid hn
  replace hp0 := Lib.hid hp0
  replace hri := Lib.hid hri
  have i1 : ¬ (n : Int) > 1000 := by omega
  go_enter Tryz.func38, Tryz.ntmps38
  go_wp2_with fail
  refine hri.out.mono ?_
  rintro e w1 ⟨rfl, f1⟩
  go_wp2_with fail
  go_loopg [3, 4] n (fun gk vs vi w3 => ∃ k : Nat, k + gk = n ∧ vi = .int .i64 k ∧ vs = .string (strB (pre L k)) ∧ Hid (∀ (i : Nat) (m : Sp), i < k → L[i]? = some m → rightS m = true) ∧ Fr noB w w3)
  case atStart => exact ⟨0, by omega, rfl, rfl, Lib.hid (fun i _ hi _ => by omega), f1⟩
  case round =>
    clear f1
    obtain ⟨k, hkn, rfl, rfl, hok, fr⟩ := hrel
    by_cases hlt : k < n
    · obtain ⟨s, hs⟩ := hget.out k hlt
      obtain ⟨g, o, rfl, c0, c1, c2⟩ := hx3.out k s hs
      replace c0 := fr.cell c0 (fun q => q)
      replace c1 := fr.cell c1 (fun q => q)
      replace c2 := fr.cell c2 (fun q => q)
      have hb1 : (k : Int) < n := by omega
      have hrt := fun w => rright_any s w
      have hst1 := hst.out k s hs
      have hmeas : n - (k + 1) < gk := by omega
      have hkn2 : k + 1 + (n - (k + 1)) = n := by omega
      cases hr : rightS s with
      | false =>
        have hp := hno.out k s hs hr
        rw [hr] at hrt
        replace hrt := Lib.hid hrt
        replace hst1 := Lib.hid hst1
        replace hs := Lib.hid hs
        replace hr := Lib.hid hr
        replace hp := Lib.hid hp
        clear hmeas hkn2
        go_wp2_with fail
        refine (hrt.out _).mono ?_
        rintro e w4 ⟨rfl, f4⟩
        go_wp2_with fail
        go_ret
        exact ⟨by rw [hp.out]; rfl, fr.seqN f4⟩
      | true =>
        rw [hr] at hrt
        obtain ⟨r1, r2, r3, r4, r5⟩ := (right_iff s).1 hr
        have hok2 : ∀ (i : Nat) (m : Sp), i < k + 1 → L[i]? = some m → rightS m = true := fun i m hi hm => by
          rcases Nat.lt_succ_iff_lt_or_eq.1 hi with h | h
          · exact hok.out i m h hm
          · subst h; rw [hs] at hm; injection hm with hm; subst hm; exact hr
        have hT := fun w => refint_lim s.t w (by omega) (by omega)
        have hQ := fun w => refint_lim s.q w (by omega) (by omega)
        have hX := fun w => reftext_lim s.x w (by omega)
        have hl1 := hplen.out (k + 1) (fun i m hi hm => hok2 i m hi hm) (by omega)
        have hl2 := congrArg ByteArray.size hst1
        rw [strB_size, ByteArray.size_append, ByteArray.size_append, ByteArray.size_append] at hl2
        have l1 : (strB (numL s.t.toNat)).size + (strB (numL s.q.toNat)).size ≤ 9223372036854775807 := by omega
        have l2 : (strB (numL s.t.toNat) ++ strB (numL s.q.toNat)).size + (strB (textL s.x.data.toList)).size ≤ 9223372036854775807 := by rw [ByteArray.size_append]; omega
        have l3 : (strB (pre L k)).size + (strB (numL s.t.toNat) ++ strB (numL s.q.toNat) ++ strB (textL s.x.data.toList)).size ≤ 9223372036854775807 := by rw [ByteArray.size_append, ByteArray.size_append]; omega
        have l4 : (strB (numL s.t.toNat)).size + (strB (numL s.q.toNat)).size + (strB (textL s.x.data.toList)).size ≤ 9223372036854775807 := by omega
        have l5 : (strB (pre L k)).size + ((strB (numL s.t.toNat)).size + (strB (numL s.q.toNat)).size + (strB (textL s.x.data.toList)).size) ≤ 9223372036854775807 := by omega
        have ad1 := fun w => run_string_add_sum (P := Tryz.prog) (w := w) (strB (numL s.t.toNat)) (strB (numL s.q.toNat)) l1
        have ad2 := fun w => run_string_add_sum (P := Tryz.prog) (w := w) (strB (numL s.t.toNat) ++ strB (numL s.q.toNat)) (strB (textL s.x.data.toList)) l2
        have ad3 := fun w => run_string_add_sum (P := Tryz.prog) (w := w) (strB (pre L k)) (strB (numL s.t.toNat) ++ strB (numL s.q.toNat) ++ strB (textL s.x.data.toList)) l3
        generalize hA : strB (numL s.t.toNat) = A at *
        generalize hB : strB (numL s.q.toNat) = B at *
        generalize hC : strB (textL s.x.data.toList) = C at *
        generalize hD : strB (pre L k) = D at *
        clear hA hB hC hD hl2 hl1
        replace hrt := Lib.hid hrt
        replace hst1 := Lib.hid hst1
        replace hs := Lib.hid hs
        replace hr := Lib.hid hr
        replace hok2 := Lib.hid hok2
        replace hT := Lib.hid hT
        replace hQ := Lib.hid hQ
        replace hX := Lib.hid hX
        replace hmeas := Lib.hid hmeas
        replace hkn2 := Lib.hid hkn2
        clear r1 r2 r3 r4 r5 hok
        go_wp2_with fail
        refine (hrt.out _).mono ?_
        rintro e w4 ⟨rfl, f4⟩
        have fr4 := fr.seqN f4
        replace c0 := f4.cell c0 (fun q => q)
        replace c1 := f4.cell c1 (fun q => q)
        replace c2 := f4.cell c2 (fun q => q)
        clear fr f4
        have fq := fr4.drewN 1
        have d0 : (w4.drewN 1).cell? ⟨g, o + k * 3, none⟩ = some (.int .i64 s.t) := c0
        have d1 : (w4.drewN 1).cell? ⟨g, o + k * 3 + 1, none⟩ = some (.int .i64 s.q) := c1
        have d2 : (w4.drewN 1).cell? ⟨g, o + k * 3 + 2, none⟩ = some (.string s.x) := c2
        go_wp2_with fail
        go_region_held3 (fun w' => w'.cell? ⟨g, o + k * 3, none⟩ = some (.int .i64 s.t) ∧ w'.cell? ⟨g, o + k * 3 + 1, none⟩ = some (.int .i64 s.q) ∧ w'.cell? ⟨g, o + k * 3 + 2, none⟩ = some (.string s.x))
          (first | exact ⟨d0, d1, d2⟩ | exact ⟨c0, c1, c2⟩)
          (first
           | (go_at_call 19; have qq := tokT; clear qq; refine (hQ.out _).mono ?_; rintro e w5 ⟨rfl, f5⟩; have fq := fq.seqN f5; have d0 := f5.cell d0 (fun q => q); have d1 := f5.cell d1 (fun q => q); have d2 := f5.cell d2 (fun q => q))
           | (go_at_call 19; refine (hT.out _).mono ?_; rintro e w5 ⟨rfl, f5⟩; have tokT : True := trivial; have fq := fq.seqN f5; have d0 := f5.cell d0 (fun q => q); have d1 := f5.cell d1 (fun q => q); have d2 := f5.cell d2 (fun q => q))
           | (go_at_call 37; refine (hX.out _).mono ?_; rintro e w5 ⟨rfl, f5⟩; have fq := fq.seqN f5; have d0 := f5.cell d0 (fun q => q); have d1 := f5.cell d1 (fun q => q); have d2 := f5.cell d2 (fun q => q))
           | fail)
        all_goals (
          go_wp2_with fail
          go_roundg (n - (k + 1))
          case rel => exact ⟨k + 1, hkn2.out, by go_num, by rw [hst1.out], hok2, fq⟩
          case measure => exact hmeas.out)
    · obtain rfl : k = n := by omega
      have hp := hyes.out (fun i m hi hm => hok.out i m hi hm)
      replace hp := Lib.hid hp
      go_wp2_with fail
      go_ret
      exact ⟨by rw [hp.out]; rfl, fr⟩
end Go.Proofs.YtbmafogjmdilkaaGreatDoor
