/-
  The reference's Right and Cut.
-/
import Derived.Test.YtnehphfpchfjeaaDoorRefValid
set_option linter.unusedVariables false
set_option linter.unusedSimpArgs false
namespace Go.Proofs.YtnehphfpchfjeaaDoor
open Go.RowKit Go

def nmC (c : List UInt8) : Bool := inNm (dec c).1
theorem rightL_eq (l : List UInt8) : rightL l = (decide (1 ≤ (chunks l).length) && decide ((chunks l).length ≤ 16) && (chunks l).all nmC) := by
  unfold rightL rws nmC
  rw [List.all_map]
  rfl

set_option maxRecDepth 100000 in
set_option maxHeartbeats 4000000 in
theorem rright_any (s : ByteArray) (w : World) (hs : s.size ≤ 1000000) :
    Calls Tryd.prog 11 #[.string s] w fun e w' => e = .returned (.bool (rightL s.data.toList)) ∧ Fr noB w w' := by
  have hcl := chunks_le s
  have hrn := runes_any s w hs
  have hreq := rightL_eq s.data.toList
  replace hrn := Lib.hid hrn
  go_enter Tryd.func11, Tryd.ntmps11
  go_wp2_with fail
  refine hrn.out.mono ?_
  rintro e w1 ⟨v, rfl, own, f1⟩
  clear hrn
  have hat := fun k hk => rune_at own k hk
  obtain ⟨a, cp, rfl⟩ := ownsRow_slice own
  replace own := Lib.hid own
  replace hat := Lib.hid hat
  generalize hn : (chunks s.data.toList).length = n at *
  replace hn := Lib.hid hn
  replace hreq := Lib.hid hreq
  go_wp2_with fail
  go_loop [4, 5, 6] (fun vi _ _ => ∃ k : Nat, k ≤ n ∧ vi = .int .i64 k ∧ Hid (((chunks s.data.toList).take k).all nmC = true)) (fun vi _ _ => n - (intOf vi).toNat)
  case atStart => exact ⟨0, Nat.zero_le _, rfl, Lib.hid rfl⟩
  case round =>
    obtain ⟨k, hk, rfl, hh⟩ := hrel
    by_cases hlt : k < n
    · obtain ⟨g, cap, hv, c0, c1, c2⟩ := hat.out k hlt
      cases hv
      have hst := all_step nmC [] (chunks s.data.toList) k (by rw [hn.out]; exact hlt)
      rw [hh.out, Bool.true_and] at hst
      have hno : nmC ((chunks s.data.toList).getD k []) = false → rightL s.data.toList = false := by
        intro hf
        rw [hreq.out]
        have : (chunks s.data.toList).all nmC = false := by
          cases hq : (chunks s.data.toList).all nmC with
          | false => rfl
          | true =>
            rw [List.all_eq_true] at hq
            have := hq _ (getD_mem [] _ k (by rw [hn.out]; exact hlt))
            rw [hf] at this
            cases this
        rw [this]; simp
      have hokn := inNm_ok ((chunks s.data.toList).getD k [])
      have hR : nmC ((chunks s.data.toList).getD k []) = inNm (dec ((chunks s.data.toList).getD k [])).1 := rfl
      have hrl := dec_rune ((chunks s.data.toList).getD k [])
      clear c1
      generalize (chunks s.data.toList).getD k [] = c at *
      generalize (dec c).1 = R at *
      generalize okD c = O at *
      rw [hR] at hst hno
      clear hR
      replace hst := Lib.hid hst
      replace hno := Lib.hid hno
      replace hokn := Lib.hid hokn
      cases O with
      | false =>
        have hf : inNm R = false := by
          cases hq : inNm R with
          | false => rfl
          | true => have := hokn.out hq; cases this
        have hr := Lib.hid (hno.out hf)
        replace hf := Lib.hid hf
        go_wp2_with fail
        all_goals (go_ret; exact ⟨ret_bool (by rw [hr.out]), f1⟩)
      | true =>
        go_wp2_with fail
        all_goals first
          | (go_round
             case rel => exact ⟨k + 1, by omega, by go_num, Lib.hid (by rw [hst.out]; clear hreq own hat hn hh hno hst hokn; unfold inNm; simp at *; omega)⟩
             case measure => simp [intOf]; omega)
          | (go_ret
             exact ⟨ret_bool (by rw [hno.out (by cases hq : inNm R with | false => rfl | true => (exfalso; clear hreq own hat hn hh hno hst hokn; unfold inNm at hq; simp at *; omega))]), f1⟩)
          | (trace_state; go_round
             case rel => exact ⟨k + 1, by omega, by go_num, Lib.hid (by rw [hst.out]; clear hreq own hat hn hh hno hst hokn; unfold inNm; simp at *; omega)⟩
             case measure => simp [intOf]; omega)
    · have hkn : k = n := by omega
      have hall : (chunks s.data.toList).all nmC = true := by
        have := hh.out
        rw [hkn, ← hn.out, List.take_length] at this
        exact this
      have hr : rightL s.data.toList = (decide (1 ≤ n) && decide (n ≤ 16)) := by rw [hreq.out, hall]; simp
      replace hr := Lib.hid hr
      replace hall := Lib.hid hall
      replace hkn := Lib.hid hkn
      go_wp2_with fail
      all_goals (go_ret; exact ⟨ret_bool (by rw [hr.out]; rw [Bool.eq_iff_iff]; simp; omega), f1⟩)

theorem cut_len_step (l : List UInt8) (k : Nat) (hk : k < (chunks l).length) : (cutL l (k + 1)).length = (cutL l k).length + (dec ((chunks l).getD k [])).2 := by
  unfold cutL
  have hm := getD_mem [] (chunks l) k hk
  have hp := chunk_dec hm
  rw [List.take_succ_eq_append_getElem hk, List.flatten_append, List.length_append, hp.2]
  simp [List.getD, hk]

set_option maxRecDepth 100000 in
set_option maxHeartbeats 4000000 in
theorem rcut_any (s : ByteArray) (m : Int) (w : World) (hs : s.size ≤ 1000000) (hm0 : -9223372036854775808 ≤ m) (hm1 : m ≤ 9223372036854775807) :
    Calls Tryd.prog 17 #[.string s, .int .i64 m] w fun e w' => e = .returned (.string (strB (cutI s.data.toList m))) ∧ Fr noB w w' := by
  have hcl := chunks_le s
  have hrn := runes_any s w hs
  have hstp := cut_len_step s.data.toList
  have hpre : ∀ k, s.extract 0 (cutL s.data.toList k).length = strB (cutL s.data.toList k) := by
    intro k
    obtain ⟨r, hr⟩ := cut_prefix s.data.toList k
    rw [ext_eq, List.drop_zero]
    congr 1
    conv => lhs; arg 2; rw [hr]
    rw [List.take_left']
    rfl
  have hle : ∀ k, (cutL s.data.toList k).length ≤ s.size := by
    intro k
    obtain ⟨r, hr⟩ := cut_prefix s.data.toList k
    have := congrArg List.length hr
    rw [List.length_append, size_len] at this
    omega
  replace hrn := Lib.hid hrn
  replace hstp := Lib.hid hstp
  replace hpre := Lib.hid hpre
  replace hle := Lib.hid hle
  go_enter Tryd.func17, Tryd.ntmps17
  go_wp2_with fail
  refine hrn.out.mono ?_
  rintro e w1 ⟨v, rfl, own, f1⟩
  clear hrn
  have hat := fun k hk => rune_at own k hk
  obtain ⟨a, cp, rfl⟩ := ownsRow_slice own
  replace own := Lib.hid own
  replace hat := Lib.hid hat
  generalize hn : (chunks s.data.toList).length = n at *
  replace hn := Lib.hid hn
  go_wp2_with fail
  go_loop [6, 7] (fun va vi => ∃ (k q : Nat), k ≤ n ∧ ((k : Int) ≤ m ∨ k = 0) ∧ vi = .int .i64 k ∧ va = .int .i64 q ∧ q ≤ s.size ∧ Hid (q = (cutL s.data.toList k).length)) (fun _ vi => n - (intOf vi).toNat)
  case atStart => exact ⟨0, 0, Nat.zero_le _, Or.inr rfl, rfl, rfl, Nat.zero_le _, Lib.hid (by simp [cutL])⟩
  case round =>
    obtain ⟨k, q, hk, hkm, rfl, rfl, hq, hh⟩ := hrel
    by_cases hlt : k < n
    · by_cases hkm2 : (k : Int) < m
      · obtain ⟨g, cap, hv, c0, c1, c2⟩ := hat.out k hlt
        cases hv
        have hst := hstp.out k hlt
        have hle2 := hle.out (k + 1)
        rw [hst, ← hh.out] at hle2
        rw [← hh.out] at hst
        clear c0 c2
        generalize (dec ((chunks s.data.toList).getD k [])).2 = W at *
        replace hst := Lib.hid hst
        go_wp2_with fail
        go_round
        case rel => exact ⟨k + 1, q + W, by omega, Or.inl (by omega), by go_num, by go_num, hle2, Lib.hid hst.out.symm⟩
        case measure => simp [intOf]; omega
      · have hc : cutI s.data.toList m = cutL s.data.toList k := by
          unfold cutI
          congr 1
          omega
        have hp := hpre.out k
        rw [← hh.out] at hp
        replace hc := Lib.hid hc
        go_wp2_with fail
        go_ret
        exact ⟨ret_str (by rw [hc.out]), f1⟩
    · have hkn : k = n := by omega
      have hc : cutI s.data.toList m = cutL s.data.toList k := by
        unfold cutI cutL
        rw [List.take_of_length_le (by rw [hn.out]; omega), List.take_of_length_le (by rw [hn.out]; omega)]
      have hp := hpre.out k
      rw [← hh.out] at hp
      replace hc := Lib.hid hc
      replace hkn := Lib.hid hkn
      go_wp2_with fail
      go_ret
      exact ⟨ret_str (by rw [hc.out]), f1⟩
end Go.Proofs.YtnehphfpchfjeaaDoor
