/-
  The reference's Int and Text of layer 2.
-/
import Derived.Test.YtbmafogjmdilkaaGreatDoorWireL
import Derived.Test.YtbmafogjmdilkaaGreatDoorRefQuote
import Derived.Test.YtbmafogjmdilkaaGreatDoorRefRunes
import Derived.Test.YtbmafogjmdilkaaGreatDoorRefValid
set_option linter.unusedVariables false
set_option linter.unusedSimpArgs false
set_option maxRecDepth 100000
namespace Go.Proofs.YtbmafogjmdilkaaGreatDoor
open Go.RowKit Go Go.Lib

theorem renc_int (x : Int) (w : World) (h0 : 0 ≤ x) (h1 : x ≤ 1114111) : Calls Tryz.prog 43 #[.int .i64 x] w fun e w' => e = .returned (.string (strB (encL x.toNat))) ∧ Fr noB w w' := by
  have := renc_any x.toNat w (by omega)
  rw [show ((x.toNat : Nat) : Int) = x by omega] at this
  exact this

set_option maxHeartbeats 1000000 in
theorem refint_nat (N : Nat) (w : World) (hn : N ≤ 9223372036854775807) :
    Calls Tryz.prog 19 #[.int .i64 (N : Int)] w fun e w' => e = .returned (.string (strB (numL N))) ∧ Fr noB w w' := by
  have henc := renc_int (4352 + (N : Int) % 4096) w (by omega) (by omega)
  rw [show (4352 + (N : Int) % 4096).toNat = 4352 + N % 4096 by omega] at henc
  have h0 : numL N = ahL (N / 4096) ++ encL (4352 + N % 4096) := rfl
  have hl0 : (encL (4352 + N % 4096)).length ≤ 40 := by have := (encL_len (4352 + N % 4096)).2; omega
  have hnl := (num_len N).2
  have i0 : ¬ (N : Int) < 0 := by omega
  have hNi : (N : Int) ≤ 9223372036854775807 := by omega
  replace h0 := Lib.hid h0
  replace henc := Lib.hid henc
  replace hn := Lib.hid hn
  go_enter Tryz.func19, Tryz.ntmps19
  go_wp2_with fail
  refine henc.out.mono ?_
  rintro e w1 ⟨rfl, f1⟩
  clear henc
  generalize encL (4352 + N % 4096) = S0 at *
  go_wp2_with fail
  go_loopw [0, 3] (fun vn vs wr => ∃ (m : Nat) (S : List UInt8), vn = .int .i64 m ∧ vs = .string (strB S) ∧ Fr noB w wr ∧ Hid (m ≤ N) ∧ S.length ≤ 40 ∧ Hid (numL N = ahL (m / 4096) ++ S)) (fun vn _ _ => (RowKit.intOf vn).toNat)
  case atStart => exact ⟨N, S0, rfl, rfl, f1, Lib.hid (Nat.le_refl _), hl0, h0⟩
  case round =>
    obtain ⟨m, S, rfl, rfl, fr, hm, hSl, hk⟩ := hrel
    have hmi : (m : Int) ≤ 9223372036854775807 := by have := hm.out; have := hn.out; omega
    by_cases hlt : 4096 ≤ m
    · have i1 : (m : Int) ≥ 4096 := by omega
      have hst := ah_step (m / 4096) (by omega) (by have := hm.out; have := hn.out; omega)
      have hk2 : numL N = ahL (m / 4096 / 4096) ++ (encL (256 + m / 4096 % 4096) ++ S) := by rw [hk.out, hst, List.append_assoc]
      have henc := fun w => renc_int (256 + (m : Int) / 4096 % 4096) w (by omega) (by omega)
      rw [show (256 + (m : Int) / 4096 % 4096).toNat = 256 + m / 4096 % 4096 by omega] at henc
      have hel := (encL_len (256 + m / 4096 % 4096)).2
      have hS2 : (encL (256 + m / 4096 % 4096) ++ S).length ≤ 40 := by
        have h1 := congrArg List.length hk2
        rw [List.length_append] at h1
        omega
      have i2 : wrap64 ((m : Int) / 4096) = (m : Int) / 4096 := IntWalk.wrap64_in _ (by omega)
      have hdiv : (m : Int) / 4096 = ((m / 4096 : Nat) : Int) := by omega
      have hmeas : m / 4096 < m := by omega
      have hm2 : m / 4096 ≤ N := by have := hm.out; omega
      have hsum : (strB (encL (256 + m / 4096 % 4096))).size + (strB S).size ≤ 9223372036854775807 := by rw [strB_size, strB_size]; omega
      have hcat : strB (encL (256 + m / 4096 % 4096)) ++ strB S = strB (encL (256 + m / 4096 % 4096) ++ S) := strB_append _ _
      generalize encL (256 + m / 4096 % 4096) = E at *
      replace hst := Lib.hid hst
      replace hk2 := Lib.hid hk2
      replace henc := Lib.hid henc
      replace hdiv := Lib.hid hdiv
      replace hmeas := Lib.hid hmeas
      replace hm2 := Lib.hid hm2
      replace hcat := Lib.hid hcat
      replace hS2 := Lib.hid hS2
      clear hlt hk
      go_wp2_with fail
      refine (henc.out _).mono ?_
      rintro e w2 ⟨rfl, f2⟩
      go_wp2_with fail
      go_roundw
      case rel => exact ⟨m / 4096, E ++ S, by rw [← hdiv.out], by rw [hcat.out], fr.seqN f2, Lib.hid hm2.out, hS2.out, hk2⟩
      case measure => simp [RowKit.intOf]; have := hmeas.out; omega
    · have i1 : ¬ (m : Int) ≥ 4096 := by omega
      have hk2 : numL N = S := by rw [hk.out, show m / 4096 = 0 by omega, ah_zero, List.nil_append]
      replace hk2 := Lib.hid hk2
      clear hk hlt
      go_wp2_with fail
      go_ret
      exact ⟨ret_str (by rw [hk2.out]), fr⟩
theorem refint_any (n : Int) (w : World) (h0 : -9223372036854775808 ≤ n) (hn : n ≤ 9223372036854775807) :
    Calls Tryz.prog 19 #[.int .i64 n] w fun e w' => e = .returned (.string (strB (numL n.toNat))) ∧ Fr noB w w' := by
  by_cases hneg : 0 ≤ n
  · have := refint_nat n.toNat w (by omega)
    rw [show ((n.toNat : Nat) : Int) = n by omega] at this
    exact this
  · have henc := renc_int 4352 w (by omega) (by omega)
    have h0 : strB (encL (4352 : Int).toNat) = strB (numL n.toNat) := by rw [show n.toNat = 0 by omega]; rfl
    rw [h0] at henc
    have i0 : n < 0 := by omega
    replace h0 := Lib.hid h0
    go_enter Tryz.func19, Tryz.ntmps19
    go_wp2_with fail
    refine henc.mono ?_
    rintro e w1 ⟨rfl, f1⟩
    go_wp2_with fail
    go_loopw [0, 3] (fun vn vs wr => vn = .int .i64 0 ∧ vs = .string (strB (numL n.toNat)) ∧ Fr noB w wr) (fun vn _ _ => 0)
    case atStart => exact ⟨rfl, rfl, f1⟩
    case round =>
      obtain ⟨rfl, rfl, fr⟩ := hrel
      go_wp2_with fail
      go_ret
      exact ⟨rfl, fr⟩

set_option maxHeartbeats 1000000 in
theorem reftext_any (s : ByteArray) (w : World) (hs : s.size ≤ 10000) :
    Calls Tryz.prog 37 #[.string s] w fun e w' => e = .returned (.string (strB (textL s.data.toList))) ∧ Fr noB w w' := by
  have hq := rquote_any s w (by omega)
  have hql := quote_len s.data.toList
  rw [size_len] at hql
  have hcl := chunks_len (quoteL s.data.toList)
  have hrn := fun w => runes_any (strB (quoteL s.data.toList)) w (by rw [strB_size]; omega)
  rw [strB_list] at hrn
  have hin := fun w => refint_nat (chunks (quoteL s.data.toList)).length w (by omega)
  have hnl := (num_len (chunks (quoteL s.data.toList)).length).2
  have htx : strB (numL (chunks (quoteL s.data.toList)).length) ++ strB (quoteL s.data.toList) = strB (textL s.data.toList) := strB_append _ _
  have hsum : (strB (numL (chunks (quoteL s.data.toList)).length)).size + (strB (quoteL s.data.toList)).size ≤ 9223372036854775807 := by rw [strB_size, strB_size]; omega
  generalize strB (textL s.data.toList) = R at *
  generalize (chunks (quoteL s.data.toList)).flatMap rcell = cs at *
  generalize (chunks (quoteL s.data.toList)).length = c at *
  generalize strB (quoteL s.data.toList) = Q at *
  generalize strB (numL c) = I at *
  replace hq := Lib.hid hq
  replace hrn := Lib.hid hrn
  replace hin := Lib.hid hin
  replace htx := Lib.hid htx
  clear hql hcl hnl hs
  go_enter Tryz.func37, Tryz.ntmps37
  go_wp2_with fail
  refine hq.out.mono ?_
  rintro e w1 ⟨rfl, f1⟩
  go_wp2_with fail
  refine (hrn.out w1).mono ?_
  rintro e w2 ⟨v, rfl, o2, f2⟩
  obtain ⟨a, k, rfl⟩ := ownsRow_slice o2
  clear o2
  go_wp2_with fail
  refine (hin.out w2).mono ?_
  rintro e w3 ⟨rfl, f3⟩
  go_wp2_with fail
  go_ret
  exact ⟨ret_str htx.out, (f1.seqN f2).seqN f3⟩
end Go.Proofs.YtbmafogjmdilkaaGreatDoor
