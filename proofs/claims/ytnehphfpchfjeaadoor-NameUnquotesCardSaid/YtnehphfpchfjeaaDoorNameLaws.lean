/-
  Stage 1's laws: Cuts, Order, Read.
-/
import Derived.Test.YtnehphfpchfjeaaDoorNameAwake
set_option linter.unusedVariables false
set_option linter.unusedSimpArgs false
namespace Go.Proofs.YtnehphfpchfjeaaDoor
open Go.RowKit Go

set_option maxRecDepth 100000 in
set_option maxHeartbeats 4000000 in
theorem cuts_any (s : ByteArray) (n0 : Int) (w : World) (hg : Gl w) (hu : U8 w) (hs : s.size ≤ 140737488351232) (_hw : (Lit.int .i64 n0).wf = true) :
    Calls Tryd.prog 7 #[.string s, .int .i64 n0] w fun e w' => e = .returned (.bool true) ∧ Fr noB w w' := by
  obtain ⟨q, hq, hq0, hq1⟩ := umod n0 30 (by omega) (by omega)
  by_cases hbig : 500 < s.size
  · replace hq := Lib.hid hq
    go_enter Tryd.func7, Tryd.ntmps7
    go_wp2_with fail
    refine (awake_any _ hg hu).mono ?_
    rintro e w1 ⟨rfl, f1⟩
    go_wp2_with fail
    refine (awake_any _ (hg.fr f1) (hu.fr f1)).mono ?_
    rintro e w2 ⟨rfl, f2⟩
    go_wp2_with fail
    go_ret
    exact ⟨rfl, f1.seqN f2⟩
  · obtain ⟨k, rfl⟩ : ∃ k : Nat, q = k := ⟨q.toNat, by omega⟩
    obtain ⟨r, hr⟩ := cut_prefix s.data.toList k
    have hc : cutI s.data.toList k = cutL s.data.toList k := by unfold cutI; rw [Int.toNat_natCast]
    have h1 := cut_count s.data.toList k
    have h2 := cut_cut s.data.toList k
    have h3 := cut_valid s.data.toList k
    have hlen : (cutL s.data.toList k).length ≤ s.size := by
      have := congrArg List.length hr
      rw [List.length_append, size_len] at this
      omega
    have hpre : s.extract 0 (cutL s.data.toList k).length = strB (cutL s.data.toList k) := by
      rw [ext_eq, List.drop_zero]
      congr 1
      conv => lhs; arg 2; rw [hr]
      rw [List.take_left']
      rfl
    have hcut := fun w => cut_any s (k : Int) w (by unfold maxLen; omega) (by omega)
    rw [hc] at hcut
    have hcnt := fun w => count_any s w (by unfold maxLen; omega)
    have hval := fun w => valid_any s w (by unfold maxLen; omega)
    generalize hC : cutL s.data.toList k = C at *
    have hcc : cutI C k = C := by unfold cutI; rw [Int.toNat_natCast]; exact h2
    have hcut2 := fun w => cut_any (strB C) (k : Int) w (by rw [strB_size]; unfold maxLen; omega) (by omega)
    have hcnt2 := fun w => count_any (strB C) w (by rw [strB_size]; unfold maxLen; omega)
    have hval2 := fun w => valid_any (strB C) w (by rw [strB_size]; unfold maxLen; omega)
    simp only [strB_list] at hcut2 hcnt2 hval2
    rw [hcc] at hcut2
    have hmin : (((chunks C).length : Int) == min (k : Int) ((chunks s.data.toList).length : Int)) = true := by
      rw [h1]; simp; omega
    have hsz : (strB C).size = C.length := rfl
    have hzC : (strB C).size ≤ s.size := by rw [hsz]; exact hlen
    have hpre2 : s.extract 0 (strB C).size = strB C := hpre
    replace hcut := Lib.hid hcut
    replace hcnt := Lib.hid hcnt
    replace hval := Lib.hid hval
    replace hcut2 := Lib.hid hcut2
    replace hcnt2 := Lib.hid hcnt2
    replace hval2 := Lib.hid hval2
    replace hC := Lib.hid hC
    replace hc := Lib.hid hc
    replace hcc := Lib.hid hcc
    replace h1 := Lib.hid h1
    replace h2 := Lib.hid h2
    replace h3 := Lib.hid h3
    replace hr := Lib.hid hr
    replace hsz := Lib.hid hsz
    replace hpre := Lib.hid hpre
    generalize hS : strB C = S at *
    replace hS := Lib.hid hS
    have hself : (S.toList == S.toList) = true := by simp
    go_enter Tryd.func7, Tryd.ntmps7
    go_wp2_with fail
    refine (awake_any _ hg hu).mono ?_
    rintro e w1 ⟨rfl, f1⟩
    go_wp2_with fail
    refine (hcut.out _).mono ?_
    rintro e w2 ⟨rfl, f⟩
    have f2 := f1.seqN f
    clear f f1
    go_wp2_with fail
    refine (hcnt2.out _).mono ?_
    rintro e w3 ⟨rfl, f⟩
    have f3 := f2.seqN f
    clear f f2
    go_wp2_with fail
    refine (hcnt.out _).mono ?_
    rintro e w4 ⟨rfl, f⟩
    have f4 := f3.seqN f
    clear f f3
    go_wp2_with fail
    refine (hval.out _).mono ?_
    rintro e w5 ⟨rfl, f⟩
    have f5 := f4.seqN f
    clear f f4
    cases hv : validL s.data.toList with
    | false =>
      go_wp2_with fail
      refine (hcut2.out _).mono ?_
      rintro e w6 ⟨rfl, f⟩
      have f6 := f5.seqN f
      clear f f5
      go_wp2_with fail
      go_ret
      exact ⟨rfl, f6⟩
    | true =>
      have hvC := h3.out hv
      go_wp2_with fail
      refine (hval2.out _).mono ?_
      rintro e w6 ⟨rfl, f⟩
      have f6 := f5.seqN f
      clear f f5
      rw [hvC]
      go_wp2_with fail
      refine (hcut2.out _).mono ?_
      rintro e w7 ⟨rfl, f⟩
      have f7 := f6.seqN f
      clear f f6
      go_wp2_with fail
      go_ret
      exact ⟨rfl, f7⟩
theorem eq_bool {a b : ByteArray} (h : a = b) : (a.toList == b.toList) = true := by rw [h]; simp
theorem ne_bool {a b : ByteArray} (h : a ≠ b) : (a.toList == b.toList) = false := by
  rw [toList_eq, toList_eq]
  refine beq_false_of_ne (fun e => h ?_)
  apply ByteArray.ext
  exact Array.ext' e
theorem data_ne {a b : ByteArray} (h : a.data.toList = b.data.toList) : a = b := by
  apply ByteArray.ext
  exact Array.ext' h

set_option maxRecDepth 100000 in
set_option maxHeartbeats 4000000 in
theorem ordlaw_any (a b c : ByteArray) (w : World) (hg : Gl w) (hu : U8 w) (ha : a.size ≤ 140737488351232) (hb : b.size ≤ 140737488351232) (hc : c.size ≤ 140737488351232) :
    Calls Tryd.prog 6 #[.string a, .string b, .string c] w fun e w' => e = .returned (.bool true) ∧ Fr noB w w' := by
  by_cases hbig : 500 < a.size + b.size + c.size
  · have hbig2 : (500 : Int) < (a.size : Int) + b.size + c.size := by omega
    clear hbig
    go_enter Tryd.func6, Tryd.ntmps6
    go_wp2_with fail
    refine (awake_any _ hg hu).mono ?_
    rintro e w1 ⟨rfl, f1⟩
    go_wp2_with fail
    refine (awake_any _ (hg.fr f1) (hu.fr f1)).mono ?_
    rintro e w2 ⟨rfl, f2⟩
    go_wp2_with fail
    go_ret
    exact ⟨rfl, f1.seqN f2⟩
  · have hsm : ¬ (500 : Int) < (a.size : Int) + b.size + c.size := by omega
    have sa : a.size ≤ 500 := by omega
    have sb : b.size ≤ 500 := by omega
    have sc : c.size ≤ 500 := by omega
    have hkl : (cutL a.data.toList 2).length ≤ a.size := by
      obtain ⟨r, hr⟩ := cut_prefix a.data.toList 2
      have := congrArg List.length hr
      rw [List.length_append, size_len] at this
      omega
    have o1 := fun w (h : U8 w) => order_any a b w h (by omega) (by omega)
    have o2 := fun w (h : U8 w) => order_any b c w h (by omega) (by omega)
    have o3 := fun w (h : U8 w) => order_any a c w h (by omega) (by omega)
    have o4 := fun w (h : U8 w) => order_any b a w h (by omega) (by omega)
    have ck := fun w => cut_any a 2 w (by unfold maxLen; omega) (by omega)
    have o5 := fun w (h : U8 w) => order_any (strB (cutI a.data.toList 2)) a w h (by show (cutL a.data.toList 2).length ≤ _; omega) (by omega)
    have t1 := ordL_tri a.data.toList b.data.toList
    have t2 := ordL_tri b.data.toList c.data.toList
    have t3 := ordL_tri a.data.toList c.data.toList
    have an := ordL_anti b.data.toList a.data.toList
    have z0 := ordL_zero a.data.toList b.data.toList
    have tr := ordL_trans a.data.toList b.data.toList c.data.toList
    have tr2 := ordL_trans c.data.toList b.data.toList a.data.toList
    rw [ordL_anti c.data.toList b.data.toList, ordL_anti c.data.toList a.data.toList, an] at tr2
    have tc : ordL (strB (cutI a.data.toList 2)).data.toList a.data.toList ≤ 0 := ordL_cut a.data.toList 2
    rw [an] at o4
    have hab : (ordL a.data.toList b.data.toList = 0 ↔ a = b) := z0.trans ⟨data_ne, fun h => by rw [h]⟩
    generalize ordL (strB (cutI a.data.toList 2)).data.toList a.data.toList = k at *
    generalize ordL a.data.toList b.data.toList = x at *
    generalize ordL b.data.toList c.data.toList = y at *
    generalize ordL a.data.toList c.data.toList = z at *
    replace o1 := Lib.hid o1
    replace o2 := Lib.hid o2
    replace o3 := Lib.hid o3
    replace o4 := Lib.hid o4
    replace o5 := Lib.hid o5
    replace ck := Lib.hid ck
    clear an z0 hbig
    have hk0 : ¬ (0 : Int) < k := by omega
    have hok : (x = 0 ∨ 0 < x ∨ x < 0) := by omega
    have heq : (a.toList == b.toList) = decide (x = 0) := by
      by_cases h : x = 0
      · rw [eq_bool (hab.1 h)]; simp [h]
      · rw [ne_bool (fun e => h (hab.2 e))]; simp [h]
    replace hab := Lib.hid hab
    clear hok
    go_enter Tryd.func6, Tryd.ntmps6
    go_wp2_with fail
    refine (awake_any _ hg hu).mono ?_
    rintro e w1 ⟨rfl, f1⟩
    go_wp2_with fail
    refine (o1.out _ (hu.fr f1)).mono ?_
    rintro e w2 ⟨rfl, f⟩
    have f2 := f1.seqN f
    clear f f1
    go_wp2_with fail
    refine (o2.out _ (hu.fr f2)).mono ?_
    rintro e w3 ⟨rfl, f⟩
    have f3 := f2.seqN f
    clear f f2
    go_wp2_with fail
    refine (o3.out _ (hu.fr f3)).mono ?_
    rintro e w4 ⟨rfl, f⟩
    have f4 := f3.seqN f
    clear f f3
    go_wp2_with fail
    refine (o4.out _ (hu.fr f4)).mono ?_
    rintro e w5 ⟨rfl, f⟩
    have f5 := f4.seqN f
    clear f f4
    clear o1 o2 o3 o4 hab
    rcases t1 with rfl | rfl | rfl <;> rcases t2 with rfl | rfl | rfl <;> rcases t3 with rfl | rfl | rfl
    all_goals first
      | (exfalso; omega)
      | (clear tr tr2
         simp only [decide_true, decide_false, Int.reduceNeg, Int.reduceEq, Int.neg_neg] at heq
         go_wp2_with fail
         refine (ck.out _).mono ?_
         rintro e w6 ⟨rfl, f⟩
         have f6 := f5.seqN f
         clear f f5
         go_wp2_with fail
         refine (o5.out _ (hu.fr f6)).mono ?_
         rintro e w7 ⟨rfl, f⟩
         have f7 := f6.seqN f
         clear f f6
         go_wp2_with fail
         go_ret
         exact ⟨rfl, f7⟩)
end Go.Proofs.YtnehphfpchfjeaaDoor
