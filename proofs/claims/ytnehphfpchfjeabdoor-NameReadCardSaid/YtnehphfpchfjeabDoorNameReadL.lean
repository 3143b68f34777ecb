/-
  Stage 1's law NameRead.
-/
import Derived.Test.YtnehphfpchfjeabDoorNameAwake
import Derived.Test.YtnehphfpchfjeabDoorQuoteV
set_option linter.unusedVariables false
set_option linter.unusedSimpArgs false
namespace Go.Proofs.YtnehphfpchfjeabDoor
open Go.RowKit Go

set_option maxRecDepth 100000 in
set_option maxHeartbeats 4000000 in
theorem read_any (s : ByteArray) (w : World) (hg : Gl w) (hu : U8 w) (hs : s.size ≤ 140737488351232) :
    Calls Tryd.prog 3 #[.string s] w fun e w' => e = .returned (.bool true) ∧ Fr noB w w' := by
  by_cases hbig : 300 < s.size
  · go_enter Tryd.func3, Tryd.ntmps3
    go_wp2_with fail
    refine (awake_any _ hg hu).mono ?_
    rintro e w1 ⟨rfl, f1⟩
    go_wp2_with fail
    refine (awake_any _ (hg.fr f1) (hu.fr f1)).mono ?_
    rintro e w2 ⟨rfl, f2⟩
    go_wp2_with fail
    go_ret
    exact ⟨rfl, f1.seqN f2⟩
  · have l1 := quote_len s.data.toList
    have l2 := quote_len (quoteL s.data.toList)
    obtain ⟨v1, v2⟩ := quote_valid s.data.toList
    rw [size_len] at l1 v2
    have h1 : unqL (quoteL (quoteL s.data.toList)) = some (quoteL s.data.toList) := unqL_quote _
    have h2 : unqL (quoteL s.data.toList) = some s.data.toList := unqL_quote _
    have q1 := fun w (h : Gl w) => quote_any s w h (by omega)
    generalize hQ : quoteL s.data.toList = Q at *
    have q2 := fun w (h : Gl w) => quote_any (strB Q) w h (by rw [strB_size]; omega)
    simp only [strB_list] at q2
    generalize hR : quoteL Q = R at *
    have u1 : ∀ w, Gl w → Calls Tryd.prog 6 #[.string (strB R)] w fun e w' => e = .returned (.tuple #[.string (strB Q), .int .i64 0]) ∧ Fr noB w w' := fun w h =>
      (unquote_any (strB R) w h (by rw [strB_size]; omega)).mono fun e w' ⟨hp, f⟩ => ⟨unq_some hp h1, f⟩
    have u2 : ∀ w, Gl w → Calls Tryd.prog 6 #[.string (strB Q)] w fun e w' => e = .returned (.tuple #[.string s, .int .i64 0]) ∧ Fr noB w w' := fun w h =>
      (unquote_any (strB Q) w h (by rw [strB_size]; omega)).mono fun e w' ⟨hp, f⟩ => ⟨by rw [unq_some hp h2, strB_of], f⟩
    have vv : ∀ w, Calls Tryd.prog 7 #[.string (strB Q)] w fun e w' => e = .returned (.bool true) ∧ Fr noB w w' := fun w =>
      (valid_any (strB Q) w (by rw [strB_size]; unfold maxLen; omega)).mono fun e w' ⟨hp, f⟩ => ⟨hp.trans (ret_bool v1), f⟩
    have hsz : (strB Q).size = Q.length := rfl
    have hge : s.size ≤ (strB Q).size := by rw [hsz]; exact v2
    generalize strB Q = SQ at *
    generalize strB R = SR at *
    have e1 : (SQ.toList == SQ.toList) = true := by simp
    have e2 : (s.toList == s.toList) = true := by simp
    replace q1 := Lib.hid q1
    replace q2 := Lib.hid q2
    replace u1 := Lib.hid u1
    replace u2 := Lib.hid u2
    replace vv := Lib.hid vv
    replace hsz := Lib.hid hsz
    replace hQ := Lib.hid hQ
    replace hR := Lib.hid hR
    replace h1 := Lib.hid h1
    replace h2 := Lib.hid h2
    replace v1 := Lib.hid v1
    clear l1 l2 v2
    go_enter Tryd.func3, Tryd.ntmps3
    go_wp2_with fail
    refine (awake_any _ hg hu).mono ?_
    rintro e w1 ⟨rfl, f1⟩
    go_wp2_with fail
    refine (q1.out _ (hg.fr f1)).mono ?_
    rintro e w2 ⟨rfl, f⟩
    have f2 := f1.seqN f
    clear f f1
    go_wp2_with fail
    refine (q2.out _ (hg.fr f2)).mono ?_
    rintro e w3 ⟨rfl, f⟩
    have f3 := f2.seqN f
    clear f f2
    go_wp2_with fail
    refine (u1.out _ (hg.fr f3)).mono ?_
    rintro e w4 ⟨rfl, f⟩
    have f4 := f3.seqN f
    clear f f3
    go_wp2_with fail
    refine (u2.out _ (hg.fr f4)).mono ?_
    rintro e w5 ⟨rfl, f⟩
    have f5 := f4.seqN f
    clear f f4
    go_wp2_with fail
    refine (vv.out _).mono ?_
    rintro e w6 ⟨rfl, f⟩
    have f6 := f5.seqN f
    clear f f5
    go_wp2_with fail
    go_ret
    exact ⟨rfl, f6⟩
end Go.Proofs.YtnehphfpchfjeabDoor
