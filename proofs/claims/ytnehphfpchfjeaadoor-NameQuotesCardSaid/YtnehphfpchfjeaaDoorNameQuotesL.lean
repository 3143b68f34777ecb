/-
  Stage 1's law NameQuotes.
-/
import Derived.Test.YtnehphfpchfjeaaDoorRefQuote
import Derived.Test.YtnehphfpchfjeaaDoorRefValid
import Derived.Test.YtnehphfpchfjeaaDoorNameLaws
import Derived.Test.YtnehphfpchfjeaaDoorQuoteV
set_option linter.unusedVariables false
set_option linter.unusedSimpArgs false
namespace Go.Proofs.YtnehphfpchfjeaaDoor
open Go.RowKit Go

set_option maxRecDepth 100000 in
set_option maxHeartbeats 4000000 in
theorem quotes_any (s : ByteArray) (w : World) (hg : Gl w) (hu : U8 w) (hs : s.size ≤ 140737488351232) :
    Calls Tryd.prog 4 #[.string s] w fun e w' => e = .returned (.bool true) ∧ Fr noB w w' := by
  by_cases hbig : 500 < s.size
  · go_enter Tryd.func4, Tryd.ntmps4
    go_wp2_with fail
    refine (awake_any _ hg hu).mono ?_
    rintro e w1 ⟨rfl, f1⟩
    go_wp2_with fail
    refine (awake_any _ (hg.fr f1) (hu.fr f1)).mono ?_
    rintro e w2 ⟨rfl, f2⟩
    go_wp2_with fail
    go_ret
    exact ⟨rfl, f1.seqN f2⟩
  · have l1 := quote_len s.data.toList
    obtain ⟨v1, v2⟩ := quote_valid s.data.toList
    rw [size_len] at l1 v2
    have h2 : unqL (quoteL s.data.toList) = some s.data.toList := unqL_quote _
    have q1 := fun w (h : Gl w) => quote_any s w h (by omega)
    have q2 := fun w => rquote_any s w (by omega)
    generalize hQ : quoteL s.data.toList = Q at *
    have u2 : ∀ w, Gl w → Calls Tryd.prog 21 #[.string (strB Q)] w fun e w' => e = .returned (.tuple #[.string s, .int .i64 0]) ∧ Fr noB w w' := fun w h =>
      (unquote_any (strB Q) w h (by rw [strB_size]; omega)).mono fun e w' ⟨hp, f⟩ => ⟨by rw [unq_some hp h2, strB_of], f⟩
    have vv : ∀ w, Calls Tryd.prog 15 #[.string (strB Q)] w fun e w' => e = .returned (.bool true) ∧ Fr noB w w' := fun w =>
      (rvalid_any (strB Q) w (by rw [strB_size]; omega)).mono fun e w' ⟨hp, f⟩ => ⟨hp.trans (ret_bool v1), f⟩
    generalize strB Q = SQ at *
    have e1 : (SQ.toList == SQ.toList) = true := by simp
    have e2 : (s.toList == s.toList) = true := by simp
    replace q1 := Lib.hid q1
    replace q2 := Lib.hid q2
    replace u2 := Lib.hid u2
    replace vv := Lib.hid vv
    replace hQ := Lib.hid hQ
    replace h2 := Lib.hid h2
    replace v1 := Lib.hid v1
    clear l1 v2
    go_enter Tryd.func4, Tryd.ntmps4
    go_wp2_with fail
    refine (awake_any _ hg hu).mono ?_
    rintro e w1 ⟨rfl, f1⟩
    go_wp2_with fail
    refine (q1.out _ (hg.fr f1)).mono ?_
    rintro e w2 ⟨rfl, f⟩
    have f2 := f1.seqN f
    clear f f1
    go_wp2_with fail
    refine (u2.out _ (hg.fr f2)).mono ?_
    rintro e w3 ⟨rfl, f⟩
    have f3 := f2.seqN f
    clear f f2
    go_wp2_with fail
    refine (q2.out _).mono ?_
    rintro e w4 ⟨rfl, f⟩
    have f4 := f3.seqN f
    clear f f3
    go_wp2_with fail
    refine (vv.out _).mono ?_
    rintro e w5 ⟨rfl, f⟩
    have f5 := f4.seqN f
    clear f f4
    go_wp2_with fail
    go_ret
    exact ⟨rfl, f5⟩
end Go.Proofs.YtnehphfpchfjeaaDoor
