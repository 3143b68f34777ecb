/-
  Stage 1's law NameUnquotes.
-/
import Derived.Test.YtnehphfpchfjeaaDoorRefUnq2
import Derived.Test.YtnehphfpchfjeaaDoorQuoteV
set_option linter.unusedVariables false
set_option linter.unusedSimpArgs false
namespace Go.Proofs.YtnehphfpchfjeaaDoor
open Go.RowKit Go

theorem runq_some {l t : List UInt8} {e : Ending} (h : RunqPost l e) (ht : unqL l = some t) : e = .returned (.tuple #[.string (strB t), .bool true]) := by
  rw [← runqL_eq] at ht
  rcases h with ⟨t', h1, h2⟩ | ⟨h1, h2⟩
  · rw [ht] at h1; injection h1 with h1; subst h1; exact h2
  · rw [ht] at h1; cases h1
theorem runq_none {l : List UInt8} {e : Ending} (h : RunqPost l e) (ht : unqL l = none) : e = .returned (.tuple #[.string (strB []), .bool false]) := by
  rw [← runqL_eq] at ht
  rcases h with ⟨t', h1, h2⟩ | ⟨h1, h2⟩
  · rw [ht] at h1; cases h1
  · exact h2

set_option maxRecDepth 100000 in
set_option maxHeartbeats 4000000 in
theorem unquotes_any (s : ByteArray) (w : World) (hg : Gl w) (hu : U8 w) (hs : s.size ≤ 140737488351232) :
    Calls Tryd.prog 5 #[.string s] w fun e w' => e = .returned (.bool true) ∧ Fr noB w w' := by
  by_cases hbig : 500 < s.size
  · go_enter Tryd.func5, Tryd.ntmps5
    go_wp2_with fail
    refine (awake_any _ hg hu).mono ?_
    rintro e w1 ⟨rfl, f1⟩
    go_wp2_with fail
    refine (awake_any _ (hg.fr f1) (hu.fr f1)).mono ?_
    rintro e w2 ⟨rfl, f2⟩
    go_wp2_with fail
    go_ret
    exact ⟨rfl, f1.seqN f2⟩
  · have q1 := fun w (h : Gl w) => unquote_any s w h (by omega)
    have q2 := fun w => runquote_any s w (by omega)
    cases hx : unqL s.data.toList with
    | none =>
      have u1 : ∀ w, Gl w → Calls Tryd.prog 21 #[.string s] w fun e w' => e = .returned (.tuple #[.string (strB []), .int .i64 3]) ∧ Fr noB w w' := fun w h => (q1 w h).mono fun e w' ⟨hp, f⟩ => ⟨unq_none hp hx, f⟩
      have u2 : ∀ w, Calls Tryd.prog 23 #[.string s] w fun e w' => e = .returned (.tuple #[.string (strB []), .bool false]) ∧ Fr noB w w' := fun w => (q2 w).mono fun e w' ⟨hp, f⟩ => ⟨runq_none hp hx, f⟩
      clear q1 q2
      have e1 : ((strB []).toList == (strB []).toList) = true := by simp
      generalize strB [] = S0 at *
      replace u1 := Lib.hid u1
      replace u2 := Lib.hid u2
      replace hx := Lib.hid hx
      go_enter Tryd.func5, Tryd.ntmps5
      go_wp2_with fail
      refine (awake_any _ hg hu).mono ?_
      rintro e w1 ⟨rfl, f1⟩
      go_wp2_with fail
      refine (u1.out _ (hg.fr f1)).mono ?_
      rintro e w2 ⟨rfl, f⟩
      have f2 := f1.seqN f
      clear f f1
      go_wp2_with fail
      refine (u2.out _).mono ?_
      rintro e w3 ⟨rfl, f⟩
      have f3 := f2.seqN f
      clear f f2
      go_wp2_with fail
      go_ret
      exact ⟨rfl, f3⟩
    | some t =>
      have hq : quoteL t = s.data.toList := unqP_some hx
      have hl : t.length ≤ s.size := by
        have := (quote_valid t).2
        have h2 := congrArg List.length hq
        rw [size_len] at h2
        omega
      have u1 : ∀ w, Gl w → Calls Tryd.prog 21 #[.string s] w fun e w' => e = .returned (.tuple #[.string (strB t), .int .i64 0]) ∧ Fr noB w w' := fun w h => (q1 w h).mono fun e w' ⟨hp, f⟩ => ⟨unq_some hp hx, f⟩
      have u2 : ∀ w, Calls Tryd.prog 23 #[.string s] w fun e w' => e = .returned (.tuple #[.string (strB t), .bool true]) ∧ Fr noB w w' := fun w => (q2 w).mono fun e w' ⟨hp, f⟩ => ⟨runq_some hp hx, f⟩
      have u3 : ∀ w, Gl w → Calls Tryd.prog 20 #[.string (strB t)] w fun e w' => e = .returned (.string s) ∧ Fr noB w w' := fun w h => (quote_any (strB t) w h (by rw [strB_size]; omega)).mono fun e w' ⟨hp, f⟩ => ⟨by rw [hp, strB_list, hq, strB_of], f⟩
      clear q1 q2
      have e1 : ((strB t).toList == (strB t).toList) = true := by simp
      have e2 : (s.toList == s.toList) = true := by simp
      generalize strB t = S0 at *
      replace u1 := Lib.hid u1
      replace u2 := Lib.hid u2
      replace u3 := Lib.hid u3
      replace hx := Lib.hid hx
      replace hq := Lib.hid hq
      clear hl
      go_enter Tryd.func5, Tryd.ntmps5
      go_wp2_with fail
      refine (awake_any _ hg hu).mono ?_
      rintro e w1 ⟨rfl, f1⟩
      go_wp2_with fail
      refine (u1.out _ (hg.fr f1)).mono ?_
      rintro e w2 ⟨rfl, f⟩
      have f2 := f1.seqN f
      clear f f1
      go_wp2_with fail
      refine (u2.out _).mono ?_
      rintro e w3 ⟨rfl, f⟩
      have f3 := f2.seqN f
      clear f f2
      go_wp2_with fail
      refine (u3.out _ (hg.fr f3)).mono ?_
      rintro e w4 ⟨rfl, f⟩
      have f4 := f3.seqN f
      clear f f3
      go_wp2_with fail
      go_ret
      exact ⟨rfl, f4⟩
end Go.Proofs.YtnehphfpchfjeaaDoor
