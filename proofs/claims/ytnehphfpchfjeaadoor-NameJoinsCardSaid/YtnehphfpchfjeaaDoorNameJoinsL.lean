/-
  Stage 1's law NameJoins.
-/
import Derived.Test.YtnehphfpchfjeaaDoorRefValid
import Derived.Test.YtnehphfpchfjeaaDoorNameLaws
import Derived.Test.YtnehphfpchfjeaaDoorQuoteV
set_option linter.unusedVariables false
set_option linter.unusedSimpArgs false
namespace Go.Proofs.YtnehphfpchfjeaaDoor
open Go.RowKit Go

theorem cat_list (a b : ByteArray) : (a ++ b).data.toList = a.data.toList ++ b.data.toList := by
  simp

set_option maxRecDepth 100000 in
set_option maxHeartbeats 4000000 in
theorem joins_any (a b : ByteArray) (w : World) (hg : Gl w) (hu : U8 w) (ha : a.size ≤ 140737488351232) (hb : b.size ≤ 140737488351232) :
    Calls Tryd.prog 8 #[.string a, .string b] w fun e w' => e = .returned (.bool true) ∧ Fr noB w w' := by
  have aw2 : ∀ w1, Fr noB w w1 → Calls Tryd.prog 9 #[] w1 fun e w' => e = .returned (.bool true) ∧ Fr noB w w' := fun w1 f1 => (awake_any w1 (hg.fr f1) (hu.fr f1)).mono fun e w' ⟨h, f⟩ => ⟨h, f1.seqN f⟩
  replace aw2 := Lib.hid aw2
  by_cases hbig : 500 < a.size + b.size
  · have hbig2 : (500 : Int) < (a.size : Int) + b.size := by omega
    clear hbig
    go_enter Tryd.func8, Tryd.ntmps8
    go_wp2_with fail
    refine (awake_any _ hg hu).mono ?_
    rintro e w1 ⟨rfl, f1⟩
    go_wp2_with fail
    refine (aw2.out _ f1).mono ?_
    rintro e w2 ⟨rfl, f2⟩
    go_wp2_with fail
    go_ret
    exact ⟨rfl, f2⟩
  · have hsm : ¬ (500 : Int) < (a.size : Int) + b.size := by omega
    have hva := fun w => rvalid_any a w (by omega)
    have hvb := fun w => rvalid_any b w (by omega)
    cases v1 : validL a.data.toList with
    | false =>
      rw [v1] at hva
      replace hva := Lib.hid hva
      replace hvb := Lib.hid hvb
      replace v1 := Lib.hid v1
      clear hbig
      go_enter Tryd.func8, Tryd.ntmps8
      go_wp2_with fail
      refine (awake_any _ hg hu).mono ?_
      rintro e w1 ⟨rfl, f1⟩
      go_wp2_with fail
      refine (hva.out _).mono ?_
      rintro e w2 ⟨rfl, f⟩
      have f2 := f1.seqN f
      clear f f1
      go_wp2_with fail
      refine (aw2.out _ f2).mono ?_
      rintro e w3 ⟨rfl, f3⟩
      go_wp2_with fail
      go_ret
      exact ⟨rfl, f3⟩
    | true =>
      rw [v1] at hva
      cases v2 : validL b.data.toList with
      | false =>
        rw [v2] at hvb
        replace hva := Lib.hid hva
        replace hvb := Lib.hid hvb
        replace v1 := Lib.hid v1
        replace v2 := Lib.hid v2
        clear hbig
        go_enter Tryd.func8, Tryd.ntmps8
        go_wp2_with fail
        refine (awake_any _ hg hu).mono ?_
        rintro e w1 ⟨rfl, f1⟩
        go_wp2_with fail
        refine (hva.out _).mono ?_
        rintro e w2 ⟨rfl, f⟩
        have f2 := f1.seqN f
        clear f f1
        go_wp2_with fail
        refine (hvb.out _).mono ?_
        rintro e w3 ⟨rfl, f⟩
        have f3 := f2.seqN f
        clear f f2
        go_wp2_with fail
        refine (aw2.out _ f3).mono ?_
        rintro e w4 ⟨rfl, f4⟩
        go_wp2_with fail
        go_ret
        exact ⟨rfl, f4⟩
      | true =>
        rw [v2] at hvb
        have hab : (a ++ b).size = a.size + b.size := by simp
        have l1 := quote_len a.data.toList
        have l2 := quote_len b.data.toList
        rw [size_len] at l1 l2
        have qab := fun w (h : Gl w) => quote_any (a ++ b) w h (by omega)
        have qa := fun w (h : Gl w) => quote_any a w h (by omega)
        have qb := fun w (h : Gl w) => quote_any b w h (by omega)
        rw [cat_list, quote_app _ _ v1, ← strB_append] at qab
        have cab := fun w => count_any (a ++ b) w (by unfold maxLen; omega)
        have ca := fun w => count_any a w (by unfold maxLen; omega)
        have cb := fun w => count_any b w (by unfold maxLen; omega)
        rw [cat_list, chunks_app _ _ v1, List.length_append] at cab
        have n1 := chunks_le a
        have n2 := chunks_le b
        have s1 : (strB (quoteL a.data.toList)).size ≤ 6000 := by rw [strB_size]; omega
        have s2 : (strB (quoteL b.data.toList)).size ≤ 6000 := by rw [strB_size]; omega
        generalize strB (quoteL a.data.toList) = A at *
        generalize strB (quoteL b.data.toList) = B at *
        generalize (chunks a.data.toList).length = n at *
        generalize (chunks b.data.toList).length = m at *
        have e1 : ((A ++ B).toList == (A ++ B).toList) = true := by simp
        have e2 : (((n + m : Nat) : Int) == (n : Int) + m) = true := by simp
        have hcat : A.size + B.size ≤ 9223372036854775807 := by omega
        have hcat2 : a.size + b.size ≤ 9223372036854775807 := by omega
        have n3 : n ≤ 1000 := by omega
        have n4 : m ≤ 1000 := by omega
        replace hva := Lib.hid hva
        replace hvb := Lib.hid hvb
        replace v1 := Lib.hid v1
        replace v2 := Lib.hid v2
        replace qab := Lib.hid qab
        replace qa := Lib.hid qa
        replace qb := Lib.hid qb
        replace cab := Lib.hid cab
        replace ca := Lib.hid ca
        replace cb := Lib.hid cb
        replace hab := Lib.hid hab
        clear hbig l1 l2 n1 n2
        go_enter Tryd.func8, Tryd.ntmps8
        go_wp2_with fail
        refine (awake_any _ hg hu).mono ?_
        rintro e w1 ⟨rfl, f1⟩
        go_wp2_with fail
        refine (hva.out _).mono ?_
        rintro e w2 ⟨rfl, f⟩
        have f2 := f1.seqN f
        clear f f1
        go_wp2_with fail
        refine (hvb.out _).mono ?_
        rintro e w3 ⟨rfl, f⟩
        have f3 := f2.seqN f
        clear f f2
        go_wp2_with fail
        refine (qab.out _ (hg.fr f3)).mono ?_
        rintro e w4 ⟨rfl, f⟩
        have f4 := f3.seqN f
        clear f f3
        go_wp2_with fail
        refine (qa.out _ (hg.fr f4)).mono ?_
        rintro e w5 ⟨rfl, f⟩
        have f5 := f4.seqN f
        clear f f4
        go_wp2_with fail
        refine (qb.out _ (hg.fr f5)).mono ?_
        rintro e w6 ⟨rfl, f⟩
        have f6 := f5.seqN f
        clear f f5
        go_wp2_with fail
        refine (cab.out _).mono ?_
        rintro e w7 ⟨rfl, f⟩
        have f7 := f6.seqN f
        clear f f6
        go_wp2_with fail
        refine (ca.out _).mono ?_
        rintro e w8 ⟨rfl, f⟩
        have f8 := f7.seqN f
        clear f f7
        go_wp2_with fail
        refine (cb.out _).mono ?_
        rintro e w9 ⟨rfl, f⟩
        have f9 := f8.seqN f
        clear f f8
        go_wp2_with fail
        go_ret
        exact ⟨rfl, f9⟩
end Go.Proofs.YtnehphfpchfjeaaDoor
