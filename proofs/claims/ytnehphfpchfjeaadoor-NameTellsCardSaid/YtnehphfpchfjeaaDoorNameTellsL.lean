/-
  Stage 1's law NameTells.
-/
import Derived.Test.YtnehphfpchfjeaaDoorRefOrder
set_option linter.unusedVariables false
set_option linter.unusedSimpArgs false
namespace Go.Proofs.YtnehphfpchfjeaaDoor
open Go.RowKit Go

set_option maxRecDepth 100000 in
set_option maxHeartbeats 4000000 in
theorem tells_any (s t : ByteArray) (n0 : Int) (w : World) (hg : Gl w) (hu : U8 w) (hs : s.size ≤ 140737488351232) (ht : t.size ≤ 140737488351232) (hwf : (Lit.int .i64 n0).wf = true) :
    Calls Tryd.prog 3 #[.string s, .string t, .int .i64 n0] w fun e w' => e = .returned (.bool true) ∧ Fr noB w w' := by
  have hn0 : -9223372036854775808 ≤ n0 ∧ n0 ≤ 9223372036854775807 := by simpa [Lit.wf, IntKind.min, IntKind.max, IntKind.signed, IntKind.bits] using hwf
  by_cases hbig : 500 < s.size + t.size
  · have hbig2 : (500 : Int) < (s.size : Int) + t.size := by omega
    clear hbig hwf
    go_enter Tryd.func3, Tryd.ntmps3
    go_wp2_with fail
    refine (awake_any _ hg hu).mono ?_
    rintro e w1 ⟨rfl, f1⟩
    go_wp2_with fail
    refine (awake_any _ (hg.fr f1) (hu.fr f1)).mono ?_
    rintro e w2 ⟨rfl, f2⟩
    go_wp2_with fail
    go_ret
    exact ⟨rfl, f1.seqN f2⟩
  · have hsm : ¬ (500 : Int) < (s.size : Int) + t.size := by omega
    have sa : s.size ≤ 500 := by omega
    have sb : t.size ≤ 500 := by omega
    have r1 := fun w => right_any s w (by unfold maxLen; omega)
    have r2 := fun w => rright_any s w (by omega)
    have r3 := fun w => count_any s w (by unfold maxLen; omega)
    have r4 := fun w => runes_any s w (by omega)
    have r5 := fun w => valid_any s w (by unfold maxLen; omega)
    have r6 := fun w => rvalid_any s w (by omega)
    have r7 := fun w => cut_any s n0 w (by unfold maxLen; omega) (by omega)
    have r8 := fun w => rcut_any s n0 w (by omega) (by omega) (by omega)
    have r9 := fun w (h : U8 w) => order_any s t w h (by omega) (by omega)
    have r10 := fun w => rorder_any s t w (by omega) (by omega)
    generalize rightL s.data.toList = R at *
    generalize validL s.data.toList = V at *
    generalize strB (cutI s.data.toList n0) = C at *
    generalize ordL s.data.toList t.data.toList = O at *
    have hC : (C.toList == C.toList) = true := by simp
    replace r1 := Lib.hid r1
    replace r2 := Lib.hid r2
    replace r3 := Lib.hid r3
    replace r4 := Lib.hid r4
    replace r5 := Lib.hid r5
    replace r6 := Lib.hid r6
    replace r7 := Lib.hid r7
    replace r8 := Lib.hid r8
    replace r9 := Lib.hid r9
    replace r10 := Lib.hid r10
    clear hbig hwf hn0
    go_enter Tryd.func3, Tryd.ntmps3
    go_wp2_with fail
    refine (awake_any _ hg hu).mono ?_
    rintro e w1 ⟨rfl, f1⟩
    go_wp2_with fail
    refine (r1.out _).mono ?_
    rintro e w2 ⟨rfl, f⟩
    have f2 := f1.seqN f
    clear f f1
    go_wp2_with fail
    refine (r2.out _).mono ?_
    rintro e w3 ⟨rfl, f⟩
    have f3 := f2.seqN f
    clear f f2
    go_wp2_with fail
    refine (r3.out _).mono ?_
    rintro e w4 ⟨rfl, f⟩
    have f4 := f3.seqN f
    clear f f3
    go_wp2_with fail
    refine (r4.out _).mono ?_
    rintro e w5 ⟨v, rfl, own, f⟩
    obtain ⟨a, cp, rfl⟩ := ownsRow_slice own
    have f5 := f4.seqN f
    clear f f4 own
    go_wp2_with fail
    refine (r5.out _).mono ?_
    rintro e w6 ⟨rfl, f⟩
    have f6 := f5.seqN f
    clear f f5
    go_wp2_with fail
    refine (r6.out _).mono ?_
    rintro e w7 ⟨rfl, f⟩
    have f7 := f6.seqN f
    clear f f6
    go_wp2_with fail
    refine (r7.out _).mono ?_
    rintro e w8 ⟨rfl, f⟩
    have f8 := f7.seqN f
    clear f f7
    go_wp2_with fail
    refine (r8.out _).mono ?_
    rintro e w9 ⟨rfl, f⟩
    have f9 := f8.seqN f
    clear f f8
    go_wp2_with fail
    refine (r9.out _ (hu.fr f9)).mono ?_
    rintro e w10 ⟨rfl, f⟩
    have f10 := f9.seqN f
    clear f f9
    go_wp2_with fail
    refine (r10.out _).mono ?_
    rintro e w11 ⟨rfl, f⟩
    have f11 := f10.seqN f
    clear f f10
    go_wp2_with fail
    go_ret
    exact ⟨rfl, f11⟩
end Go.Proofs.YtnehphfpchfjeaaDoor
