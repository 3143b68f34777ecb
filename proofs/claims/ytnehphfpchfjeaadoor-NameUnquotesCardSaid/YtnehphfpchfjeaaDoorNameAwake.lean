/-
  Stage 1's awake: answers that the document fixes.
-/
import Derived.Test.YtnehphfpchfjeaaDoorUnquote
import Derived.Test.YtnehphfpchfjeaaDoorNameO
set_option linter.unusedVariables false
set_option linter.unusedSimpArgs false
namespace Go.Proofs.YtnehphfpchfjeaaDoor
open Go.RowKit Go

theorem unq_some {l t : List UInt8} {e : Ending} (h : UnqPost l e) (ht : unqL l = some t) : e = .returned (.tuple #[.string (strB t), .int .i64 0]) := by
  rcases h with ⟨t', h1, h2⟩ | ⟨h1, h2⟩
  · rw [ht] at h1; injection h1 with h1; subst h1; exact h2
  · rw [ht] at h1; cases h1
theorem unq_none {l : List UInt8} {e : Ending} (h : UnqPost l e) (ht : unqL l = none) : e = .returned (.tuple #[.string (strB []), .int .i64 3]) := by
  rcases h with ⟨t', h1, h2⟩ | ⟨h1, h2⟩
  · rw [ht] at h1; cases h1
  · exact h2

theorem aw_u1 (w : World) (hg : Gl w) : Calls Tryd.prog 21 #[.string ⟨#[97, 92, 120, 102, 102, 92, 117, 97, 46, 92, 92, 195, 169]⟩] w fun e w' => e = .returned (.tuple #[.string ⟨#[97, 255, 10, 92, 195, 169]⟩, .int .i64 0]) ∧ Fr noB w w' :=
  (unquote_any _ w hg (by decide)).mono fun e w' ⟨h, f⟩ => ⟨unq_some h (by decide +kernel), f⟩
theorem aw_u2 (w : World) (hg : Gl w) : Calls Tryd.prog 21 #[.string ⟨#[92, 117, 52, 49, 46]⟩] w fun e w' => e = .returned (.tuple #[.string ⟨#[]⟩, .int .i64 3]) ∧ Fr noB w w' :=
  (unquote_any _ w hg (by decide)).mono fun e w' ⟨h, f⟩ => ⟨unq_none h (by decide +kernel), f⟩
theorem aw_u3 (w : World) (hg : Gl w) : Calls Tryd.prog 21 #[.string ⟨#[92]⟩] w fun e w' => e = .returned (.tuple #[.string ⟨#[]⟩, .int .i64 3]) ∧ Fr noB w w' :=
  (unquote_any _ w hg (by decide)).mono fun e w' ⟨h, f⟩ => ⟨unq_none h (by decide +kernel), f⟩
theorem aw_r1 (w : World) : Calls Tryd.prog 10 #[.string ⟨#[104, 111, 115, 116, 45, 195, 169, 57]⟩] w fun e w' => e = .returned (.bool true) ∧ Fr noB w w' :=
  (right_any _ w (by decide +kernel)).mono fun e w' ⟨h, f⟩ => ⟨h.trans (ret_bool (by decide +kernel)), f⟩
theorem aw_r2 (w : World) : Calls Tryd.prog 10 #[.string ⟨#[]⟩] w fun e w' => e = .returned (.bool false) ∧ Fr noB w w' :=
  (right_any _ w (by decide +kernel)).mono fun e w' ⟨h, f⟩ => ⟨h.trans (ret_bool (by decide +kernel)), f⟩
theorem aw_r3 (w : World) : Calls Tryd.prog 10 #[.string ⟨#[97, 32, 98]⟩] w fun e w' => e = .returned (.bool false) ∧ Fr noB w w' :=
  (right_any _ w (by decide +kernel)).mono fun e w' ⟨h, f⟩ => ⟨h.trans (ret_bool (by decide +kernel)), f⟩
theorem aw_c (w : World) : Calls Tryd.prog 12 #[.string ⟨#[195, 169, 255]⟩] w fun e w' => e = .returned (.int .i64 2) ∧ Fr noB w w' :=
  (count_any _ w (by decide +kernel)).mono fun e w' ⟨h, f⟩ => ⟨h.trans (ret_int' (by decide +kernel)), f⟩
theorem aw_k (w : World) : Calls Tryd.prog 16 #[.string ⟨#[195, 169, 97, 98]⟩, .int .i64 2] w fun e w' => e = .returned (.string ⟨#[195, 169, 97]⟩) ∧ Fr noB w w' :=
  (cut_any _ 2 w (by decide +kernel) (by decide)).mono fun e w' ⟨h, f⟩ => ⟨h.trans (ret_str (by apply ByteArray.ext; decide +kernel)), f⟩
theorem aw_v (w : World) : Calls Tryd.prog 14 #[.string ⟨#[255]⟩] w fun e w' => e = .returned (.bool false) ∧ Fr noB w w' :=
  (valid_any _ w (by decide +kernel)).mono fun e w' ⟨h, f⟩ => ⟨h.trans (ret_bool (by decide +kernel)), f⟩
theorem aw_q (w : World) (hg : Gl w) : Calls Tryd.prog 20 #[.string ⟨#[255, 10, 92, 195, 169]⟩] w fun e w' => e = .returned (.string ⟨#[92, 120, 102, 102, 92, 117, 97, 46, 92, 92, 195, 169]⟩) ∧ Fr noB w w' :=
  (quote_any _ w hg (by decide)).mono fun e w' ⟨h, f⟩ => ⟨h.trans (ret_str (by apply ByteArray.ext; decide +kernel)), f⟩
theorem aw_o (w : World) (hu : U8 w) : Calls Tryd.prog 18 #[.string ⟨#[97]⟩, .string ⟨#[195, 169]⟩] w fun e w' => e = .returned (.int .i64 (-1)) ∧ Fr noB w w' :=
  (order_any _ _ w hu (by decide) (by decide)).mono fun e w' ⟨h, f⟩ => ⟨h.trans (ret_int' (by decide +kernel)), f⟩

set_option maxRecDepth 100000 in
set_option maxHeartbeats 4000000 in
theorem awake_any (w : World) (hg : Gl w) (hu : U8 w) : Calls Tryd.prog 9 #[] w fun e w' => e = .returned (.bool true) ∧ Fr noB w w' := by
  go_enter Tryd.func9, Tryd.ntmps9
  go_wp2_with fail
  refine (aw_u1 _ hg).mono ?_
  rintro e w1 ⟨rfl, f1⟩
  go_wp2_with fail
  refine (aw_u2 _ (hg.fr f1)).mono ?_
  rintro e w2 ⟨rfl, f⟩
  have f2 := f1.seqN f
  clear f f1
  go_wp2_with fail
  refine (aw_u3 _ (hg.fr f2)).mono ?_
  rintro e w3 ⟨rfl, f⟩
  have f3 := f2.seqN f
  clear f f2
  go_wp2_with fail
  refine (aw_r1 _).mono ?_
  rintro e w4 ⟨rfl, f⟩
  have f4 := f3.seqN f
  clear f f3
  go_wp2_with fail
  refine (aw_r2 _).mono ?_
  rintro e w5 ⟨rfl, f⟩
  have f5 := f4.seqN f
  clear f f4
  go_wp2_with fail
  refine (aw_r3 _).mono ?_
  rintro e w6 ⟨rfl, f⟩
  have f6 := f5.seqN f
  clear f f5
  go_wp2_with fail
  refine (aw_c _).mono ?_
  rintro e w7 ⟨rfl, f⟩
  have f7 := f6.seqN f
  clear f f6
  go_wp2_with fail
  refine (aw_k _).mono ?_
  rintro e w8 ⟨rfl, f⟩
  have f8 := f7.seqN f
  clear f f7
  go_wp2_with fail
  refine (aw_v _).mono ?_
  rintro e w9 ⟨rfl, f⟩
  have f9 := f8.seqN f
  clear f f8
  go_wp2_with fail
  refine (aw_q _ (hg.fr f9)).mono ?_
  rintro e w10 ⟨rfl, f⟩
  have f10 := f9.seqN f
  clear f f9
  go_wp2_with fail
  refine (aw_o _ (hu.fr f10)).mono ?_
  rintro e w11 ⟨rfl, f⟩
  have f11 := f10.seqN f
  clear f f10
  go_wp2_with fail
  go_ret
  exact ⟨rfl, f11⟩
end Go.Proofs.YtnehphfpchfjeaaDoor
