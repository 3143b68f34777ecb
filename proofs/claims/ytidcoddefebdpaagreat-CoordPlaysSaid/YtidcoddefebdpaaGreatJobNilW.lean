/-
  The message of a call; a job that is none.
-/
import Derived.Test.YtidcoddefebdpaaGreatJobFew
import Derived.Test.YtidcoddefebdpaaGreatJobAwake2
set_option linter.unusedVariables false
set_option linter.unusedSimpArgs false
set_option maxRecDepth 100000
namespace Go.Proofs.YtidcoddefebdpaaGreat
open Go.RowKit Go Go.Lib

/-- the message of a call -/
inductive MsgV (w : World) (m : OpJ) : Value → Prop
  | k1 : m.k = 1 → MsgV w m (mTrigger m.a m.t 0)
  | k2 : m.k = 2 → MsgV w m (mPin m.t m.j)
  | k3 : m.k = 3 → MsgV w m (mPinned m.a m.t m.j 1 (.slice m.ua m.un m.uc) m.lo)
  | k4 : m.k = 4 → MsgV w m (mGone m.a m.t m.j)
  | k5 : m.k = 5 → MsgV w m (mCollect m.t m.j)
  | k6 : m.k = 6 → MsgV w m (mChunk m.a m.t m.j 0 1 (.slice none 0 0))
  | k7 (g : Nat) : m.k = 7 → Blk w g 67 [.int .i64 m.a, .int .i64 m.t, .int .i64 m.j, .int .i64 1, .slice m.ua m.un m.uc, .bool m.lo, .int .i64 (wrap64 (m.a + 1)), .int .i64 m.t, .int .i64 m.j, .int .i64 1, .slice m.ua m.un m.uc, .bool m.lo] →
      MsgV w m (mManifest m.t m.j 0 (.slice (some ⟨g, 0, none⟩) 2 2))
  | k8 : m.k = 8 → MsgV w m (mStored m.t m.j)
  | k9 : m.k = 9 → MsgV w m (mUnpin m.t m.j)
  | k10 : m.k = 10 → MsgV w m (mUnpinned m.a m.t m.j)
  | k0 : m.k < 1 ∨ 10 < m.k → MsgV w m .nilIface

theorem make_any (m : OpJ) (w : World) :
    Calls Tryz.prog 26 #[.int .i64 m.k, .int .i64 m.a, .int .i64 m.t, .int .i64 m.j, .int .i64 0, .int .i64 1, .slice m.ua m.un m.uc, .bool m.lo, .slice none 0 0] w fun e w' => ∃ v, e = .returned v ∧ MsgV w' m v ∧ Fr noB w w' := by
  by_cases h0 : m.k < 1 ∨ 10 < m.k
  · exact (make_0 m.k m.a m.t m.j 0 1 m.ua m.un m.uc m.lo none 0 0 w h0).mono fun e w' ⟨h1, h2⟩ => ⟨_, h1, .k0 h0, h2⟩
  rcases (show m.k = 1 ∨ m.k = 2 ∨ m.k = 3 ∨ m.k = 4 ∨ m.k = 5 ∨ m.k = 6 ∨ m.k = 7 ∨ m.k = 8 ∨ m.k = 9 ∨ m.k = 10 by omega) with h | h | h | h | h | h | h | h | h | h
  · rw [h]; exact (make_1 m.a m.t m.j 0 1 m.ua m.un m.uc m.lo none 0 0 w).mono fun e w' ⟨h1, h2⟩ => ⟨_, h1, .k1 h, h2⟩
  · rw [h]; exact (make_2 m.a m.t m.j 0 1 m.ua m.un m.uc m.lo none 0 0 w).mono fun e w' ⟨h1, h2⟩ => ⟨_, h1, .k2 h, h2⟩
  · rw [h]; exact (make_3 m.a m.t m.j 0 1 m.ua m.un m.uc m.lo none 0 0 w).mono fun e w' ⟨h1, h2⟩ => ⟨_, h1, .k3 h, h2⟩
  · rw [h]; exact (make_4 m.a m.t m.j 0 1 m.ua m.un m.uc m.lo none 0 0 w).mono fun e w' ⟨h1, h2⟩ => ⟨_, h1, .k4 h, h2⟩
  · rw [h]; exact (make_5 m.a m.t m.j 0 1 m.ua m.un m.uc m.lo none 0 0 w).mono fun e w' ⟨h1, h2⟩ => ⟨_, h1, .k5 h, h2⟩
  · rw [h]; exact (make_6 m.a m.t m.j 0 1 m.ua m.un m.uc m.lo none 0 0 w).mono fun e w' ⟨h1, h2⟩ => ⟨_, h1, .k6 h, h2⟩
  · rw [h]; exact (make_7 m.a m.t m.j 0 1 m.ua m.un m.uc m.lo none 0 0 w).mono fun e w' ⟨g, h1, _, h2, h3⟩ => ⟨_, h1, .k7 g h h2, h3⟩
  · rw [h]; exact (make_8 m.a m.t m.j 0 1 m.ua m.un m.uc m.lo none 0 0 w).mono fun e w' ⟨h1, h2⟩ => ⟨_, h1, .k8 h, h2⟩
  · rw [h]; exact (make_9 m.a m.t m.j 0 1 m.ua m.un m.uc m.lo none 0 0 w).mono fun e w' ⟨h1, h2⟩ => ⟨_, h1, .k9 h, h2⟩
  · rw [h]; exact (make_10 m.a m.t m.j 0 1 m.ua m.un m.uc m.lo none 0 0 w).mono fun e w' ⟨h1, h2⟩ => ⟨_, h1, .k10 h, h2⟩

set_option maxHeartbeats 1000000 in
set_option maxRecDepth 10000 in
theorem message_any (m : OpJ) (w : World) :
    Calls Tryz.prog 10 #[.agg #[.int .i64 m.k, .int .i64 m.a, .int .i64 m.t, .int .i64 m.j, .slice m.ua m.un m.uc, .bool m.lo]] w fun e w' => ∃ v, e = .returned v ∧ MsgV w' m v ∧ Fr noB w w' := by
  have fX := (Fr.refl noB w).alloc (.cells #[.int .i64 m.k, .int .i64 m.a, .int .i64 m.t, .int .i64 m.j, .slice m.ua m.un m.uc, .bool m.lo] 38)
  have hm := make_any m
  replace hm := Lib.hid hm
  go_enter Tryz.func10, Tryz.ntmps10
  go_wp2_with fail
  refine (hm.out _).mono ?_
  rintro e w1 ⟨v, rfl, hv, f1⟩
  have g1 := fX.seqN f1
  replace hv := Lib.hid hv
  clear fX f1 hm
  go_wp2_with fail
  go_ret
  exact ⟨v, rfl, hv.out, g1⟩

theorem within_yes (n lo hi : Int) (w : World) (h1 : lo ≤ n) (h2 : n ≤ hi) : Calls Tryz.prog 49 #[.int .i64 n, .int .i64 lo, .int .i64 hi] w fun e w' => e = .returned (.bool true) ∧ w' = w := by
  have hd1 : decide (lo ≤ n) = true := by simpa using h1
  have hd2 : decide (n ≤ hi) = true := by simpa using h2
  go_enter Tryz.func49, Tryz.ntmps49
  go_wp2_with fail
  go_ret
  exact ⟨rfl, rfl⟩
/-- spoorref09.Right of a Pin -/
theorem rright_pin (w : World) : Calls Tryz.prog 27 #[.agg #[.int .i64 2, .int .i64 0, .int .i64 1, .int .i64 1, .int .i64 0, .int .i64 0, .int .i64 0, .int .i64 0, .int .i64 0, .int .i64 0, .int .i64 0, .slice none 0 0, .bool false, .slice none 0 0, .slice none 0 0]] w fun e w' => e = .returned (.bool true) ∧ Fr noB w w' := by
  go_enter Tryz.func27, Tryz.ntmps27
  go_wp2_with (first | (go_at_call 49; refine (within_yes _ _ _ _ (by omega) (by omega)).mono ?_; rintro e w' ⟨rfl, rfl⟩) | fail)
  go_ret
  exact ⟨rfl, (Fr.refl noB w).alloc _⟩

theorem list6 {α : Type} {cs : List α} (h : cs.length = 6) : cs = [cs[0], cs[1], cs[2], cs[3], cs[4], cs[5]] := by
  match cs, h with
  | [a, b, c, d, e, f], _ => rfl
theorem row_open {H : Type} {enc : TypeId × Value → H} {w : World} {base : Nat} {held : Bool} (n : Nat) (u : Value) (y : DataW H × List MemPlace)
    (h : DataW.trod enc Tryz.prog w base (fun _ => true) held n 36 [u] = some y) : ∃ xs a l c, u = .slice a l c ∧ RdI w u xs := by
  have hv : ∃ a l c, u = Value.slice a l c := by
    rcases DataW.trod_slice Tryz.underlying36 h with ⟨h1, _⟩ | ⟨a, len, cap, _, _, _, _, h1, _⟩
    · exact ⟨_, _, _, by simpa using h1⟩
    · exact ⟨_, _, _, by simpa using h1⟩
  obtain ⟨a, l, c, rfl⟩ := hv
  obtain ⟨xs, a', c', e, h1, h2, h3⟩ := slr_of_trod (k := 1) (IsI .i64) Tryz.underlying36 (by kernel_rfl) (by omega) ⟨a, l, c, rfl⟩ h (fun n cs y hl h => by
    obtain ⟨q, hq, _, hw⟩ := DataW.trod_int Tryz.underlying3 h
    exact ⟨q, hq, hw⟩)
  simp only [Value.slice.injEq] at e
  obtain ⟨rfl, rfl, rfl⟩ := e
  unfold maxLen at h2
  refine ⟨xs, _, _, _, rfl, a, c, rfl, by omega, h1.1, fun i hi => ?_⟩
  obtain ⟨g, o, cs, e1, _, ⟨e2, _⟩, e3⟩ := h3 i (xs.getD i 0) (by simp [List.getD, hi])
  subst e2
  have := e3 0 _ rfl
  simp only [Nat.mul_one, Nat.add_zero] at this
  exact ⟨g, o, e1, this⟩
theorem opj_open {H : Type} {enc : TypeId × Value → H} {w : World} {base : Nat} {held : Bool} (n : Nat) (cs : List Value) (y : DataW H × List MemPlace) (hl : cs.length = 6)
    (h : DataW.trod enc Tryz.prog w base (fun _ => true) held n 38 cs = some y) : ∃ m, IsOpJ w cs m := by
  obtain ⟨a, ha, wa⟩ := fld_int (i := 0) (off := 0) Tryz.underlying38 h rfl (by kernel_rfl) (by omega) Tryz.underlying3
  obtain ⟨b, hb, wb⟩ := fld_int (i := 1) (off := 1) Tryz.underlying38 h rfl (by kernel_rfl) (by omega) Tryz.underlying3
  obtain ⟨c, hc, wc⟩ := fld_int (i := 2) (off := 2) Tryz.underlying38 h rfl (by kernel_rfl) (by omega) Tryz.underlying3
  obtain ⟨d, hd, wd⟩ := fld_int (i := 3) (off := 3) Tryz.underlying38 h rfl (by kernel_rfl) (by omega) Tryz.underlying3
  obtain ⟨n1, z1, hz1⟩ := fld (i := 4) (off := 4) Tryz.underlying38 h rfl (by kernel_rfl) (by omega)
  obtain ⟨xs, sa, sl, sc, hu, hr⟩ := row_open n1 _ z1 hz1
  obtain ⟨n2, z2, hz2⟩ := fld (i := 5) (off := 5) Tryz.underlying38 h rfl (by kernel_rfl) (by omega)
  obtain ⟨bb, hbb, _⟩ := DataW.trod_bool Tryz.underlying4 hz2
  simp only [List.cons.injEq, and_true] at hbb
  refine ⟨⟨a, b, c, d, sa, sl, sc, bb, xs⟩, ?_, ?_, wa, wb, wc, wd⟩
  · rw [list6 hl, ha, hb, hc, hd, hu, hbb]; rfl
  · rw [hu] at hr; exact hr
theorem slr_one {w : World} {g : Nat} {m : OpJ} {W : World} (b : Blk w g 38 (opC m)) (h : IsOpJ W (opC m) m) : SlR w (.slice (some ⟨g, 0, none⟩) 1 1) 6 (IsOpJ W) [m] :=
  ⟨_, 1, rfl, ⟨Nat.le_refl _, fun q => by cases q⟩, by unfold maxLen; omega, fun i m' hm' => by
    match i, hm' with
    | 0, hm' =>
      cases hm'
      exact ⟨g, 0, opC m, rfl, rfl, h, fun j u hu => by rw [← hu, ← b.cell j]; simp⟩
    | i + 1, hm' => simp at hm'⟩

end Go.Proofs.YtidcoddefebdpaaGreat
