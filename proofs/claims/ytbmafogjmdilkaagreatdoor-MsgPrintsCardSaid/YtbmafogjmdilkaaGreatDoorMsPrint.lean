/-
  msg: Print.
-/
import Derived.Test.YtbmafogjmdilkaaGreatDoorMsWrite2
import Derived.Handy
import Derived.OpenShut
set_option linter.unusedVariables false
set_option linter.unusedSimpArgs false
set_option maxRecDepth 100000
set_option maxRecDepth 100000
namespace Go.Proofs.YtbmafogjmdilkaaGreatDoor
open Go.ChangeShapes Go.WideShapes Go.ChangeAt Go.RowKit Go Go.Lib

theorem Fr.hiN' {B : Nat} {a b : World} (h : Fr (hiB B) a b) (hB : a.heap.size = B) : Fr noB a b := by subst hB; exact h.hiN
theorem inB_lims (x : Int) (lo hi : Int) (h : inB lo hi x = true) (h0 : -9223372036854775808 ≤ lo) (h1 : hi ≤ 9223372036854775807) : -9223372036854775808 ≤ x ∧ x ≤ 9223372036854775807 := by
  have := inB_lim h
  omega
theorem checkL_bd (l : List UInt8) : 0 ≤ checkL l ∧ checkL l ≤ 4294967295 := by
  have h := sumL_bd l
  unfold checkL
  exact bounds_u32 (wf_bits BinOp.xor .u32 (sumL l / 4294967296) (sumL l % 4294967296))
/-- a message that may be: its spans, its parts -/
theorem chunk_lim {a t j i n : Int} {sp : List Sp} (h : chunkB a t j i n sp = true) : (∀ x ∈ [a, t, j, i, n], -9223372036854775808 ≤ x ∧ x ≤ 9223372036854775807) ∧ sp.length ≤ 2 ∧ (∀ s ∈ sp, rightS s = true) := by
  unfold chunkB at h
  simp only [Bool.and_eq_true, decide_eq_true_eq] at h
  obtain ⟨h1, h2, h3, h4, h5, h6, h7, h8, h9⟩ := h
  have q1 := inB_lim h1
  have q2 := inB_lim h2
  have q3 := inB_lim h3
  refine ⟨fun x hx => ?_, h8, fun s hs => ?_⟩
  · simp only [List.mem_cons, List.not_mem_nil, or_false] at hx
    rcases hx with rfl | rfl | rfl | rfl | rfl <;> omega
  · have := List.all_eq_true.1 h9 s hs
    simp only [Bool.and_eq_true] at this
    exact this.1
theorem printL_two {sp : List Sp} (h : sp.length ≤ 2) (hr : ∀ s ∈ sp, rightS s = true) : (printL sp).length ≤ 1200 := by
  unfold printL
  split
  · have h2 := (num_len sp.length).2
    have h3 := spans_len sp hr
    rw [List.length_append]
    omega
  · simp
theorem man_lim {t j c : Int} {ps : List Pn} (h : manB t j c ps = true) : (∀ x ∈ [t, j, c], -9223372036854775808 ≤ x ∧ x ≤ 9223372036854775807) ∧ ps.length ≤ 4 ∧ 0 < ps.length ∧ (∀ p ∈ ps, PnOk p) := by
  unfold manB at h
  simp only [Bool.and_eq_true, decide_eq_true_eq] at h
  obtain ⟨h1, h2, h3, h4, h5⟩ := h
  have q1 := inB_lim h1
  have q2 := inB_lim h2
  have q3 := inB_lim h3
  obtain ⟨h6, h7⟩ := man_ok t j ps (-1) (by omega) (by omega) h5
  refine ⟨fun x hx => ?_, by omega, h4, h7⟩
  simp only [List.mem_cons, List.not_mem_nil, or_false] at hx
  rcases hx with rfl | rfl | rfl <;> omega
theorem wf_ms (B : Nat) (u : Value) (T : List UInt8) (m : Ms) (v : Value) (w0 w : World) (hg : Gl w0) (hB : w0.heap.size = B) (f0 : Fr (hiB B) w0 w) (h : Wr w B u B T) (hv : MsW w0 v m) (hok : m.ok = true) (hT : T.length ≤ 1000) :
    Calls Tryz.prog 23 #[.pointer (some ⟨B, 0, none⟩), v] w fun e w' => e = .returned (.tuple #[]) ∧ ∃ u', Wr w' B u' B (T ++ m.fl) ∧ Fr (hiB B) w0 w' := by
  cases m with
  | trigger a t c =>
    obtain rfl := hv
    refine wf_Trigger B u T a t c w0 w f0 h ?_ (by omega)
    simp only [Ms.ok, bTrigger, Bool.and_eq_true] at hok
    obtain ⟨q0, q1, q2⟩ := hok
    intro x hx
    simp only [List.mem_cons, List.not_mem_nil, or_false] at hx
    rcases hx with rfl | rfl | rfl
    · exact inB_lims _ _ _ q0 (by omega) (by omega)
    · exact inB_lims _ _ _ q1 (by omega) (by omega)
    · exact inB_lims _ _ _ q2 (by omega) (by omega)
  | pin t j =>
    obtain rfl := hv
    refine wf_Pin B u T t j w0 w f0 h ?_ (by omega)
    simp only [Ms.ok, bPin, Bool.and_eq_true] at hok
    obtain ⟨q0, q1⟩ := hok
    intro x hx
    simp only [List.mem_cons, List.not_mem_nil, or_false] at hx
    rcases hx with rfl | rfl
    · exact inB_lims _ _ _ q0 (by omega) (by omega)
    · exact inB_lims _ _ _ q1 (by omega) (by omega)
  | pinned p =>
    obtain ⟨x, rfl, h1⟩ := hv
    exact wf_Pinned B u T p x w0 w hB f0 h h1 (pn_ok hok) (by omega)
  | gone a t j =>
    obtain rfl := hv
    refine wf_Gone B u T a t j w0 w f0 h ?_ (by omega)
    simp only [Ms.ok, bGone, Bool.and_eq_true] at hok
    obtain ⟨q0, q1, q2⟩ := hok
    intro x hx
    simp only [List.mem_cons, List.not_mem_nil, or_false] at hx
    rcases hx with rfl | rfl | rfl
    · exact inB_lims _ _ _ q0 (by omega) (by omega)
    · exact inB_lims _ _ _ q1 (by omega) (by omega)
    · exact inB_lims _ _ _ q2 (by omega) (by omega)
  | collect t j =>
    obtain rfl := hv
    refine wf_Collect B u T t j w0 w f0 h ?_ (by omega)
    simp only [Ms.ok, bCollect, Bool.and_eq_true] at hok
    obtain ⟨q0, q1⟩ := hok
    intro x hx
    simp only [List.mem_cons, List.not_mem_nil, or_false] at hx
    rcases hx with rfl | rfl
    · exact inB_lims _ _ _ q0 (by omega) (by omega)
    · exact inB_lims _ _ _ q1 (by omega) (by omega)
  | chunk a t j i n sp =>
    obtain ⟨x, rfl, h1⟩ := hv
    obtain ⟨h2, h3, h4⟩ := chunk_lim hok
    exact wf_Chunk B u T a t j i n sp x w0 w hg hB f0 h h1 h2 (by have := printL_two h3 h4; omega) (by omega)
  | manifest t j c ps =>
    obtain ⟨x, rfl, h1⟩ := hv
    obtain ⟨h2, h3, h5, h4⟩ := man_lim hok
    exact wf_Manifest B u T t j c ps x w0 w hB f0 h h1 h2 h4 h3 hT
  | stored t j =>
    obtain rfl := hv
    refine wf_Stored B u T t j w0 w f0 h ?_ (by omega)
    simp only [Ms.ok, bStored, Bool.and_eq_true] at hok
    obtain ⟨q0, q1⟩ := hok
    intro x hx
    simp only [List.mem_cons, List.not_mem_nil, or_false] at hx
    rcases hx with rfl | rfl
    · exact inB_lims _ _ _ q0 (by omega) (by omega)
    · exact inB_lims _ _ _ q1 (by omega) (by omega)
  | unpin t j =>
    obtain rfl := hv
    refine wf_Unpin B u T t j w0 w f0 h ?_ (by omega)
    simp only [Ms.ok, bUnpin, Bool.and_eq_true] at hok
    obtain ⟨q0, q1⟩ := hok
    intro x hx
    simp only [List.mem_cons, List.not_mem_nil, or_false] at hx
    rcases hx with rfl | rfl
    · exact inB_lims _ _ _ q0 (by omega) (by omega)
    · exact inB_lims _ _ _ q1 (by omega) (by omega)
  | unpinned a t j =>
    obtain rfl := hv
    refine wf_Unpinned B u T a t j w0 w f0 h ?_ (by omega)
    simp only [Ms.ok, bUnpinned, Bool.and_eq_true] at hok
    obtain ⟨q0, q1, q2⟩ := hok
    intro x hx
    simp only [List.mem_cons, List.not_mem_nil, or_false] at hx
    rcases hx with rfl | rfl | rfl
    · exact inB_lims _ _ _ q0 (by omega) (by omega)
    · exact inB_lims _ _ _ q1 (by omega) (by omega)
    · exact inB_lims _ _ _ q2 (by omega) (by omega)

theorem fl_len {m : Ms} (h : m.ok = true) : m.fl.length ≤ 20000 := by
  cases m with
  | trigger a t c =>
    have h6 := nums_len [a, t, c]
    show (numsL [a, t, c]).length ≤ 20000
    simp only [List.length_cons, List.length_nil] at h6
    omega
  | pin t j =>
    have h6 := nums_len [t, j]
    show (numsL [t, j]).length ≤ 20000
    simp only [List.length_cons, List.length_nil] at h6
    omega
  | pinned p => have := pinT_len (pn_ok h); show (pinT p).length ≤ 20000; omega
  | gone a t j =>
    have h6 := nums_len [a, t, j]
    show (numsL [a, t, j]).length ≤ 20000
    simp only [List.length_cons, List.length_nil] at h6
    omega
  | collect t j =>
    have h6 := nums_len [t, j]
    show (numsL [t, j]).length ≤ 20000
    simp only [List.length_cons, List.length_nil] at h6
    omega
  | chunk a t j i n sp =>
    obtain ⟨h2, h3, h4⟩ := chunk_lim h
    have h5 := printL_two h3 h4
    have h6 := nums_len [a, t, j, i, n]
    have h7 := text_len (printL sp)
    have h8 := quote_len (printL sp)
    show (numsL [a, t, j, i, n] ++ textL (printL sp)).length ≤ 20000
    rw [List.length_append]
    simp only [List.length_cons, List.length_nil] at h6
    omega
  | manifest t j c ps =>
    obtain ⟨h2, h3, h5, h4⟩ := man_lim h
    have h6 := nums_len [t, j, c, (ps.length : Int)]
    have h7 := pins_len ps h4
    show (numsL [t, j, c, (ps.length : Int)] ++ ps.flatMap pinT).length ≤ 20000
    rw [List.length_append]
    simp only [List.length_cons, List.length_nil] at h6
    omega
  | stored t j =>
    have h6 := nums_len [t, j]
    show (numsL [t, j]).length ≤ 20000
    simp only [List.length_cons, List.length_nil] at h6
    omega
  | unpin t j =>
    have h6 := nums_len [t, j]
    show (numsL [t, j]).length ≤ 20000
    simp only [List.length_cons, List.length_nil] at h6
    omega
  | unpinned a t j =>
    have h6 := nums_len [a, t, j]
    show (numsL [a, t, j]).length ≤ 20000
    simp only [List.length_cons, List.length_nil] at h6
    omega

theorem printm_no (v : Value) (m : Ms) (w : World) (hv : MsW w v m) (hok : m.ok = false) :
    Calls Tryz.prog 10 #[v] w fun e w' => e = .returned (.string (strB m.txt)) ∧ Fr noB w w' := by
  have h := mayBe_ms v m w hv
  rw [hok] at h
  have ht : m.txt = [] := by unfold Ms.txt; rw [hok]; rfl
  rw [ht]
  replace h := Lib.hid h
  clear hv
  go_enter Tryz.func10, Tryz.ntmps10
  go_wp2_with fail
  refine h.out.mono ?_
  rintro e w1 ⟨rfl, f1⟩
  go_wp2_with fail
  go_ret
  exact ⟨rfl, f1⟩
theorem mayBe_none (w : World) : Calls Tryz.prog 10 #[.nilIface] w fun e w' => e = .returned (.string (strB [])) ∧ Fr noB w w' := by
  have h := mayBe_nil w
  replace h := Lib.hid h
  go_enter Tryz.func10, Tryz.ntmps10
  go_wp2_with fail
  refine h.out.mono ?_
  rintro e w1 ⟨rfl, hw⟩
  obtain rfl := hw.symm
  go_wp2_with fail
  go_ret
  exact ⟨rfl, Fr.refl _ _⟩

theorem kind_Trigger (a t c : Int) (w : World) : Calls Tryz.prog 132 #[.agg #[.int .i64 a, .int .i64 t, .int .i64 c]] w fun e w' => e = .returned (.int .i64 1) ∧ Fr noB w w' := by
  have fX := (Fr.refl noB w).alloc (.cells #[.int .i64 a, .int .i64 t, .int .i64 c] 58)
  go_enter Tryz.func132, Tryz.ntmps132
  go_wp2_with fail
  go_ret
  exact ⟨rfl, fX⟩

theorem kind_Pin (t j : Int) (w : World) : Calls Tryz.prog 20 #[.agg #[.int .i64 t, .int .i64 j]] w fun e w' => e = .returned (.int .i64 2) ∧ Fr noB w w' := by
  have fX := (Fr.refl noB w).alloc (.cells #[.int .i64 t, .int .i64 j] 56)
  go_enter Tryz.func20, Tryz.ntmps20
  go_wp2_with fail
  go_ret
  exact ⟨rfl, fX⟩

theorem kind_Pinned (a t j n : Int) (sa : Option Addr) (sn sc : Nat) (l : Bool) (w : World) : Calls Tryz.prog 134 #[.agg #[.int .i64 a, .int .i64 t, .int .i64 j, .int .i64 n, .slice sa sn sc, .bool l]] w fun e w' => e = .returned (.int .i64 3) ∧ Fr noB w w' := by
  have fX := (Fr.refl noB w).alloc (.cells #[.int .i64 a, .int .i64 t, .int .i64 j, .int .i64 n, .slice sa sn sc, .bool l] 63)
  go_enter Tryz.func134, Tryz.ntmps134
  go_wp2_with fail
  go_ret
  exact ⟨rfl, fX⟩

theorem kind_Gone (a t j : Int) (w : World) : Calls Tryz.prog 133 #[.agg #[.int .i64 a, .int .i64 t, .int .i64 j]] w fun e w' => e = .returned (.int .i64 4) ∧ Fr noB w w' := by
  have fX := (Fr.refl noB w).alloc (.cells #[.int .i64 a, .int .i64 t, .int .i64 j] 60)
  go_enter Tryz.func133, Tryz.ntmps133
  go_wp2_with fail
  go_ret
  exact ⟨rfl, fX⟩

theorem kind_Collect (t j : Int) (w : World) : Calls Tryz.prog 135 #[.agg #[.int .i64 t, .int .i64 j]] w fun e w' => e = .returned (.int .i64 5) ∧ Fr noB w w' := by
  have fX := (Fr.refl noB w).alloc (.cells #[.int .i64 t, .int .i64 j] 64)
  go_enter Tryz.func135, Tryz.ntmps135
  go_wp2_with fail
  go_ret
  exact ⟨rfl, fX⟩

theorem kind_Chunk (a t j i n : Int) (sa : Option Addr) (sn sc : Nat) (w : World) : Calls Tryz.prog 136 #[.agg #[.int .i64 a, .int .i64 t, .int .i64 j, .int .i64 i, .int .i64 n, .slice sa sn sc]] w fun e w' => e = .returned (.int .i64 6) ∧ Fr noB w w' := by
  have fX := (Fr.refl noB w).alloc (.cells #[.int .i64 a, .int .i64 t, .int .i64 j, .int .i64 i, .int .i64 n, .slice sa sn sc] 66)
  go_enter Tryz.func136, Tryz.ntmps136
  go_wp2_with fail
  go_ret
  exact ⟨rfl, fX⟩

theorem kind_Manifest (t j c : Int) (sa : Option Addr) (sn sc : Nat) (w : World) : Calls Tryz.prog 137 #[.agg #[.int .i64 t, .int .i64 j, .int .i64 c, .slice sa sn sc]] w fun e w' => e = .returned (.int .i64 7) ∧ Fr noB w w' := by
  have fX := (Fr.refl noB w).alloc (.cells #[.int .i64 t, .int .i64 j, .int .i64 c, .slice sa sn sc] 69)
  go_enter Tryz.func137, Tryz.ntmps137
  go_wp2_with fail
  go_ret
  exact ⟨rfl, fX⟩

theorem kind_Stored (t j : Int) (w : World) : Calls Tryz.prog 138 #[.agg #[.int .i64 t, .int .i64 j]] w fun e w' => e = .returned (.int .i64 8) ∧ Fr noB w w' := by
  have fX := (Fr.refl noB w).alloc (.cells #[.int .i64 t, .int .i64 j] 70)
  go_enter Tryz.func138, Tryz.ntmps138
  go_wp2_with fail
  go_ret
  exact ⟨rfl, fX⟩

theorem kind_Unpin (t j : Int) (w : World) : Calls Tryz.prog 139 #[.agg #[.int .i64 t, .int .i64 j]] w fun e w' => e = .returned (.int .i64 9) ∧ Fr noB w w' := by
  have fX := (Fr.refl noB w).alloc (.cells #[.int .i64 t, .int .i64 j] 71)
  go_enter Tryz.func139, Tryz.ntmps139
  go_wp2_with fail
  go_ret
  exact ⟨rfl, fX⟩

theorem kind_Unpinned (a t j : Int) (w : World) : Calls Tryz.prog 140 #[.agg #[.int .i64 a, .int .i64 t, .int .i64 j]] w fun e w' => e = .returned (.int .i64 10) ∧ Fr noB w w' := by
  have fX := (Fr.refl noB w).alloc (.cells #[.int .i64 a, .int .i64 t, .int .i64 j] 72)
  go_enter Tryz.func140, Tryz.ntmps140
  go_wp2_with fail
  go_ret
  exact ⟨rfl, fX⟩

set_option maxHeartbeats 2000000 in
theorem print_Trigger (v : Value) (a t c : Int) (w : World) (hg : Gl w) (hv : MsW w v (.trigger a t c)) (hok : Ms.ok (.trigger a t c) = true) :
    Calls Tryz.prog 10 #[v] w fun e w' => e = .returned (.string (strB (Ms.txt (.trigger a t c)))) ∧ Fr noB w w' := by
  obtain ⟨B, hB⟩ : ∃ B, w.heap.size = B := ⟨_, rfl⟩
  have hmb := mayBe_ms v _ w hv
  rw [hok] at hmb
  have hfl := fl_len hok
  have hwf := fun B u T w0 w' hg hB f0 h hv => wf_ms B u T (.trigger a t c) v w0 w' hg hB f0 h hv hok
  have hwv := fun w' (f : Fr noB w w') => hv.frN f
  have hbd := checkL_bd (Ms.body (.trigger a t c))
  have htx : Ms.txt (.trigger a t c) = ([] ++ numsL [1] ++ Ms.fl (.trigger a t c)) ++ numsL [checkL (Ms.body (.trigger a t c)) / 65536, checkL (Ms.body (.trigger a t c)) % 65536] := by
    unfold Ms.txt
    rw [hok]
    rfl
  have hbody : Ms.body (.trigger a t c) = [] ++ numsL [1] ++ Ms.fl (.trigger a t c) := rfl
  obtain ⟨ck, hc⟩ : ∃ ck, checkL (Ms.body (.trigger a t c)) = ck := ⟨_, rfl⟩
  obtain ⟨R, hR⟩ : ∃ R, strB (Ms.txt (.trigger a t c)) = R := ⟨_, rfl⟩
  rw [hR]
  rw [hc] at hbd htx
  replace hwf := Lib.hid hwf
  replace hwv := Lib.hid hwv
  replace hmb := Lib.hid hmb
  replace hR := Lib.hid hR
  replace htx := Lib.hid htx
  replace hbody := Lib.hid hbody
  replace hc := Lib.hid hc
  obtain rfl := hv
  unfold mTrigger at *
  go_enter Tryz.func10, Tryz.ntmps10
  go_wp2_with fail
  refine hmb.out.mono ?_
  rintro e w1 ⟨rfl, f1⟩
  obtain ⟨B1, hB1⟩ : ∃ B, w1.heap.size = B := ⟨_, rfl⟩
  have bp := Blk.new w1 75 [.slice none 0 0]
  have f2 : Fr (hiB B1) w1 (w1.alloc (.cells #[Value.slice none 0 0] 75)) := (Fr.refl _ w1).alloc _
  have s2 : (w1.alloc (.cells #[Value.slice none 0 0] 75)).heap.size = B1 + 1 := by rw [size_alloc, hB1]
  rw [hB1] at bp
  have hBB : B = w.heap.size := hB.symm
  go_wp2_with fail
  go_fit (kind_Trigger a t c _)
  rintro e w3 ⟨rfl, f3⟩
  have h3 := (wr_new bp (B := B1) (by omega)).frN f3
  have f23 := f2.hi0 f3
  obtain ⟨g3, hg3⟩ : ∃ g, w3.heap.size = g := ⟨_, rfl⟩
  clear f2 f3 bp s2
  go_wp2_with fail
  go_fit (wint_new B1 B1 g3 _ [] [1] w3 h3 hg3 (by intro x hx; simp at hx; omega) (by simp))
  rintro e w4 ⟨rfl, u4, h4, f4⟩
  have f24 := f23.hiW f4 (Nat.le_refl _)
  have hw5 := hwf.out B1 u4 _ w1 w4 (hg.fr f1) hB1 f24 h4 (hwv.out w1 f1) (by have := nums_len [1]; simp only [List.length_cons, List.length_nil] at this; rw [List.length_append]; simp; omega)
  replace hw5 := Lib.hid hw5
  clear h3 f23 f4 h4 hg3
  go_wp2_with fail
  go_fit hw5.out
  rintro e w5 ⟨rfl, u5, h5, f5⟩
  rw [← hbody.out] at h5
  go_wp2_with fail
  go_fit (wstr_any B1 B1 u5 _ w5 h5)
  rintro e w6 ⟨rfl, hw6⟩
  obtain rfl := hw6.symm
  have hsz : (strB (Ms.body (.trigger a t c))).size ≤ maxLen := by
    rw [strB_size, hbody.out, List.length_append, List.length_append]
    have := nums_len [1]
    simp only [List.length_cons, List.length_nil] at this
    unfold maxLen
    simp
    omega
  have hch := check_any (strB (Ms.body (.trigger a t c))) w5 hsz
  rw [strB_list, hc.out] at hch
  have hT5 : (Ms.body (.trigger a t c)).length ≤ 30000 := by
    rw [hbody.out, List.length_append, List.length_append]
    have := nums_len [1]
    simp only [List.length_cons, List.length_nil] at this
    simp
    omega
  generalize Ms.body (.trigger a t c) = BD at *
  replace hch := Lib.hid hch
  clear hsz hw5 f24
  go_wp2_with fail
  go_fit hch.out
  rintro e w6 ⟨rfl, hw6⟩
  obtain rfl := hw6.symm
  obtain ⟨g5, hg5⟩ : ∃ g, w5.heap.size = g := ⟨_, rfl⟩
  obtain ⟨c0, c1⟩ := hbd
  go_wp2_with fail
  go_fit (wint_new B1 B1 g5 u5 BD [ck / 65536, ck % 65536] w5 h5 hg5 (by intro x hx; simp at hx; omega) (by simp; omega))
  rintro e w7 ⟨rfl, u7, h7, f7⟩
  have f57 := f5.hiW f7 (Nat.le_refl _)
  have hst := wstr_any B1 B1 u7 _ w7 h7
  replace hst := Lib.hid hst
  clear f5 f7 h5 hch hg5
  go_wp2_with fail
  go_fit hst.out
  rintro e w8 ⟨rfl, hw8⟩
  obtain rfl := hw8.symm
  go_wp2_with fail
  go_ret
  exact ⟨ret_str (by rw [← hR.out, htx.out, ← hbody.out]), f1.seqN (f57.hiN' hB1)⟩

set_option maxHeartbeats 2000000 in
theorem print_Pin (v : Value) (t j : Int) (w : World) (hg : Gl w) (hv : MsW w v (.pin t j)) (hok : Ms.ok (.pin t j) = true) :
    Calls Tryz.prog 10 #[v] w fun e w' => e = .returned (.string (strB (Ms.txt (.pin t j)))) ∧ Fr noB w w' := by
  obtain ⟨B, hB⟩ : ∃ B, w.heap.size = B := ⟨_, rfl⟩
  have hmb := mayBe_ms v _ w hv
  rw [hok] at hmb
  have hfl := fl_len hok
  have hwf := fun B u T w0 w' hg hB f0 h hv => wf_ms B u T (.pin t j) v w0 w' hg hB f0 h hv hok
  have hwv := fun w' (f : Fr noB w w') => hv.frN f
  have hbd := checkL_bd (Ms.body (.pin t j))
  have htx : Ms.txt (.pin t j) = ([] ++ numsL [2] ++ Ms.fl (.pin t j)) ++ numsL [checkL (Ms.body (.pin t j)) / 65536, checkL (Ms.body (.pin t j)) % 65536] := by
    unfold Ms.txt
    rw [hok]
    rfl
  have hbody : Ms.body (.pin t j) = [] ++ numsL [2] ++ Ms.fl (.pin t j) := rfl
  obtain ⟨ck, hc⟩ : ∃ ck, checkL (Ms.body (.pin t j)) = ck := ⟨_, rfl⟩
  obtain ⟨R, hR⟩ : ∃ R, strB (Ms.txt (.pin t j)) = R := ⟨_, rfl⟩
  rw [hR]
  rw [hc] at hbd htx
  replace hwf := Lib.hid hwf
  replace hwv := Lib.hid hwv
  replace hmb := Lib.hid hmb
  replace hR := Lib.hid hR
  replace htx := Lib.hid htx
  replace hbody := Lib.hid hbody
  replace hc := Lib.hid hc
  obtain rfl := hv
  unfold mPin at *
  go_enter Tryz.func10, Tryz.ntmps10
  go_wp2_with fail
  refine hmb.out.mono ?_
  rintro e w1 ⟨rfl, f1⟩
  obtain ⟨B1, hB1⟩ : ∃ B, w1.heap.size = B := ⟨_, rfl⟩
  have bp := Blk.new w1 75 [.slice none 0 0]
  have f2 : Fr (hiB B1) w1 (w1.alloc (.cells #[Value.slice none 0 0] 75)) := (Fr.refl _ w1).alloc _
  have s2 : (w1.alloc (.cells #[Value.slice none 0 0] 75)).heap.size = B1 + 1 := by rw [size_alloc, hB1]
  rw [hB1] at bp
  have hBB : B = w.heap.size := hB.symm
  go_wp2_with fail
  go_fit (kind_Pin t j _)
  rintro e w3 ⟨rfl, f3⟩
  have h3 := (wr_new bp (B := B1) (by omega)).frN f3
  have f23 := f2.hi0 f3
  obtain ⟨g3, hg3⟩ : ∃ g, w3.heap.size = g := ⟨_, rfl⟩
  clear f2 f3 bp s2
  go_wp2_with fail
  go_fit (wint_new B1 B1 g3 _ [] [2] w3 h3 hg3 (by intro x hx; simp at hx; omega) (by simp))
  rintro e w4 ⟨rfl, u4, h4, f4⟩
  have f24 := f23.hiW f4 (Nat.le_refl _)
  have hw5 := hwf.out B1 u4 _ w1 w4 (hg.fr f1) hB1 f24 h4 (hwv.out w1 f1) (by have := nums_len [2]; simp only [List.length_cons, List.length_nil] at this; rw [List.length_append]; simp; omega)
  replace hw5 := Lib.hid hw5
  clear h3 f23 f4 h4 hg3
  go_wp2_with fail
  go_fit hw5.out
  rintro e w5 ⟨rfl, u5, h5, f5⟩
  rw [← hbody.out] at h5
  go_wp2_with fail
  go_fit (wstr_any B1 B1 u5 _ w5 h5)
  rintro e w6 ⟨rfl, hw6⟩
  obtain rfl := hw6.symm
  have hsz : (strB (Ms.body (.pin t j))).size ≤ maxLen := by
    rw [strB_size, hbody.out, List.length_append, List.length_append]
    have := nums_len [2]
    simp only [List.length_cons, List.length_nil] at this
    unfold maxLen
    simp
    omega
  have hch := check_any (strB (Ms.body (.pin t j))) w5 hsz
  rw [strB_list, hc.out] at hch
  have hT5 : (Ms.body (.pin t j)).length ≤ 30000 := by
    rw [hbody.out, List.length_append, List.length_append]
    have := nums_len [2]
    simp only [List.length_cons, List.length_nil] at this
    simp
    omega
  generalize Ms.body (.pin t j) = BD at *
  replace hch := Lib.hid hch
  clear hsz hw5 f24
  go_wp2_with fail
  go_fit hch.out
  rintro e w6 ⟨rfl, hw6⟩
  obtain rfl := hw6.symm
  obtain ⟨g5, hg5⟩ : ∃ g, w5.heap.size = g := ⟨_, rfl⟩
  obtain ⟨c0, c1⟩ := hbd
  go_wp2_with fail
  go_fit (wint_new B1 B1 g5 u5 BD [ck / 65536, ck % 65536] w5 h5 hg5 (by intro x hx; simp at hx; omega) (by simp; omega))
  rintro e w7 ⟨rfl, u7, h7, f7⟩
  have f57 := f5.hiW f7 (Nat.le_refl _)
  have hst := wstr_any B1 B1 u7 _ w7 h7
  replace hst := Lib.hid hst
  clear f5 f7 h5 hch hg5
  go_wp2_with fail
  go_fit hst.out
  rintro e w8 ⟨rfl, hw8⟩
  obtain rfl := hw8.symm
  go_wp2_with fail
  go_ret
  exact ⟨ret_str (by rw [← hR.out, htx.out, ← hbody.out]), f1.seqN (f57.hiN' hB1)⟩

set_option maxHeartbeats 2000000 in
theorem print_Pinned (v : Value) (p : Pn) (w : World) (hg : Gl w) (hv : MsW w v (.pinned p)) (hok : Ms.ok (.pinned p) = true) :
    Calls Tryz.prog 10 #[v] w fun e w' => e = .returned (.string (strB (Ms.txt (.pinned p)))) ∧ Fr noB w w' := by
  obtain ⟨B, hB⟩ : ∃ B, w.heap.size = B := ⟨_, rfl⟩
  have hmb := mayBe_ms v _ w hv
  rw [hok] at hmb
  have hfl := fl_len hok
  have hwf := fun B u T w0 w' hg hB f0 h hv => wf_ms B u T (.pinned p) v w0 w' hg hB f0 h hv hok
  have hwv := fun w' (f : Fr noB w w') => hv.frN f
  have hbd := checkL_bd (Ms.body (.pinned p))
  have htx : Ms.txt (.pinned p) = ([] ++ numsL [3] ++ Ms.fl (.pinned p)) ++ numsL [checkL (Ms.body (.pinned p)) / 65536, checkL (Ms.body (.pinned p)) % 65536] := by
    unfold Ms.txt
    rw [hok]
    rfl
  have hbody : Ms.body (.pinned p) = [] ++ numsL [3] ++ Ms.fl (.pinned p) := rfl
  obtain ⟨ck, hc⟩ : ∃ ck, checkL (Ms.body (.pinned p)) = ck := ⟨_, rfl⟩
  obtain ⟨R, hR⟩ : ∃ R, strB (Ms.txt (.pinned p)) = R := ⟨_, rfl⟩
  rw [hR]
  rw [hc] at hbd htx
  replace hwf := Lib.hid hwf
  replace hwv := Lib.hid hwv
  replace hmb := Lib.hid hmb
  replace hR := Lib.hid hR
  replace htx := Lib.hid htx
  replace hbody := Lib.hid hbody
  replace hc := Lib.hid hc
  obtain ⟨x, rfl, hri⟩ := hv
  obtain ⟨sa, sc, rfl, _⟩ := id hri
  clear hri
  unfold mPinned at *
  go_enter Tryz.func10, Tryz.ntmps10
  go_wp2_with fail
  refine hmb.out.mono ?_
  rintro e w1 ⟨rfl, f1⟩
  obtain ⟨B1, hB1⟩ : ∃ B, w1.heap.size = B := ⟨_, rfl⟩
  have bp := Blk.new w1 75 [.slice none 0 0]
  have f2 : Fr (hiB B1) w1 (w1.alloc (.cells #[Value.slice none 0 0] 75)) := (Fr.refl _ w1).alloc _
  have s2 : (w1.alloc (.cells #[Value.slice none 0 0] 75)).heap.size = B1 + 1 := by rw [size_alloc, hB1]
  rw [hB1] at bp
  have hBB : B = w.heap.size := hB.symm
  go_wp2_with fail
  go_fit (kind_Pinned p.a p.t p.j p.n sa _ sc p.lo _)
  rintro e w3 ⟨rfl, f3⟩
  have h3 := (wr_new bp (B := B1) (by omega)).frN f3
  have f23 := f2.hi0 f3
  obtain ⟨g3, hg3⟩ : ∃ g, w3.heap.size = g := ⟨_, rfl⟩
  clear f2 f3 bp s2
  go_wp2_with fail
  go_fit (wint_new B1 B1 g3 _ [] [3] w3 h3 hg3 (by intro x hx; simp at hx; omega) (by simp))
  rintro e w4 ⟨rfl, u4, h4, f4⟩
  have f24 := f23.hiW f4 (Nat.le_refl _)
  have hw5 := hwf.out B1 u4 _ w1 w4 (hg.fr f1) hB1 f24 h4 (hwv.out w1 f1) (by have := nums_len [3]; simp only [List.length_cons, List.length_nil] at this; rw [List.length_append]; simp; omega)
  replace hw5 := Lib.hid hw5
  clear h3 f23 f4 h4 hg3
  go_wp2_with fail
  go_fit hw5.out
  rintro e w5 ⟨rfl, u5, h5, f5⟩
  rw [← hbody.out] at h5
  go_wp2_with fail
  go_fit (wstr_any B1 B1 u5 _ w5 h5)
  rintro e w6 ⟨rfl, hw6⟩
  obtain rfl := hw6.symm
  have hsz : (strB (Ms.body (.pinned p))).size ≤ maxLen := by
    rw [strB_size, hbody.out, List.length_append, List.length_append]
    have := nums_len [3]
    simp only [List.length_cons, List.length_nil] at this
    unfold maxLen
    simp
    omega
  have hch := check_any (strB (Ms.body (.pinned p))) w5 hsz
  rw [strB_list, hc.out] at hch
  have hT5 : (Ms.body (.pinned p)).length ≤ 30000 := by
    rw [hbody.out, List.length_append, List.length_append]
    have := nums_len [3]
    simp only [List.length_cons, List.length_nil] at this
    simp
    omega
  generalize Ms.body (.pinned p) = BD at *
  replace hch := Lib.hid hch
  clear hsz hw5 f24
  go_wp2_with fail
  go_fit hch.out
  rintro e w6 ⟨rfl, hw6⟩
  obtain rfl := hw6.symm
  obtain ⟨g5, hg5⟩ : ∃ g, w5.heap.size = g := ⟨_, rfl⟩
  obtain ⟨c0, c1⟩ := hbd
  go_wp2_with fail
  go_fit (wint_new B1 B1 g5 u5 BD [ck / 65536, ck % 65536] w5 h5 hg5 (by intro x hx; simp at hx; omega) (by simp; omega))
  rintro e w7 ⟨rfl, u7, h7, f7⟩
  have f57 := f5.hiW f7 (Nat.le_refl _)
  have hst := wstr_any B1 B1 u7 _ w7 h7
  replace hst := Lib.hid hst
  clear f5 f7 h5 hch hg5
  go_wp2_with fail
  go_fit hst.out
  rintro e w8 ⟨rfl, hw8⟩
  obtain rfl := hw8.symm
  go_wp2_with fail
  go_ret
  exact ⟨ret_str (by rw [← hR.out, htx.out, ← hbody.out]), f1.seqN (f57.hiN' hB1)⟩

set_option maxHeartbeats 2000000 in
theorem print_Gone (v : Value) (a t j : Int) (w : World) (hg : Gl w) (hv : MsW w v (.gone a t j)) (hok : Ms.ok (.gone a t j) = true) :
    Calls Tryz.prog 10 #[v] w fun e w' => e = .returned (.string (strB (Ms.txt (.gone a t j)))) ∧ Fr noB w w' := by
  obtain ⟨B, hB⟩ : ∃ B, w.heap.size = B := ⟨_, rfl⟩
  have hmb := mayBe_ms v _ w hv
  rw [hok] at hmb
  have hfl := fl_len hok
  have hwf := fun B u T w0 w' hg hB f0 h hv => wf_ms B u T (.gone a t j) v w0 w' hg hB f0 h hv hok
  have hwv := fun w' (f : Fr noB w w') => hv.frN f
  have hbd := checkL_bd (Ms.body (.gone a t j))
  have htx : Ms.txt (.gone a t j) = ([] ++ numsL [4] ++ Ms.fl (.gone a t j)) ++ numsL [checkL (Ms.body (.gone a t j)) / 65536, checkL (Ms.body (.gone a t j)) % 65536] := by
    unfold Ms.txt
    rw [hok]
    rfl
  have hbody : Ms.body (.gone a t j) = [] ++ numsL [4] ++ Ms.fl (.gone a t j) := rfl
  obtain ⟨ck, hc⟩ : ∃ ck, checkL (Ms.body (.gone a t j)) = ck := ⟨_, rfl⟩
  obtain ⟨R, hR⟩ : ∃ R, strB (Ms.txt (.gone a t j)) = R := ⟨_, rfl⟩
  rw [hR]
  rw [hc] at hbd htx
  replace hwf := Lib.hid hwf
  replace hwv := Lib.hid hwv
  replace hmb := Lib.hid hmb
  replace hR := Lib.hid hR
  replace htx := Lib.hid htx
  replace hbody := Lib.hid hbody
  replace hc := Lib.hid hc
  obtain rfl := hv
  unfold mGone at *
  go_enter Tryz.func10, Tryz.ntmps10
  go_wp2_with fail
  refine hmb.out.mono ?_
  rintro e w1 ⟨rfl, f1⟩
  obtain ⟨B1, hB1⟩ : ∃ B, w1.heap.size = B := ⟨_, rfl⟩
  have bp := Blk.new w1 75 [.slice none 0 0]
  have f2 : Fr (hiB B1) w1 (w1.alloc (.cells #[Value.slice none 0 0] 75)) := (Fr.refl _ w1).alloc _
  have s2 : (w1.alloc (.cells #[Value.slice none 0 0] 75)).heap.size = B1 + 1 := by rw [size_alloc, hB1]
  rw [hB1] at bp
  have hBB : B = w.heap.size := hB.symm
  go_wp2_with fail
  go_fit (kind_Gone a t j _)
  rintro e w3 ⟨rfl, f3⟩
  have h3 := (wr_new bp (B := B1) (by omega)).frN f3
  have f23 := f2.hi0 f3
  obtain ⟨g3, hg3⟩ : ∃ g, w3.heap.size = g := ⟨_, rfl⟩
  clear f2 f3 bp s2
  go_wp2_with fail
  go_fit (wint_new B1 B1 g3 _ [] [4] w3 h3 hg3 (by intro x hx; simp at hx; omega) (by simp))
  rintro e w4 ⟨rfl, u4, h4, f4⟩
  have f24 := f23.hiW f4 (Nat.le_refl _)
  have hw5 := hwf.out B1 u4 _ w1 w4 (hg.fr f1) hB1 f24 h4 (hwv.out w1 f1) (by have := nums_len [4]; simp only [List.length_cons, List.length_nil] at this; rw [List.length_append]; simp; omega)
  replace hw5 := Lib.hid hw5
  clear h3 f23 f4 h4 hg3
  go_wp2_with fail
  go_fit hw5.out
  rintro e w5 ⟨rfl, u5, h5, f5⟩
  rw [← hbody.out] at h5
  go_wp2_with fail
  go_fit (wstr_any B1 B1 u5 _ w5 h5)
  rintro e w6 ⟨rfl, hw6⟩
  obtain rfl := hw6.symm
  have hsz : (strB (Ms.body (.gone a t j))).size ≤ maxLen := by
    rw [strB_size, hbody.out, List.length_append, List.length_append]
    have := nums_len [4]
    simp only [List.length_cons, List.length_nil] at this
    unfold maxLen
    simp
    omega
  have hch := check_any (strB (Ms.body (.gone a t j))) w5 hsz
  rw [strB_list, hc.out] at hch
  have hT5 : (Ms.body (.gone a t j)).length ≤ 30000 := by
    rw [hbody.out, List.length_append, List.length_append]
    have := nums_len [4]
    simp only [List.length_cons, List.length_nil] at this
    simp
    omega
  generalize Ms.body (.gone a t j) = BD at *
  replace hch := Lib.hid hch
  clear hsz hw5 f24
  go_wp2_with fail
  go_fit hch.out
  rintro e w6 ⟨rfl, hw6⟩
  obtain rfl := hw6.symm
  obtain ⟨g5, hg5⟩ : ∃ g, w5.heap.size = g := ⟨_, rfl⟩
  obtain ⟨c0, c1⟩ := hbd
  go_wp2_with fail
  go_fit (wint_new B1 B1 g5 u5 BD [ck / 65536, ck % 65536] w5 h5 hg5 (by intro x hx; simp at hx; omega) (by simp; omega))
  rintro e w7 ⟨rfl, u7, h7, f7⟩
  have f57 := f5.hiW f7 (Nat.le_refl _)
  have hst := wstr_any B1 B1 u7 _ w7 h7
  replace hst := Lib.hid hst
  clear f5 f7 h5 hch hg5
  go_wp2_with fail
  go_fit hst.out
  rintro e w8 ⟨rfl, hw8⟩
  obtain rfl := hw8.symm
  go_wp2_with fail
  go_ret
  exact ⟨ret_str (by rw [← hR.out, htx.out, ← hbody.out]), f1.seqN (f57.hiN' hB1)⟩

set_option maxHeartbeats 2000000 in
theorem print_Collect (v : Value) (t j : Int) (w : World) (hg : Gl w) (hv : MsW w v (.collect t j)) (hok : Ms.ok (.collect t j) = true) :
    Calls Tryz.prog 10 #[v] w fun e w' => e = .returned (.string (strB (Ms.txt (.collect t j)))) ∧ Fr noB w w' := by
  obtain ⟨B, hB⟩ : ∃ B, w.heap.size = B := ⟨_, rfl⟩
  have hmb := mayBe_ms v _ w hv
  rw [hok] at hmb
  have hfl := fl_len hok
  have hwf := fun B u T w0 w' hg hB f0 h hv => wf_ms B u T (.collect t j) v w0 w' hg hB f0 h hv hok
  have hwv := fun w' (f : Fr noB w w') => hv.frN f
  have hbd := checkL_bd (Ms.body (.collect t j))
  have htx : Ms.txt (.collect t j) = ([] ++ numsL [5] ++ Ms.fl (.collect t j)) ++ numsL [checkL (Ms.body (.collect t j)) / 65536, checkL (Ms.body (.collect t j)) % 65536] := by
    unfold Ms.txt
    rw [hok]
    rfl
  have hbody : Ms.body (.collect t j) = [] ++ numsL [5] ++ Ms.fl (.collect t j) := rfl
  obtain ⟨ck, hc⟩ : ∃ ck, checkL (Ms.body (.collect t j)) = ck := ⟨_, rfl⟩
  obtain ⟨R, hR⟩ : ∃ R, strB (Ms.txt (.collect t j)) = R := ⟨_, rfl⟩
  rw [hR]
  rw [hc] at hbd htx
  replace hwf := Lib.hid hwf
  replace hwv := Lib.hid hwv
  replace hmb := Lib.hid hmb
  replace hR := Lib.hid hR
  replace htx := Lib.hid htx
  replace hbody := Lib.hid hbody
  replace hc := Lib.hid hc
  obtain rfl := hv
  unfold mCollect at *
  go_enter Tryz.func10, Tryz.ntmps10
  go_wp2_with fail
  refine hmb.out.mono ?_
  rintro e w1 ⟨rfl, f1⟩
  obtain ⟨B1, hB1⟩ : ∃ B, w1.heap.size = B := ⟨_, rfl⟩
  have bp := Blk.new w1 75 [.slice none 0 0]
  have f2 : Fr (hiB B1) w1 (w1.alloc (.cells #[Value.slice none 0 0] 75)) := (Fr.refl _ w1).alloc _
  have s2 : (w1.alloc (.cells #[Value.slice none 0 0] 75)).heap.size = B1 + 1 := by rw [size_alloc, hB1]
  rw [hB1] at bp
  have hBB : B = w.heap.size := hB.symm
  go_wp2_with fail
  go_fit (kind_Collect t j _)
  rintro e w3 ⟨rfl, f3⟩
  have h3 := (wr_new bp (B := B1) (by omega)).frN f3
  have f23 := f2.hi0 f3
  obtain ⟨g3, hg3⟩ : ∃ g, w3.heap.size = g := ⟨_, rfl⟩
  clear f2 f3 bp s2
  go_wp2_with fail
  go_fit (wint_new B1 B1 g3 _ [] [5] w3 h3 hg3 (by intro x hx; simp at hx; omega) (by simp))
  rintro e w4 ⟨rfl, u4, h4, f4⟩
  have f24 := f23.hiW f4 (Nat.le_refl _)
  have hw5 := hwf.out B1 u4 _ w1 w4 (hg.fr f1) hB1 f24 h4 (hwv.out w1 f1) (by have := nums_len [5]; simp only [List.length_cons, List.length_nil] at this; rw [List.length_append]; simp; omega)
  replace hw5 := Lib.hid hw5
  clear h3 f23 f4 h4 hg3
  go_wp2_with fail
  go_fit hw5.out
  rintro e w5 ⟨rfl, u5, h5, f5⟩
  rw [← hbody.out] at h5
  go_wp2_with fail
  go_fit (wstr_any B1 B1 u5 _ w5 h5)
  rintro e w6 ⟨rfl, hw6⟩
  obtain rfl := hw6.symm
  have hsz : (strB (Ms.body (.collect t j))).size ≤ maxLen := by
    rw [strB_size, hbody.out, List.length_append, List.length_append]
    have := nums_len [5]
    simp only [List.length_cons, List.length_nil] at this
    unfold maxLen
    simp
    omega
  have hch := check_any (strB (Ms.body (.collect t j))) w5 hsz
  rw [strB_list, hc.out] at hch
  have hT5 : (Ms.body (.collect t j)).length ≤ 30000 := by
    rw [hbody.out, List.length_append, List.length_append]
    have := nums_len [5]
    simp only [List.length_cons, List.length_nil] at this
    simp
    omega
  generalize Ms.body (.collect t j) = BD at *
  replace hch := Lib.hid hch
  clear hsz hw5 f24
  go_wp2_with fail
  go_fit hch.out
  rintro e w6 ⟨rfl, hw6⟩
  obtain rfl := hw6.symm
  obtain ⟨g5, hg5⟩ : ∃ g, w5.heap.size = g := ⟨_, rfl⟩
  obtain ⟨c0, c1⟩ := hbd
  go_wp2_with fail
  go_fit (wint_new B1 B1 g5 u5 BD [ck / 65536, ck % 65536] w5 h5 hg5 (by intro x hx; simp at hx; omega) (by simp; omega))
  rintro e w7 ⟨rfl, u7, h7, f7⟩
  have f57 := f5.hiW f7 (Nat.le_refl _)
  have hst := wstr_any B1 B1 u7 _ w7 h7
  replace hst := Lib.hid hst
  clear f5 f7 h5 hch hg5
  go_wp2_with fail
  go_fit hst.out
  rintro e w8 ⟨rfl, hw8⟩
  obtain rfl := hw8.symm
  go_wp2_with fail
  go_ret
  exact ⟨ret_str (by rw [← hR.out, htx.out, ← hbody.out]), f1.seqN (f57.hiN' hB1)⟩

set_option maxHeartbeats 2000000 in
theorem print_Chunk (v : Value) (a t j i n : Int) (sp : List Sp) (w : World) (hg : Gl w) (hv : MsW w v (.chunk a t j i n sp)) (hok : Ms.ok (.chunk a t j i n sp) = true) :
    Calls Tryz.prog 10 #[v] w fun e w' => e = .returned (.string (strB (Ms.txt (.chunk a t j i n sp)))) ∧ Fr noB w w' := by
  obtain ⟨B, hB⟩ : ∃ B, w.heap.size = B := ⟨_, rfl⟩
  have hmb := mayBe_ms v _ w hv
  rw [hok] at hmb
  have hfl := fl_len hok
  have hwf := fun B u T w0 w' hg hB f0 h hv => wf_ms B u T (.chunk a t j i n sp) v w0 w' hg hB f0 h hv hok
  have hwv := fun w' (f : Fr noB w w') => hv.frN f
  have hbd := checkL_bd (Ms.body (.chunk a t j i n sp))
  have htx : Ms.txt (.chunk a t j i n sp) = ([] ++ numsL [6] ++ Ms.fl (.chunk a t j i n sp)) ++ numsL [checkL (Ms.body (.chunk a t j i n sp)) / 65536, checkL (Ms.body (.chunk a t j i n sp)) % 65536] := by
    unfold Ms.txt
    rw [hok]
    rfl
  have hbody : Ms.body (.chunk a t j i n sp) = [] ++ numsL [6] ++ Ms.fl (.chunk a t j i n sp) := rfl
  obtain ⟨ck, hc⟩ : ∃ ck, checkL (Ms.body (.chunk a t j i n sp)) = ck := ⟨_, rfl⟩
  obtain ⟨R, hR⟩ : ∃ R, strB (Ms.txt (.chunk a t j i n sp)) = R := ⟨_, rfl⟩
  rw [hR]
  rw [hc] at hbd htx
  replace hwf := Lib.hid hwf
  replace hwv := Lib.hid hwv
  replace hmb := Lib.hid hmb
  replace hR := Lib.hid hR
  replace htx := Lib.hid htx
  replace hbody := Lib.hid hbody
  replace hc := Lib.hid hc
  obtain ⟨x, rfl, hri⟩ := hv
  obtain ⟨sa, sc, rfl, _⟩ := id hri
  clear hri
  unfold mChunk at *
  go_enter Tryz.func10, Tryz.ntmps10
  go_wp2_with fail
  refine hmb.out.mono ?_
  rintro e w1 ⟨rfl, f1⟩
  obtain ⟨B1, hB1⟩ : ∃ B, w1.heap.size = B := ⟨_, rfl⟩
  have bp := Blk.new w1 75 [.slice none 0 0]
  have f2 : Fr (hiB B1) w1 (w1.alloc (.cells #[Value.slice none 0 0] 75)) := (Fr.refl _ w1).alloc _
  have s2 : (w1.alloc (.cells #[Value.slice none 0 0] 75)).heap.size = B1 + 1 := by rw [size_alloc, hB1]
  rw [hB1] at bp
  have hBB : B = w.heap.size := hB.symm
  go_wp2_with fail
  go_fit (kind_Chunk a t j i n sa _ sc _)
  rintro e w3 ⟨rfl, f3⟩
  have h3 := (wr_new bp (B := B1) (by omega)).frN f3
  have f23 := f2.hi0 f3
  obtain ⟨g3, hg3⟩ : ∃ g, w3.heap.size = g := ⟨_, rfl⟩
  clear f2 f3 bp s2
  go_wp2_with fail
  go_fit (wint_new B1 B1 g3 _ [] [6] w3 h3 hg3 (by intro x hx; simp at hx; omega) (by simp))
  rintro e w4 ⟨rfl, u4, h4, f4⟩
  have f24 := f23.hiW f4 (Nat.le_refl _)
  have hw5 := hwf.out B1 u4 _ w1 w4 (hg.fr f1) hB1 f24 h4 (hwv.out w1 f1) (by have := nums_len [6]; simp only [List.length_cons, List.length_nil] at this; rw [List.length_append]; simp; omega)
  replace hw5 := Lib.hid hw5
  clear h3 f23 f4 h4 hg3
  go_wp2_with fail
  go_fit hw5.out
  rintro e w5 ⟨rfl, u5, h5, f5⟩
  rw [← hbody.out] at h5
  go_wp2_with fail
  go_fit (wstr_any B1 B1 u5 _ w5 h5)
  rintro e w6 ⟨rfl, hw6⟩
  obtain rfl := hw6.symm
  have hsz : (strB (Ms.body (.chunk a t j i n sp))).size ≤ maxLen := by
    rw [strB_size, hbody.out, List.length_append, List.length_append]
    have := nums_len [6]
    simp only [List.length_cons, List.length_nil] at this
    unfold maxLen
    simp
    omega
  have hch := check_any (strB (Ms.body (.chunk a t j i n sp))) w5 hsz
  rw [strB_list, hc.out] at hch
  have hT5 : (Ms.body (.chunk a t j i n sp)).length ≤ 30000 := by
    rw [hbody.out, List.length_append, List.length_append]
    have := nums_len [6]
    simp only [List.length_cons, List.length_nil] at this
    simp
    omega
  generalize Ms.body (.chunk a t j i n sp) = BD at *
  replace hch := Lib.hid hch
  clear hsz hw5 f24
  go_wp2_with fail
  go_fit hch.out
  rintro e w6 ⟨rfl, hw6⟩
  obtain rfl := hw6.symm
  obtain ⟨g5, hg5⟩ : ∃ g, w5.heap.size = g := ⟨_, rfl⟩
  obtain ⟨c0, c1⟩ := hbd
  go_wp2_with fail
  go_fit (wint_new B1 B1 g5 u5 BD [ck / 65536, ck % 65536] w5 h5 hg5 (by intro x hx; simp at hx; omega) (by simp; omega))
  rintro e w7 ⟨rfl, u7, h7, f7⟩
  have f57 := f5.hiW f7 (Nat.le_refl _)
  have hst := wstr_any B1 B1 u7 _ w7 h7
  replace hst := Lib.hid hst
  clear f5 f7 h5 hch hg5
  go_wp2_with fail
  go_fit hst.out
  rintro e w8 ⟨rfl, hw8⟩
  obtain rfl := hw8.symm
  go_wp2_with fail
  go_ret
  exact ⟨ret_str (by rw [← hR.out, htx.out, ← hbody.out]), f1.seqN (f57.hiN' hB1)⟩

set_option maxHeartbeats 2000000 in
theorem print_Manifest (v : Value) (t j c : Int) (ps : List Pn) (w : World) (hg : Gl w) (hv : MsW w v (.manifest t j c ps)) (hok : Ms.ok (.manifest t j c ps) = true) :
    Calls Tryz.prog 10 #[v] w fun e w' => e = .returned (.string (strB (Ms.txt (.manifest t j c ps)))) ∧ Fr noB w w' := by
  obtain ⟨B, hB⟩ : ∃ B, w.heap.size = B := ⟨_, rfl⟩
  have hmb := mayBe_ms v _ w hv
  rw [hok] at hmb
  have hfl := fl_len hok
  have hwf := fun B u T w0 w' hg hB f0 h hv => wf_ms B u T (.manifest t j c ps) v w0 w' hg hB f0 h hv hok
  have hwv := fun w' (f : Fr noB w w') => hv.frN f
  have hbd := checkL_bd (Ms.body (.manifest t j c ps))
  have htx : Ms.txt (.manifest t j c ps) = ([] ++ numsL [7] ++ Ms.fl (.manifest t j c ps)) ++ numsL [checkL (Ms.body (.manifest t j c ps)) / 65536, checkL (Ms.body (.manifest t j c ps)) % 65536] := by
    unfold Ms.txt
    rw [hok]
    rfl
  have hbody : Ms.body (.manifest t j c ps) = [] ++ numsL [7] ++ Ms.fl (.manifest t j c ps) := rfl
  obtain ⟨ck, hc⟩ : ∃ ck, checkL (Ms.body (.manifest t j c ps)) = ck := ⟨_, rfl⟩
  obtain ⟨R, hR⟩ : ∃ R, strB (Ms.txt (.manifest t j c ps)) = R := ⟨_, rfl⟩
  rw [hR]
  rw [hc] at hbd htx
  replace hwf := Lib.hid hwf
  replace hwv := Lib.hid hwv
  replace hmb := Lib.hid hmb
  replace hR := Lib.hid hR
  replace htx := Lib.hid htx
  replace hbody := Lib.hid hbody
  replace hc := Lib.hid hc
  obtain ⟨x, rfl, hri⟩ := hv
  obtain ⟨sa, sc, rfl, _⟩ := id hri
  clear hri
  unfold mManifest at *
  go_enter Tryz.func10, Tryz.ntmps10
  go_wp2_with fail
  refine hmb.out.mono ?_
  rintro e w1 ⟨rfl, f1⟩
  obtain ⟨B1, hB1⟩ : ∃ B, w1.heap.size = B := ⟨_, rfl⟩
  have bp := Blk.new w1 75 [.slice none 0 0]
  have f2 : Fr (hiB B1) w1 (w1.alloc (.cells #[Value.slice none 0 0] 75)) := (Fr.refl _ w1).alloc _
  have s2 : (w1.alloc (.cells #[Value.slice none 0 0] 75)).heap.size = B1 + 1 := by rw [size_alloc, hB1]
  rw [hB1] at bp
  have hBB : B = w.heap.size := hB.symm
  go_wp2_with fail
  go_fit (kind_Manifest t j c sa _ sc _)
  rintro e w3 ⟨rfl, f3⟩
  have h3 := (wr_new bp (B := B1) (by omega)).frN f3
  have f23 := f2.hi0 f3
  obtain ⟨g3, hg3⟩ : ∃ g, w3.heap.size = g := ⟨_, rfl⟩
  clear f2 f3 bp s2
  go_wp2_with fail
  go_fit (wint_new B1 B1 g3 _ [] [7] w3 h3 hg3 (by intro x hx; simp at hx; omega) (by simp))
  rintro e w4 ⟨rfl, u4, h4, f4⟩
  have f24 := f23.hiW f4 (Nat.le_refl _)
  have hw5 := hwf.out B1 u4 _ w1 w4 (hg.fr f1) hB1 f24 h4 (hwv.out w1 f1) (by have := nums_len [7]; simp only [List.length_cons, List.length_nil] at this; rw [List.length_append]; simp; omega)
  replace hw5 := Lib.hid hw5
  clear h3 f23 f4 h4 hg3
  go_wp2_with fail
  go_fit hw5.out
  rintro e w5 ⟨rfl, u5, h5, f5⟩
  rw [← hbody.out] at h5
  go_wp2_with fail
  go_fit (wstr_any B1 B1 u5 _ w5 h5)
  rintro e w6 ⟨rfl, hw6⟩
  obtain rfl := hw6.symm
  have hsz : (strB (Ms.body (.manifest t j c ps))).size ≤ maxLen := by
    rw [strB_size, hbody.out, List.length_append, List.length_append]
    have := nums_len [7]
    simp only [List.length_cons, List.length_nil] at this
    unfold maxLen
    simp
    omega
  have hch := check_any (strB (Ms.body (.manifest t j c ps))) w5 hsz
  rw [strB_list, hc.out] at hch
  have hT5 : (Ms.body (.manifest t j c ps)).length ≤ 30000 := by
    rw [hbody.out, List.length_append, List.length_append]
    have := nums_len [7]
    simp only [List.length_cons, List.length_nil] at this
    simp
    omega
  generalize Ms.body (.manifest t j c ps) = BD at *
  replace hch := Lib.hid hch
  clear hsz hw5 f24
  go_wp2_with fail
  go_fit hch.out
  rintro e w6 ⟨rfl, hw6⟩
  obtain rfl := hw6.symm
  obtain ⟨g5, hg5⟩ : ∃ g, w5.heap.size = g := ⟨_, rfl⟩
  obtain ⟨c0, c1⟩ := hbd
  go_wp2_with fail
  go_fit (wint_new B1 B1 g5 u5 BD [ck / 65536, ck % 65536] w5 h5 hg5 (by intro x hx; simp at hx; omega) (by simp; omega))
  rintro e w7 ⟨rfl, u7, h7, f7⟩
  have f57 := f5.hiW f7 (Nat.le_refl _)
  have hst := wstr_any B1 B1 u7 _ w7 h7
  replace hst := Lib.hid hst
  clear f5 f7 h5 hch hg5
  go_wp2_with fail
  go_fit hst.out
  rintro e w8 ⟨rfl, hw8⟩
  obtain rfl := hw8.symm
  go_wp2_with fail
  go_ret
  exact ⟨ret_str (by rw [← hR.out, htx.out, ← hbody.out]), f1.seqN (f57.hiN' hB1)⟩

set_option maxHeartbeats 2000000 in
theorem print_Stored (v : Value) (t j : Int) (w : World) (hg : Gl w) (hv : MsW w v (.stored t j)) (hok : Ms.ok (.stored t j) = true) :
    Calls Tryz.prog 10 #[v] w fun e w' => e = .returned (.string (strB (Ms.txt (.stored t j)))) ∧ Fr noB w w' := by
  obtain ⟨B, hB⟩ : ∃ B, w.heap.size = B := ⟨_, rfl⟩
  have hmb := mayBe_ms v _ w hv
  rw [hok] at hmb
  have hfl := fl_len hok
  have hwf := fun B u T w0 w' hg hB f0 h hv => wf_ms B u T (.stored t j) v w0 w' hg hB f0 h hv hok
  have hwv := fun w' (f : Fr noB w w') => hv.frN f
  have hbd := checkL_bd (Ms.body (.stored t j))
  have htx : Ms.txt (.stored t j) = ([] ++ numsL [8] ++ Ms.fl (.stored t j)) ++ numsL [checkL (Ms.body (.stored t j)) / 65536, checkL (Ms.body (.stored t j)) % 65536] := by
    unfold Ms.txt
    rw [hok]
    rfl
  have hbody : Ms.body (.stored t j) = [] ++ numsL [8] ++ Ms.fl (.stored t j) := rfl
  obtain ⟨ck, hc⟩ : ∃ ck, checkL (Ms.body (.stored t j)) = ck := ⟨_, rfl⟩
  obtain ⟨R, hR⟩ : ∃ R, strB (Ms.txt (.stored t j)) = R := ⟨_, rfl⟩
  rw [hR]
  rw [hc] at hbd htx
  replace hwf := Lib.hid hwf
  replace hwv := Lib.hid hwv
  replace hmb := Lib.hid hmb
  replace hR := Lib.hid hR
  replace htx := Lib.hid htx
  replace hbody := Lib.hid hbody
  replace hc := Lib.hid hc
  obtain rfl := hv
  unfold mStored at *
  go_enter Tryz.func10, Tryz.ntmps10
  go_wp2_with fail
  refine hmb.out.mono ?_
  rintro e w1 ⟨rfl, f1⟩
  obtain ⟨B1, hB1⟩ : ∃ B, w1.heap.size = B := ⟨_, rfl⟩
  have bp := Blk.new w1 75 [.slice none 0 0]
  have f2 : Fr (hiB B1) w1 (w1.alloc (.cells #[Value.slice none 0 0] 75)) := (Fr.refl _ w1).alloc _
  have s2 : (w1.alloc (.cells #[Value.slice none 0 0] 75)).heap.size = B1 + 1 := by rw [size_alloc, hB1]
  rw [hB1] at bp
  have hBB : B = w.heap.size := hB.symm
  go_wp2_with fail
  go_fit (kind_Stored t j _)
  rintro e w3 ⟨rfl, f3⟩
  have h3 := (wr_new bp (B := B1) (by omega)).frN f3
  have f23 := f2.hi0 f3
  obtain ⟨g3, hg3⟩ : ∃ g, w3.heap.size = g := ⟨_, rfl⟩
  clear f2 f3 bp s2
  go_wp2_with fail
  go_fit (wint_new B1 B1 g3 _ [] [8] w3 h3 hg3 (by intro x hx; simp at hx; omega) (by simp))
  rintro e w4 ⟨rfl, u4, h4, f4⟩
  have f24 := f23.hiW f4 (Nat.le_refl _)
  have hw5 := hwf.out B1 u4 _ w1 w4 (hg.fr f1) hB1 f24 h4 (hwv.out w1 f1) (by have := nums_len [8]; simp only [List.length_cons, List.length_nil] at this; rw [List.length_append]; simp; omega)
  replace hw5 := Lib.hid hw5
  clear h3 f23 f4 h4 hg3
  go_wp2_with fail
  go_fit hw5.out
  rintro e w5 ⟨rfl, u5, h5, f5⟩
  rw [← hbody.out] at h5
  go_wp2_with fail
  go_fit (wstr_any B1 B1 u5 _ w5 h5)
  rintro e w6 ⟨rfl, hw6⟩
  obtain rfl := hw6.symm
  have hsz : (strB (Ms.body (.stored t j))).size ≤ maxLen := by
    rw [strB_size, hbody.out, List.length_append, List.length_append]
    have := nums_len [8]
    simp only [List.length_cons, List.length_nil] at this
    unfold maxLen
    simp
    omega
  have hch := check_any (strB (Ms.body (.stored t j))) w5 hsz
  rw [strB_list, hc.out] at hch
  have hT5 : (Ms.body (.stored t j)).length ≤ 30000 := by
    rw [hbody.out, List.length_append, List.length_append]
    have := nums_len [8]
    simp only [List.length_cons, List.length_nil] at this
    simp
    omega
  generalize Ms.body (.stored t j) = BD at *
  replace hch := Lib.hid hch
  clear hsz hw5 f24
  go_wp2_with fail
  go_fit hch.out
  rintro e w6 ⟨rfl, hw6⟩
  obtain rfl := hw6.symm
  obtain ⟨g5, hg5⟩ : ∃ g, w5.heap.size = g := ⟨_, rfl⟩
  obtain ⟨c0, c1⟩ := hbd
  go_wp2_with fail
  go_fit (wint_new B1 B1 g5 u5 BD [ck / 65536, ck % 65536] w5 h5 hg5 (by intro x hx; simp at hx; omega) (by simp; omega))
  rintro e w7 ⟨rfl, u7, h7, f7⟩
  have f57 := f5.hiW f7 (Nat.le_refl _)
  have hst := wstr_any B1 B1 u7 _ w7 h7
  replace hst := Lib.hid hst
  clear f5 f7 h5 hch hg5
  go_wp2_with fail
  go_fit hst.out
  rintro e w8 ⟨rfl, hw8⟩
  obtain rfl := hw8.symm
  go_wp2_with fail
  go_ret
  exact ⟨ret_str (by rw [← hR.out, htx.out, ← hbody.out]), f1.seqN (f57.hiN' hB1)⟩

set_option maxHeartbeats 2000000 in
theorem print_Unpin (v : Value) (t j : Int) (w : World) (hg : Gl w) (hv : MsW w v (.unpin t j)) (hok : Ms.ok (.unpin t j) = true) :
    Calls Tryz.prog 10 #[v] w fun e w' => e = .returned (.string (strB (Ms.txt (.unpin t j)))) ∧ Fr noB w w' := by
  obtain ⟨B, hB⟩ : ∃ B, w.heap.size = B := ⟨_, rfl⟩
  have hmb := mayBe_ms v _ w hv
  rw [hok] at hmb
  have hfl := fl_len hok
  have hwf := fun B u T w0 w' hg hB f0 h hv => wf_ms B u T (.unpin t j) v w0 w' hg hB f0 h hv hok
  have hwv := fun w' (f : Fr noB w w') => hv.frN f
  have hbd := checkL_bd (Ms.body (.unpin t j))
  have htx : Ms.txt (.unpin t j) = ([] ++ numsL [9] ++ Ms.fl (.unpin t j)) ++ numsL [checkL (Ms.body (.unpin t j)) / 65536, checkL (Ms.body (.unpin t j)) % 65536] := by
    unfold Ms.txt
    rw [hok]
    rfl
  have hbody : Ms.body (.unpin t j) = [] ++ numsL [9] ++ Ms.fl (.unpin t j) := rfl
  obtain ⟨ck, hc⟩ : ∃ ck, checkL (Ms.body (.unpin t j)) = ck := ⟨_, rfl⟩
  obtain ⟨R, hR⟩ : ∃ R, strB (Ms.txt (.unpin t j)) = R := ⟨_, rfl⟩
  rw [hR]
  rw [hc] at hbd htx
  replace hwf := Lib.hid hwf
  replace hwv := Lib.hid hwv
  replace hmb := Lib.hid hmb
  replace hR := Lib.hid hR
  replace htx := Lib.hid htx
  replace hbody := Lib.hid hbody
  replace hc := Lib.hid hc
  obtain rfl := hv
  unfold mUnpin at *
  go_enter Tryz.func10, Tryz.ntmps10
  go_wp2_with fail
  refine hmb.out.mono ?_
  rintro e w1 ⟨rfl, f1⟩
  obtain ⟨B1, hB1⟩ : ∃ B, w1.heap.size = B := ⟨_, rfl⟩
  have bp := Blk.new w1 75 [.slice none 0 0]
  have f2 : Fr (hiB B1) w1 (w1.alloc (.cells #[Value.slice none 0 0] 75)) := (Fr.refl _ w1).alloc _
  have s2 : (w1.alloc (.cells #[Value.slice none 0 0] 75)).heap.size = B1 + 1 := by rw [size_alloc, hB1]
  rw [hB1] at bp
  have hBB : B = w.heap.size := hB.symm
  go_wp2_with fail
  go_fit (kind_Unpin t j _)
  rintro e w3 ⟨rfl, f3⟩
  have h3 := (wr_new bp (B := B1) (by omega)).frN f3
  have f23 := f2.hi0 f3
  obtain ⟨g3, hg3⟩ : ∃ g, w3.heap.size = g := ⟨_, rfl⟩
  clear f2 f3 bp s2
  go_wp2_with fail
  go_fit (wint_new B1 B1 g3 _ [] [9] w3 h3 hg3 (by intro x hx; simp at hx; omega) (by simp))
  rintro e w4 ⟨rfl, u4, h4, f4⟩
  have f24 := f23.hiW f4 (Nat.le_refl _)
  have hw5 := hwf.out B1 u4 _ w1 w4 (hg.fr f1) hB1 f24 h4 (hwv.out w1 f1) (by have := nums_len [9]; simp only [List.length_cons, List.length_nil] at this; rw [List.length_append]; simp; omega)
  replace hw5 := Lib.hid hw5
  clear h3 f23 f4 h4 hg3
  go_wp2_with fail
  go_fit hw5.out
  rintro e w5 ⟨rfl, u5, h5, f5⟩
  rw [← hbody.out] at h5
  go_wp2_with fail
  go_fit (wstr_any B1 B1 u5 _ w5 h5)
  rintro e w6 ⟨rfl, hw6⟩
  obtain rfl := hw6.symm
  have hsz : (strB (Ms.body (.unpin t j))).size ≤ maxLen := by
    rw [strB_size, hbody.out, List.length_append, List.length_append]
    have := nums_len [9]
    simp only [List.length_cons, List.length_nil] at this
    unfold maxLen
    simp
    omega
  have hch := check_any (strB (Ms.body (.unpin t j))) w5 hsz
  rw [strB_list, hc.out] at hch
  have hT5 : (Ms.body (.unpin t j)).length ≤ 30000 := by
    rw [hbody.out, List.length_append, List.length_append]
    have := nums_len [9]
    simp only [List.length_cons, List.length_nil] at this
    simp
    omega
  generalize Ms.body (.unpin t j) = BD at *
  replace hch := Lib.hid hch
  clear hsz hw5 f24
  go_wp2_with fail
  go_fit hch.out
  rintro e w6 ⟨rfl, hw6⟩
  obtain rfl := hw6.symm
  obtain ⟨g5, hg5⟩ : ∃ g, w5.heap.size = g := ⟨_, rfl⟩
  obtain ⟨c0, c1⟩ := hbd
  go_wp2_with fail
  go_fit (wint_new B1 B1 g5 u5 BD [ck / 65536, ck % 65536] w5 h5 hg5 (by intro x hx; simp at hx; omega) (by simp; omega))
  rintro e w7 ⟨rfl, u7, h7, f7⟩
  have f57 := f5.hiW f7 (Nat.le_refl _)
  have hst := wstr_any B1 B1 u7 _ w7 h7
  replace hst := Lib.hid hst
  clear f5 f7 h5 hch hg5
  go_wp2_with fail
  go_fit hst.out
  rintro e w8 ⟨rfl, hw8⟩
  obtain rfl := hw8.symm
  go_wp2_with fail
  go_ret
  exact ⟨ret_str (by rw [← hR.out, htx.out, ← hbody.out]), f1.seqN (f57.hiN' hB1)⟩

set_option maxHeartbeats 2000000 in
theorem print_Unpinned (v : Value) (a t j : Int) (w : World) (hg : Gl w) (hv : MsW w v (.unpinned a t j)) (hok : Ms.ok (.unpinned a t j) = true) :
    Calls Tryz.prog 10 #[v] w fun e w' => e = .returned (.string (strB (Ms.txt (.unpinned a t j)))) ∧ Fr noB w w' := by
  obtain ⟨B, hB⟩ : ∃ B, w.heap.size = B := ⟨_, rfl⟩
  have hmb := mayBe_ms v _ w hv
  rw [hok] at hmb
  have hfl := fl_len hok
  have hwf := fun B u T w0 w' hg hB f0 h hv => wf_ms B u T (.unpinned a t j) v w0 w' hg hB f0 h hv hok
  have hwv := fun w' (f : Fr noB w w') => hv.frN f
  have hbd := checkL_bd (Ms.body (.unpinned a t j))
  have htx : Ms.txt (.unpinned a t j) = ([] ++ numsL [10] ++ Ms.fl (.unpinned a t j)) ++ numsL [checkL (Ms.body (.unpinned a t j)) / 65536, checkL (Ms.body (.unpinned a t j)) % 65536] := by
    unfold Ms.txt
    rw [hok]
    rfl
  have hbody : Ms.body (.unpinned a t j) = [] ++ numsL [10] ++ Ms.fl (.unpinned a t j) := rfl
  obtain ⟨ck, hc⟩ : ∃ ck, checkL (Ms.body (.unpinned a t j)) = ck := ⟨_, rfl⟩
  obtain ⟨R, hR⟩ : ∃ R, strB (Ms.txt (.unpinned a t j)) = R := ⟨_, rfl⟩
  rw [hR]
  rw [hc] at hbd htx
  replace hwf := Lib.hid hwf
  replace hwv := Lib.hid hwv
  replace hmb := Lib.hid hmb
  replace hR := Lib.hid hR
  replace htx := Lib.hid htx
  replace hbody := Lib.hid hbody
  replace hc := Lib.hid hc
  obtain rfl := hv
  unfold mUnpinned at *
  go_enter Tryz.func10, Tryz.ntmps10
  go_wp2_with fail
  refine hmb.out.mono ?_
  rintro e w1 ⟨rfl, f1⟩
  obtain ⟨B1, hB1⟩ : ∃ B, w1.heap.size = B := ⟨_, rfl⟩
  have bp := Blk.new w1 75 [.slice none 0 0]
  have f2 : Fr (hiB B1) w1 (w1.alloc (.cells #[Value.slice none 0 0] 75)) := (Fr.refl _ w1).alloc _
  have s2 : (w1.alloc (.cells #[Value.slice none 0 0] 75)).heap.size = B1 + 1 := by rw [size_alloc, hB1]
  rw [hB1] at bp
  have hBB : B = w.heap.size := hB.symm
  go_wp2_with fail
  go_fit (kind_Unpinned a t j _)
  rintro e w3 ⟨rfl, f3⟩
  have h3 := (wr_new bp (B := B1) (by omega)).frN f3
  have f23 := f2.hi0 f3
  obtain ⟨g3, hg3⟩ : ∃ g, w3.heap.size = g := ⟨_, rfl⟩
  clear f2 f3 bp s2
  go_wp2_with fail
  go_fit (wint_new B1 B1 g3 _ [] [10] w3 h3 hg3 (by intro x hx; simp at hx; omega) (by simp))
  rintro e w4 ⟨rfl, u4, h4, f4⟩
  have f24 := f23.hiW f4 (Nat.le_refl _)
  have hw5 := hwf.out B1 u4 _ w1 w4 (hg.fr f1) hB1 f24 h4 (hwv.out w1 f1) (by have := nums_len [10]; simp only [List.length_cons, List.length_nil] at this; rw [List.length_append]; simp; omega)
  replace hw5 := Lib.hid hw5
  clear h3 f23 f4 h4 hg3
  go_wp2_with fail
  go_fit hw5.out
  rintro e w5 ⟨rfl, u5, h5, f5⟩
  rw [← hbody.out] at h5
  go_wp2_with fail
  go_fit (wstr_any B1 B1 u5 _ w5 h5)
  rintro e w6 ⟨rfl, hw6⟩
  obtain rfl := hw6.symm
  have hsz : (strB (Ms.body (.unpinned a t j))).size ≤ maxLen := by
    rw [strB_size, hbody.out, List.length_append, List.length_append]
    have := nums_len [10]
    simp only [List.length_cons, List.length_nil] at this
    unfold maxLen
    simp
    omega
  have hch := check_any (strB (Ms.body (.unpinned a t j))) w5 hsz
  rw [strB_list, hc.out] at hch
  have hT5 : (Ms.body (.unpinned a t j)).length ≤ 30000 := by
    rw [hbody.out, List.length_append, List.length_append]
    have := nums_len [10]
    simp only [List.length_cons, List.length_nil] at this
    simp
    omega
  generalize Ms.body (.unpinned a t j) = BD at *
  replace hch := Lib.hid hch
  clear hsz hw5 f24
  go_wp2_with fail
  go_fit hch.out
  rintro e w6 ⟨rfl, hw6⟩
  obtain rfl := hw6.symm
  obtain ⟨g5, hg5⟩ : ∃ g, w5.heap.size = g := ⟨_, rfl⟩
  obtain ⟨c0, c1⟩ := hbd
  go_wp2_with fail
  go_fit (wint_new B1 B1 g5 u5 BD [ck / 65536, ck % 65536] w5 h5 hg5 (by intro x hx; simp at hx; omega) (by simp; omega))
  rintro e w7 ⟨rfl, u7, h7, f7⟩
  have f57 := f5.hiW f7 (Nat.le_refl _)
  have hst := wstr_any B1 B1 u7 _ w7 h7
  replace hst := Lib.hid hst
  clear f5 f7 h5 hch hg5
  go_wp2_with fail
  go_fit hst.out
  rintro e w8 ⟨rfl, hw8⟩
  obtain rfl := hw8.symm
  go_wp2_with fail
  go_ret
  exact ⟨ret_str (by rw [← hR.out, htx.out, ← hbody.out]), f1.seqN (f57.hiN' hB1)⟩

theorem print_ms (v : Value) (m : Ms) (w : World) (hg : Gl w) (hv : MsW w v m) : Calls Tryz.prog 10 #[v] w fun e w' => e = .returned (.string (strB m.txt)) ∧ Fr noB w w' := by
  cases hok : m.ok with
  | false => exact printm_no v m w hv hok
  | true =>
    cases m with
    | trigger a t c => exact print_Trigger v a t c w hg hv hok
    | pin t j => exact print_Pin v t j w hg hv hok
    | pinned p => exact print_Pinned v p w hg hv hok
    | gone a t j => exact print_Gone v a t j w hg hv hok
    | collect t j => exact print_Collect v t j w hg hv hok
    | chunk a t j i n sp => exact print_Chunk v a t j i n sp w hg hv hok
    | manifest t j c ps => exact print_Manifest v t j c ps w hg hv hok
    | stored t j => exact print_Stored v t j w hg hv hok
    | unpin t j => exact print_Unpin v t j w hg hv hok
    | unpinned a t j => exact print_Unpinned v a t j w hg hv hok
end Go.Proofs.YtbmafogjmdilkaaGreatDoor
