/-
  Messages made; MsgOne.
-/
import Derived.Test.YtbmafogjmdilkaaGreatDoorMsAwake2
import Derived.Test.YtbmafogjmdilkaaGreatDoorJobMsg
set_option linter.unusedVariables false
set_option linter.unusedSimpArgs false
set_option maxRecDepth 100000
namespace Go.Proofs.YtbmafogjmdilkaaGreatDoor
open Go.RowKit Go Go.Lib

def mkM (k a t j c n : Int) (cr : List Int) (lo : Bool) (sp : List Sp) : Ms :=
  if k = 1 then .trigger a t c else if k = 2 then .pin t j else if k = 3 then .pinned ⟨a, t, j, n, cr, lo⟩ else if k = 4 then .gone a t j else if k = 5 then .collect t j
  else if k = 6 then .chunk a t j c n sp else if k = 7 then .manifest t j c [⟨a, t, j, n, cr, lo⟩, ⟨a + 1, t, j, n, cr, lo⟩] else if k = 8 then .stored t j else if k = 9 then .unpin t j else .unpinned a t j
theorem mk_k (k a t j c n : Int) (cr : List Int) (lo : Bool) (sp : List Sp) (h : 1 ≤ k ∧ k ≤ 10) : (mkM k a t j c n cr lo sp).k = k := by
  have hk : k = 1 ∨ k = 2 ∨ k = 3 ∨ k = 4 ∨ k = 5 ∨ k = 6 ∨ k = 7 ∨ k = 8 ∨ k = 9 ∨ k = 10 := by omega
  rcases hk with rfl | rfl | rfl | rfl | rfl | rfl | rfl | rfl | rfl | rfl <;> rfl
theorem make_ms (k a t j c n : Int) (cr : List Int) (lo : Bool) (sp : List Sp) (uv sv : Value) (w : World) (hu : RdI w uv cr) (hs : RdSp w sv sp) (hk : 1 ≤ k ∧ k ≤ 10) (ha : -9223372036854775808 ≤ a ∧ a + 1 ≤ 9223372036854775807) :
    Calls Tryz.prog 8 #[.int .i64 k, .int .i64 a, .int .i64 t, .int .i64 j, .int .i64 c, .int .i64 n, uv, .bool lo, sv] w fun e w' => ∃ v, e = .returned v ∧ MsW w' v (mkM k a t j c n cr lo sp) ∧ Fr noB w w' := by
  have hu0 := hu
  have hs0 := hs
  obtain ⟨ua, uc, rfl, _⟩ := hu
  obtain ⟨sa, sc, rfl, _⟩ := hs
  have hkk : k = 1 ∨ k = 2 ∨ k = 3 ∨ k = 4 ∨ k = 5 ∨ k = 6 ∨ k = 7 ∨ k = 8 ∨ k = 9 ∨ k = 10 := by omega
  rcases hkk with rfl | rfl | rfl | rfl | rfl | rfl | rfl | rfl | rfl | rfl
  · exact (make_1 a t j c n ua _ uc lo sa _ sc w).mono fun e w' ⟨h, f⟩ => ⟨_, h, rfl, f⟩
  · exact (make_2 a t j c n ua _ uc lo sa _ sc w).mono fun e w' ⟨h, f⟩ => ⟨_, h, rfl, f⟩
  · exact (make_3 a t j c n ua _ uc lo sa _ sc w).mono fun e w' ⟨h, f⟩ => ⟨_, h, ⟨_, rfl, hu0.frN f⟩, f⟩
  · exact (make_4 a t j c n ua _ uc lo sa _ sc w).mono fun e w' ⟨h, f⟩ => ⟨_, h, rfl, f⟩
  · exact (make_5 a t j c n ua _ uc lo sa _ sc w).mono fun e w' ⟨h, f⟩ => ⟨_, h, rfl, f⟩
  · exact (make_6 a t j c n ua _ uc lo sa _ sc w).mono fun e w' ⟨h, f⟩ => ⟨_, h, ⟨_, rfl, hs0.frN f⟩, f⟩
  · refine (make_7 a t j c n ua _ uc lo sa _ sc w).mono ?_
    rintro e w' ⟨g, rfl, hg, hb, f⟩
    rw [IntWalk.wrap64_in _ (by omega)] at hb
    refine ⟨_, rfl, ⟨_, rfl, ⟨_, 2, rfl, Nat.le_refl _, by simp, fun i p hi => ?_⟩⟩, f⟩
    have hi2 : i = 0 ∨ i = 1 := by have := (List.getElem?_eq_some_iff.1 hi).1; simp at this; omega
    rcases hi2 with rfl | rfl
    · simp at hi
      subst hi
      refine ⟨g, 0, ua, uc, rfl, fun q x hq => ?_, hu0.frN f⟩
      have hq6 : q < 6 := (List.getElem?_eq_some_iff.1 hq).1
      rw [hb.cell]
      rcases (by omega : q = 0 ∨ q = 1 ∨ q = 2 ∨ q = 3 ∨ q = 4 ∨ q = 5) with rfl | rfl | rfl | rfl | rfl | rfl <;> exact hq
    · simp at hi
      subst hi
      refine ⟨g, 0, ua, uc, rfl, fun q x hq => ?_, hu0.frN f⟩
      have hq6 : q < 6 := (List.getElem?_eq_some_iff.1 hq).1
      rw [hb.cell]
      rcases (by omega : q = 0 ∨ q = 1 ∨ q = 2 ∨ q = 3 ∨ q = 4 ∨ q = 5) with rfl | rfl | rfl | rfl | rfl | rfl <;> exact hq
  · exact (make_8 a t j c n ua _ uc lo sa _ sc w).mono fun e w' ⟨h, f⟩ => ⟨_, h, rfl, f⟩
  · exact (make_9 a t j c n ua _ uc lo sa _ sc w).mono fun e w' ⟨h, f⟩ => ⟨_, h, rfl, f⟩
  · exact (make_10 a t j c n ua _ uc lo sa _ sc w).mono fun e w' ⟨h, f⟩ => ⟨_, h, rfl, f⟩

theorem inB_of {lo hi n : Int} (h0 : lo ≤ n) (h1 : n ≤ hi) : inB lo hi n = true := by unfold inB; simp; omega
theorem one_ok (k a t j : Int) (hk : 1 ≤ k ∧ k ≤ 10) (ha : 0 ≤ a ∧ a ≤ 2) (ht : 1 ≤ t ∧ t ≤ 65535) (hj : 1 ≤ j ∧ j ≤ 1000) : (mkM k a t j 0 1 [] false []).ok = true := by
  have h1 := inB_of (lo := 0) (hi := 3) (n := a) (by omega) (by omega)
  have h1b := inB_of (lo := 0) (hi := 3) (n := a + 1) (by omega) (by omega)
  have h2 := inB_of ht.1 ht.2
  have h3 := inB_of (lo := 1) (hi := 1073741824) (n := j) (by omega) (by omega)
  have h4 : inB 0 3 0 = true := by decide
  have h5 : decide (-1 < a) = true := by simp; omega
  have h6 : decide (a < a + 1) = true := by simp; omega
  have hkk : k = 1 ∨ k = 2 ∨ k = 3 ∨ k = 4 ∨ k = 5 ∨ k = 6 ∨ k = 7 ∨ k = 8 ∨ k = 9 ∨ k = 10 := by omega
  rcases hkk with rfl | rfl | rfl | rfl | rfl | rfl | rfl | rfl | rfl | rfl
  · show bTrigger a t 0 = true; unfold bTrigger; rw [h1, h2, h4]; rfl
  · show bPin t j = true; unfold bPin; rw [h2, h3]; rfl
  · show pinB a t j 1 [] = true; unfold pinB; rw [h1, h2, h3]; rfl
  · show bGone a t j = true; unfold bGone; rw [h1, h2, h3]; rfl
  · show bCollect t j = true; unfold bCollect; rw [h2, h3]; rfl
  · show chunkB a t j 0 1 [] = true; unfold chunkB; rw [h1, h2, h3]; rfl
  · show manB t j 0 [⟨a, t, j, 1, [], false⟩, ⟨a + 1, t, j, 1, [], false⟩] = true
    have p1 : pnB ⟨a, t, j, 1, [], false⟩ = true := by show pinB a t j 1 [] = true; unfold pinB; rw [h1, h2, h3]; rfl
    have p2 : pnB ⟨a + 1, t, j, 1, [], false⟩ = true := by show pinB (a + 1) t j 1 [] = true; unfold pinB; rw [h1b, h2, h3]; rfl
    unfold manB
    rw [h2, h3, h4]
    simp only [manF, p1, p2, h5, h6]
    simp
  · show bStored t j = true; unfold bStored; rw [h2, h3]; rfl
  · show bUnpin t j = true; unfold bUnpin; rw [h2, h3]; rfl
  · show bUnpinned a t j = true; unfold bUnpinned; rw [h1, h2, h3]; rfl
theorem txt_eq {m : Ms} (h : m.ok = true) : m.txt = m.body ++ numsL [checkL m.body / 65536, checkL m.body % 65536] := by
  unfold Ms.txt
  rw [h]
  rfl
theorem txt_kind {m n : Ms} (hm : m.ok = true) (hn : n.ok = true) (h : m.txt = n.txt) : m.k = n.k := by
  rw [txt_eq hm, txt_eq hn, body_eq, body_eq] at h
  have h1 := kind_lim m
  have h2 := kind_lim n
  obtain ⟨h3, _⟩ := num_pre (by omega) (by omega) h
  omega
theorem txt_pos {m : Ms} (h : m.ok = true) : 0 < m.txt.length ∧ m.txt.length ≤ 40000 := by
  rw [txt_eq h]
  have h1 := body_len h
  have h2 := nums_len [checkL m.body / 65536, checkL m.body % 65536]
  simp only [List.length_cons, List.length_nil] at h2
  have h3 := (num_len m.k.toNat).1
  have h4 : m.body.length = (numL m.k.toNat ++ m.fl).length := by have := body_eq m []; rw [List.append_nil, List.append_nil] at this; rw [this]
  rw [List.length_append] at h4
  rw [List.length_append]
  omega
theorem umod2 (b : Int) (L : Nat) (h0 : 0 < L) (h1 : L ≤ 100000) : ∃ q : Nat, wrap64 ((IntKind.u64.wrap b).tmod (L : Int)) = (q : Int) ∧ q < L := by
  obtain ⟨q, h2, h3, h4⟩ := umod b L (by omega) (by omega)
  exact ⟨q.toNat, by omega, by omega⟩
theorem ext_takem (T : List UInt8) (k : Nat) : (strB T).extract 0 k = strB (T.take k) := by rw [ext_eq, List.drop_zero, strB_list]
theorem slice_head (T : List UInt8) (k : Nat) (h : k ≤ T.length) : ∀ w : World, (Instr.slice 9 (.string (strB T)) none (some (.int .i64 (k : Int))) none).run Tryz.prog w = .ok (.string (strB (T.take k))) w := by
  intro w
  rw [run_slice_string_h w 9 (strB T) Tryz.underlying9 .i64 (k : Int) (by omega) (by rw [strB_size]; omega), Int.toNat_natCast, ext_takem]

set_option maxHeartbeats 1000000 in
theorem one_any (a b tr cut : Int) (w : World) (hg : Gl w) (ha : (Lit.int .i64 a).wf = true) (hb : (Lit.int .i64 b).wf = true) (ht : (Lit.int .i64 tr).wf = true) (hc : (Lit.int .i64 cut).wf = true) :
    Calls Tryz.prog 5 #[.int .i64 a, .int .i64 b, .int .i64 tr, .int .i64 cut] w fun e w' => e = .returned (.bool true) ∧ Fr noB w w' := by
  obtain ⟨A0, hA, a1, a2⟩ := umod a 10 (by decide) (by decide)
  obtain ⟨B0, hB, b1, b2⟩ := umod b 10 (by decide) (by decide)
  obtain ⟨T0, hT, t1, t2⟩ := umod tr 65535 (by decide) (by decide)
  have hA1 : wrap64 (1 + A0) = 1 + A0 := IntWalk.wrap64_in _ (by omega)
  have hB1 : wrap64 (1 + B0) = 1 + B0 := IntWalk.wrap64_in _ (by omega)
  have hT1 : wrap64 (1 + T0) = 1 + T0 := IntWalk.wrap64_in _ (by omega)
  obtain ⟨x, hx⟩ : ∃ x, 1 + A0 = x := ⟨_, rfl⟩
  obtain ⟨y, hy⟩ : ∃ y, 1 + B0 = y := ⟨_, rfl⟩
  obtain ⟨t, htt⟩ : ∃ t, 1 + T0 = t := ⟨_, rfl⟩
  have hA2 : wrap64 (1 + A0) = x := by rw [hA1, hx]
  have hB2 : wrap64 (1 + B0) = y := by rw [hB1, hy]
  have hT2 : wrap64 (1 + T0) = t := by rw [hT1, htt]
  have kx : 1 ≤ x ∧ x ≤ 10 := by omega
  have ky : 1 ≤ y ∧ y ≤ 10 := by omega
  have kt : 1 ≤ t ∧ t ≤ 65535 := by omega
  clear hA1 hB1 hT1 hx hy htt a1 a2 b1 b2 t1 t2 ha hb ht
  have ox := one_ok x 1 t 3 kx (by omega) kt (by omega)
  have oy := one_ok y 1 t 3 ky (by omega) kt (by omega)
  have mx := mk_k x 1 t 3 0 1 [] false [] kx
  have my := mk_k y 1 t 3 0 1 [] false [] ky
  have hrn : ∀ w, RdI w (.slice none 0 0) [] := fun w => ⟨none, 0, rfl, by simp, by simp, fun i hi => by simp at hi⟩
  have hsn : ∀ w, RdSp w (.slice none 0 0) [] := fun w => ⟨none, 0, rfl, by simp, by simp [maxLen], fun _ => rfl, fun i s hi => by simp at hi⟩
  have hmx := fun w => make_ms x 1 t 3 0 1 [] false [] _ _ w (hrn w) (hsn w) kx (by omega)
  have hmy := fun w => make_ms y 1 t 3 0 1 [] false [] _ _ w (hrn w) (hsn w) ky (by omega)
  have hcmp : (mkM x 1 t 3 0 1 [] false []).txt = (mkM y 1 t 3 0 1 [] false []).txt ↔ x = y := ⟨fun h => by have := txt_kind ox oy h; omega, fun h => by rw [h]⟩
  generalize mkM x 1 t 3 0 1 [] false [] = M at *
  generalize mkM y 1 t 3 0 1 [] false [] = N at *
  obtain ⟨px, px2⟩ := txt_pos ox
  obtain ⟨py, py2⟩ := txt_pos oy
  obtain ⟨q, hq, hql⟩ := umod2 cut M.txt.length px (by omega)
  have hbd := checkL_bd M.body
  have hsl := slice_head M.txt q (by omega)
  have hct : Ct (some (M.txt.take q)) (M.body ++ numsL [checkL M.body / 65536, checkL M.body % 65536]) := by
    rw [← txt_eq ox]
    exact Or.inr ⟨_, M.txt.drop q, rfl, fun h => by have := congrArg List.length h; rw [List.length_drop] at this; simp at this; omega, List.take_append_drop _ _⟩
  have hrd := fun w' (f : Fr noB w w') => read_cut M (checkL M.body / 65536) (checkL M.body % 65536) (strB (M.txt.take q)) w' (hg.fr f) (by rw [strB_size, List.length_take]; omega) ox (by omega) (by omega) (by rw [strB_list]; exact hct)
  have hpx := fun v w' (f : Fr noB w w') h => print_ms v M w' (hg.fr f) h
  have hpy := fun v w' (f : Fr noB w w') h => print_ms v N w' (hg.fr f) h
  have haw := fun w' (f : Fr noB w w') => awake_any w' (hg.fr f)
  have hLx : (strB M.txt).toList = M.txt := ByteArray.toList_mk _
  have hLy : (strB N.txt).toList = N.txt := ByteArray.toList_mk _
  have ex : ((strB M.txt).toList == []) = false := by rw [hLx]; simpa using List.length_pos_iff.1 px
  have ey : ((strB N.txt).toList == []) = false := by rw [hLy]; simpa using List.length_pos_iff.1 py
  have hLs : (strB M.txt).size = M.txt.length := strB_size _
  have hu : IntKind.u64.wrap (M.txt.length : Int) = (M.txt.length : Int) := by rw [IntKind.wrap_u64]; omega
  have hl0 : ¬ ((M.txt.length : Int) = 0) := by omega
  have heq : (((strB M.txt).toList == (strB N.txt).toList) = true ∧ (x == y) = true) ∨ (((strB M.txt).toList == (strB N.txt).toList) = false ∧ (x == y) = false) := by
    rw [hLx, hLy]
    by_cases h : x = y
    · exact Or.inl ⟨by simpa using hcmp.2 h, by simpa using h⟩
    · exact Or.inr ⟨by simpa using fun h2 => h (hcmp.1 h2), by simpa using h⟩
  generalize hSM : strB M.txt = SM at *
  generalize hSN : strB N.txt = SN at *
  generalize M.txt.length = L at *
  generalize strB (M.txt.take q) = SQ at *
  replace hmx := Lib.hid hmx
  replace hmy := Lib.hid hmy
  replace hrd := Lib.hid hrd
  replace hpx := Lib.hid hpx
  replace hpy := Lib.hid hpy
  replace haw := Lib.hid haw
  replace hcmp := Lib.hid hcmp
  replace hct := Lib.hid hct
  replace hbd := Lib.hid hbd
  replace hLx := Lib.hid hLx
  replace hLy := Lib.hid hLy
  replace ox := Lib.hid ox
  replace oy := Lib.hid oy
  replace hSM := Lib.hid hSM
  replace hSN := Lib.hid hSN
  replace mx := Lib.hid mx
  replace my := Lib.hid my
  replace heq := Lib.hid heq
  go_enter Tryz.func5, Tryz.ntmps5
  go_wp2_with fail
  try rw [hA]
  try rw [hB]
  try rw [hT]
  try rw [hA2]
  try rw [hB2]
  try rw [hT2]
  replace hA := Lib.hid hA
  replace hB := Lib.hid hB
  replace hT := Lib.hid hT
  replace hA2 := Lib.hid hA2
  replace hB2 := Lib.hid hB2
  replace hT2 := Lib.hid hT2
  go_fit (hmx.out _)
  rintro e w1 ⟨v1, rfl, m1, f1⟩
  replace m1 := Lib.hid m1
  go_wp2_with fail
  go_fit (hmy.out _)
  rintro e w2 ⟨v2, rfl, m2, f2⟩
  replace m2 := Lib.hid m2
  have fr2 := f1.seqN f2
  have m1b := m1.out.frN f2
  go_wp2_with fail
  go_fit (hpx.out v1 w2 fr2 m1b)
  rintro e w3 ⟨rfl, f3⟩
  have fr3 := fr2.seqN f3
  have m2b := m2.out.frN f3
  go_wp2_with fail
  go_fit (hpy.out v2 w3 fr3 m2b)
  rintro e w4 ⟨rfl, f4⟩
  have fr4 := fr3.seqN f4
  clear f1 f2 f3 f4 m1 m2 m1b m2b fr2 fr3
  go_wp2_with fail
  go_fit (haw.out w4 fr4)
  rintro e w5 ⟨rfl, f5⟩
  have fr5 := fr4.seqN f5
  clear f5 fr4
  go_wp2_with fail
  go_fit (hrd.out w5 fr5)
  rintro e w6 ⟨rfl, f6⟩
  rcases heq.out with ⟨h1, h2⟩ | ⟨h1, h2⟩
  all_goals (
    go_wp2_with fail
    go_ret
    exact ⟨rfl, fr5.seqN f6⟩)
end Go.Proofs.YtbmafogjmdilkaaGreatDoor
