/-
  The reference's coordinator hears a trigger: walked.
  A job of the reference's coordinator ends: plain.
-/
import Derived.Test.YtidcoddefebdpaaGreatCoD
import Derived.Test.YtidcoddefebdpaaGreatCoB
section
set_option linter.unusedVariables false
set_option linter.unusedSimpArgs false
set_option maxRecDepth 100000
set_option maxRecDepth 100000
namespace Go.Proofs.YtidcoddefebdpaaGreat
open Go.RowKit Go Go.Maps Go.Lib

theorem infoPtrK : (Tryz.prog.info? 58).map (fun i => (i.zero, i.size, i.bytes)) = some (some (.pointer none), 1, 8) := by kernel_rfl
set_option maxHeartbeats 16000000 in
theorem rhear_trig {w : World} {z B M0 : Nat} {E : Nat → Prop} {ja : Option Addr} {jc : Nat} {C : CS} {R : List QE} (h : Rc w z B E ja jc C.ag C.mo C.la C.rf R) (hl : Rl w M0 C R) (hw : C.wf) (a t : Int) (hb : bTrigger a t 0 = true) (hM : M0 ≤ B) (hla : C.la < 1073741824) (hrf : 0 ≤ C.rf ∧ C.rf < 1000000000) :
    Calls Tryz.prog 11 #[.pointer (some ⟨z, 0, none⟩), mrV { k := 1, a := a, t := t, c := 0 }] w fun e w' => RHearTo e w w' z B M0 E (C.begin a t 0) := by
  have hr := fun w' (f : Fr noB w w') => rr_1 a t 0 w'
  simp only [bT_eq, hb] at hr
  obtain ⟨ha0, ha3, ht1, ht2⟩ := bT_facts hb
  have hl0 := hw.l0
  have hag := hw.a4
  have hag1 := hw.a1
  have hn8 : R.length ≤ 8 := by rw [← hl.len]; have := hw.len; have := hw.m8; omega
  have hw1 := wrapS (z := C.la + 1) (by omega) (by omega)
  have hw2 := wrapS (z := C.rf + 1) (by omega) (by omega)
  have hw3 : IntKind.i64.wrap (C.la + 1) = C.la + 1 := by rw [IntKind.wrap_i64]; omega
  have hw4 : IntKind.i64.wrap (C.rf + 1) = C.rf + 1 := by rw [IntKind.wrap_i64]; omega
  unfold mrV mrC at *
  simp only at hr ⊢
  have fX := (Fr.refl noB w).alloc (.cells #[.int .i64 1, .int .i64 a, .int .i64 t, .int .i64 0, .int .i64 0, .int .i64 0, .int .i64 0, .int .i64 0, .int .i64 0, .int .i64 0, .int .i64 0, .slice none 0 0, .bool false, .slice none 0 0, .slice none 0 0] 54)
  have bX := Blk.new w 54 [.int .i64 1, .int .i64 a, .int .i64 t, .int .i64 0, .int .i64 0, .int .i64 0, .int .i64 0, .int .i64 0, .int .i64 0, .int .i64 0, .int .i64 0, .slice none 0 0, .bool false, .slice none 0 0, .slice none 0 0]
  have hzX : z < w.heap.size := (h.lo z h.ine.1).2
  replace hr := Lib.hid hr
  have hh := Lib.hid h
  have hl' := Lib.hid hl
  have hw' := Lib.hid hw
  clear h hl hw
  go_enter Tryz.func11, Tryz.ntmps11
  go_upto_region 1 with fail
  generalize (w.alloc (.cells #[.int .i64 1, .int .i64 a, .int .i64 t, .int .i64 0, .int .i64 0, .int .i64 0, .int .i64 0, .int .i64 0, .int .i64 0, .int .i64 0, .int .i64 0, .slice none 0 0, .bool false, .slice none 0 0, .slice none 0 0] 54)) = w1 at *
  obtain ⟨gX, hgX⟩ : ∃ g, w.heap.size = g := ⟨_, rfl⟩
  rw [hgX] at bX hzX
  try rw [hgX]
  replace hgX := Lib.hid hgX
  have b1 := bX
  clear bX
  have y0 : w1.cell? ⟨gX, 0, none⟩ = some (.int .i64 1) := b1.cell 0
  have y1 : w1.cell? ⟨gX, 1, none⟩ = some (.int .i64 a) := b1.cell 1
  have y2 : w1.cell? ⟨gX, 2, none⟩ = some (.int .i64 t) := b1.cell 2
  have y3 : w1.cell? ⟨gX, 3, none⟩ = some (.int .i64 0) := b1.cell 3
  have y4 : w1.cell? ⟨gX, 4, none⟩ = some (.int .i64 0) := b1.cell 4
  have y5 : w1.cell? ⟨gX, 5, none⟩ = some (.int .i64 0) := b1.cell 5
  have y6 : w1.cell? ⟨gX, 6, none⟩ = some (.int .i64 0) := b1.cell 6
  have y7 : w1.cell? ⟨gX, 7, none⟩ = some (.int .i64 0) := b1.cell 7
  have y8 : w1.cell? ⟨gX, 8, none⟩ = some (.int .i64 0) := b1.cell 8
  have y9 : w1.cell? ⟨gX, 9, none⟩ = some (.int .i64 0) := b1.cell 9
  have y10 : w1.cell? ⟨gX, 10, none⟩ = some (.int .i64 0) := b1.cell 10
  have y11 : w1.cell? ⟨gX, 11, none⟩ = some (.slice none 0 0) := b1.cell 11
  have y12 : w1.cell? ⟨gX, 12, none⟩ = some (.bool false) := b1.cell 12
  have y13 : w1.cell? ⟨gX, 13, none⟩ = some (.slice none 0 0) := b1.cell 13
  have y14 : w1.cell? ⟨gX, 14, none⟩ = some (.slice none 0 0) := b1.cell 14
  go_wp2_with fail
  go_fit (hr.out w1 fX)
  rintro e w2 ⟨rfl, f2⟩
  have f12 := fX.seqN f2
  have b2 := f2.blk b1 (fun q => q)
  clear y0 y1 y2 y3 y4 y5 y6 y7 y8 y9 y10 y11 y12 y13 y14 fX f2 hr b1
  have z0 : w2.cell? ⟨gX, 0, none⟩ = some (.int .i64 1) := b2.cell 0
  have z2 : w2.cell? ⟨gX, 2, none⟩ = some (.int .i64 t) := b2.cell 2
  have H2 := hh.out.frN f12
  have hf := find_r H2 hn8 t
  replace hf := Lib.hid hf
  replace H2 := Lib.hid H2
  replace b2 := Lib.hid b2
  go_wp2_with fail
  go_fit hf.out
  rintro e w3 ⟨f3, hres⟩
  have f13 := f12.seqN f3
  have b3 := f3.blk b2.out (fun q => q)
  have H3 := H2.out.frN f3
  clear z0 z2 hf b2 H2
  have y0 : w3.cell? ⟨gX, 0, none⟩ = some (.int .i64 1) := b3.cell 0
  have y1 : w3.cell? ⟨gX, 1, none⟩ = some (.int .i64 a) := b3.cell 1
  have d0 : w3.cell? ⟨z, 0, none⟩ = some (.int .i64 C.ag) := H3.blk.cell 0
  have RR : Rr w z B M0 E C := ⟨ja, jc, R, hh.out, hl'.out⟩
  replace b3 := Lib.hid b3
  replace H3 := Lib.hid H3
  replace RR := Lib.hid RR
  rcases hres with ⟨k, x, rfl, hx, ht⟩ | ⟨rfl, hno⟩
  · obtain ⟨e, _, hat, _⟩ := at_rl hl'.out hw'.out hx
    rw [ht] at hat
    have hno := fun pn => begin_no1 (C := C) (a := a) (t := t) (c := 0) (pn := pn) (Or.inr (by rw [hat]; rfl))
    have dk : decide ((0 : Int) ≤ k) = true := by simp
    replace hno := Lib.hid hno
    clear hx ht hat
    go_wp2_with fail
    go_quiet (fail)
    go_wp2_with fail
    go_returns
    exact RHearTo.no RR.out hno.out (f13.drewN _)
  have hat := at_rl_no hl'.out hno
  by_cases h1 : C.ag ≤ a
  · have hno := fun pn => begin_no1 (C := C) (a := a) (t := t) (c := 0) (pn := pn) (Or.inl h1)
    have e1 : decide (C.ag ≤ a) = true := decide_eq_true h1
    replace hno := Lib.hid hno
    replace h1 := Lib.hid h1
    replace hat := Lib.hid hat
    go_wp2_with fail
    go_quiet (fail)
    go_wp2_with fail
    go_returns
    exact RHearTo.no RR.out hno.out (f13.drewN _)
  have e1 : decide (C.ag ≤ a) = false := decide_eq_false h1
  have hn1 : ¬ (C.ag ≤ a ∨ (C.at t).isSome = true) := by rw [hat]; simp; omega
  replace hn1 := Lib.hid hn1
  replace hat := Lib.hid hat
  replace hno := Lib.hid hno
  go_wp2_with fail
  go_quiet (fail)
  have f4 := f13.drewN nq
  have b4 := b3.out.drewN nq
  have H4 := H3.out.frN ((Fr.refl noB w3).drewN nq)
  generalize w3.drewN nq = w4 at *
  clear y0 y1 d0 b3 H3 f13 f3 f12
  have c2 : w4.cell? ⟨z, 2, none⟩ = some (.slice ja R.length jc) := H4.blk.cell 2
  have c1 : w4.cell? ⟨z, 1, none⟩ = some (.int .i64 C.mo) := H4.blk.cell 1
  obtain ⟨n, hn⟩ : ∃ n, R.length = n := ⟨_, rfl⟩
  have hQn : C.Q.length = n := by rw [hl'.out.len, hn]
  rw [hn] at c2
  replace b4 := Lib.hid b4
  replace H4 := Lib.hid H4
  by_cases h2 : C.mo ≤ C.Q.length
  · have e2 : decide (C.mo ≤ (n : Int)) = true := decide_eq_true (by rw [← hQn]; exact h2)
    replace h2 := Lib.hid h2
    replace hn := Lib.hid hn
    replace hQn := Lib.hid hQn
    go_wp2_with fail
    go_quiet (fail)
    have H5 := H4.out.frN ((Fr.refl noB w4).drewN nq)
    have f5 := f4.drewN nq
    generalize w4.drewN nq = w5 at *
    have k4 : w5.cell? ⟨z, 4, none⟩ = some (.int .i64 C.rf) := H5.blk.cell 4
    have z4 := H5.blk.frozen 4
    have H6 := Lib.hid (H5.setRf (C.rf + 1))
    have hzE := H5.ine.1
    have f6 := Lib.hid (f5.trans ((Fr.refl E w5).store (g := z) (i := 4) (v := .int .i64 (C.rf + 1)) hzE) (U := E) (fun _ _ q => q.elim) (fun _ _ q => q))
    have hL := Lib.hid (hl'.out.fr f6.out (fun g hg e => by have := (H5.lo g e).1; omega))
    clear c1 c2 H5 f5 H4 b4 f4 e1 h1
    go_wp2_with fail
    go_returns
    refine ⟨_, _, E, rfl, fun pn => ?_, fun g hg => Or.inl hg, f6.out⟩
    rw [begin_no2 hn1.out h2.out]
    exact ⟨SaidR.no _ _ _, ja, jc, R, H6.out, hL.out.len, hL.out.rel⟩
  have e2 : decide (C.mo ≤ (n : Int)) = false := decide_eq_false (by rw [← hQn]; exact h2)
  replace h2 := Lib.hid h2
  replace hQn := Lib.hid hQn
  go_wp2_with fail
  go_quiet (fail)
  have H5 := H4.out.frN ((Fr.refl noB w4).drewN nq)
  have f5 := f4.drewN nq
  have b5 := b4.out.drewN nq
  generalize w4.drewN nq = w5 at *
  obtain ⟨A, hA⟩ : ∃ A : Nat, C.ag = A := ⟨C.ag.toNat, by omega⟩
  obtain ⟨q, hq⟩ : ∃ q : Nat, a = q := ⟨a.toNat, by omega⟩
  have k3 : w5.cell? ⟨z, 3, none⟩ = some (.int .i64 C.la) := H5.blk.cell 3
  have z3 := H5.blk.frozen 3
  have hbl := H5.blk.set 3 (.int .i64 (C.la + 1))
  simp only [List.set_cons_zero, List.set_cons_succ] at hbl
  have s3 : Fr (onlyB z) w5 (w5.setCell ⟨z, 3, none⟩ (.int .i64 (C.la + 1))) := (Fr.refl _ _).store rfl
  have b6 := s3.blk b5 (fun e => by unfold onlyB at e; omega)
  have hL5 := hl'.out.fr f5 (fun _ _ q => q)
  have hqA : q < A := by omega
  have hA4 : A ≤ 4 := by omega
  clear c1 c2 H4 b4 f4
  replace H5 := Lib.hid H5
  replace f5 := Lib.hid f5
  replace hbl := Lib.hid hbl
  replace s3 := Lib.hid s3
  replace b6 := Lib.hid b6
  replace hL5 := Lib.hid hL5
  replace h1 := ()
  go_upto_region 14 with fail
  obtain ⟨w6, hw6⟩ : ∃ w6, w5.setCell ⟨z, 3, none⟩ (.int .i64 (C.la + 1)) = w6 := ⟨_, rfl⟩
  rw [hw6] at hbl s3 b6 ⊢
  clear hw6 k3 z3
  have hS : ∀ w', Fr noB w6 w' → (w'.cell? ⟨z, 3, none⟩ = some (.int .i64 (C.la + 1)) ∧ w'.cell? ⟨z, 0, none⟩ = some (.int .i64 (A : Int))) ∧ (w'.cell? ⟨gX, 0, none⟩ = some (.int .i64 1) ∧ w'.cell? ⟨gX, 1, none⟩ = some (.int .i64 (q : Int)) ∧ w'.cell? ⟨gX, 2, none⟩ = some (.int .i64 t) ∧ w'.cell? ⟨gX, 3, none⟩ = some (.int .i64 0) ∧ w'.cell? ⟨gX, 4, none⟩ = some (.int .i64 0) ∧ w'.cell? ⟨gX, 5, none⟩ = some (.int .i64 0) ∧ w'.cell? ⟨gX, 6, none⟩ = some (.int .i64 0) ∧ w'.cell? ⟨gX, 7, none⟩ = some (.int .i64 0) ∧ w'.cell? ⟨gX, 8, none⟩ = some (.int .i64 0) ∧ w'.cell? ⟨gX, 9, none⟩ = some (.int .i64 0) ∧ w'.cell? ⟨gX, 10, none⟩ = some (.int .i64 0) ∧ w'.cell? ⟨gX, 11, none⟩ = some (.slice none 0 0) ∧ w'.cell? ⟨gX, 12, none⟩ = some (.bool false) ∧ w'.cell? ⟨gX, 13, none⟩ = some (.slice none 0 0) ∧ w'.cell? ⟨gX, 14, none⟩ = some (.slice none 0 0)) := fun w' f => by
    have hc := f.blk hbl.out (fun q => q)
    have hg := f.blk b6.out (fun q => q)
    rw [hA] at hc
    rw [hq] at hg
    exact ⟨⟨hc.cell 3, hc.cell 0⟩, hg.cell 0, hg.cell 1, hg.cell 2, hg.cell 3, hg.cell 4, hg.cell 5, hg.cell 6, hg.cell 7, hg.cell 8, hg.cell 9, hg.cell 10, hg.cell 11, hg.cell 12, hg.cell 13, hg.cell 14⟩
  have hnew := fun w' => rnew_yes (C.la + 1) t 0 A q w' (by rw [← hq]; exact hb) (by omega) (by omega) hqA hA4
  unfold mrV mrC at hnew
  simp only at hnew
  replace hS := Lib.hid hS
  replace hnew := Lib.hid hnew
  replace hA := Lib.hid hA
  replace hq := Lib.hid hq
  go_cut [8] from 64 to 73 (fun v wx => ∃ r gs gp gf, v = .pointer (some ⟨r, 0, none⟩) ∧ Hid (∀ x, rjB r gs gp gf x → w6.heap.size ≤ x) ∧ Hid (Rj wx r gs gp gf (RJ.new (C.la + 1) t 0 A q)) ∧ Fr noB w6 wx)
  case first =>
    go_region_held3 (fun w' => (w'.cell? ⟨z, 3, none⟩ = some (.int .i64 (C.la + 1)) ∧ w'.cell? ⟨z, 0, none⟩ = some (.int .i64 (A : Int))) ∧ (w'.cell? ⟨gX, 0, none⟩ = some (.int .i64 1) ∧ w'.cell? ⟨gX, 1, none⟩ = some (.int .i64 (q : Int)) ∧ w'.cell? ⟨gX, 2, none⟩ = some (.int .i64 t) ∧ w'.cell? ⟨gX, 3, none⟩ = some (.int .i64 0) ∧ w'.cell? ⟨gX, 4, none⟩ = some (.int .i64 0) ∧ w'.cell? ⟨gX, 5, none⟩ = some (.int .i64 0) ∧ w'.cell? ⟨gX, 6, none⟩ = some (.int .i64 0) ∧ w'.cell? ⟨gX, 7, none⟩ = some (.int .i64 0) ∧ w'.cell? ⟨gX, 8, none⟩ = some (.int .i64 0) ∧ w'.cell? ⟨gX, 9, none⟩ = some (.int .i64 0) ∧ w'.cell? ⟨gX, 10, none⟩ = some (.int .i64 0) ∧ w'.cell? ⟨gX, 11, none⟩ = some (.slice none 0 0) ∧ w'.cell? ⟨gX, 12, none⟩ = some (.bool false) ∧ w'.cell? ⟨gX, 13, none⟩ = some (.slice none 0 0) ∧ w'.cell? ⟨gX, 14, none⟩ = some (.slice none 0 0)))
      (first | exact hS.out _ fq | exact hS.out _ ((Fr.refl noB _).drewN 1) | fail)
      (first | (go_at_call 29; refine (hnew.out _).mono ?_; rintro e w7 ⟨r, gs, gp, gf, rfl, hx7, hj7, f7⟩; have fq := ((Fr.refl noB w6).drewN 1).seqN f7; have hx7 : ∀ x, rjB r gs gp gf x → w6.heap.size ≤ x := hx7) | fail)
    all_goals (
      go_wp2_with fail
      go_meet
      exact ⟨r, gs, gp, gf, rfl, Lib.hid hx7, Lib.hid hj7, fq⟩)
  case rest =>
    obtain ⟨r, gs, gp, gf, rfl, hx7, hj7, fc⟩ := hcut
    have bc := fc.blk hbl.out (fun q => q)
    rw [hn] at bc
    have m2 : wc.cell? ⟨z, 2, none⟩ = some (.slice ja n jc) := bc.cell 2
    have oR := ownsRow_fr (ownsRow_fr H5.out.own s3.out (fun g hg e => by unfold onlyB at e; subst e; exact H5.out.az2 hg)) fc (fun _ _ q => q)
    rw [hn] at oR
    obtain ⟨i1, hi1, hz1, hs1, hb1⟩ := info_of infoPtrK
    have fB : Fr noB wc (wc.alloc (.cells #[.pointer (some ⟨r, 0, none⟩)] 58)) := (Fr.refl _ _).alloc _
    have bB := Blk.new wc 58 [.pointer (some ⟨r, 0, none⟩)]
    have oB := ownsRow_fr oR fB (fun _ _ q => q)
    have bzB := fB.blk bc (fun q => q)
    have hN : ∀ (j : Nat) (u : Value), [Value.pointer (some ⟨r, 0, none⟩)][j]? = some u → (wc.alloc (.cells #[.pointer (some ⟨r, 0, none⟩)] 58)).cell? (Addr.add ⟨wc.heap.size, 0, none⟩ j) = some u := fun j u hj => by
      have h9 := bB.cell j
      rw [hj] at h9
      rw [add_none, Nat.zero_add]
      exact h9
    have hone : ∀ u ∈ [Value.pointer (some ⟨r, 0, none⟩)], u.oneCell' = true := by intro u hu; rw [List.mem_singleton] at hu; subst hu; rfl
    have hBw : B ≤ (wc.alloc (.cells #[.pointer (some ⟨r, 0, none⟩)] 58)).heap.size := by
      have h9 := H5.out.lo z H5.out.ine.1
      have := s3.out.size
      have := fc.size
      have := fB.size
      omega
    replace hN := Lib.hid hN
    replace hone := Lib.hid hone
    replace bzB := Lib.hid bzB
    have fB' := Lib.hid fB
    clear hS hnew bc oR fB bB b6
    go_wp2_with (first
      | (at_builtin; go_must (refine wpList_append_at _ rfl (.tmp 78) (.tmp 80) 33 rfl B 58 i1 _ 1 8 Tryz.underlying33 hi1 hz1 hs1 hb1 rfl (by decide) _ n (R.map QE.v) rfl oB ⟨wc.heap.size, 0, none⟩ 1 1 [.pointer (some ⟨r, 0, none⟩)] rfl rfl hN.out hone.out ?_ ?_ hBw ?_))
      | fail)
    · unfold maxLen; omega
    · omega
    intro v8 w8 o8 gr8 mv8
    obtain ⟨a8, c8, rfl⟩ := ownsRow_slice o8
    have f8 : Fr (rowB (.slice ja n jc)) (wc.alloc (.cells #[.pointer (some ⟨r, 0, none⟩)] 58)) w8 := (Fr.refl _ _).grown gr8 (fun k hk _ => hk)
    have b8 := f8.blk bzB.out (fun e => by have := H5.out.az2; rw [hn] at this; exact this e)
    have z8 := b8.frozen 2
    have k8 : w8.cell? ⟨z, 2, none⟩ = some (.slice ja n jc) := b8.cell 2
    have hmore := Rc.more (x := ⟨r, gs, gp, gf, RJ.new (C.la + 1) t 0 A q⟩) H5.out hL5.out (a := a) (t := t) hM s3.out hbl.out (fun g hg => Nat.le_trans s3.out.size (hx7.out g hg)) fc hj7.out (by
        show JRl (JS.new (C.la + 1) t 0 C.ag.toNat a.toNat) _
        rw [hA.out, hq.out]
        exact jrl_new (C.la + 1) t 0 A q hqA hA4) (rdx_new wc M0 (C.la + 1) t 0 A q) fB'.out (by rw [hn]; exact o8) (by rw [hn]; exact f8) (by rw [hn]; exact mv8) rfl
    rw [hn] at hmore
    obtain ⟨E', hm1, hm2, hm3⟩ := hmore
    obtain ⟨hmc, hml⟩ := hm1 0
    have hjx := hmc.jobs _ (List.mem_append_right _ (List.mem_singleton.2 rfl))
    have hre := hml.rel n (JE.new C a t 0 0) _ (by
      show (C.Q ++ [JE.new C a t 0 0])[n]? = _
      rw [List.getElem?_append_right (by rw [hQn.out]; exact Nat.le_refl _), hQn.out, Nat.sub_self]; rfl) (by rw [List.getElem?_append_right (by rw [hn]; exact Nat.le_refl _), hn, Nat.sub_self]; rfl)
    have hout := routs_D r gs gp gf M0 _ _ _ _ hjx hre.1 hre.2
    have hsz := hm3.size
    have hs5 := f5.out.size
    have f9 := f5.out.trans hm3 (U := E) (fun _ _ q => q.elim) (fun _ _ q => q)
    replace hout := Lib.hid hout
    replace hm1 := Lib.hid hm1
    replace hm2 := Lib.hid hm2
    replace f9 := Lib.hid f9
    clear hmc hml hjx hre hm3 o8 gr8 mv8 f8 b8 hN hone oB bzB
    go_wp2_with fail
    go_fit hout.out
    rintro e w10 ⟨ut, uo, qa, qc, rfl, h10⟩
    have hs1 := fun pn => SaidR.one (e := JE.new C a t 0 pn) (M0 := M0) (ut := ut) (uo := uo) (qa := qa) (qc := qc) h10
    have f10 := h10.2.2.2
    have hfin : RHearTo (.returned (.tuple #[ut, uo])) w w10 z B M0 E (C.begin a t 0) := by
      refine ⟨ut, uo, E', rfl, fun pn => ?_, fun g hg => (hm2.out g hg).imp id (fun q => by omega), f9.out.seqN f10⟩
      rw [begin_yes hn1.out (by have := h2.out; omega)]
      obtain ⟨k1, k2⟩ := hm1.out pn
      exact ⟨(hs1 pn).mono (by omega), a8, c8, _, k1.frN f10, k2.fr f10 (fun _ _ q => q)⟩
    replace hfin := Lib.hid hfin
    clear hs1 h10 hout hm1 hm2 f9 f10
    go_wp2_with fail
    go_returns
    exact hfin.out
end Go.Proofs.YtidcoddefebdpaaGreat
end

section
set_option linter.unusedVariables false
set_option linter.unusedSimpArgs false
set_option maxRecDepth 100000
set_option maxRecDepth 100000
namespace Go.Proofs.YtidcoddefebdpaaGreat
open Go.RowKit Go Go.Maps Go.Lib

theorem filt_erase {α : Type} (f : α → Int) : ∀ (Q : List α) (k : Nat) (e : α), (Q.map f).Nodup → Q[k]? = some e → (Q.filter fun x => decide (f x ≠ f e)) = Q.eraseIdx k
  | [], k, e, _, h => by simp at h
  | a :: r, 0, e, hn, h => by
    simp only [List.getElem?_cons_zero, Option.some.injEq] at h
    subst h
    rw [List.map_cons, List.nodup_cons] at hn
    rw [List.filter_cons_of_neg (by simp), List.eraseIdx_cons_zero]
    refine List.filter_eq_self.2 (fun x hx => ?_)
    simp only [decide_eq_true_eq]
    exact fun q => hn.1 (by rw [← q]; exact List.mem_map.2 ⟨x, hx, rfl⟩)
  | a :: r, k + 1, e, hn, h => by
    rw [List.getElem?_cons_succ] at h
    rw [List.map_cons, List.nodup_cons] at hn
    have hne : f a ≠ f e := fun q => hn.1 (by rw [q]; exact List.mem_map.2 ⟨e, List.mem_of_getElem? h, rfl⟩)
    rw [List.filter_cons_of_pos (by simpa using hne), List.eraseIdx_cons_succ, filt_erase f r k e hn.2 h]
theorem drop_erase {C : CS} (hw : C.wf) {k : Nat} {e : JE} (he : C.Q[k]? = some e) : (C.drop e.j.tr).Q = C.Q.eraseIdx k := filt_erase (fun x : JE => x.j.tr) C.Q k e hw.nt he
theorem Rl.drop {w w1 : World} {M0 : Nat} {C : CS} {R : List QE} (h : Rl w M0 C R) (hw : C.wf) {S : Nat → Prop} (f : Fr S w w1) (hS : ∀ g, g < M0 → ¬ S g) {k : Nat} {e : JE} (he : C.Q[k]? = some e) : Rl w1 M0 (C.drop e.j.tr) (R.eraseIdx k) := by
  have hk := (List.getElem?_eq_some_iff.1 he).1
  have hk2 : k < R.length := by rw [← h.len]; exact hk
  refine ⟨?_, fun i y u k1 k2 => ?_⟩
  · rw [drop_erase hw he, List.length_eraseIdx_of_lt hk, List.length_eraseIdx_of_lt hk2, h.len]
  · rw [drop_erase hw he, List.getElem?_eraseIdx] at k1
    rw [List.getElem?_eraseIdx] at k2
    by_cases hik : i < k
    · rw [if_pos hik] at k1 k2
      obtain ⟨r1, r2⟩ := h.rel i y u k1 k2
      exact ⟨r1, r2.fr f hS⟩
    · rw [if_neg hik] at k1 k2
      obtain ⟨r1, r2⟩ := h.rel (i + 1) y u k1 k2
      exact ⟨r1, r2.fr f hS⟩
theorem Rc.drop {w w3 : World} {z B : Nat} {E : Nat → Prop} {ja : Option Addr} {jc : Nat} {ag mo la rf : Int} {R : List QE} (h : Rc w z B E ja jc ag mo la rf R) {k : Nat} (hk : k < R.length) (f : Fr noB w w3) {ja' : Option Addr} {jc' : Nat}
    (o3 : w3.ownsRow w.heap.size 58 1 (.slice ja' (R.eraseIdx k).length jc') (R.eraseIdx k).length ((R.eraseIdx k).map QE.v)) {w4 : World} (e4 : w4 = w3.setCell ⟨z, 2, none⟩ (.slice ja' (R.eraseIdx k).length jc')) :
    ∃ E', Rc w4 z B E' ja' jc' ag mo la rf (R.eraseIdx k) ∧ (∀ g, E' g → E g ∨ w.heap.size ≤ g) ∧ Fr E w w4 := by
  subst e4
  have s4 : Fr (onlyB z) w3 (w3.setCell ⟨z, 2, none⟩ (.slice ja' (R.eraseIdx k).length jc')) := (Fr.refl _ _).store rfl
  have hs3 := f.size
  have hs4 := s4.size
  have hzE := h.ine.1
  have hz := h.lo z hzE
  have hsub : ∀ x ∈ R.eraseIdx k, x ∈ R := fun x hx => (List.eraseIdx_sublist R k).subset hx
  have hrow : ∀ g, (Value.slice ja' (R.eraseIdx k).length jc').ownBlock = some g → w.heap.size ≤ g ∧ g < w3.heap.size := fun g hg => o3.lt g hg
  have b4 := (f.blk h.blk (fun q => q)).set 2 (.slice ja' (R.eraseIdx k).length jc')
  simp only [List.set_cons_zero, List.set_cons_succ] at b4
  refine ⟨fun g => E g ∨ (w.heap.size ≤ g ∧ g < w3.heap.size), ⟨b4, ownsRow_fr (ownsRow_mono o3 (by omega)) s4 (fun g hg e => by unfold onlyB at e; subst e; have := hrow _ hg; omega), fun y hy => ((h.jobs y (hsub y hy)).frN f).fr s4 (fun g hg e => (h.az y (hsub y hy) g hg).1 e), h.ap.sublist (List.eraseIdx_sublist R k), fun y hy g hg => ⟨(h.az y (hsub y hy) g hg).1, fun e => by have := hrow g e; have := (h.lo g (h.ine.2.2 y (hsub y hy) g hg)).2; omega⟩, fun e => by have := hrow z e; omega, ⟨Or.inl hzE, fun g hg => Or.inr (hrow g hg), fun y hy g hg => Or.inl (h.ine.2.2 y (hsub y hy) g hg)⟩, fun g hg => ?_⟩, fun g hg => hg.imp id (fun q => q.1), (f.mono (fun _ _ q => q.elim)).trans s4 (fun _ _ q => q) (fun g _ e => by unfold onlyB at e; subst e; exact hzE)⟩
  rcases hg with hg | hg
  · have := h.lo g hg; exact ⟨this.1, by omega⟩
  · exact ⟨by omega, by omega⟩
theorem erase_app {α : Type} (L : List α) (k : Nat) : L.take k ++ L.drop (k + 1) = L.eraseIdx k := (List.eraseIdx_eq_take_drop_succ L k).symm
end Go.Proofs.YtidcoddefebdpaaGreat
end
