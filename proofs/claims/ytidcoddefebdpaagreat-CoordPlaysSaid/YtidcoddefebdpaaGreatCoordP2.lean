/-
  The reference's coordinator hears a message that is no trigger, and no job ends: walked.
-/
import Derived.Test.YtidcoddefebdpaaGreatCoB
set_option linter.unusedVariables false
set_option linter.unusedSimpArgs false
set_option maxRecDepth 100000
set_option maxRecDepth 100000
namespace Go.Proofs.YtidcoddefebdpaaGreat
open Go.RowKit Go Go.Maps Go.Lib

theorem other_none {C : CS} {x : Ms} (h : C.at x.tj.1 = none) : C.other x = (C, none) := by unfold CS.other; rw [h]
theorem other_some {C : CS} {x : Ms} {e : JE} (h : C.at x.tj.1 = some e) : C.other x = C.told e x := by unfold CS.other; rw [h]
set_option maxHeartbeats 16000000 in
theorem rhear_oth {w : World} {z B M0 : Nat} {E : Nat → Prop} {ja : Option Addr} {jc : Nat} {C : CS} {R : List QE} (h : Rc w z B E ja jc C.ag C.mo C.la C.rf R) (hl : Rl w M0 C R) (hw : C.wf) (m : OpJ) (x : Ms) (hm : m.ms = some x) (hn1 : m.k ≠ 1) (hok : m.okm = true) (M : MR) (hM : LkM m M) (hu : LkV w m (mrV M)) (hx : RdI w (.slice m.ua m.un m.uc) m.xs) (hun : m.un = m.xs.length) (hm0 : m.xs ≠ [] → ∀ g o, m.ua = some ⟨g, o, none⟩ → g < M0) (hMB : M0 ≤ B) (hno4 : ∀ e, C.at m.t = some e → (e.j.hear m).ph ≠ 4) :
    Calls Tryz.prog 11 #[.pointer (some ⟨z, 0, none⟩), mrV M] w fun e w' => RHearTo e w w' z B M0 E (fun _ => C.other x) := by
  have hr := fun w' (f : Fr noB w w') => rright_lk w' (hu.frN f) (hx.frN f)
  simp only [hok] at hr
  have hn8 : R.length ≤ 8 := by rw [← hl.len]; have := hw.len; have := hw.m8; omega
  have hMk := hM.k x hm
  have hMt := hM.t x hm
  have htj := (ms_tj hm).2
  have hhj := fun w' (f : Fr noB w w') (r gs gp gf : Nat) (q : RJ) (h1 : Rj w' r gs gp gf q) (h2 : ∀ g, rjB r gs gp gf g → M0 ≤ g) => rhear_any r gs gp gf q m (mrV M) w' h1 (hu.frN f) (hx.frN f) (fun hne g o e q => by have := h2 g q; have := hm0 hne g o e; omega)
  obtain ⟨k, a, t, j, cl, ix, tt, p1, p2, p3, p4, ua, un, uc, lo, va, vn, vc, sa, sn, sc⟩ := M
  unfold mrV mrC at hr hhj ⊢
  simp only at hr hhj hMk hMt ⊢
  have fX := (Fr.refl noB w).alloc (.cells #[.int .i64 k, .int .i64 a, .int .i64 t, .int .i64 j, .int .i64 cl, .int .i64 ix, .int .i64 tt, .int .i64 p1, .int .i64 p2, .int .i64 p3, .int .i64 p4, .slice ua un uc, .bool lo, .slice va vn vc, .slice sa sn sc] 54)
  have bX := Blk.new w 54 [.int .i64 k, .int .i64 a, .int .i64 t, .int .i64 j, .int .i64 cl, .int .i64 ix, .int .i64 tt, .int .i64 p1, .int .i64 p2, .int .i64 p3, .int .i64 p4, .slice ua un uc, .bool lo, .slice va vn vc, .slice sa sn sc]
  replace hr := Lib.hid hr
  replace hhj := Lib.hid hhj
  have hh := Lib.hid h
  have hl' := Lib.hid hl
  have hw' := Lib.hid hw
  replace hx := Lib.hid hx
  replace hm := Lib.hid hm
  replace hno4 := Lib.hid hno4
  replace htj := Lib.hid htj
  have hk1 : (k == 1) = false := by simp; omega
  replace hMk := Lib.hid hMk
  replace hMt := Lib.hid hMt
  clear h hl hw hu hM hok
  go_enter Tryz.func11, Tryz.ntmps11
  go_upto_region 1 with fail
  generalize (w.alloc (.cells #[.int .i64 k, .int .i64 a, .int .i64 t, .int .i64 j, .int .i64 cl, .int .i64 ix, .int .i64 tt, .int .i64 p1, .int .i64 p2, .int .i64 p3, .int .i64 p4, .slice ua un uc, .bool lo, .slice va vn vc, .slice sa sn sc] 54)) = w1 at *
  obtain ⟨gX, hgX⟩ : ∃ g, w.heap.size = g := ⟨_, rfl⟩
  rw [hgX] at bX
  try rw [hgX]
  replace hgX := Lib.hid hgX
  have b1 := bX
  clear bX
  have y0 : w1.cell? ⟨gX, 0, none⟩ = some (.int .i64 k) := b1.cell 0
  have y1 : w1.cell? ⟨gX, 1, none⟩ = some (.int .i64 a) := b1.cell 1
  have y2 : w1.cell? ⟨gX, 2, none⟩ = some (.int .i64 t) := b1.cell 2
  have y3 : w1.cell? ⟨gX, 3, none⟩ = some (.int .i64 j) := b1.cell 3
  have y4 : w1.cell? ⟨gX, 4, none⟩ = some (.int .i64 cl) := b1.cell 4
  have y5 : w1.cell? ⟨gX, 5, none⟩ = some (.int .i64 ix) := b1.cell 5
  have y6 : w1.cell? ⟨gX, 6, none⟩ = some (.int .i64 tt) := b1.cell 6
  have y7 : w1.cell? ⟨gX, 7, none⟩ = some (.int .i64 p1) := b1.cell 7
  have y8 : w1.cell? ⟨gX, 8, none⟩ = some (.int .i64 p2) := b1.cell 8
  have y9 : w1.cell? ⟨gX, 9, none⟩ = some (.int .i64 p3) := b1.cell 9
  have y10 : w1.cell? ⟨gX, 10, none⟩ = some (.int .i64 p4) := b1.cell 10
  have y11 : w1.cell? ⟨gX, 11, none⟩ = some (.slice ua un uc) := b1.cell 11
  have y12 : w1.cell? ⟨gX, 12, none⟩ = some (.bool lo) := b1.cell 12
  have y13 : w1.cell? ⟨gX, 13, none⟩ = some (.slice va vn vc) := b1.cell 13
  have y14 : w1.cell? ⟨gX, 14, none⟩ = some (.slice sa sn sc) := b1.cell 14
  go_wp2_with fail
  go_fit (hr.out w1 fX)
  rintro e w2 ⟨rfl, f2⟩
  have f12 := fX.seqN f2
  have b2 := f2.blk b1 (fun q => q)
  clear y0 y1 y2 y3 y4 y5 y6 y7 y8 y9 y10 y11 y12 y13 y14 fX f2 hr b1
  have z0 : w2.cell? ⟨gX, 0, none⟩ = some (.int .i64 k) := b2.cell 0
  have z2 : w2.cell? ⟨gX, 2, none⟩ = some (.int .i64 t) := b2.cell 2
  have z8 : w2.cell? ⟨gX, 8, none⟩ = some (.int .i64 p2) := b2.cell 8
  have H2 := hh.out.frN f12
  have hf := find_r H2 hn8 m.t
  replace hf := Lib.hid hf
  replace H2 := Lib.hid H2
  replace b2 := Lib.hid b2
  by_cases hk3 : k = 3
  · have hMt := hMt.out
    rw [if_pos hk3] at hMt
    have hd3 : (k == 3) = true := by simp [hk3]
    subst hMt
    replace hk3 := Lib.hid hk3
    go_wp2_with fail
    go_fit hf.out
    rintro e w3 ⟨f3, hres⟩
    have f13 := f12.seqN f3
    have b3 := f3.blk b2.out (fun q => q)
    have H3 := H2.out.frN f3
    clear z0 z2 z8 hf b2 H2
    have y0 : w3.cell? ⟨gX, 0, none⟩ = some (.int .i64 k) := b3.cell 0
    have RR : Rr w z B M0 E C := ⟨ja, jc, R, hh.out, hl'.out⟩
    replace b3 := Lib.hid b3
    replace H3 := Lib.hid H3
    replace RR := Lib.hid RR
    rcases hres with ⟨kk, X, rfl, hX, ht⟩ | ⟨rfl, hno⟩
    rotate_left
    · have hat := at_rl_no hl'.out hno
      have hno := other_none (C := C) (x := x) (by rw [htj.out]; exact hat)
      replace hno := Lib.hid hno
      replace hat := Lib.hid hat
      go_wp2_with fail
      go_returns
      exact RHearTo.no RR.out (fun _ => hno.out) f13
    · obtain ⟨e, he, hat, hjr, hrx⟩ := at_rl hl'.out hw'.out hX
      rw [ht] at hat
      have hoth := other_some (C := C) (x := x) (by rw [htj.out]; exact hat)
      have hp4 := hno4.out e hat
      have hkR : kk < R.length := (List.getElem?_eq_some_iff.1 hX).1
      obtain ⟨X', g, hX', rfl, c0, c1, c3, hj⟩ := H3.out.job (k := kk) hkR
      obtain rfl : X = X' := Option.some.inj (hX.symm.trans hX')
      have c2 : w3.cell? ⟨z, 2, none⟩ = some (.slice (some ⟨g, 0, none⟩) R.length jc) := H3.out.blk.cell 2
      have hXE : ∀ g, X.B g → E g := H3.out.ine.2.2 X (List.mem_of_getElem? hX)
      have hXM : ∀ g, rjB X.r X.gs X.gp X.gf g → M0 ≤ g := fun g hg => Nat.le_trans hMB (H3.out.lo g (hXE g hg)).1
      obtain ⟨n, hn⟩ : ∃ n, R.length = n := ⟨_, rfl⟩
      rw [hn] at c2 hkR
      have hkn : (kk : Int) < n := by omega
      have hk0 : decide ((kk : Int) < 0) = false := by simp
      have hvis := fun w' (f : Fr noB w3 w') => rvisited_any X.r X.gs X.gp X.gf X.q w' (hj.frN f)
      replace hvis := Lib.hid hvis
      replace hjr := Lib.hid hjr
      replace hrx := Lib.hid hrx
      replace he := Lib.hid he
      replace hat := Lib.hid hat
      replace hoth := Lib.hid hoth
      replace hX := Lib.hid hX
      replace hXE := Lib.hid hXE
      replace hXM := Lib.hid hXM
      replace hj := Lib.hid hj
      replace ht := Lib.hid ht
      replace hp4 := Lib.hid hp4
      replace hn := Lib.hid hn
      clear hX'
      go_upto_region 20 with fail
      have hS : ∀ w', Fr noB w3 w' → w'.cell? ⟨X.r, 3, none⟩ = some (.int .i64 X.q.ph) := fun w' f => f.cell c3 (fun q => q)
      replace hS := Lib.hid hS
      clear c0 c1 c2 c3 y0
      go_cut [10, 11] from 97 to 103 (fun vp vn wx => vp = .int .i64 X.q.ph ∧ vn = .int .i64 (visL X.q.S X.q.S.length).length ∧ Fr noB w3 wx)
      case first =>
        go_region_held3 (fun w' => w'.cell? ⟨X.r, 3, none⟩ = some (.int .i64 X.q.ph))
          (first | exact hS.out _ fq | exact hS.out _ ((Fr.refl noB _).drewN 1) | fail)
          (first | (go_at_call 30; refine (hvis.out _ ((Fr.refl noB _).drewN 1)).mono ?_; rintro e7 w7 ⟨u7, rfl, o7, f7⟩; obtain ⟨a7, c7, rfl⟩ := ownsRow_slice o7; have fq := ((Fr.refl noB w3).drewN 1).seqN f7) | fail)
        all_goals (
          go_wp2_with fail
          go_meet
          exact ⟨rfl, rfl, fq⟩)
      case rest =>
        obtain ⟨rfl, rfl, f4⟩ := hcut
        have b4 := f4.blk b3.out (fun q => q)
        have v0 : wc.cell? ⟨gX, 0, none⟩ = some (.int .i64 k) := b4.cell 0
        have v1 : wc.cell? ⟨gX, 1, none⟩ = some (.int .i64 a) := b4.cell 1
        have v2 : wc.cell? ⟨gX, 2, none⟩ = some (.int .i64 t) := b4.cell 2
        have v3 : wc.cell? ⟨gX, 3, none⟩ = some (.int .i64 j) := b4.cell 3
        have v4 : wc.cell? ⟨gX, 4, none⟩ = some (.int .i64 cl) := b4.cell 4
        have v5 : wc.cell? ⟨gX, 5, none⟩ = some (.int .i64 ix) := b4.cell 5
        have v6 : wc.cell? ⟨gX, 6, none⟩ = some (.int .i64 tt) := b4.cell 6
        have v7 : wc.cell? ⟨gX, 7, none⟩ = some (.int .i64 p1) := b4.cell 7
        have v8 : wc.cell? ⟨gX, 8, none⟩ = some (.int .i64 m.t) := b4.cell 8
        have v9 : wc.cell? ⟨gX, 9, none⟩ = some (.int .i64 p3) := b4.cell 9
        have v10 : wc.cell? ⟨gX, 10, none⟩ = some (.int .i64 p4) := b4.cell 10
        have v11 : wc.cell? ⟨gX, 11, none⟩ = some (.slice ua un uc) := b4.cell 11
        have v12 : wc.cell? ⟨gX, 12, none⟩ = some (.bool lo) := b4.cell 12
        have v13 : wc.cell? ⟨gX, 13, none⟩ = some (.slice va vn vc) := b4.cell 13
        have v14 : wc.cell? ⟨gX, 14, none⟩ = some (.slice sa sn sc) := b4.cell 14
        have hj4 := hj.out.frN f4
        have f14 := f13.seqN f4
        have hhear := hhj.out wc f14 X.r X.gs X.gp X.gf X.q hj4 hXM.out
        have H4 := H3.out.frN f4
        replace hhear := Lib.hid hhear
        replace H4 := Lib.hid H4
        clear hS hvis H3 b3 b4 hj4 hj
        go_wp2_with fail
        go_fit hhear.out
        rintro e5 w5 ⟨rfl, hj5, f5⟩
        have hf5 : Fr E w w5 := f14.trans f5 (fun _ _ q => q.elim) (fun g _ q => hXE.out g q)
        have hS5 : ∀ g, g < M0 → ¬ rjB X.r X.gs X.gp X.gf g := fun g hg q => by have := hXM.out g q; omega
        obtain ⟨hhm1, hhm2⟩ := hear_hearM hm.out e.j
        have hjr5 : JRl (e.hear x).j (X.q.hear m) := by
          show JRl (e.j.hearM x) _
          rw [hhm1]; exact hjr.out.hear m hun
        have hx5 := ((hx.out.frN f14).fr1 f5 (fun hne g o n c e => fun q => by have := hm0 hne g o (by injection e); exact hS5 g this q))
        have hrx5 : RdX w5 M0 (X.q.hear m) (e.hear x).X := by
          show RdX w5 M0 _ (e.j.hearXM x e.X)
          rw [hhm2]
          exact (((hrx.out.fr (S := noB) f14 (fun _ _ q => q)).fr f5 hS5)).hear hjr.out m hx5 hm0
        have RR5 : Rr w5 z B M0 E (C.put (e.hear x)) := ⟨_, jc, _, H4.out.upd hX.out hj5 f5, (hl'.out.fr f14 (fun _ _ q => q)).upd hw'.out f5 hS5 he.out (hearM_tr e.j x).1 hX.out hjr5 hrx5⟩
        have hph5 := hjr5.r.ph
        have hph4 : (X.q.hear m).ph ≠ 4 := by rw [hph5]; show (e.j.hearM x).ph ≠ 4; rw [hhm1]; exact hp4.out
        have hphs : (X.q.hear m).ph = X.q.ph ↔ (e.j.hearM x).ph = e.j.ph := by rw [hph5, hjr.out.r.ph]; exact Iff.rfl
        have hal : (visL (X.q.hear m).S (X.q.hear m).S.length).length = (visL X.q.S X.q.S.length).length ↔ (e.j.hearM x).all = e.j.all := by
          rw [← all_ag hjr5, ← all_ag hjr.out]
          exact ⟨fun q => all_eq (fun i hi h => hearM_v e.j x i hi h) q, fun q => by show (e.j.hearM x).all.length = _; rw [q]⟩
        have hnp4 : (e.j.hearM x).ph ≠ 4 := by rw [hhm1]; exact hp4.out
        have c35 : w5.cell? ⟨X.r, 3, none⟩ = some (.int .i64 (X.q.hear m).ph) := hj5.blk.cell 3
        have hvis5 := rvisited_any X.r X.gs X.gp X.gf (X.q.hear m) w5 hj5
        have hout5 := fun w' (f : Fr noB w5 w') => routs_D X.r X.gs X.gp X.gf M0 (e.hear x).j (X.q.hear m) (e.hear x).X w' (hj5.frN f) hjr5 (hrx5.fr f (fun _ _ q => q))
        have hsz := hf5.size
        have hfin : ∀ w' w'' ut uo qa qc, Fr noB w5 w' → RoutP w' w'' M0 (e.hear x).j (e.hear x).X ut uo qa qc → C.told e x = (C.put (e.hear x), some (e.hear x)) → RHearTo (.returned (.tuple #[ut, uo])) w w'' z B M0 E (fun _ => C.other x) := fun w' w'' ut uo qa qc f h10 ht => by
          have hs1 := SaidR.one (e := e.hear x) (M0 := M0) (ut := ut) (uo := uo) (qa := qa) (qc := qc) h10
          refine ⟨ut, uo, E, rfl, fun pn => ?_, fun g hg => Or.inl hg, (hf5.seqN f).seqN h10.2.2.2⟩
          rw [hoth.out, ht]
          exact ⟨hs1.mono (Nat.le_trans hsz f.size), (RR5.frN f).frN h10.2.2.2⟩
        have hstay : ∀ w', Fr noB w5 w' → C.told e x = (C.put (e.hear x), none) → RHearTo (.returned (.tuple #[.slice none 0 0, .slice none 0 0])) w w' z B M0 E (fun _ => C.other x) := fun w' f ht => by
          refine ⟨_, _, E, rfl, fun pn => ?_, fun g hg => Or.inl hg, hf5.seqN f⟩
          rw [hoth.out, ht]
          exact ⟨SaidR.no _ _ _, RR5.frN f⟩
        obtain ⟨P5, hP5⟩ : ∃ y, (X.q.hear m).ph = y := ⟨_, rfl⟩
        rw [hP5] at c35 hph4 hphs
        obtain ⟨L5, hL5⟩ : ∃ y, visL (X.q.hear m).S (X.q.hear m).S.length = y := ⟨_, rfl⟩
        rw [hL5] at hvis5 hal
        obtain ⟨N0, hN0⟩ : ∃ y, (visL X.q.S X.q.S.length).length = y := ⟨_, rfl⟩
        rw [hN0] at hal ⊢
        obtain ⟨N5, hN5⟩ : ∃ y, L5.length = y := ⟨_, rfl⟩
        rw [hN5] at hal hvis5
        have hd4 : (P5 == 4) = false := by simp [hph4]
        have hto := fun h => told_out (C := C) (e := e) (m := x) hnp4 h
        have hst := fun h => told_still (C := C) (e := e) (m := x) hnp4 h
        replace hto := Lib.hid hto
        replace hst := Lib.hid hst
        replace hstay := Lib.hid hstay
        replace hfin := Lib.hid hfin
        replace hvis5 := Lib.hid hvis5
        replace hout5 := Lib.hid hout5
        replace hP5 := Lib.hid hP5
        replace hL5 := Lib.hid hL5
        replace hN5 := Lib.hid hN5
        replace hN0 := Lib.hid hN0
        replace hph4 := Lib.hid hph4
        replace hal := Lib.hid hal
        replace hphs := Lib.hid hphs
        clear hjr5 hrx5 RR5 hj5 f5 hf5 hph5 hhear hx5 hS5 hhm1 hhm2 H4 hnp4 hsz
        by_cases hpp : P5 = X.q.ph
        · have hdp : (P5 != X.q.ph) = false := by simp [hpp]
          replace hpp := Lib.hid hpp
          by_cases hNN : N5 = N0
          · have hdn : ((N5 : Int) != N0) = false := by simp [hNN]
            replace hNN := Lib.hid hNN
            go_wp2_with fail
            go_fit hvis5.out
            rintro e7 w7 ⟨u7, rfl, o7, f7⟩
            obtain ⟨a7, c7, rfl⟩ := ownsRow_slice o7
            clear o7
            have hfin2 := hstay.out w7 f7 (hst.out ⟨hphs.out.1 hpp.out, hal.out.1 hNN.out⟩)
            replace hfin2 := Lib.hid hfin2
            go_wp2_with fail
            go_returns
            exact hfin2.out
          · have hdn : ((N5 : Int) != N0) = true := by simp; omega
            replace hNN := Lib.hid hNN
            go_wp2_with fail
            go_fit hvis5.out
            rintro e7 w7 ⟨u7, rfl, o7, f7⟩
            obtain ⟨a7, c7, rfl⟩ := ownsRow_slice o7
            clear o7
            have ho7 := hout5.out w7 f7
            replace ho7 := Lib.hid ho7
            go_wp2_with fail
            go_fit ho7.out
            rintro e8 w8 ⟨ut, uo, qa, qc, rfl, h8⟩
            have hfin2 := hfin.out w7 w8 ut uo qa qc f7 h8 (hto.out (fun q => hNN.out (hal.out.2 q.2)))
            replace hfin2 := Lib.hid hfin2
            clear h8
            go_wp2_with fail
            go_returns
            exact hfin2.out
        · have hdp : (P5 != X.q.ph) = true := by simp [hpp]
          replace hpp := Lib.hid hpp
          have ho7 := fun nq => hout5.out (w5.drewN nq) ((Fr.refl noB w5).drewN nq)
          go_wp2_with fail
          first
            | (refine (hout5.out _ (Fr.refl _ _)).mono ?_
               rintro e8 w8 ⟨ut, uo, qa, qc, rfl, h8⟩
               have hfin2 := hfin.out _ w8 ut uo qa qc (Fr.refl _ _) h8 (hto.out (fun q => hpp.out (hphs.out.2 q.1)))
               replace hfin2 := Lib.hid hfin2
               clear h8
               go_wp2_with fail
               go_returns
               exact hfin2.out)
  · have hMt := hMt.out
    rw [if_neg hk3] at hMt
    have hd3 : (k == 3) = false := by simp [hk3]
    subst hMt
    replace hk3 := Lib.hid hk3
    go_wp2_with fail
    go_fit hf.out
    rintro e w3 ⟨f3, hres⟩
    have f13 := f12.seqN f3
    have b3 := f3.blk b2.out (fun q => q)
    have H3 := H2.out.frN f3
    clear z0 z2 z8 hf b2 H2
    have y0 : w3.cell? ⟨gX, 0, none⟩ = some (.int .i64 k) := b3.cell 0
    have RR : Rr w z B M0 E C := ⟨ja, jc, R, hh.out, hl'.out⟩
    replace b3 := Lib.hid b3
    replace H3 := Lib.hid H3
    replace RR := Lib.hid RR
    rcases hres with ⟨kk, X, rfl, hX, ht⟩ | ⟨rfl, hno⟩
    rotate_left
    · have hat := at_rl_no hl'.out hno
      have hno := other_none (C := C) (x := x) (by rw [htj.out]; exact hat)
      replace hno := Lib.hid hno
      replace hat := Lib.hid hat
      go_wp2_with fail
      go_returns
      exact RHearTo.no RR.out (fun _ => hno.out) f13
    · obtain ⟨e, he, hat, hjr, hrx⟩ := at_rl hl'.out hw'.out hX
      rw [ht] at hat
      have hoth := other_some (C := C) (x := x) (by rw [htj.out]; exact hat)
      have hp4 := hno4.out e hat
      have hkR : kk < R.length := (List.getElem?_eq_some_iff.1 hX).1
      obtain ⟨X', g, hX', rfl, c0, c1, c3, hj⟩ := H3.out.job (k := kk) hkR
      obtain rfl : X = X' := Option.some.inj (hX.symm.trans hX')
      have c2 : w3.cell? ⟨z, 2, none⟩ = some (.slice (some ⟨g, 0, none⟩) R.length jc) := H3.out.blk.cell 2
      have hXE : ∀ g, X.B g → E g := H3.out.ine.2.2 X (List.mem_of_getElem? hX)
      have hXM : ∀ g, rjB X.r X.gs X.gp X.gf g → M0 ≤ g := fun g hg => Nat.le_trans hMB (H3.out.lo g (hXE g hg)).1
      obtain ⟨n, hn⟩ : ∃ n, R.length = n := ⟨_, rfl⟩
      rw [hn] at c2 hkR
      have hkn : (kk : Int) < n := by omega
      have hk0 : decide ((kk : Int) < 0) = false := by simp
      have hvis := fun w' (f : Fr noB w3 w') => rvisited_any X.r X.gs X.gp X.gf X.q w' (hj.frN f)
      replace hvis := Lib.hid hvis
      replace hjr := Lib.hid hjr
      replace hrx := Lib.hid hrx
      replace he := Lib.hid he
      replace hat := Lib.hid hat
      replace hoth := Lib.hid hoth
      replace hX := Lib.hid hX
      replace hXE := Lib.hid hXE
      replace hXM := Lib.hid hXM
      replace hj := Lib.hid hj
      replace ht := Lib.hid ht
      replace hp4 := Lib.hid hp4
      replace hn := Lib.hid hn
      clear hX'
      go_upto_region 20 with fail
      have hS : ∀ w', Fr noB w3 w' → w'.cell? ⟨X.r, 3, none⟩ = some (.int .i64 X.q.ph) := fun w' f => f.cell c3 (fun q => q)
      replace hS := Lib.hid hS
      clear c0 c1 c2 c3 y0
      go_cut [10, 11] from 97 to 103 (fun vp vn wx => vp = .int .i64 X.q.ph ∧ vn = .int .i64 (visL X.q.S X.q.S.length).length ∧ Fr noB w3 wx)
      case first =>
        go_region_held3 (fun w' => w'.cell? ⟨X.r, 3, none⟩ = some (.int .i64 X.q.ph))
          (first | exact hS.out _ fq | exact hS.out _ ((Fr.refl noB _).drewN 1) | fail)
          (first | (go_at_call 30; refine (hvis.out _ ((Fr.refl noB _).drewN 1)).mono ?_; rintro e7 w7 ⟨u7, rfl, o7, f7⟩; obtain ⟨a7, c7, rfl⟩ := ownsRow_slice o7; have fq := ((Fr.refl noB w3).drewN 1).seqN f7) | fail)
        all_goals (
          go_wp2_with fail
          go_meet
          exact ⟨rfl, rfl, fq⟩)
      case rest =>
        obtain ⟨rfl, rfl, f4⟩ := hcut
        have b4 := f4.blk b3.out (fun q => q)
        have v0 : wc.cell? ⟨gX, 0, none⟩ = some (.int .i64 k) := b4.cell 0
        have v1 : wc.cell? ⟨gX, 1, none⟩ = some (.int .i64 a) := b4.cell 1
        have v2 : wc.cell? ⟨gX, 2, none⟩ = some (.int .i64 m.t) := b4.cell 2
        have v3 : wc.cell? ⟨gX, 3, none⟩ = some (.int .i64 j) := b4.cell 3
        have v4 : wc.cell? ⟨gX, 4, none⟩ = some (.int .i64 cl) := b4.cell 4
        have v5 : wc.cell? ⟨gX, 5, none⟩ = some (.int .i64 ix) := b4.cell 5
        have v6 : wc.cell? ⟨gX, 6, none⟩ = some (.int .i64 tt) := b4.cell 6
        have v7 : wc.cell? ⟨gX, 7, none⟩ = some (.int .i64 p1) := b4.cell 7
        have v8 : wc.cell? ⟨gX, 8, none⟩ = some (.int .i64 p2) := b4.cell 8
        have v9 : wc.cell? ⟨gX, 9, none⟩ = some (.int .i64 p3) := b4.cell 9
        have v10 : wc.cell? ⟨gX, 10, none⟩ = some (.int .i64 p4) := b4.cell 10
        have v11 : wc.cell? ⟨gX, 11, none⟩ = some (.slice ua un uc) := b4.cell 11
        have v12 : wc.cell? ⟨gX, 12, none⟩ = some (.bool lo) := b4.cell 12
        have v13 : wc.cell? ⟨gX, 13, none⟩ = some (.slice va vn vc) := b4.cell 13
        have v14 : wc.cell? ⟨gX, 14, none⟩ = some (.slice sa sn sc) := b4.cell 14
        have hj4 := hj.out.frN f4
        have f14 := f13.seqN f4
        have hhear := hhj.out wc f14 X.r X.gs X.gp X.gf X.q hj4 hXM.out
        have H4 := H3.out.frN f4
        replace hhear := Lib.hid hhear
        replace H4 := Lib.hid H4
        clear hS hvis H3 b3 b4 hj4 hj
        go_wp2_with fail
        go_fit hhear.out
        rintro e5 w5 ⟨rfl, hj5, f5⟩
        have hf5 : Fr E w w5 := f14.trans f5 (fun _ _ q => q.elim) (fun g _ q => hXE.out g q)
        have hS5 : ∀ g, g < M0 → ¬ rjB X.r X.gs X.gp X.gf g := fun g hg q => by have := hXM.out g q; omega
        obtain ⟨hhm1, hhm2⟩ := hear_hearM hm.out e.j
        have hjr5 : JRl (e.hear x).j (X.q.hear m) := by
          show JRl (e.j.hearM x) _
          rw [hhm1]; exact hjr.out.hear m hun
        have hx5 := ((hx.out.frN f14).fr1 f5 (fun hne g o n c e => fun q => by have := hm0 hne g o (by injection e); exact hS5 g this q))
        have hrx5 : RdX w5 M0 (X.q.hear m) (e.hear x).X := by
          show RdX w5 M0 _ (e.j.hearXM x e.X)
          rw [hhm2]
          exact (((hrx.out.fr (S := noB) f14 (fun _ _ q => q)).fr f5 hS5)).hear hjr.out m hx5 hm0
        have RR5 : Rr w5 z B M0 E (C.put (e.hear x)) := ⟨_, jc, _, H4.out.upd hX.out hj5 f5, (hl'.out.fr f14 (fun _ _ q => q)).upd hw'.out f5 hS5 he.out (hearM_tr e.j x).1 hX.out hjr5 hrx5⟩
        have hph5 := hjr5.r.ph
        have hph4 : (X.q.hear m).ph ≠ 4 := by rw [hph5]; show (e.j.hearM x).ph ≠ 4; rw [hhm1]; exact hp4.out
        have hphs : (X.q.hear m).ph = X.q.ph ↔ (e.j.hearM x).ph = e.j.ph := by rw [hph5, hjr.out.r.ph]; exact Iff.rfl
        have hal : (visL (X.q.hear m).S (X.q.hear m).S.length).length = (visL X.q.S X.q.S.length).length ↔ (e.j.hearM x).all = e.j.all := by
          rw [← all_ag hjr5, ← all_ag hjr.out]
          exact ⟨fun q => all_eq (fun i hi h => hearM_v e.j x i hi h) q, fun q => by show (e.j.hearM x).all.length = _; rw [q]⟩
        have hnp4 : (e.j.hearM x).ph ≠ 4 := by rw [hhm1]; exact hp4.out
        have c35 : w5.cell? ⟨X.r, 3, none⟩ = some (.int .i64 (X.q.hear m).ph) := hj5.blk.cell 3
        have hvis5 := rvisited_any X.r X.gs X.gp X.gf (X.q.hear m) w5 hj5
        have hout5 := fun w' (f : Fr noB w5 w') => routs_D X.r X.gs X.gp X.gf M0 (e.hear x).j (X.q.hear m) (e.hear x).X w' (hj5.frN f) hjr5 (hrx5.fr f (fun _ _ q => q))
        have hsz := hf5.size
        have hfin : ∀ w' w'' ut uo qa qc, Fr noB w5 w' → RoutP w' w'' M0 (e.hear x).j (e.hear x).X ut uo qa qc → C.told e x = (C.put (e.hear x), some (e.hear x)) → RHearTo (.returned (.tuple #[ut, uo])) w w'' z B M0 E (fun _ => C.other x) := fun w' w'' ut uo qa qc f h10 ht => by
          have hs1 := SaidR.one (e := e.hear x) (M0 := M0) (ut := ut) (uo := uo) (qa := qa) (qc := qc) h10
          refine ⟨ut, uo, E, rfl, fun pn => ?_, fun g hg => Or.inl hg, (hf5.seqN f).seqN h10.2.2.2⟩
          rw [hoth.out, ht]
          exact ⟨hs1.mono (Nat.le_trans hsz f.size), (RR5.frN f).frN h10.2.2.2⟩
        have hstay : ∀ w', Fr noB w5 w' → C.told e x = (C.put (e.hear x), none) → RHearTo (.returned (.tuple #[.slice none 0 0, .slice none 0 0])) w w' z B M0 E (fun _ => C.other x) := fun w' f ht => by
          refine ⟨_, _, E, rfl, fun pn => ?_, fun g hg => Or.inl hg, hf5.seqN f⟩
          rw [hoth.out, ht]
          exact ⟨SaidR.no _ _ _, RR5.frN f⟩
        obtain ⟨P5, hP5⟩ : ∃ y, (X.q.hear m).ph = y := ⟨_, rfl⟩
        rw [hP5] at c35 hph4 hphs
        obtain ⟨L5, hL5⟩ : ∃ y, visL (X.q.hear m).S (X.q.hear m).S.length = y := ⟨_, rfl⟩
        rw [hL5] at hvis5 hal
        obtain ⟨N0, hN0⟩ : ∃ y, (visL X.q.S X.q.S.length).length = y := ⟨_, rfl⟩
        rw [hN0] at hal ⊢
        obtain ⟨N5, hN5⟩ : ∃ y, L5.length = y := ⟨_, rfl⟩
        rw [hN5] at hal hvis5
        have hd4 : (P5 == 4) = false := by simp [hph4]
        have hto := fun h => told_out (C := C) (e := e) (m := x) hnp4 h
        have hst := fun h => told_still (C := C) (e := e) (m := x) hnp4 h
        replace hto := Lib.hid hto
        replace hst := Lib.hid hst
        replace hstay := Lib.hid hstay
        replace hfin := Lib.hid hfin
        replace hvis5 := Lib.hid hvis5
        replace hout5 := Lib.hid hout5
        replace hP5 := Lib.hid hP5
        replace hL5 := Lib.hid hL5
        replace hN5 := Lib.hid hN5
        replace hN0 := Lib.hid hN0
        replace hph4 := Lib.hid hph4
        replace hal := Lib.hid hal
        replace hphs := Lib.hid hphs
        clear hjr5 hrx5 RR5 hj5 f5 hf5 hph5 hhear hx5 hS5 hhm1 hhm2 H4 hnp4 hsz
        by_cases hpp : P5 = X.q.ph
        · have hdp : (P5 != X.q.ph) = false := by simp [hpp]
          replace hpp := Lib.hid hpp
          by_cases hNN : N5 = N0
          · have hdn : ((N5 : Int) != N0) = false := by simp [hNN]
            replace hNN := Lib.hid hNN
            go_wp2_with fail
            go_fit hvis5.out
            rintro e7 w7 ⟨u7, rfl, o7, f7⟩
            obtain ⟨a7, c7, rfl⟩ := ownsRow_slice o7
            clear o7
            have hfin2 := hstay.out w7 f7 (hst.out ⟨hphs.out.1 hpp.out, hal.out.1 hNN.out⟩)
            replace hfin2 := Lib.hid hfin2
            go_wp2_with fail
            go_returns
            exact hfin2.out
          · have hdn : ((N5 : Int) != N0) = true := by simp; omega
            replace hNN := Lib.hid hNN
            go_wp2_with fail
            go_fit hvis5.out
            rintro e7 w7 ⟨u7, rfl, o7, f7⟩
            obtain ⟨a7, c7, rfl⟩ := ownsRow_slice o7
            clear o7
            have ho7 := hout5.out w7 f7
            replace ho7 := Lib.hid ho7
            go_wp2_with fail
            go_fit ho7.out
            rintro e8 w8 ⟨ut, uo, qa, qc, rfl, h8⟩
            have hfin2 := hfin.out w7 w8 ut uo qa qc f7 h8 (hto.out (fun q => hNN.out (hal.out.2 q.2)))
            replace hfin2 := Lib.hid hfin2
            clear h8
            go_wp2_with fail
            go_returns
            exact hfin2.out
        · have hdp : (P5 != X.q.ph) = true := by simp [hpp]
          replace hpp := Lib.hid hpp
          have ho7 := fun nq => hout5.out (w5.drewN nq) ((Fr.refl noB w5).drewN nq)
          go_wp2_with fail
          first
            | (refine (hout5.out _ (Fr.refl _ _)).mono ?_
               rintro e8 w8 ⟨ut, uo, qa, qc, rfl, h8⟩
               have hfin2 := hfin.out _ w8 ut uo qa qc (Fr.refl _ _) h8 (hto.out (fun q => hpp.out (hphs.out.2 q.1)))
               replace hfin2 := Lib.hid hfin2
               clear h8
               go_wp2_with fail
               go_returns
               exact hfin2.out)
end Go.Proofs.YtidcoddefebdpaaGreat
