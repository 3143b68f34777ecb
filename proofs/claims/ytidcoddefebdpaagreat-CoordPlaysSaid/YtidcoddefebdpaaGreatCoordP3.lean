/-
  The reference's coordinator hears a message that is no trigger, and the job ends: walked.
-/
import Derived.Test.YtidcoddefebdpaaGreatCoB
import Derived.Test.YtidcoddefebdpaaGreatCoordP2
import Derived.Test.YtidcoddefebdpaaGreatCoE
set_option linter.unusedVariables false
set_option linter.unusedSimpArgs false
set_option maxRecDepth 100000
namespace Go.Proofs.YtidcoddefebdpaaGreat
open Go.RowKit Go Go.Maps Go.Lib

theorem wrapK (k : Nat) (h : k ≤ 8) : wrap64 ((k : Int) + 1) = (k : Int) + 1 ∧ IntKind.i64.wrap ((k : Int) + 1) = (k : Int) + 1 := ⟨IntWalk.wrap64_in _ (by omega), by rw [IntKind.wrap_i64]; omega⟩
theorem eraseIdx_mapL {α β : Type} (f : α → β) : ∀ (L : List α) (k : Nat), (L.eraseIdx k).map f = (L.map f).eraseIdx k
  | [], _ => rfl
  | _ :: _, 0 => rfl
  | a :: r, k + 1 => by
    rw [List.eraseIdx_cons_succ, List.map_cons, List.map_cons, List.eraseIdx_cons_succ, eraseIdx_mapL f r k]
theorem told_end {C : CS} {e : JE} {m : Ms} (h4 : (e.j.hearM m).ph = 4) : C.told e m = (C.drop e.j.tr, none) := by unfold CS.told; rw [if_pos h4]
theorem slice_to (g k n c : Nat) (hk : k ≤ c) : ∀ w : World, (Instr.slice 33 (.slice (some ⟨g, 0, none⟩) n c) none (some (.int .i64 (k : Int))) none).run Tryz.prog w = .ok (.slice (some ⟨g, 0, none⟩) k c) w := by
  intro w
  rw [run_slice_h w 33 _ n c Tryz.underlying33 .i64 (k : Int) (by omega) (by omega)]
  have hsz : (sizeOf (Tryz.prog.elem 33)).run Tryz.prog w = .ok 1 w := by kernel_rfl
  rw [hsz]
  show Result.ok (sliced _ 0 (k : Int).toNat c 1) w = _
  unfold sliced
  rw [Int.toNat_natCast]
  split <;> rfl
theorem slice_from (g k n c : Nat) (hk : k ≤ n) : ∃ o, (k < c → o = k) ∧ ∀ w : World, (Instr.slice 33 (.slice (some ⟨g, 0, none⟩) n c) (some (.int .i64 (k : Int))) none none).run Tryz.prog w = .ok (.slice (some ⟨g, o, none⟩) (n - k) (c - k)) w := by
  refine ⟨if c = k then 0 else k, fun h => if_neg (by omega), fun w => ?_⟩
  rw [run_slice_l w 33 _ n c Tryz.underlying33 .i64 (k : Int) (by omega) (by omega)]
  have hsz : (sizeOf (Tryz.prog.elem 33)).run Tryz.prog w = .ok 1 w := by kernel_rfl
  rw [hsz]
  show Result.ok (sliced _ (k : Int).toNat n c 1) w = _
  unfold sliced
  rw [Int.toNat_natCast]
  split
  · rfl
  · show Result.ok (Value.slice (some ((⟨g, 0, none⟩ : Addr).add (k * 1))) _ _) w = _
    rw [add_none, Nat.zero_add, Nat.mul_one]
set_option maxHeartbeats 16000000 in
theorem rhear_end {w : World} {z B M0 : Nat} {E : Nat → Prop} {ja : Option Addr} {jc : Nat} {C : CS} {R : List QE} (h : Rc w z B E ja jc C.ag C.mo C.la C.rf R) (hl : Rl w M0 C R) (hw : C.wf) (m : OpJ) (x : Ms) (hm : m.ms = some x) (hn1 : m.k ≠ 1) (hok : m.okm = true) (M : MR) (hM : LkM m M) (hu : LkV w m (mrV M)) (hx : RdI w (.slice m.ua m.un m.uc) m.xs) (hun : m.un = m.xs.length) (hm0 : m.xs ≠ [] → ∀ g o, m.ua = some ⟨g, o, none⟩ → g < M0) (hMB : M0 ≤ B) (hno4 : ∃ e, C.at m.t = some e ∧ (e.j.hear m).ph = 4) :
    Calls Tryz.prog 11 #[.pointer (some ⟨z, 0, none⟩), mrV M] w fun e w' => RHearTo e w w' z B M0 E (fun _ => C.other x) := by
  have hr := fun w' (f : Fr noB w w') => rright_lk w' (hu.frN f) (hx.frN f)
  simp only [hok] at hr
  have hn8 : R.length ≤ 8 := by rw [← hl.len]; have := hw.len; have := hw.m8; omega
  have hMk := hM.k x hm
  have hMt := hM.t x hm
  have htj := (ms_tj hm).2
  have hhj := fun w' (f : Fr noB w w') (r gs gp gf : Nat) (q : RJ) (h1 : Rj w' r gs gp gf q) (h2 : ∀ g, rjB r gs gp gf g → M0 ≤ g) => rhear_any r gs gp gf q m (mrV M) w' h1 (hu.frN f) (hx.frN f) (fun hne g o e q => by have := h2 g q; have := hm0 hne g o e; omega)
  obtain ⟨k, a, t, j, cl, ix, tt, p1, p2, p3, p4, ua, un, uc, lo, va, vn, vc, sa, sn, sc⟩ := M
  unfold mrV mrC at hr hhj ⊢
  simp only at hr hhj hMk hMt ⊢
  have fX := (Fr.refl noB w).alloc (.cells #[.int .i64 k, .int .i64 a, .int .i64 t, .int .i64 j, .int .i64 cl, .int .i64 ix, .int .i64 tt, .int .i64 p1, .int .i64 p2, .int .i64 p3, .int .i64 p4, .slice ua un uc, .bool lo, .slice va vn vc, .slice sa sn sc] 54)
  have bX := Blk.new w 54 [.int .i64 k, .int .i64 a, .int .i64 t, .int .i64 j, .int .i64 cl, .int .i64 ix, .int .i64 tt, .int .i64 p1, .int .i64 p2, .int .i64 p3, .int .i64 p4, .slice ua un uc, .bool lo, .slice va vn vc, .slice sa sn sc]
  replace hr := Lib.hid hr
  replace hhj := Lib.hid hhj
  have hh := Lib.hid h
  have hl' := Lib.hid hl
  have hw' := Lib.hid hw
  replace hx := Lib.hid hx
  replace hm := Lib.hid hm
  replace hno4 := Lib.hid hno4
  replace htj := Lib.hid htj
  have hk1 : (k == 1) = false := by simp; omega
  replace hMk := Lib.hid hMk
  replace hMt := Lib.hid hMt
  clear h hl hw hu hM hok
  go_enter Tryz.func11, Tryz.ntmps11
  go_upto_region 1 with fail
  generalize (w.alloc (.cells #[.int .i64 k, .int .i64 a, .int .i64 t, .int .i64 j, .int .i64 cl, .int .i64 ix, .int .i64 tt, .int .i64 p1, .int .i64 p2, .int .i64 p3, .int .i64 p4, .slice ua un uc, .bool lo, .slice va vn vc, .slice sa sn sc] 54)) = w1 at *
  obtain ⟨gX, hgX⟩ : ∃ g, w.heap.size = g := ⟨_, rfl⟩
  rw [hgX] at bX
  try rw [hgX]
  replace hgX := Lib.hid hgX
  have b1 := bX
  clear bX
  have y0 : w1.cell? ⟨gX, 0, none⟩ = some (.int .i64 k) := b1.cell 0
  have y1 : w1.cell? ⟨gX, 1, none⟩ = some (.int .i64 a) := b1.cell 1
  have y2 : w1.cell? ⟨gX, 2, none⟩ = some (.int .i64 t) := b1.cell 2
  have y3 : w1.cell? ⟨gX, 3, none⟩ = some (.int .i64 j) := b1.cell 3
  have y4 : w1.cell? ⟨gX, 4, none⟩ = some (.int .i64 cl) := b1.cell 4
  have y5 : w1.cell? ⟨gX, 5, none⟩ = some (.int .i64 ix) := b1.cell 5
  have y6 : w1.cell? ⟨gX, 6, none⟩ = some (.int .i64 tt) := b1.cell 6
  have y7 : w1.cell? ⟨gX, 7, none⟩ = some (.int .i64 p1) := b1.cell 7
  have y8 : w1.cell? ⟨gX, 8, none⟩ = some (.int .i64 p2) := b1.cell 8
  have y9 : w1.cell? ⟨gX, 9, none⟩ = some (.int .i64 p3) := b1.cell 9
  have y10 : w1.cell? ⟨gX, 10, none⟩ = some (.int .i64 p4) := b1.cell 10
  have y11 : w1.cell? ⟨gX, 11, none⟩ = some (.slice ua un uc) := b1.cell 11
  have y12 : w1.cell? ⟨gX, 12, none⟩ = some (.bool lo) := b1.cell 12
  have y13 : w1.cell? ⟨gX, 13, none⟩ = some (.slice va vn vc) := b1.cell 13
  have y14 : w1.cell? ⟨gX, 14, none⟩ = some (.slice sa sn sc) := b1.cell 14
  go_wp2_with fail
  go_fit (hr.out w1 fX)
  rintro e w2 ⟨rfl, f2⟩
  have f12 := fX.seqN f2
  have b2 := f2.blk b1 (fun q => q)
  clear y0 y1 y2 y3 y4 y5 y6 y7 y8 y9 y10 y11 y12 y13 y14 fX f2 hr b1
  have z0 : w2.cell? ⟨gX, 0, none⟩ = some (.int .i64 k) := b2.cell 0
  have z2 : w2.cell? ⟨gX, 2, none⟩ = some (.int .i64 t) := b2.cell 2
  have z8 : w2.cell? ⟨gX, 8, none⟩ = some (.int .i64 p2) := b2.cell 8
  have H2 := hh.out.frN f12
  have hf := find_r H2 hn8 m.t
  replace hf := Lib.hid hf
  replace H2 := Lib.hid H2
  replace b2 := Lib.hid b2
  go_upto_if 19 with fail
  go_cut [6] from 20 to 22 (fun v wx => v = .int .i64 m.t ∧ wx = w2)
  case first =>
    by_cases hk3 : k = 3
    · have hMt := hMt.out
      rw [if_pos hk3] at hMt
      have hd3 : (k == 3) = true := by simp [hk3]
      subst hMt
      replace hk3 := Lib.hid hk3
      go_wp2_with fail
      go_meet
      exact ⟨rfl, rfl⟩
    · have hMt := hMt.out
      rw [if_neg hk3] at hMt
      have hd3 : (k == 3) = false := by simp [hk3]
      subst hMt
      replace hk3 := Lib.hid hk3
      go_wp2_with fail
      go_meet
      exact ⟨rfl, rfl⟩
  case rest =>
    obtain ⟨rfl, hwc⟩ := hcut
    obtain rfl := hwc.symm
    clear hwc
    go_wp2_with fail
    go_fit hf.out
    rintro e w3 ⟨f3, hres⟩
    have f13 := f12.seqN f3
    have b3 := f3.blk b2.out (fun q => q)
    have H3 := H2.out.frN f3
    clear z0 z2 z8 hf b2 H2
    have y0 : w3.cell? ⟨gX, 0, none⟩ = some (.int .i64 k) := b3.cell 0
    have RR : Rr w z B M0 E C := ⟨ja, jc, R, hh.out, hl'.out⟩
    replace b3 := Lib.hid b3
    replace H3 := Lib.hid H3
    replace RR := Lib.hid RR
    rcases hres with ⟨kk, X, rfl, hX, ht⟩ | ⟨rfl, hno⟩
    rotate_left
    · have hat := at_rl_no hl'.out hno
      obtain ⟨e, h1, _⟩ := hno4.out
      rw [hat] at h1
      cases h1
    · obtain ⟨e, he, hat, hjr, hrx⟩ := at_rl hl'.out hw'.out hX
      rw [ht] at hat
      have hoth := other_some (C := C) (x := x) (by rw [htj.out]; exact hat)
      have hp4 : (e.j.hear m).ph = 4 := by
        obtain ⟨e', h1, h2⟩ := hno4.out
        rw [hat] at h1
        injection h1 with h1
        rw [h1]; exact h2
      have hkR : kk < R.length := (List.getElem?_eq_some_iff.1 hX).1
      obtain ⟨X', g, hX', rfl, c0, c1, c3, hj⟩ := H3.out.job (k := kk) hkR
      obtain rfl : X = X' := Option.some.inj (hX.symm.trans hX')
      have c2 : w3.cell? ⟨z, 2, none⟩ = some (.slice (some ⟨g, 0, none⟩) R.length jc) := H3.out.blk.cell 2
      have hXE : ∀ g, X.B g → E g := H3.out.ine.2.2 X (List.mem_of_getElem? hX)
      have hXM : ∀ g, rjB X.r X.gs X.gp X.gf g → M0 ≤ g := fun g hg => Nat.le_trans hMB (H3.out.lo g (hXE g hg)).1
      obtain ⟨n, hn⟩ : ∃ n, R.length = n := ⟨_, rfl⟩
      rw [hn] at c2 hkR
      have hkn : (kk : Int) < n := by omega
      have hk0 : decide ((kk : Int) < 0) = false := by simp
      have hvis := fun w' (f : Fr noB w3 w') => rvisited_any X.r X.gs X.gp X.gf X.q w' (hj.frN f)
      replace hvis := Lib.hid hvis
      replace hjr := Lib.hid hjr
      replace hrx := Lib.hid hrx
      replace he := Lib.hid he
      replace hat := Lib.hid hat
      replace hoth := Lib.hid hoth
      replace hX := Lib.hid hX
      replace hXE := Lib.hid hXE
      replace hXM := Lib.hid hXM
      replace hj := Lib.hid hj
      replace ht := Lib.hid ht
      replace hp4 := Lib.hid hp4
      replace hn := Lib.hid hn
      clear hX'
      go_upto_region 20 with fail
      have hS : ∀ w', Fr noB w3 w' → w'.cell? ⟨X.r, 3, none⟩ = some (.int .i64 X.q.ph) := fun w' f => f.cell c3 (fun q => q)
      replace hS := Lib.hid hS
      clear c0 c1 c2 c3 y0
      go_cut [10, 11] from 97 to 103 (fun vp vn wx => vp = .int .i64 X.q.ph ∧ vn = .int .i64 (visL X.q.S X.q.S.length).length ∧ Fr noB w3 wx)
      case first =>
        go_region_held3 (fun w' => w'.cell? ⟨X.r, 3, none⟩ = some (.int .i64 X.q.ph))
          (first | exact hS.out _ fq | exact hS.out _ ((Fr.refl noB _).drewN 1) | fail)
          (first | (go_at_call 30; refine (hvis.out _ ((Fr.refl noB _).drewN 1)).mono ?_; rintro e7 w7 ⟨u7, rfl, o7, f7⟩; obtain ⟨a7, c7, rfl⟩ := ownsRow_slice o7; have fq := ((Fr.refl noB w3).drewN 1).seqN f7) | fail)
        all_goals (
          go_wp2_with fail
          go_meet
          exact ⟨rfl, rfl, fq⟩)
      case rest =>
        obtain ⟨rfl, rfl, f4⟩ := hcut
        have b4 := f4.blk b3.out (fun q => q)
        have v0 : wc.cell? ⟨gX, 0, none⟩ = some (.int .i64 k) := b4.cell 0
        have v1 : wc.cell? ⟨gX, 1, none⟩ = some (.int .i64 a) := b4.cell 1
        have v2 : wc.cell? ⟨gX, 2, none⟩ = some (.int .i64 t) := b4.cell 2
        have v3 : wc.cell? ⟨gX, 3, none⟩ = some (.int .i64 j) := b4.cell 3
        have v4 : wc.cell? ⟨gX, 4, none⟩ = some (.int .i64 cl) := b4.cell 4
        have v5 : wc.cell? ⟨gX, 5, none⟩ = some (.int .i64 ix) := b4.cell 5
        have v6 : wc.cell? ⟨gX, 6, none⟩ = some (.int .i64 tt) := b4.cell 6
        have v7 : wc.cell? ⟨gX, 7, none⟩ = some (.int .i64 p1) := b4.cell 7
        have v8 : wc.cell? ⟨gX, 8, none⟩ = some (.int .i64 p2) := b4.cell 8
        have v9 : wc.cell? ⟨gX, 9, none⟩ = some (.int .i64 p3) := b4.cell 9
        have v10 : wc.cell? ⟨gX, 10, none⟩ = some (.int .i64 p4) := b4.cell 10
        have v11 : wc.cell? ⟨gX, 11, none⟩ = some (.slice ua un uc) := b4.cell 11
        have v12 : wc.cell? ⟨gX, 12, none⟩ = some (.bool lo) := b4.cell 12
        have v13 : wc.cell? ⟨gX, 13, none⟩ = some (.slice va vn vc) := b4.cell 13
        have v14 : wc.cell? ⟨gX, 14, none⟩ = some (.slice sa sn sc) := b4.cell 14
        have hj4 := hj.out.frN f4
        have f14 := f13.seqN f4
        have hhear := hhj.out wc f14 X.r X.gs X.gp X.gf X.q hj4 hXM.out
        have H4 := H3.out.frN f4
        replace hhear := Lib.hid hhear
        replace H4 := Lib.hid H4
        clear hS hvis H3 b3 b4 hj4 hj
        go_wp2_with fail
        go_fit hhear.out
        rintro e5 w5 ⟨rfl, hj5, f5⟩
        have hf5 : Fr E w w5 := f14.trans f5 (fun _ _ q => q.elim) (fun g _ q => hXE.out g q)
        have hS5 : ∀ g, g < M0 → ¬ rjB X.r X.gs X.gp X.gf g := fun g hg q => by have := hXM.out g q; omega
        obtain ⟨hhm1, hhm2⟩ := hear_hearM hm.out e.j
        have hjr5 : JRl (e.j.hearM x) (X.q.hear m) := by rw [hhm1]; exact hjr.out.hear m hun
        have hR5 := H4.out.upd hX.out hj5 f5
        have hL5 := hl'.out.fr hf5 (fun g hg q => by have := (hh.out.lo g q).1; omega)
        have hph5 := hjr5.r.ph
        rw [hhm1, hp4.out] at hph5
        have c35 : w5.cell? ⟨X.r, 3, none⟩ = some (.int .i64 (X.q.hear m).ph) := hj5.blk.cell 3
        rw [hph5] at c35
        have hte := told_end (C := C) (e := e) (m := x) (by rw [hhm1]; exact hp4.out)
        have hlen5 : (R.set kk (X.to (X.q.hear m))).length = n := by rw [List.length_set]; exact hn.out
        have c25 : w5.cell? ⟨z, 2, none⟩ = some (.slice (some ⟨g, 0, none⟩) n jc) := by have := hR5.blk.cell 2; rw [hlen5] at this; exact this
        have hown5 := hR5.own
        rw [hlen5, set_map QE.v R kk X (X.to (X.q.hear m)) hX.out rfl] at hown5
        have hnc : n ≤ jc := by
          obtain ⟨g', cap, e1, _⟩ := ownsRow_some hown5 (by omega)
          rcases hown5.2 with ⟨h1, h2⟩ | ⟨g2, cap2, cur, h1, _, _, h3, _⟩
          · omega
          · injection h1 with _ _ h4; omega
        have hcs : ∀ (i : Nat) (u : Value), (R.map QE.v)[i]? = some u → w5.cell? ⟨g, i, none⟩ = some u := fun i u hi => by
          have := hown5.cells (g := g) rfl i u hi
          rwa [add_none, Nat.zero_add] at this
        have hs1 := slice_to g kk n jc (by omega)
        obtain ⟨o, ho, hs2⟩ := slice_from g (kk + 1) n jc (by omega)
        have hkc : ((kk + 1 : Nat) : Int) = (kk : Int) + 1 := by omega
        rw [hkc] at hs2
        have hz5 := hR5.blk.frozen 2
        replace hR5 := Lib.hid hR5
        replace hL5 := Lib.hid hL5
        replace hte := Lib.hid hte
        replace hcs := Lib.hid hcs
        replace hown5 := Lib.hid hown5
        replace hf5 := Lib.hid hf5
        replace hlen5 := Lib.hid hlen5
        replace hph5 := Lib.hid hph5
        replace ho := Lib.hid ho
        have hd4 : ((4 : Int) == 4) = true := by decide
        clear hj5 hjr5 hhm1 hhm2 hS5 H4 hhear
        go_upto_region 23 with fail
        obtain ⟨i1, hi1, hz1, hs1i, hb1⟩ := info_of infoPtrK
        have fA : Fr noB w5 (w5.drew.alloc (.cells #[] 58)) := (Fr.refl noB w5).drew.alloc _
        have hX0 : (w5.drew.alloc (.cells #[] 58)).ownsRow w5.heap.size 58 1 (.slice (some ⟨w5.heap.size, 0, none⟩) 0 0) 0 [] := own_new w5.drew 58 [] 1 0 rfl (Nat.zero_le _)
        have cB : (w5.alloc (.cells #[] 58)).cell? ⟨z, 2, none⟩ = some (.slice (some ⟨g, 0, none⟩) n jc) := fA.cell c25 (fun q => q)
        have mixed : Tryz.prog.follows Departure.mixedOrders = true := by kernel_rfl
        have bA := fA.blk hR5.out.blk (fun q => q)
        have cA : (w5.drew.alloc (.cells #[] 58)).cell? ⟨z, 2, none⟩ = some (.slice (some ⟨g, 0, none⟩) n jc) := fA.cell c25 (fun q => q)
        have hmlen : (R.map QE.v).length = n := by rw [List.length_map]; exact hn.out
        obtain ⟨V, hV⟩ : ∃ V, R.map QE.v = V := ⟨_, rfl⟩
        rw [hV] at hmlen hcs
        have hN1 : ∀ (j : Nat) (u : Value), (V.take kk)[j]? = some u → (w5.drew.alloc (.cells #[] 58)).cell? (Addr.add ⟨g, 0, none⟩ j) = some u := fun j u hj => by
          rw [add_none, Nat.zero_add]
          rw [List.getElem?_take] at hj
          split at hj
          · exact fA.cell (hcs.out j u hj) (fun q => q)
          · cases hj
        have hV1 : ∀ u ∈ V, u.oneCell' = true := fun u hu => by
          rw [← hV] at hu
          obtain ⟨y, _, rfl⟩ := List.mem_map.1 hu
          rfl
        have hone1 : ∀ u ∈ V.take kk, u.oneCell' = true := fun u hu => hV1 u (List.mem_of_mem_take hu)
        have hone2 : ∀ u ∈ V.drop (kk + 1), u.oneCell' = true := fun u hu => hV1 u (List.mem_of_mem_drop hu)
        have hl1 : (V.take kk).length = kk * 1 := by rw [List.length_take]; omega
        have hl2 : (V.drop (kk + 1)).length = (n - (kk + 1)) * 1 := by rw [List.length_drop]; omega
        have hzlt : z < w5.heap.size := hR5.out.blk.lt
        have hn88 : n ≤ 8 := by have := hn.out; omega
        have hBA : w5.heap.size ≤ (w5.drew.alloc (.cells #[] 58)).heap.size := fA.size
        have hN2 : ∀ w', Fr noB w5 w' → ∀ (j : Nat) (u : Value), (V.drop (kk + 1))[j]? = some u → w'.cell? (Addr.add ⟨g, o, none⟩ j) = some u := fun w' f j u hj => by
          rw [add_none]
          rw [List.getElem?_drop] at hj
          have hlt := (List.getElem?_eq_some_iff.1 hj).1
          rw [ho.out (by omega)]
          exact f.cell (hcs.out _ u hj) (fun q => q)
        replace hX0 := Lib.hid hX0
        replace hN1 := Lib.hid hN1
        replace hN2 := Lib.hid hN2
        replace hone1 := Lib.hid hone1
        replace hone2 := Lib.hid hone2
        replace hl1 := Lib.hid hl1
        replace hl2 := Lib.hid hl2
        replace hV := Lib.hid hV
        replace hV1 := Lib.hid hV1
        replace hmlen := Lib.hid hmlen
        have bA' := Lib.hid bA
        have fA' := Lib.hid fA
        replace hzlt := Lib.hid hzlt
        have hrow0 : ∀ i, rowB (.slice (some ⟨w5.heap.size, 0, none⟩) 0 0) i → i = w5.heap.size := fun i q => by
          have q2 : (Value.slice (some ⟨w5.heap.size, 0, none⟩) 0 0).ownBlock = some i := q
          simp [Value.ownBlock] at q2
          exact q2.symm
        have hk8 : kk ≤ 8 := by omega
        obtain ⟨hw9, hw10⟩ := wrapK kk hk8
        replace hrow0 := Lib.hid hrow0
        replace hkn := Lib.hid hkn
        replace hkR := Lib.hid hkR
        replace hnc := Lib.hid hnc
        clear bA fA
        go_cut [] from 112 to 130 (fun wx => ∃ (E' : Nat → Prop) (ja' : Option Addr) (jc' : Nat), Rc wx z B E' ja' jc' C.ag C.mo C.la C.rf ((R.set kk (X.to (X.q.hear m))).eraseIdx kk) ∧ (∀ g, E' g → E g ∨ w5.heap.size ≤ g) ∧ Fr E w5 wx)
        case first =>
          refine wp_region_held_drew (S := fun _ => True) (by kernel_rfl) trivial (fun hHeld => ?_)
          clear hHeld
          (refine wpAnyH_take (i := 0) (oi := ?_) (v := ?_) ?_ (by kernel_rfl) (by kernel_rfl) (by kernel_rfl) ?_ ?_ trivial ?_; rotate_left 2; (focus ((simp only [List.getElem?_toArray, List.getElem?_cons_succ, List.getElem?_cons_zero]); try rfl)); (focus (exact (fun _ _ _ h => h))); (focus (refine Or.inl ⟨by rfl, ?_⟩; intro w hSw; go_simp; try with_reducible rfl)); try simp only [Act.put, List.setIfInBounds_toArray, List.set_cons_zero, List.set_cons_succ])
          (refine wpAnyH_take (i := 2) (oi := ?_) (v := ?_) ?_ (by kernel_rfl) (by kernel_rfl) (by kernel_rfl) ?_ ?_ trivial ?_; rotate_left 2; (focus ((simp only [List.getElem?_toArray, List.getElem?_cons_succ, List.getElem?_cons_zero]); try rfl)); (focus (exact (fun _ _ _ h => h))); (focus (refine Or.inl ⟨by rfl, ?_⟩; intro w hSw; go_simp; try with_reducible rfl)); try simp only [Act.put, List.setIfInBounds_toArray, List.set_cons_zero, List.set_cons_succ])
          (refine wpAnyH_take (i := 3) (oi := ?_) (v := ?_) ?_ (by kernel_rfl) (by kernel_rfl) (by kernel_rfl) ?_ ?_ trivial ?_; rotate_left 2; (focus ((simp only [List.getElem?_toArray, List.getElem?_cons_succ, List.getElem?_cons_zero]); try rfl)); (focus (exact (fun _ _ _ h => h))); (focus (refine Or.inl ⟨by rfl, ?_⟩; intro w hSw; go_simp; try with_reducible rfl)); try simp only [Act.put, List.setIfInBounds_toArray, List.set_cons_zero, List.set_cons_succ])
          (refine wpAnyH_take (i := 4) (oi := ?_) (v := ?_) ?_ (by kernel_rfl) (by kernel_rfl) (by kernel_rfl) ?_ ?_ trivial ?_; rotate_left 2; (focus ((simp only [List.getElem?_toArray, List.getElem?_cons_succ, List.getElem?_cons_zero]); try rfl)); (focus (exact (fun _ _ _ h => h))); (focus (refine Or.inl ⟨by rfl, ?_⟩; intro w hSw; go_simp; try with_reducible rfl)); try simp only [Act.put, List.setIfInBounds_toArray, List.set_cons_zero, List.set_cons_succ])
          (refine wpAnyH_take (i := 6) (oi := ?_) (v := ?_) ?_ (by kernel_rfl) (by kernel_rfl) (by kernel_rfl) ?_ ?_ trivial ?_; rotate_left 2; (focus ((simp only [List.getElem?_toArray, List.getElem?_cons_succ, List.getElem?_cons_zero]); try rfl)); (focus (exact (fun _ _ _ h => h))); (focus (refine Or.inl ⟨by rfl, ?_⟩; intro w hSw; go_simp; try with_reducible rfl)); try simp only [Act.put, List.setIfInBounds_toArray, List.set_cons_zero, List.set_cons_succ])
          (refine wpAnyH_take (i := 9) (oi := ?_) (v := ?_) ?_ (by kernel_rfl) (by kernel_rfl) (by kernel_rfl) ?_ ?_ trivial ?_; rotate_left 2; (focus ((simp only [List.getElem?_toArray, List.getElem?_cons_succ, List.getElem?_cons_zero]); try rfl)); (focus (exact (fun _ _ _ h => h))); (focus (refine Or.inl ⟨by rfl, ?_⟩; intro w hSw; go_simp; try with_reducible rfl)); try simp only [Act.put, List.setIfInBounds_toArray, List.set_cons_zero, List.set_cons_succ])
          (refine wpAnyH_take (i := 10) (oi := ?_) (v := ?_) ?_ (by kernel_rfl) (by kernel_rfl) (by kernel_rfl) ?_ ?_ trivial ?_; rotate_left 2; (focus ((simp only [List.getElem?_toArray, List.getElem?_cons_succ, List.getElem?_cons_zero]); try rfl)); (focus (exact (fun _ _ _ h => h))); (focus (refine Or.inl ⟨by rfl, ?_⟩; intro w hSw; go_simp; try with_reducible rfl)); try simp only [Act.put, List.setIfInBounds_toArray, List.set_cons_zero, List.set_cons_succ])
          (refine wpAnyH_take (i := 11) (oi := ?_) (v := ?_) ?_ (by kernel_rfl) (by kernel_rfl) (by kernel_rfl) ?_ ?_ trivial ?_; rotate_left 2; (focus ((simp only [List.getElem?_toArray, List.getElem?_cons_succ, List.getElem?_cons_zero]); try rfl)); (focus (exact (fun _ _ _ h => h))); (focus (refine Or.inl ⟨by rfl, ?_⟩; intro w hSw; go_simp; try with_reducible rfl)); try simp only [Act.put, List.setIfInBounds_toArray, List.set_cons_zero, List.set_cons_succ])
          (refine wpAnyH_take (i := 13) (oi := ?_) (v := ?_) ?_ (by kernel_rfl) (by kernel_rfl) (by kernel_rfl) ?_ ?_ trivial ?_; rotate_left 2; (focus ((simp only [List.getElem?_toArray, List.getElem?_cons_succ, List.getElem?_cons_zero]); try rfl)); (focus (exact (fun _ _ _ h => h))); (focus (refine Or.inl ⟨by rfl, ?_⟩; intro w hSw; go_simp; try with_reducible rfl)); try simp only [Act.put, List.setIfInBounds_toArray, List.set_cons_zero, List.set_cons_succ])
          (refine wpAnyH_take (i := 14) (oi := ?_) (v := ?_) ?_ (by kernel_rfl) (by kernel_rfl) (by kernel_rfl) ?_ ?_ trivial ?_; rotate_left 2; (focus ((simp only [List.getElem?_toArray, List.getElem?_cons_succ, List.getElem?_cons_zero]); try rfl)); (focus (exact (fun _ _ _ h => h))); (focus (refine Or.inl ⟨by rfl, ?_⟩; intro w hSw; go_simp; try with_reducible rfl)); try simp only [Act.put, List.setIfInBounds_toArray, List.set_cons_zero, List.set_cons_succ])
          clear hw9 hw10
          (refine wpAnyH_ready (rs := [1, 5, 12]) (by kernel_rfl) (by simp) (AllReadyH.cons (o := ?_) ?_ (fun K hK => ?_) (AllReadyH.cons (o := ?_) ?_ (fun K hK => ?_) (AllReadyH.cons (o := ?_) ?_ (fun K hK => ?_) AllReadyH.nil))); rotate_left 1; (focus ((simp only [List.getElem?_toArray, List.getElem?_cons_succ, List.getElem?_cons_zero]); try rfl)); rotate_left 2; (focus ((simp only [List.getElem?_toArray, List.getElem?_cons_succ, List.getElem?_cons_zero]); try rfl)); rotate_left 2; (focus ((simp only [List.getElem?_toArray, List.getElem?_cons_succ, List.getElem?_cons_zero]); try rfl)); rotate_left 1)
          · go_simp
            refine hK.out _ _ trivial (fun hHeld => ?_)
            clear hK K hHeld
            try simp only [Act.put, List.setIfInBounds_toArray, List.set_cons_zero, List.set_cons_succ]
            (refine wpAnyH_ready (rs := [5, 12]) (by kernel_rfl) (by simp) (AllReadyH.cons (o := ?_) ?_ (fun K hK => ?_) (AllReadyH.cons (o := ?_) ?_ (fun K hK => ?_) AllReadyH.nil)); rotate_left 1; (focus ((simp only [List.getElem?_toArray, List.getElem?_cons_succ, List.getElem?_cons_zero]); try rfl)); rotate_left 2; (focus ((simp only [List.getElem?_toArray, List.getElem?_cons_succ, List.getElem?_cons_zero]); try rfl)); rotate_left 1)
            · go_simp
              refine hK.out _ _ trivial (fun hHeld => ?_)
              clear hK K hHeld
              try simp only [Act.put, List.setIfInBounds_toArray, List.set_cons_zero, List.set_cons_succ]
              (refine wpAnyH_take (i := 7) (oi := ?_) (v := ?_) ?_ (by kernel_rfl) (by kernel_rfl) (by kernel_rfl) ?_ ?_ trivial ?_; rotate_left 2; (focus ((simp only [List.getElem?_toArray, List.getElem?_cons_succ, List.getElem?_cons_zero]); try rfl)); (focus (exact (fun _ _ _ h => h))); (focus (refine Or.inl ⟨by rfl, ?_⟩; intro w hSw; go_simp; try with_reducible rfl)); try simp only [Act.put, List.setIfInBounds_toArray, List.set_cons_zero, List.set_cons_succ])
              (refine wpAnyH_ready (rs := [8, 12]) (by kernel_rfl) (by simp) (AllReadyH.cons (o := ?_) ?_ (fun K hK => ?_) (AllReadyH.cons (o := ?_) ?_ (fun K hK => ?_) AllReadyH.nil)); rotate_left 1; (focus ((simp only [List.getElem?_toArray, List.getElem?_cons_succ, List.getElem?_cons_zero]); try rfl)); rotate_left 2; (focus ((simp only [List.getElem?_toArray, List.getElem?_cons_succ, List.getElem?_cons_zero]); try rfl)); rotate_left 1)
              · refine step_append_at rfl (.tmp 113) (.tmp 119) 33 rfl w5.heap.size 58 i1 _ 1 8 Tryz.underlying33 hi1 hz1 hs1i hb1 rfl (by decide) (.slice (some ⟨w5.heap.size, 0, none⟩) 0 0) 0 [] (by simp [Act.eval, Act.put]) hX0.out ⟨g, 0, none⟩ kk jc (V.take kk) (by simp [Act.eval, Act.put]) hl1.out hN1.out hone1.out (by unfold maxLen; omega) (by omega) hBA ?_; intro v9 w9 o9 gr9 mv9; have f9 : Fr (rowB (.slice (some ⟨w5.heap.size, 0, none⟩) 0 0)) (w5.drew.alloc (.cells #[] 58)) w9 := (Fr.refl _ _).grown gr9 (fun k hk _ => hk); have f59 : Fr noB w5 w9 := fA'.out.trans f9 (fun _ _ q => q) (fun i hi q => absurd (hrow0.out i q) (by omega)); have k9 : w9.cell? ⟨z, 2, none⟩ = some (.slice (some ⟨g, 0, none⟩) n jc) := f59.cell c25 (fun q => q); have hB9 : w5.heap.size ≤ w9.heap.size := f59.size
                refine hK.out _ _ trivial (fun hHeld => ?_)
                clear hK K hHeld
                try simp only [Act.put, List.setIfInBounds_toArray, List.set_cons_zero, List.set_cons_succ]
                (refine wpAnyH_ready (rs := [12]) (by kernel_rfl) (by simp) (AllReadyH.cons (o := ?_) ?_ (fun K hK => ?_) AllReadyH.nil); rotate_left 1; (focus ((simp only [List.getElem?_toArray, List.getElem?_cons_succ, List.getElem?_cons_zero]); try rfl)))
                go_simp
                refine hK.out _ _ trivial (fun hHeld => ?_)
                clear hK K hHeld
                try simp only [Act.put, List.setIfInBounds_toArray, List.set_cons_zero, List.set_cons_succ]
                (refine wpAnyH_take (i := 15) (oi := ?_) (v := ?_) ?_ (by kernel_rfl) (by kernel_rfl) (by kernel_rfl) ?_ ?_ trivial ?_; rotate_left 2; (focus ((simp only [List.getElem?_toArray, List.getElem?_cons_succ, List.getElem?_cons_zero]); try rfl)); (focus (exact (fun _ _ _ h => h))); (focus (refine Or.inl ⟨by rfl, ?_⟩; intro w hSw; go_simp; try with_reducible rfl)); try simp only [Act.put, List.setIfInBounds_toArray, List.set_cons_zero, List.set_cons_succ])
                (refine wpAnyH_ready (rs := [16]) (by kernel_rfl) (by simp) (AllReadyH.cons (o := ?_) ?_ (fun K hK => ?_) AllReadyH.nil); rotate_left 1; (focus ((simp only [List.getElem?_toArray, List.getElem?_cons_succ, List.getElem?_cons_zero]); try rfl)))
                refine step_append_at rfl (.tmp 120) (.tmp 127) 33 rfl w5.heap.size 58 i1 _ 1 8 Tryz.underlying33 hi1 hz1 hs1i hb1 rfl (by decide) v9 (0 + kk) _ (by simp [Act.eval, Act.put]) o9 ⟨g, o, none⟩ (n - (kk + 1)) (jc - (kk + 1)) (V.drop (kk + 1)) (by simp [Act.eval, Act.put]) hl2.out (hN2.out _ f59) hone2.out (by unfold maxLen; omega) (by omega) hB9 ?_; intro v10 w10 o10 gr10 mv10; obtain ⟨a10, c10, rfl⟩ := ownsRow_slice o10; have f10 : Fr (rowB v9) w9 w10 := (Fr.refl _ _).grown gr10 (fun k hk _ => hk); have f510 : Fr noB w5 w10 := f59.trans f10 (fun _ _ q => q) (fun i hi q => absurd (o9.lt i q).1 (by omega)); have b10 := f510.blk hR5.out.blk (fun q => q); have z10 := b10.frozen 2; have k10 : w10.cell? ⟨z, 2, none⟩ = some (.slice (some ⟨g, 0, none⟩) n jc) := f510.cell c25 (fun q => q)
                refine hK.out _ _ trivial (fun hHeld => ?_)
                clear hK K hHeld
                try simp only [Act.put, List.setIfInBounds_toArray, List.set_cons_zero, List.set_cons_succ]
                (refine wpAnyH_take (i := 17) (oi := ?_) (v := ?_) ?_ (by kernel_rfl) (by kernel_rfl) (by kernel_rfl) ?_ ?_ trivial ?_; rotate_left 2; (focus ((simp only [List.getElem?_toArray, List.getElem?_cons_succ, List.getElem?_cons_zero]); try rfl)); (focus (exact (fun _ _ _ h => h))); (focus (refine Or.inl ⟨by rfl, ?_⟩; intro w hSw; go_simp; try with_reducible rfl)); try simp only [Act.put, List.setIfInBounds_toArray, List.set_cons_zero, List.set_cons_succ])
                (refine wpAnyH_take (i := 18) (oi := ?_) (v := ?_) ?_ (by kernel_rfl) (by kernel_rfl) (by kernel_rfl) ?_ ?_ trivial ?_; rotate_left 2; (focus ((simp only [List.getElem?_toArray, List.getElem?_cons_succ, List.getElem?_cons_zero]); try rfl)); (focus (exact (fun _ _ _ h => h))); (focus (refine Or.inl ⟨by rfl, ?_⟩; intro w hSw; go_simp; try with_reducible rfl)); try simp only [Act.put, List.setIfInBounds_toArray, List.set_cons_zero, List.set_cons_succ])
                (refine wpAnyH_ready (rs := [19]) (by kernel_rfl) (by simp) (AllReadyH.cons (o := ?_) ?_ (fun K hK => ?_) AllReadyH.nil); rotate_left 1; (focus ((simp only [List.getElem?_toArray, List.getElem?_cons_succ, List.getElem?_cons_zero]); try rfl)))
                go_simp
                refine hK.out _ _ trivial (fun hHeld => ?_)
                clear hK K hHeld
                try simp only [Act.put, List.setIfInBounds_toArray, List.set_cons_zero, List.set_cons_succ]
                refine wpAnyH_done (by kernel_rfl) ?_ _
                have eV : ((R.set kk (X.to (X.q.hear m))).eraseIdx kk).map QE.v = V.take kk ++ V.drop (kk + 1) := by
                  rw [erase_app, ← hV.out, List.eraseIdx_set_eq, eraseIdx_mapL]
                have eL : ((R.set kk (X.to (X.q.hear m))).eraseIdx kk).length = kk + (n - (kk + 1)) := by
                  have h1 := congrArg List.length eV
                  rw [List.length_map, List.length_append, hl1.out, hl2.out, Nat.mul_one, Nat.mul_one] at h1
                  exact h1
                rw [Nat.zero_add, List.nil_append, ← eV, ← eL] at o10
                have hdr := fun w4 e4 => hR5.out.drop (k := kk) (by have := hlen5.out; have := hkR.out; omega) f510 o10 (w4 := w4) e4
                rw [eL] at hdr
                replace hdr := Lib.hid hdr
                clear o10 eV eL
                go_wp2_with fail
                go_meet
                obtain ⟨E', h1, h2, h3⟩ := hdr.out _ rfl
                exact ⟨E', _, _, h1, h2, h3⟩
              · go_simp
                refine hK.out _ _ trivial (fun hHeld => ?_)
                clear hK K hHeld
                try simp only [Act.put, List.setIfInBounds_toArray, List.set_cons_zero, List.set_cons_succ]
                (refine wpAnyH_take (i := 15) (oi := ?_) (v := ?_) ?_ (by kernel_rfl) (by kernel_rfl) (by kernel_rfl) ?_ ?_ trivial ?_; rotate_left 2; (focus ((simp only [List.getElem?_toArray, List.getElem?_cons_succ, List.getElem?_cons_zero]); try rfl)); (focus (exact (fun _ _ _ h => h))); (focus (refine Or.inl ⟨by rfl, ?_⟩; intro w hSw; go_simp; try with_reducible rfl)); try simp only [Act.put, List.setIfInBounds_toArray, List.set_cons_zero, List.set_cons_succ])
                (refine wpAnyH_ready (rs := [8]) (by kernel_rfl) (by simp) (AllReadyH.cons (o := ?_) ?_ (fun K hK => ?_) AllReadyH.nil); rotate_left 1; (focus ((simp only [List.getElem?_toArray, List.getElem?_cons_succ, List.getElem?_cons_zero]); try rfl)))
                refine step_append_at rfl (.tmp 113) (.tmp 119) 33 rfl w5.heap.size 58 i1 _ 1 8 Tryz.underlying33 hi1 hz1 hs1i hb1 rfl (by decide) (.slice (some ⟨w5.heap.size, 0, none⟩) 0 0) 0 [] (by simp [Act.eval, Act.put]) hX0.out ⟨g, 0, none⟩ kk jc (V.take kk) (by simp [Act.eval, Act.put]) hl1.out hN1.out hone1.out (by unfold maxLen; omega) (by omega) hBA ?_; intro v9 w9 o9 gr9 mv9; have f9 : Fr (rowB (.slice (some ⟨w5.heap.size, 0, none⟩) 0 0)) (w5.drew.alloc (.cells #[] 58)) w9 := (Fr.refl _ _).grown gr9 (fun k hk _ => hk); have f59 : Fr noB w5 w9 := fA'.out.trans f9 (fun _ _ q => q) (fun i hi q => absurd (hrow0.out i q) (by omega)); have k9 : w9.cell? ⟨z, 2, none⟩ = some (.slice (some ⟨g, 0, none⟩) n jc) := f59.cell c25 (fun q => q); have hB9 : w5.heap.size ≤ w9.heap.size := f59.size
                refine hK.out _ _ trivial (fun hHeld => ?_)
                clear hK K hHeld
                try simp only [Act.put, List.setIfInBounds_toArray, List.set_cons_zero, List.set_cons_succ]
                (refine wpAnyH_ready (rs := [16]) (by kernel_rfl) (by simp) (AllReadyH.cons (o := ?_) ?_ (fun K hK => ?_) AllReadyH.nil); rotate_left 1; (focus ((simp only [List.getElem?_toArray, List.getElem?_cons_succ, List.getElem?_cons_zero]); try rfl)))
                refine step_append_at rfl (.tmp 120) (.tmp 127) 33 rfl w5.heap.size 58 i1 _ 1 8 Tryz.underlying33 hi1 hz1 hs1i hb1 rfl (by decide) v9 (0 + kk) _ (by simp [Act.eval, Act.put]) o9 ⟨g, o, none⟩ (n - (kk + 1)) (jc - (kk + 1)) (V.drop (kk + 1)) (by simp [Act.eval, Act.put]) hl2.out (hN2.out _ f59) hone2.out (by unfold maxLen; omega) (by omega) hB9 ?_; intro v10 w10 o10 gr10 mv10; obtain ⟨a10, c10, rfl⟩ := ownsRow_slice o10; have f10 : Fr (rowB v9) w9 w10 := (Fr.refl _ _).grown gr10 (fun k hk _ => hk); have f510 : Fr noB w5 w10 := f59.trans f10 (fun _ _ q => q) (fun i hi q => absurd (o9.lt i q).1 (by omega)); have b10 := f510.blk hR5.out.blk (fun q => q); have z10 := b10.frozen 2; have k10 : w10.cell? ⟨z, 2, none⟩ = some (.slice (some ⟨g, 0, none⟩) n jc) := f510.cell c25 (fun q => q)
                refine hK.out _ _ trivial (fun hHeld => ?_)
                clear hK K hHeld
                try simp only [Act.put, List.setIfInBounds_toArray, List.set_cons_zero, List.set_cons_succ]
                (refine wpAnyH_take (i := 17) (oi := ?_) (v := ?_) ?_ (by kernel_rfl) (by kernel_rfl) (by kernel_rfl) ?_ ?_ trivial ?_; rotate_left 2; (focus ((simp only [List.getElem?_toArray, List.getElem?_cons_succ, List.getElem?_cons_zero]); try rfl)); (focus (exact (fun _ _ _ h => h))); (focus (refine Or.inl ⟨by rfl, ?_⟩; intro w hSw; go_simp; try with_reducible rfl)); try simp only [Act.put, List.setIfInBounds_toArray, List.set_cons_zero, List.set_cons_succ])
                (refine wpAnyH_take (i := 18) (oi := ?_) (v := ?_) ?_ (by kernel_rfl) (by kernel_rfl) (by kernel_rfl) ?_ ?_ trivial ?_; rotate_left 2; (focus ((simp only [List.getElem?_toArray, List.getElem?_cons_succ, List.getElem?_cons_zero]); try rfl)); (focus (exact (fun _ _ _ h => h))); (focus (refine Or.inl ⟨by rfl, ?_⟩; intro w hSw; go_simp; try with_reducible rfl)); try simp only [Act.put, List.setIfInBounds_toArray, List.set_cons_zero, List.set_cons_succ])
                (refine wpAnyH_ready (rs := [19]) (by kernel_rfl) (by simp) (AllReadyH.cons (o := ?_) ?_ (fun K hK => ?_) AllReadyH.nil); rotate_left 1; (focus ((simp only [List.getElem?_toArray, List.getElem?_cons_succ, List.getElem?_cons_zero]); try rfl)))
                go_simp
                refine hK.out _ _ trivial (fun hHeld => ?_)
                clear hK K hHeld
                try simp only [Act.put, List.setIfInBounds_toArray, List.set_cons_zero, List.set_cons_succ]
                refine wpAnyH_done (by kernel_rfl) ?_ _
                have eV : ((R.set kk (X.to (X.q.hear m))).eraseIdx kk).map QE.v = V.take kk ++ V.drop (kk + 1) := by
                  rw [erase_app, ← hV.out, List.eraseIdx_set_eq, eraseIdx_mapL]
                have eL : ((R.set kk (X.to (X.q.hear m))).eraseIdx kk).length = kk + (n - (kk + 1)) := by
                  have h1 := congrArg List.length eV
                  rw [List.length_map, List.length_append, hl1.out, hl2.out, Nat.mul_one, Nat.mul_one] at h1
                  exact h1
                rw [Nat.zero_add, List.nil_append, ← eV, ← eL] at o10
                have hdr := fun w4 e4 => hR5.out.drop (k := kk) (by have := hlen5.out; have := hkR.out; omega) f510 o10 (w4 := w4) e4
                rw [eL] at hdr
                replace hdr := Lib.hid hdr
                clear o10 eV eL
                go_wp2_with fail
                go_meet
                obtain ⟨E', h1, h2, h3⟩ := hdr.out _ rfl
                exact ⟨E', _, _, h1, h2, h3⟩
            · go_simp
              refine hK.out _ _ trivial (fun hHeld => ?_)
              clear hK K hHeld
              try simp only [Act.put, List.setIfInBounds_toArray, List.set_cons_zero, List.set_cons_succ]
              (refine wpAnyH_take (i := 15) (oi := ?_) (v := ?_) ?_ (by kernel_rfl) (by kernel_rfl) (by kernel_rfl) ?_ ?_ trivial ?_; rotate_left 2; (focus ((simp only [List.getElem?_toArray, List.getElem?_cons_succ, List.getElem?_cons_zero]); try rfl)); (focus (exact (fun _ _ _ h => h))); (focus (refine Or.inl ⟨by rfl, ?_⟩; intro w hSw; go_simp; try with_reducible rfl)); try simp only [Act.put, List.setIfInBounds_toArray, List.set_cons_zero, List.set_cons_succ])
              (refine wpAnyH_ready (rs := [5]) (by kernel_rfl) (by simp) (AllReadyH.cons (o := ?_) ?_ (fun K hK => ?_) AllReadyH.nil); rotate_left 1; (focus ((simp only [List.getElem?_toArray, List.getElem?_cons_succ, List.getElem?_cons_zero]); try rfl)))
              go_simp
              refine hK.out _ _ trivial (fun hHeld => ?_)
              clear hK K hHeld
              try simp only [Act.put, List.setIfInBounds_toArray, List.set_cons_zero, List.set_cons_succ]
              (refine wpAnyH_take (i := 7) (oi := ?_) (v := ?_) ?_ (by kernel_rfl) (by kernel_rfl) (by kernel_rfl) ?_ ?_ trivial ?_; rotate_left 2; (focus ((simp only [List.getElem?_toArray, List.getElem?_cons_succ, List.getElem?_cons_zero]); try rfl)); (focus (exact (fun _ _ _ h => h))); (focus (refine Or.inl ⟨by rfl, ?_⟩; intro w hSw; go_simp; try with_reducible rfl)); try simp only [Act.put, List.setIfInBounds_toArray, List.set_cons_zero, List.set_cons_succ])
              (refine wpAnyH_ready (rs := [8]) (by kernel_rfl) (by simp) (AllReadyH.cons (o := ?_) ?_ (fun K hK => ?_) AllReadyH.nil); rotate_left 1; (focus ((simp only [List.getElem?_toArray, List.getElem?_cons_succ, List.getElem?_cons_zero]); try rfl)))
              refine step_append_at rfl (.tmp 113) (.tmp 119) 33 rfl w5.heap.size 58 i1 _ 1 8 Tryz.underlying33 hi1 hz1 hs1i hb1 rfl (by decide) (.slice (some ⟨w5.heap.size, 0, none⟩) 0 0) 0 [] (by simp [Act.eval, Act.put]) hX0.out ⟨g, 0, none⟩ kk jc (V.take kk) (by simp [Act.eval, Act.put]) hl1.out hN1.out hone1.out (by unfold maxLen; omega) (by omega) hBA ?_; intro v9 w9 o9 gr9 mv9; have f9 : Fr (rowB (.slice (some ⟨w5.heap.size, 0, none⟩) 0 0)) (w5.drew.alloc (.cells #[] 58)) w9 := (Fr.refl _ _).grown gr9 (fun k hk _ => hk); have f59 : Fr noB w5 w9 := fA'.out.trans f9 (fun _ _ q => q) (fun i hi q => absurd (hrow0.out i q) (by omega)); have k9 : w9.cell? ⟨z, 2, none⟩ = some (.slice (some ⟨g, 0, none⟩) n jc) := f59.cell c25 (fun q => q); have hB9 : w5.heap.size ≤ w9.heap.size := f59.size
              refine hK.out _ _ trivial (fun hHeld => ?_)
              clear hK K hHeld
              try simp only [Act.put, List.setIfInBounds_toArray, List.set_cons_zero, List.set_cons_succ]
              (refine wpAnyH_ready (rs := [16]) (by kernel_rfl) (by simp) (AllReadyH.cons (o := ?_) ?_ (fun K hK => ?_) AllReadyH.nil); rotate_left 1; (focus ((simp only [List.getElem?_toArray, List.getElem?_cons_succ, List.getElem?_cons_zero]); try rfl)))
              refine step_append_at rfl (.tmp 120) (.tmp 127) 33 rfl w5.heap.size 58 i1 _ 1 8 Tryz.underlying33 hi1 hz1 hs1i hb1 rfl (by decide) v9 (0 + kk) _ (by simp [Act.eval, Act.put]) o9 ⟨g, o, none⟩ (n - (kk + 1)) (jc - (kk + 1)) (V.drop (kk + 1)) (by simp [Act.eval, Act.put]) hl2.out (hN2.out _ f59) hone2.out (by unfold maxLen; omega) (by omega) hB9 ?_; intro v10 w10 o10 gr10 mv10; obtain ⟨a10, c10, rfl⟩ := ownsRow_slice o10; have f10 : Fr (rowB v9) w9 w10 := (Fr.refl _ _).grown gr10 (fun k hk _ => hk); have f510 : Fr noB w5 w10 := f59.trans f10 (fun _ _ q => q) (fun i hi q => absurd (o9.lt i q).1 (by omega)); have b10 := f510.blk hR5.out.blk (fun q => q); have z10 := b10.frozen 2; have k10 : w10.cell? ⟨z, 2, none⟩ = some (.slice (some ⟨g, 0, none⟩) n jc) := f510.cell c25 (fun q => q)
              refine hK.out _ _ trivial (fun hHeld => ?_)
              clear hK K hHeld
              try simp only [Act.put, List.setIfInBounds_toArray, List.set_cons_zero, List.set_cons_succ]
              (refine wpAnyH_take (i := 17) (oi := ?_) (v := ?_) ?_ (by kernel_rfl) (by kernel_rfl) (by kernel_rfl) ?_ ?_ trivial ?_; rotate_left 2; (focus ((simp only [List.getElem?_toArray, List.getElem?_cons_succ, List.getElem?_cons_zero]); try rfl)); (focus (exact (fun _ _ _ h => h))); (focus (refine Or.inl ⟨by rfl, ?_⟩; intro w hSw; go_simp; try with_reducible rfl)); try simp only [Act.put, List.setIfInBounds_toArray, List.set_cons_zero, List.set_cons_succ])
              (refine wpAnyH_take (i := 18) (oi := ?_) (v := ?_) ?_ (by kernel_rfl) (by kernel_rfl) (by kernel_rfl) ?_ ?_ trivial ?_; rotate_left 2; (focus ((simp only [List.getElem?_toArray, List.getElem?_cons_succ, List.getElem?_cons_zero]); try rfl)); (focus (exact (fun _ _ _ h => h))); (focus (refine Or.inl ⟨by rfl, ?_⟩; intro w hSw; go_simp; try with_reducible rfl)); try simp only [Act.put, List.setIfInBounds_toArray, List.set_cons_zero, List.set_cons_succ])
              (refine wpAnyH_ready (rs := [19]) (by kernel_rfl) (by simp) (AllReadyH.cons (o := ?_) ?_ (fun K hK => ?_) AllReadyH.nil); rotate_left 1; (focus ((simp only [List.getElem?_toArray, List.getElem?_cons_succ, List.getElem?_cons_zero]); try rfl)))
              go_simp
              refine hK.out _ _ trivial (fun hHeld => ?_)
              clear hK K hHeld
              try simp only [Act.put, List.setIfInBounds_toArray, List.set_cons_zero, List.set_cons_succ]
              refine wpAnyH_done (by kernel_rfl) ?_ _
              have eV : ((R.set kk (X.to (X.q.hear m))).eraseIdx kk).map QE.v = V.take kk ++ V.drop (kk + 1) := by
                rw [erase_app, ← hV.out, List.eraseIdx_set_eq, eraseIdx_mapL]
              have eL : ((R.set kk (X.to (X.q.hear m))).eraseIdx kk).length = kk + (n - (kk + 1)) := by
                have h1 := congrArg List.length eV
                rw [List.length_map, List.length_append, hl1.out, hl2.out, Nat.mul_one, Nat.mul_one] at h1
                exact h1
              rw [Nat.zero_add, List.nil_append, ← eV, ← eL] at o10
              have hdr := fun w4 e4 => hR5.out.drop (k := kk) (by have := hlen5.out; have := hkR.out; omega) f510 o10 (w4 := w4) e4
              rw [eL] at hdr
              replace hdr := Lib.hid hdr
              clear o10 eV eL
              go_wp2_with fail
              go_meet
              obtain ⟨E', h1, h2, h3⟩ := hdr.out _ rfl
              exact ⟨E', _, _, h1, h2, h3⟩
          · go_simp
            refine hK.out _ _ trivial (fun hHeld => ?_)
            clear hK K hHeld
            try simp only [Act.put, List.setIfInBounds_toArray, List.set_cons_zero, List.set_cons_succ]
            (refine wpAnyH_take (i := 7) (oi := ?_) (v := ?_) ?_ (by kernel_rfl) (by kernel_rfl) (by kernel_rfl) ?_ ?_ trivial ?_; rotate_left 2; (focus ((simp only [List.getElem?_toArray, List.getElem?_cons_succ, List.getElem?_cons_zero]); try rfl)); (focus (exact (fun _ _ _ h => h))); (focus (refine Or.inl ⟨by rfl, ?_⟩; intro w hSw; go_simp; try with_reducible rfl)); try simp only [Act.put, List.setIfInBounds_toArray, List.set_cons_zero, List.set_cons_succ])
            (refine wpAnyH_ready (rs := [1, 12]) (by kernel_rfl) (by simp) (AllReadyH.cons (o := ?_) ?_ (fun K hK => ?_) (AllReadyH.cons (o := ?_) ?_ (fun K hK => ?_) AllReadyH.nil)); rotate_left 1; (focus ((simp only [List.getElem?_toArray, List.getElem?_cons_succ, List.getElem?_cons_zero]); try rfl)); rotate_left 2; (focus ((simp only [List.getElem?_toArray, List.getElem?_cons_succ, List.getElem?_cons_zero]); try rfl)); rotate_left 1)
            · go_simp
              refine hK.out _ _ trivial (fun hHeld => ?_)
              clear hK K hHeld
              try simp only [Act.put, List.setIfInBounds_toArray, List.set_cons_zero, List.set_cons_succ]
              (refine wpAnyH_ready (rs := [8, 12]) (by kernel_rfl) (by simp) (AllReadyH.cons (o := ?_) ?_ (fun K hK => ?_) (AllReadyH.cons (o := ?_) ?_ (fun K hK => ?_) AllReadyH.nil)); rotate_left 1; (focus ((simp only [List.getElem?_toArray, List.getElem?_cons_succ, List.getElem?_cons_zero]); try rfl)); rotate_left 2; (focus ((simp only [List.getElem?_toArray, List.getElem?_cons_succ, List.getElem?_cons_zero]); try rfl)); rotate_left 1)
              · refine step_append_at rfl (.tmp 113) (.tmp 119) 33 rfl w5.heap.size 58 i1 _ 1 8 Tryz.underlying33 hi1 hz1 hs1i hb1 rfl (by decide) (.slice (some ⟨w5.heap.size, 0, none⟩) 0 0) 0 [] (by simp [Act.eval, Act.put]) hX0.out ⟨g, 0, none⟩ kk jc (V.take kk) (by simp [Act.eval, Act.put]) hl1.out hN1.out hone1.out (by unfold maxLen; omega) (by omega) hBA ?_; intro v9 w9 o9 gr9 mv9; have f9 : Fr (rowB (.slice (some ⟨w5.heap.size, 0, none⟩) 0 0)) (w5.drew.alloc (.cells #[] 58)) w9 := (Fr.refl _ _).grown gr9 (fun k hk _ => hk); have f59 : Fr noB w5 w9 := fA'.out.trans f9 (fun _ _ q => q) (fun i hi q => absurd (hrow0.out i q) (by omega)); have k9 : w9.cell? ⟨z, 2, none⟩ = some (.slice (some ⟨g, 0, none⟩) n jc) := f59.cell c25 (fun q => q); have hB9 : w5.heap.size ≤ w9.heap.size := f59.size
                refine hK.out _ _ trivial (fun hHeld => ?_)
                clear hK K hHeld
                try simp only [Act.put, List.setIfInBounds_toArray, List.set_cons_zero, List.set_cons_succ]
                (refine wpAnyH_ready (rs := [12]) (by kernel_rfl) (by simp) (AllReadyH.cons (o := ?_) ?_ (fun K hK => ?_) AllReadyH.nil); rotate_left 1; (focus ((simp only [List.getElem?_toArray, List.getElem?_cons_succ, List.getElem?_cons_zero]); try rfl)))
                go_simp
                refine hK.out _ _ trivial (fun hHeld => ?_)
                clear hK K hHeld
                try simp only [Act.put, List.setIfInBounds_toArray, List.set_cons_zero, List.set_cons_succ]
                (refine wpAnyH_take (i := 15) (oi := ?_) (v := ?_) ?_ (by kernel_rfl) (by kernel_rfl) (by kernel_rfl) ?_ ?_ trivial ?_; rotate_left 2; (focus ((simp only [List.getElem?_toArray, List.getElem?_cons_succ, List.getElem?_cons_zero]); try rfl)); (focus (exact (fun _ _ _ h => h))); (focus (refine Or.inl ⟨by rfl, ?_⟩; intro w hSw; go_simp; try with_reducible rfl)); try simp only [Act.put, List.setIfInBounds_toArray, List.set_cons_zero, List.set_cons_succ])
                (refine wpAnyH_ready (rs := [16]) (by kernel_rfl) (by simp) (AllReadyH.cons (o := ?_) ?_ (fun K hK => ?_) AllReadyH.nil); rotate_left 1; (focus ((simp only [List.getElem?_toArray, List.getElem?_cons_succ, List.getElem?_cons_zero]); try rfl)))
                refine step_append_at rfl (.tmp 120) (.tmp 127) 33 rfl w5.heap.size 58 i1 _ 1 8 Tryz.underlying33 hi1 hz1 hs1i hb1 rfl (by decide) v9 (0 + kk) _ (by simp [Act.eval, Act.put]) o9 ⟨g, o, none⟩ (n - (kk + 1)) (jc - (kk + 1)) (V.drop (kk + 1)) (by simp [Act.eval, Act.put]) hl2.out (hN2.out _ f59) hone2.out (by unfold maxLen; omega) (by omega) hB9 ?_; intro v10 w10 o10 gr10 mv10; obtain ⟨a10, c10, rfl⟩ := ownsRow_slice o10; have f10 : Fr (rowB v9) w9 w10 := (Fr.refl _ _).grown gr10 (fun k hk _ => hk); have f510 : Fr noB w5 w10 := f59.trans f10 (fun _ _ q => q) (fun i hi q => absurd (o9.lt i q).1 (by omega)); have b10 := f510.blk hR5.out.blk (fun q => q); have z10 := b10.frozen 2; have k10 : w10.cell? ⟨z, 2, none⟩ = some (.slice (some ⟨g, 0, none⟩) n jc) := f510.cell c25 (fun q => q)
                refine hK.out _ _ trivial (fun hHeld => ?_)
                clear hK K hHeld
                try simp only [Act.put, List.setIfInBounds_toArray, List.set_cons_zero, List.set_cons_succ]
                (refine wpAnyH_take (i := 17) (oi := ?_) (v := ?_) ?_ (by kernel_rfl) (by kernel_rfl) (by kernel_rfl) ?_ ?_ trivial ?_; rotate_left 2; (focus ((simp only [List.getElem?_toArray, List.getElem?_cons_succ, List.getElem?_cons_zero]); try rfl)); (focus (exact (fun _ _ _ h => h))); (focus (refine Or.inl ⟨by rfl, ?_⟩; intro w hSw; go_simp; try with_reducible rfl)); try simp only [Act.put, List.setIfInBounds_toArray, List.set_cons_zero, List.set_cons_succ])
                (refine wpAnyH_take (i := 18) (oi := ?_) (v := ?_) ?_ (by kernel_rfl) (by kernel_rfl) (by kernel_rfl) ?_ ?_ trivial ?_; rotate_left 2; (focus ((simp only [List.getElem?_toArray, List.getElem?_cons_succ, List.getElem?_cons_zero]); try rfl)); (focus (exact (fun _ _ _ h => h))); (focus (refine Or.inl ⟨by rfl, ?_⟩; intro w hSw; go_simp; try with_reducible rfl)); try simp only [Act.put, List.setIfInBounds_toArray, List.set_cons_zero, List.set_cons_succ])
                (refine wpAnyH_ready (rs := [19]) (by kernel_rfl) (by simp) (AllReadyH.cons (o := ?_) ?_ (fun K hK => ?_) AllReadyH.nil); rotate_left 1; (focus ((simp only [List.getElem?_toArray, List.getElem?_cons_succ, List.getElem?_cons_zero]); try rfl)))
                go_simp
                refine hK.out _ _ trivial (fun hHeld => ?_)
                clear hK K hHeld
                try simp only [Act.put, List.setIfInBounds_toArray, List.set_cons_zero, List.set_cons_succ]
                refine wpAnyH_done (by kernel_rfl) ?_ _
                have eV : ((R.set kk (X.to (X.q.hear m))).eraseIdx kk).map QE.v = V.take kk ++ V.drop (kk + 1) := by
                  rw [erase_app, ← hV.out, List.eraseIdx_set_eq, eraseIdx_mapL]
                have eL : ((R.set kk (X.to (X.q.hear m))).eraseIdx kk).length = kk + (n - (kk + 1)) := by
                  have h1 := congrArg List.length eV
                  rw [List.length_map, List.length_append, hl1.out, hl2.out, Nat.mul_one, Nat.mul_one] at h1
                  exact h1
                rw [Nat.zero_add, List.nil_append, ← eV, ← eL] at o10
                have hdr := fun w4 e4 => hR5.out.drop (k := kk) (by have := hlen5.out; have := hkR.out; omega) f510 o10 (w4 := w4) e4
                rw [eL] at hdr
                replace hdr := Lib.hid hdr
                clear o10 eV eL
                go_wp2_with fail
                go_meet
                obtain ⟨E', h1, h2, h3⟩ := hdr.out _ rfl
                exact ⟨E', _, _, h1, h2, h3⟩
              · go_simp
                refine hK.out _ _ trivial (fun hHeld => ?_)
                clear hK K hHeld
                try simp only [Act.put, List.setIfInBounds_toArray, List.set_cons_zero, List.set_cons_succ]
                (refine wpAnyH_take (i := 15) (oi := ?_) (v := ?_) ?_ (by kernel_rfl) (by kernel_rfl) (by kernel_rfl) ?_ ?_ trivial ?_; rotate_left 2; (focus ((simp only [List.getElem?_toArray, List.getElem?_cons_succ, List.getElem?_cons_zero]); try rfl)); (focus (exact (fun _ _ _ h => h))); (focus (refine Or.inl ⟨by rfl, ?_⟩; intro w hSw; go_simp; try with_reducible rfl)); try simp only [Act.put, List.setIfInBounds_toArray, List.set_cons_zero, List.set_cons_succ])
                (refine wpAnyH_ready (rs := [8]) (by kernel_rfl) (by simp) (AllReadyH.cons (o := ?_) ?_ (fun K hK => ?_) AllReadyH.nil); rotate_left 1; (focus ((simp only [List.getElem?_toArray, List.getElem?_cons_succ, List.getElem?_cons_zero]); try rfl)))
                refine step_append_at rfl (.tmp 113) (.tmp 119) 33 rfl w5.heap.size 58 i1 _ 1 8 Tryz.underlying33 hi1 hz1 hs1i hb1 rfl (by decide) (.slice (some ⟨w5.heap.size, 0, none⟩) 0 0) 0 [] (by simp [Act.eval, Act.put]) hX0.out ⟨g, 0, none⟩ kk jc (V.take kk) (by simp [Act.eval, Act.put]) hl1.out hN1.out hone1.out (by unfold maxLen; omega) (by omega) hBA ?_; intro v9 w9 o9 gr9 mv9; have f9 : Fr (rowB (.slice (some ⟨w5.heap.size, 0, none⟩) 0 0)) (w5.drew.alloc (.cells #[] 58)) w9 := (Fr.refl _ _).grown gr9 (fun k hk _ => hk); have f59 : Fr noB w5 w9 := fA'.out.trans f9 (fun _ _ q => q) (fun i hi q => absurd (hrow0.out i q) (by omega)); have k9 : w9.cell? ⟨z, 2, none⟩ = some (.slice (some ⟨g, 0, none⟩) n jc) := f59.cell c25 (fun q => q); have hB9 : w5.heap.size ≤ w9.heap.size := f59.size
                refine hK.out _ _ trivial (fun hHeld => ?_)
                clear hK K hHeld
                try simp only [Act.put, List.setIfInBounds_toArray, List.set_cons_zero, List.set_cons_succ]
                (refine wpAnyH_ready (rs := [16]) (by kernel_rfl) (by simp) (AllReadyH.cons (o := ?_) ?_ (fun K hK => ?_) AllReadyH.nil); rotate_left 1; (focus ((simp only [List.getElem?_toArray, List.getElem?_cons_succ, List.getElem?_cons_zero]); try rfl)))
                refine step_append_at rfl (.tmp 120) (.tmp 127) 33 rfl w5.heap.size 58 i1 _ 1 8 Tryz.underlying33 hi1 hz1 hs1i hb1 rfl (by decide) v9 (0 + kk) _ (by simp [Act.eval, Act.put]) o9 ⟨g, o, none⟩ (n - (kk + 1)) (jc - (kk + 1)) (V.drop (kk + 1)) (by simp [Act.eval, Act.put]) hl2.out (hN2.out _ f59) hone2.out (by unfold maxLen; omega) (by omega) hB9 ?_; intro v10 w10 o10 gr10 mv10; obtain ⟨a10, c10, rfl⟩ := ownsRow_slice o10; have f10 : Fr (rowB v9) w9 w10 := (Fr.refl _ _).grown gr10 (fun k hk _ => hk); have f510 : Fr noB w5 w10 := f59.trans f10 (fun _ _ q => q) (fun i hi q => absurd (o9.lt i q).1 (by omega)); have b10 := f510.blk hR5.out.blk (fun q => q); have z10 := b10.frozen 2; have k10 : w10.cell? ⟨z, 2, none⟩ = some (.slice (some ⟨g, 0, none⟩) n jc) := f510.cell c25 (fun q => q)
                refine hK.out _ _ trivial (fun hHeld => ?_)
                clear hK K hHeld
                try simp only [Act.put, List.setIfInBounds_toArray, List.set_cons_zero, List.set_cons_succ]
                (refine wpAnyH_take (i := 17) (oi := ?_) (v := ?_) ?_ (by kernel_rfl) (by kernel_rfl) (by kernel_rfl) ?_ ?_ trivial ?_; rotate_left 2; (focus ((simp only [List.getElem?_toArray, List.getElem?_cons_succ, List.getElem?_cons_zero]); try rfl)); (focus (exact (fun _ _ _ h => h))); (focus (refine Or.inl ⟨by rfl, ?_⟩; intro w hSw; go_simp; try with_reducible rfl)); try simp only [Act.put, List.setIfInBounds_toArray, List.set_cons_zero, List.set_cons_succ])
                (refine wpAnyH_take (i := 18) (oi := ?_) (v := ?_) ?_ (by kernel_rfl) (by kernel_rfl) (by kernel_rfl) ?_ ?_ trivial ?_; rotate_left 2; (focus ((simp only [List.getElem?_toArray, List.getElem?_cons_succ, List.getElem?_cons_zero]); try rfl)); (focus (exact (fun _ _ _ h => h))); (focus (refine Or.inl ⟨by rfl, ?_⟩; intro w hSw; go_simp; try with_reducible rfl)); try simp only [Act.put, List.setIfInBounds_toArray, List.set_cons_zero, List.set_cons_succ])
                (refine wpAnyH_ready (rs := [19]) (by kernel_rfl) (by simp) (AllReadyH.cons (o := ?_) ?_ (fun K hK => ?_) AllReadyH.nil); rotate_left 1; (focus ((simp only [List.getElem?_toArray, List.getElem?_cons_succ, List.getElem?_cons_zero]); try rfl)))
                go_simp
                refine hK.out _ _ trivial (fun hHeld => ?_)
                clear hK K hHeld
                try simp only [Act.put, List.setIfInBounds_toArray, List.set_cons_zero, List.set_cons_succ]
                refine wpAnyH_done (by kernel_rfl) ?_ _
                have eV : ((R.set kk (X.to (X.q.hear m))).eraseIdx kk).map QE.v = V.take kk ++ V.drop (kk + 1) := by
                  rw [erase_app, ← hV.out, List.eraseIdx_set_eq, eraseIdx_mapL]
                have eL : ((R.set kk (X.to (X.q.hear m))).eraseIdx kk).length = kk + (n - (kk + 1)) := by
                  have h1 := congrArg List.length eV
                  rw [List.length_map, List.length_append, hl1.out, hl2.out, Nat.mul_one, Nat.mul_one] at h1
                  exact h1
                rw [Nat.zero_add, List.nil_append, ← eV, ← eL] at o10
                have hdr := fun w4 e4 => hR5.out.drop (k := kk) (by have := hlen5.out; have := hkR.out; omega) f510 o10 (w4 := w4) e4
                rw [eL] at hdr
                replace hdr := Lib.hid hdr
                clear o10 eV eL
                go_wp2_with fail
                go_meet
                obtain ⟨E', h1, h2, h3⟩ := hdr.out _ rfl
                exact ⟨E', _, _, h1, h2, h3⟩
            · go_simp
              refine hK.out _ _ trivial (fun hHeld => ?_)
              clear hK K hHeld
              try simp only [Act.put, List.setIfInBounds_toArray, List.set_cons_zero, List.set_cons_succ]
              (refine wpAnyH_take (i := 15) (oi := ?_) (v := ?_) ?_ (by kernel_rfl) (by kernel_rfl) (by kernel_rfl) ?_ ?_ trivial ?_; rotate_left 2; (focus ((simp only [List.getElem?_toArray, List.getElem?_cons_succ, List.getElem?_cons_zero]); try rfl)); (focus (exact (fun _ _ _ h => h))); (focus (refine Or.inl ⟨by rfl, ?_⟩; intro w hSw; go_simp; try with_reducible rfl)); try simp only [Act.put, List.setIfInBounds_toArray, List.set_cons_zero, List.set_cons_succ])
              (refine wpAnyH_ready (rs := [1]) (by kernel_rfl) (by simp) (AllReadyH.cons (o := ?_) ?_ (fun K hK => ?_) AllReadyH.nil); rotate_left 1; (focus ((simp only [List.getElem?_toArray, List.getElem?_cons_succ, List.getElem?_cons_zero]); try rfl)))
              go_simp
              refine hK.out _ _ trivial (fun hHeld => ?_)
              clear hK K hHeld
              try simp only [Act.put, List.setIfInBounds_toArray, List.set_cons_zero, List.set_cons_succ]
              (refine wpAnyH_ready (rs := [8]) (by kernel_rfl) (by simp) (AllReadyH.cons (o := ?_) ?_ (fun K hK => ?_) AllReadyH.nil); rotate_left 1; (focus ((simp only [List.getElem?_toArray, List.getElem?_cons_succ, List.getElem?_cons_zero]); try rfl)))
              refine step_append_at rfl (.tmp 113) (.tmp 119) 33 rfl w5.heap.size 58 i1 _ 1 8 Tryz.underlying33 hi1 hz1 hs1i hb1 rfl (by decide) (.slice (some ⟨w5.heap.size, 0, none⟩) 0 0) 0 [] (by simp [Act.eval, Act.put]) hX0.out ⟨g, 0, none⟩ kk jc (V.take kk) (by simp [Act.eval, Act.put]) hl1.out hN1.out hone1.out (by unfold maxLen; omega) (by omega) hBA ?_; intro v9 w9 o9 gr9 mv9; have f9 : Fr (rowB (.slice (some ⟨w5.heap.size, 0, none⟩) 0 0)) (w5.drew.alloc (.cells #[] 58)) w9 := (Fr.refl _ _).grown gr9 (fun k hk _ => hk); have f59 : Fr noB w5 w9 := fA'.out.trans f9 (fun _ _ q => q) (fun i hi q => absurd (hrow0.out i q) (by omega)); have k9 : w9.cell? ⟨z, 2, none⟩ = some (.slice (some ⟨g, 0, none⟩) n jc) := f59.cell c25 (fun q => q); have hB9 : w5.heap.size ≤ w9.heap.size := f59.size
              refine hK.out _ _ trivial (fun hHeld => ?_)
              clear hK K hHeld
              try simp only [Act.put, List.setIfInBounds_toArray, List.set_cons_zero, List.set_cons_succ]
              (refine wpAnyH_ready (rs := [16]) (by kernel_rfl) (by simp) (AllReadyH.cons (o := ?_) ?_ (fun K hK => ?_) AllReadyH.nil); rotate_left 1; (focus ((simp only [List.getElem?_toArray, List.getElem?_cons_succ, List.getElem?_cons_zero]); try rfl)))
              refine step_append_at rfl (.tmp 120) (.tmp 127) 33 rfl w5.heap.size 58 i1 _ 1 8 Tryz.underlying33 hi1 hz1 hs1i hb1 rfl (by decide) v9 (0 + kk) _ (by simp [Act.eval, Act.put]) o9 ⟨g, o, none⟩ (n - (kk + 1)) (jc - (kk + 1)) (V.drop (kk + 1)) (by simp [Act.eval, Act.put]) hl2.out (hN2.out _ f59) hone2.out (by unfold maxLen; omega) (by omega) hB9 ?_; intro v10 w10 o10 gr10 mv10; obtain ⟨a10, c10, rfl⟩ := ownsRow_slice o10; have f10 : Fr (rowB v9) w9 w10 := (Fr.refl _ _).grown gr10 (fun k hk _ => hk); have f510 : Fr noB w5 w10 := f59.trans f10 (fun _ _ q => q) (fun i hi q => absurd (o9.lt i q).1 (by omega)); have b10 := f510.blk hR5.out.blk (fun q => q); have z10 := b10.frozen 2; have k10 : w10.cell? ⟨z, 2, none⟩ = some (.slice (some ⟨g, 0, none⟩) n jc) := f510.cell c25 (fun q => q)
              refine hK.out _ _ trivial (fun hHeld => ?_)
              clear hK K hHeld
              try simp only [Act.put, List.setIfInBounds_toArray, List.set_cons_zero, List.set_cons_succ]
              (refine wpAnyH_take (i := 17) (oi := ?_) (v := ?_) ?_ (by kernel_rfl) (by kernel_rfl) (by kernel_rfl) ?_ ?_ trivial ?_; rotate_left 2; (focus ((simp only [List.getElem?_toArray, List.getElem?_cons_succ, List.getElem?_cons_zero]); try rfl)); (focus (exact (fun _ _ _ h => h))); (focus (refine Or.inl ⟨by rfl, ?_⟩; intro w hSw; go_simp; try with_reducible rfl)); try simp only [Act.put, List.setIfInBounds_toArray, List.set_cons_zero, List.set_cons_succ])
              (refine wpAnyH_take (i := 18) (oi := ?_) (v := ?_) ?_ (by kernel_rfl) (by kernel_rfl) (by kernel_rfl) ?_ ?_ trivial ?_; rotate_left 2; (focus ((simp only [List.getElem?_toArray, List.getElem?_cons_succ, List.getElem?_cons_zero]); try rfl)); (focus (exact (fun _ _ _ h => h))); (focus (refine Or.inl ⟨by rfl, ?_⟩; intro w hSw; go_simp; try with_reducible rfl)); try simp only [Act.put, List.setIfInBounds_toArray, List.set_cons_zero, List.set_cons_succ])
              (refine wpAnyH_ready (rs := [19]) (by kernel_rfl) (by simp) (AllReadyH.cons (o := ?_) ?_ (fun K hK => ?_) AllReadyH.nil); rotate_left 1; (focus ((simp only [List.getElem?_toArray, List.getElem?_cons_succ, List.getElem?_cons_zero]); try rfl)))
              go_simp
              refine hK.out _ _ trivial (fun hHeld => ?_)
              clear hK K hHeld
              try simp only [Act.put, List.setIfInBounds_toArray, List.set_cons_zero, List.set_cons_succ]
              refine wpAnyH_done (by kernel_rfl) ?_ _
              have eV : ((R.set kk (X.to (X.q.hear m))).eraseIdx kk).map QE.v = V.take kk ++ V.drop (kk + 1) := by
                rw [erase_app, ← hV.out, List.eraseIdx_set_eq, eraseIdx_mapL]
              have eL : ((R.set kk (X.to (X.q.hear m))).eraseIdx kk).length = kk + (n - (kk + 1)) := by
                have h1 := congrArg List.length eV
                rw [List.length_map, List.length_append, hl1.out, hl2.out, Nat.mul_one, Nat.mul_one] at h1
                exact h1
              rw [Nat.zero_add, List.nil_append, ← eV, ← eL] at o10
              have hdr := fun w4 e4 => hR5.out.drop (k := kk) (by have := hlen5.out; have := hkR.out; omega) f510 o10 (w4 := w4) e4
              rw [eL] at hdr
              replace hdr := Lib.hid hdr
              clear o10 eV eL
              go_wp2_with fail
              go_meet
              obtain ⟨E', h1, h2, h3⟩ := hdr.out _ rfl
              exact ⟨E', _, _, h1, h2, h3⟩
          · go_simp
            refine hK.out _ _ trivial (fun hHeld => ?_)
            clear hK K hHeld
            try simp only [Act.put, List.setIfInBounds_toArray, List.set_cons_zero, List.set_cons_succ]
            (refine wpAnyH_take (i := 15) (oi := ?_) (v := ?_) ?_ (by kernel_rfl) (by kernel_rfl) (by kernel_rfl) ?_ ?_ trivial ?_; rotate_left 2; (focus ((simp only [List.getElem?_toArray, List.getElem?_cons_succ, List.getElem?_cons_zero]); try rfl)); (focus (exact (fun _ _ _ h => h))); (focus (refine Or.inl ⟨by rfl, ?_⟩; intro w hSw; go_simp; try with_reducible rfl)); try simp only [Act.put, List.setIfInBounds_toArray, List.set_cons_zero, List.set_cons_succ])
            (refine wpAnyH_ready (rs := [1, 5]) (by kernel_rfl) (by simp) (AllReadyH.cons (o := ?_) ?_ (fun K hK => ?_) (AllReadyH.cons (o := ?_) ?_ (fun K hK => ?_) AllReadyH.nil)); rotate_left 1; (focus ((simp only [List.getElem?_toArray, List.getElem?_cons_succ, List.getElem?_cons_zero]); try rfl)); rotate_left 2; (focus ((simp only [List.getElem?_toArray, List.getElem?_cons_succ, List.getElem?_cons_zero]); try rfl)); rotate_left 1)
            · go_simp
              refine hK.out _ _ trivial (fun hHeld => ?_)
              clear hK K hHeld
              try simp only [Act.put, List.setIfInBounds_toArray, List.set_cons_zero, List.set_cons_succ]
              (refine wpAnyH_ready (rs := [5]) (by kernel_rfl) (by simp) (AllReadyH.cons (o := ?_) ?_ (fun K hK => ?_) AllReadyH.nil); rotate_left 1; (focus ((simp only [List.getElem?_toArray, List.getElem?_cons_succ, List.getElem?_cons_zero]); try rfl)))
              go_simp
              refine hK.out _ _ trivial (fun hHeld => ?_)
              clear hK K hHeld
              try simp only [Act.put, List.setIfInBounds_toArray, List.set_cons_zero, List.set_cons_succ]
              (refine wpAnyH_take (i := 7) (oi := ?_) (v := ?_) ?_ (by kernel_rfl) (by kernel_rfl) (by kernel_rfl) ?_ ?_ trivial ?_; rotate_left 2; (focus ((simp only [List.getElem?_toArray, List.getElem?_cons_succ, List.getElem?_cons_zero]); try rfl)); (focus (exact (fun _ _ _ h => h))); (focus (refine Or.inl ⟨by rfl, ?_⟩; intro w hSw; go_simp; try with_reducible rfl)); try simp only [Act.put, List.setIfInBounds_toArray, List.set_cons_zero, List.set_cons_succ])
              (refine wpAnyH_ready (rs := [8]) (by kernel_rfl) (by simp) (AllReadyH.cons (o := ?_) ?_ (fun K hK => ?_) AllReadyH.nil); rotate_left 1; (focus ((simp only [List.getElem?_toArray, List.getElem?_cons_succ, List.getElem?_cons_zero]); try rfl)))
              refine step_append_at rfl (.tmp 113) (.tmp 119) 33 rfl w5.heap.size 58 i1 _ 1 8 Tryz.underlying33 hi1 hz1 hs1i hb1 rfl (by decide) (.slice (some ⟨w5.heap.size, 0, none⟩) 0 0) 0 [] (by simp [Act.eval, Act.put]) hX0.out ⟨g, 0, none⟩ kk jc (V.take kk) (by simp [Act.eval, Act.put]) hl1.out hN1.out hone1.out (by unfold maxLen; omega) (by omega) hBA ?_; intro v9 w9 o9 gr9 mv9; have f9 : Fr (rowB (.slice (some ⟨w5.heap.size, 0, none⟩) 0 0)) (w5.drew.alloc (.cells #[] 58)) w9 := (Fr.refl _ _).grown gr9 (fun k hk _ => hk); have f59 : Fr noB w5 w9 := fA'.out.trans f9 (fun _ _ q => q) (fun i hi q => absurd (hrow0.out i q) (by omega)); have k9 : w9.cell? ⟨z, 2, none⟩ = some (.slice (some ⟨g, 0, none⟩) n jc) := f59.cell c25 (fun q => q); have hB9 : w5.heap.size ≤ w9.heap.size := f59.size
              refine hK.out _ _ trivial (fun hHeld => ?_)
              clear hK K hHeld
              try simp only [Act.put, List.setIfInBounds_toArray, List.set_cons_zero, List.set_cons_succ]
              (refine wpAnyH_ready (rs := [16]) (by kernel_rfl) (by simp) (AllReadyH.cons (o := ?_) ?_ (fun K hK => ?_) AllReadyH.nil); rotate_left 1; (focus ((simp only [List.getElem?_toArray, List.getElem?_cons_succ, List.getElem?_cons_zero]); try rfl)))
              refine step_append_at rfl (.tmp 120) (.tmp 127) 33 rfl w5.heap.size 58 i1 _ 1 8 Tryz.underlying33 hi1 hz1 hs1i hb1 rfl (by decide) v9 (0 + kk) _ (by simp [Act.eval, Act.put]) o9 ⟨g, o, none⟩ (n - (kk + 1)) (jc - (kk + 1)) (V.drop (kk + 1)) (by simp [Act.eval, Act.put]) hl2.out (hN2.out _ f59) hone2.out (by unfold maxLen; omega) (by omega) hB9 ?_; intro v10 w10 o10 gr10 mv10; obtain ⟨a10, c10, rfl⟩ := ownsRow_slice o10; have f10 : Fr (rowB v9) w9 w10 := (Fr.refl _ _).grown gr10 (fun k hk _ => hk); have f510 : Fr noB w5 w10 := f59.trans f10 (fun _ _ q => q) (fun i hi q => absurd (o9.lt i q).1 (by omega)); have b10 := f510.blk hR5.out.blk (fun q => q); have z10 := b10.frozen 2; have k10 : w10.cell? ⟨z, 2, none⟩ = some (.slice (some ⟨g, 0, none⟩) n jc) := f510.cell c25 (fun q => q)
              refine hK.out _ _ trivial (fun hHeld => ?_)
              clear hK K hHeld
              try simp only [Act.put, List.setIfInBounds_toArray, List.set_cons_zero, List.set_cons_succ]
              (refine wpAnyH_take (i := 17) (oi := ?_) (v := ?_) ?_ (by kernel_rfl) (by kernel_rfl) (by kernel_rfl) ?_ ?_ trivial ?_; rotate_left 2; (focus ((simp only [List.getElem?_toArray, List.getElem?_cons_succ, List.getElem?_cons_zero]); try rfl)); (focus (exact (fun _ _ _ h => h))); (focus (refine Or.inl ⟨by rfl, ?_⟩; intro w hSw; go_simp; try with_reducible rfl)); try simp only [Act.put, List.setIfInBounds_toArray, List.set_cons_zero, List.set_cons_succ])
              (refine wpAnyH_take (i := 18) (oi := ?_) (v := ?_) ?_ (by kernel_rfl) (by kernel_rfl) (by kernel_rfl) ?_ ?_ trivial ?_; rotate_left 2; (focus ((simp only [List.getElem?_toArray, List.getElem?_cons_succ, List.getElem?_cons_zero]); try rfl)); (focus (exact (fun _ _ _ h => h))); (focus (refine Or.inl ⟨by rfl, ?_⟩; intro w hSw; go_simp; try with_reducible rfl)); try simp only [Act.put, List.setIfInBounds_toArray, List.set_cons_zero, List.set_cons_succ])
              (refine wpAnyH_ready (rs := [19]) (by kernel_rfl) (by simp) (AllReadyH.cons (o := ?_) ?_ (fun K hK => ?_) AllReadyH.nil); rotate_left 1; (focus ((simp only [List.getElem?_toArray, List.getElem?_cons_succ, List.getElem?_cons_zero]); try rfl)))
              go_simp
              refine hK.out _ _ trivial (fun hHeld => ?_)
              clear hK K hHeld
              try simp only [Act.put, List.setIfInBounds_toArray, List.set_cons_zero, List.set_cons_succ]
              refine wpAnyH_done (by kernel_rfl) ?_ _
              have eV : ((R.set kk (X.to (X.q.hear m))).eraseIdx kk).map QE.v = V.take kk ++ V.drop (kk + 1) := by
                rw [erase_app, ← hV.out, List.eraseIdx_set_eq, eraseIdx_mapL]
              have eL : ((R.set kk (X.to (X.q.hear m))).eraseIdx kk).length = kk + (n - (kk + 1)) := by
                have h1 := congrArg List.length eV
                rw [List.length_map, List.length_append, hl1.out, hl2.out, Nat.mul_one, Nat.mul_one] at h1
                exact h1
              rw [Nat.zero_add, List.nil_append, ← eV, ← eL] at o10
              have hdr := fun w4 e4 => hR5.out.drop (k := kk) (by have := hlen5.out; have := hkR.out; omega) f510 o10 (w4 := w4) e4
              rw [eL] at hdr
              replace hdr := Lib.hid hdr
              clear o10 eV eL
              go_wp2_with fail
              go_meet
              obtain ⟨E', h1, h2, h3⟩ := hdr.out _ rfl
              exact ⟨E', _, _, h1, h2, h3⟩
            · go_simp
              refine hK.out _ _ trivial (fun hHeld => ?_)
              clear hK K hHeld
              try simp only [Act.put, List.setIfInBounds_toArray, List.set_cons_zero, List.set_cons_succ]
              (refine wpAnyH_take (i := 7) (oi := ?_) (v := ?_) ?_ (by kernel_rfl) (by kernel_rfl) (by kernel_rfl) ?_ ?_ trivial ?_; rotate_left 2; (focus ((simp only [List.getElem?_toArray, List.getElem?_cons_succ, List.getElem?_cons_zero]); try rfl)); (focus (exact (fun _ _ _ h => h))); (focus (refine Or.inl ⟨by rfl, ?_⟩; intro w hSw; go_simp; try with_reducible rfl)); try simp only [Act.put, List.setIfInBounds_toArray, List.set_cons_zero, List.set_cons_succ])
              (refine wpAnyH_ready (rs := [1]) (by kernel_rfl) (by simp) (AllReadyH.cons (o := ?_) ?_ (fun K hK => ?_) AllReadyH.nil); rotate_left 1; (focus ((simp only [List.getElem?_toArray, List.getElem?_cons_succ, List.getElem?_cons_zero]); try rfl)))
              go_simp
              refine hK.out _ _ trivial (fun hHeld => ?_)
              clear hK K hHeld
              try simp only [Act.put, List.setIfInBounds_toArray, List.set_cons_zero, List.set_cons_succ]
              (refine wpAnyH_ready (rs := [8]) (by kernel_rfl) (by simp) (AllReadyH.cons (o := ?_) ?_ (fun K hK => ?_) AllReadyH.nil); rotate_left 1; (focus ((simp only [List.getElem?_toArray, List.getElem?_cons_succ, List.getElem?_cons_zero]); try rfl)))
              refine step_append_at rfl (.tmp 113) (.tmp 119) 33 rfl w5.heap.size 58 i1 _ 1 8 Tryz.underlying33 hi1 hz1 hs1i hb1 rfl (by decide) (.slice (some ⟨w5.heap.size, 0, none⟩) 0 0) 0 [] (by simp [Act.eval, Act.put]) hX0.out ⟨g, 0, none⟩ kk jc (V.take kk) (by simp [Act.eval, Act.put]) hl1.out hN1.out hone1.out (by unfold maxLen; omega) (by omega) hBA ?_; intro v9 w9 o9 gr9 mv9; have f9 : Fr (rowB (.slice (some ⟨w5.heap.size, 0, none⟩) 0 0)) (w5.drew.alloc (.cells #[] 58)) w9 := (Fr.refl _ _).grown gr9 (fun k hk _ => hk); have f59 : Fr noB w5 w9 := fA'.out.trans f9 (fun _ _ q => q) (fun i hi q => absurd (hrow0.out i q) (by omega)); have k9 : w9.cell? ⟨z, 2, none⟩ = some (.slice (some ⟨g, 0, none⟩) n jc) := f59.cell c25 (fun q => q); have hB9 : w5.heap.size ≤ w9.heap.size := f59.size
              refine hK.out _ _ trivial (fun hHeld => ?_)
              clear hK K hHeld
              try simp only [Act.put, List.setIfInBounds_toArray, List.set_cons_zero, List.set_cons_succ]
              (refine wpAnyH_ready (rs := [16]) (by kernel_rfl) (by simp) (AllReadyH.cons (o := ?_) ?_ (fun K hK => ?_) AllReadyH.nil); rotate_left 1; (focus ((simp only [List.getElem?_toArray, List.getElem?_cons_succ, List.getElem?_cons_zero]); try rfl)))
              refine step_append_at rfl (.tmp 120) (.tmp 127) 33 rfl w5.heap.size 58 i1 _ 1 8 Tryz.underlying33 hi1 hz1 hs1i hb1 rfl (by decide) v9 (0 + kk) _ (by simp [Act.eval, Act.put]) o9 ⟨g, o, none⟩ (n - (kk + 1)) (jc - (kk + 1)) (V.drop (kk + 1)) (by simp [Act.eval, Act.put]) hl2.out (hN2.out _ f59) hone2.out (by unfold maxLen; omega) (by omega) hB9 ?_; intro v10 w10 o10 gr10 mv10; obtain ⟨a10, c10, rfl⟩ := ownsRow_slice o10; have f10 : Fr (rowB v9) w9 w10 := (Fr.refl _ _).grown gr10 (fun k hk _ => hk); have f510 : Fr noB w5 w10 := f59.trans f10 (fun _ _ q => q) (fun i hi q => absurd (o9.lt i q).1 (by omega)); have b10 := f510.blk hR5.out.blk (fun q => q); have z10 := b10.frozen 2; have k10 : w10.cell? ⟨z, 2, none⟩ = some (.slice (some ⟨g, 0, none⟩) n jc) := f510.cell c25 (fun q => q)
              refine hK.out _ _ trivial (fun hHeld => ?_)
              clear hK K hHeld
              try simp only [Act.put, List.setIfInBounds_toArray, List.set_cons_zero, List.set_cons_succ]
              (refine wpAnyH_take (i := 17) (oi := ?_) (v := ?_) ?_ (by kernel_rfl) (by kernel_rfl) (by kernel_rfl) ?_ ?_ trivial ?_; rotate_left 2; (focus ((simp only [List.getElem?_toArray, List.getElem?_cons_succ, List.getElem?_cons_zero]); try rfl)); (focus (exact (fun _ _ _ h => h))); (focus (refine Or.inl ⟨by rfl, ?_⟩; intro w hSw; go_simp; try with_reducible rfl)); try simp only [Act.put, List.setIfInBounds_toArray, List.set_cons_zero, List.set_cons_succ])
              (refine wpAnyH_take (i := 18) (oi := ?_) (v := ?_) ?_ (by kernel_rfl) (by kernel_rfl) (by kernel_rfl) ?_ ?_ trivial ?_; rotate_left 2; (focus ((simp only [List.getElem?_toArray, List.getElem?_cons_succ, List.getElem?_cons_zero]); try rfl)); (focus (exact (fun _ _ _ h => h))); (focus (refine Or.inl ⟨by rfl, ?_⟩; intro w hSw; go_simp; try with_reducible rfl)); try simp only [Act.put, List.setIfInBounds_toArray, List.set_cons_zero, List.set_cons_succ])
              (refine wpAnyH_ready (rs := [19]) (by kernel_rfl) (by simp) (AllReadyH.cons (o := ?_) ?_ (fun K hK => ?_) AllReadyH.nil); rotate_left 1; (focus ((simp only [List.getElem?_toArray, List.getElem?_cons_succ, List.getElem?_cons_zero]); try rfl)))
              go_simp
              refine hK.out _ _ trivial (fun hHeld => ?_)
              clear hK K hHeld
              try simp only [Act.put, List.setIfInBounds_toArray, List.set_cons_zero, List.set_cons_succ]
              refine wpAnyH_done (by kernel_rfl) ?_ _
              have eV : ((R.set kk (X.to (X.q.hear m))).eraseIdx kk).map QE.v = V.take kk ++ V.drop (kk + 1) := by
                rw [erase_app, ← hV.out, List.eraseIdx_set_eq, eraseIdx_mapL]
              have eL : ((R.set kk (X.to (X.q.hear m))).eraseIdx kk).length = kk + (n - (kk + 1)) := by
                have h1 := congrArg List.length eV
                rw [List.length_map, List.length_append, hl1.out, hl2.out, Nat.mul_one, Nat.mul_one] at h1
                exact h1
              rw [Nat.zero_add, List.nil_append, ← eV, ← eL] at o10
              have hdr := fun w4 e4 => hR5.out.drop (k := kk) (by have := hlen5.out; have := hkR.out; omega) f510 o10 (w4 := w4) e4
              rw [eL] at hdr
              replace hdr := Lib.hid hdr
              clear o10 eV eL
              go_wp2_with fail
              go_meet
              obtain ⟨E', h1, h2, h3⟩ := hdr.out _ rfl
              exact ⟨E', _, _, h1, h2, h3⟩
        case rest =>
          obtain ⟨E', ja', jc', hRc, hE', fE⟩ := hcut
          have hL9 := hl'.out.drop hw'.out (hf5.out.trans fE (fun _ _ q => q) (fun _ _ q => q)) (fun g hg q => by have := (hh.out.lo g q).1; omega) he.out
          rw [List.eraseIdx_set_eq] at hRc
          have hw8 : w.heap.size ≤ w5.heap.size := hf5.out.size
          have hfin := hf5.out.trans fE (fun _ _ q => q) (fun _ _ q => q)
          have hC' : (C.other x) = (C.drop e.j.tr, none) := by rw [hoth.out]; exact hte.out
          replace hRc := Lib.hid hRc
          replace hL9 := Lib.hid hL9
          replace hfin := Lib.hid hfin
          replace hC' := Lib.hid hC'
          replace hE' := Lib.hid hE'
          go_wp2_with fail
          go_returns
          refine ⟨_, _, E', rfl, fun pn => ?_, fun g hg => ?_, hfin.out⟩
          · rw [hC'.out]
            exact ⟨SaidR.no _ _ _, ja', jc', _, hRc.out, hL9.out⟩
          · rcases hE'.out g hg with q | q
            · exact Or.inl q
            · exact Or.inr (Nat.le_trans hw8 q)
end Go.Proofs.YtidcoddefebdpaaGreat
