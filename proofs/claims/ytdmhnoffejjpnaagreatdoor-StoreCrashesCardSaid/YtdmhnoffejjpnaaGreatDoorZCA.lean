/-
  The reference's word on a record that may be: rising, Right.
  store: what the law on crashes keeps.
-/
import Derived.Test.YtdmhnoffejjpnaaGreatDoorZBG
import Derived.Test.YtdmhnoffejjpnaaGreatDoorZBH
section
set_option linter.unusedVariables false
set_option linter.unusedSimpArgs false
set_option maxRecDepth 100000
namespace Go.Proofs.YtdmhnoffejjpnaaGreatDoor
open Go.RowKit Go Go.Maps Go.Lib

theorem crF_at : ∀ (L : List Int) (last : Int), crF last L = true → ∀ k x, L[k]? = some x → 0 ≤ x ∧ x ≤ 3 ∧ (∀ y, (if k = 0 then some last else L[k - 1]?) = some y → y < x)
  | [], last, h, k, x, hx => by simp at hx
  | z :: L, last, h, 0, x, hx => by
    unfold crF inB at h
    simp only [Bool.and_eq_true, decide_eq_true_eq] at h
    simp at hx
    subst hx
    exact ⟨h.1.1, h.1.2, fun y hy => by simp at hy; omega⟩
  | z :: L, last, h, k + 1, x, hx => by
    unfold crF at h
    simp only [Bool.and_eq_true, decide_eq_true_eq] at h
    have hx' : L[k]? = some x := by simpa using hx
    obtain ⟨h1, h2, h3⟩ := crF_at L z h.2.2 k x hx'
    refine ⟨h1, h2, fun y hy => h3 y ?_⟩
    rw [if_neg (by omega)] at hy
    by_cases hk : k = 0
    · subst hk; simpa using hy
    · rw [if_neg hk]
      rw [show k + 1 - 1 = (k - 1) + 1 by omega] at hy
      simpa using hy
theorem num_sucs (c : Nat) (h : c ≤ 1000000) : Value.int .i64 (wrap64 ((c : Int) + 1)) = Value.int .i64 ((c + 1 : Nat) : Int) := by rw [IntWalk.wrap64_in _ (by omega)]; rfl
theorem wrap_pred (k : Nat) (h0 : 0 < k) (h : k ≤ 1000000) : wrap64 ((k : Int) - 1) = (k : Int) - 1 := IntWalk.wrap64_in _ (by omega)
theorem wrap_predI (k : Nat) (h0 : 0 < k) (h : k ≤ 1000000) : IntKind.i64.wrap ((k : Int) - 1) = (k : Int) - 1 := IntWalk.i64_in _ (by omega)
theorem wrap_sucI (k : Nat) (h : k ≤ 1000000) : IntKind.i64.wrap ((k : Int) + 1) = (k : Int) + 1 := IntWalk.i64_in _ (by omega)
theorem wrap_suc (k : Nat) (h : k ≤ 1000000) : wrap64 ((k : Int) + 1) = (k : Int) + 1 := IntWalk.wrap64_in _ (by omega)
set_option maxHeartbeats 4000000 in
theorem rising16_any (v : Value) (xs : List Int) (w : World) (hv : RdI w v xs) (hc : crF (-1) xs = true) (hl : xs.length ≤ 1000000) :
    Calls Tryz.prog 55 #[v] w fun e w' => e = .returned (.bool true) ∧ Fr noB w w' := by
  obtain ⟨a, c, rfl, h1, h2, h3⟩ := hv
  have hat := crF_at xs (-1) hc
  have hget : ∀ k, k < xs.length → xs[k]? = some (xs.getD k 0) := fun k hk => by simp [List.getD, hk]
  obtain ⟨n, hn⟩ : ∃ n, xs.length = n := ⟨_, rfl⟩
  rw [hn] at h1 h2 h3 hget ⊢
  replace hat := Lib.hid hat
  replace hget := Lib.hid hget
  replace h3 := Lib.hid h3
  have hl' := Lib.hid (show n ≤ 1000000 by omega)
  clear hl hn hc
  go_enter Tryz.func55, Tryz.ntmps55
  go_wp2_with fail
  go_loopg [3] n (fun gk i wr => ∃ k : Nat, k + gk = n ∧ i = .int .i64 k ∧ Fr noB w wr)
  case atStart => exact ⟨0, Nat.zero_add _, rfl, Fr.refl _ _⟩
  case round =>
    obtain ⟨k, hk, rfl, fr⟩ := hrel
    by_cases hlt : k < n
    · obtain ⟨g, o, rfl, e1⟩ := h3.out k hlt
      obtain ⟨x0, x3, hlast⟩ := hat.out k _ (hget.out k hlt)
      have hpr : 0 < k → ∃ y, w.cell? ⟨g, o + (k - 1), none⟩ = some (.int .i64 y) ∧ y < xs.getD k 0 := fun h0 => by
        obtain ⟨g2, o2, e2, h4⟩ := h3.out (k - 1) (by omega)
        cases e2
        exact ⟨_, h4, hlast _ (by rw [if_neg (by omega)]; exact hget.out (k - 1) (by omega))⟩
      generalize xs.getD k 0 = x at *
      have q1 : wr.cell? ⟨g, o + k, none⟩ = some (.int .i64 x) := fr.cell e1 (fun q => q)
      have d1 : decide (x < 0) = false := by simp; omega
      have d2 : decide (3 < x) = false := by simp; omega
      have d3 : decide (x > 3) = false := by simp; omega
      have hb1 : (k : Int) < n := by omega
      have h0k : (0 : Int) ≤ k := by omega
      have hkn2 := Lib.hid (show k + 1 + (n - (k + 1)) = n by omega)
      have hmeas := Lib.hid (show n - (k + 1) < gk by omega)
      have hsu := Lib.hid (num_sucs k (by have := hl'.out; omega))
      clear e1 hlast
      by_cases hk0 : k = 0
      · have d4 : decide ((k : Int) > 0) = false := by simp; omega
        have d5 : decide ((0 : Int) < k) = false := by simp; omega
        have d6 : decide (0 < k) = false := by simp; omega
        clear hpr
        replace hk0 := Lib.hid hk0
        go_wp2_with fail
        go_quiet (fail)
        go_wp2_with fail
        go_roundg (n - (k + 1))
        case rel => exact ⟨k + 1, hkn2.out, by first | exact hsu.out | rfl | go_num, fr.drewN _⟩
        case measure => exact hmeas.out
      · obtain ⟨y, hy, hyx⟩ := hpr (by omega)
        have d4 : decide ((k : Int) > 0) = true := by simp; omega
        have d5 : decide ((0 : Int) < k) = true := by simp; omega
        have d6 : decide (0 < k) = true := by simp; omega
        have d7 : decide (y ≥ x) = false := by simp; omega
        have d8 : decide (x ≤ y) = false := by simp; omega
        have q2 : wr.cell? ⟨g, o + (k - 1), none⟩ = some (.int .i64 y) := fr.cell hy (fun q => q)
        have w1 := wrap_predI k (by omega) (by have := hl'.out; omega)
        have w2 := wrap_pred k (by omega) (by have := hl'.out; omega)
        obtain ⟨j, hj⟩ : ∃ j, k - 1 = j := ⟨_, rfl⟩
        have hj2 : (k : Int) - 1 = (j : Int) := by omega
        rw [hj] at q2
        replace w1 := w1.trans hj2
        replace w2 := w2.trans hj2
        have hjn : (j : Int) < n := by omega
        have h0j : (0 : Int) ≤ j := by omega
        clear hpr hy hk0 hj hj2
        go_wp2_with fail
        go_quiet (fail)
        go_wp2_with fail
        go_roundg (n - (k + 1))
        case rel => exact ⟨k + 1, hkn2.out, by first | exact hsu.out | rfl | go_num, fr.drewN _⟩
        case measure => exact hmeas.out
    · obtain rfl : k = n := by omega
      go_wp2_with fail
      go_ret
      exact ⟨rfl, fr⟩

theorem psF_cr (tr : Int) : ∀ (L : List Pt) (last : Int), psF tr last L = true → crF last (L.map (·.a)) = true
  | [], _, _ => rfl
  | p :: r, last, h => by
    unfold psF at h
    simp only [Bool.and_eq_true, decide_eq_true_eq] at h
    have hp := h.1
    unfold okPt at hp
    simp only [Bool.and_eq_true] at hp
    show (inB 0 3 p.a && (decide (last < p.a) && crF p.a (r.map (·.a)))) = true
    rw [hp.1, psF_cr tr r p.a h.2.2, decide_eq_true h.2.1]
    rfl
theorem rowF_at (tr : Int) : ∀ (L : List Sp) (k0 : Nat), rowF tr k0 L = true → ∀ k s, L[k]? = some s → s.t = tr ∧ s.q = ((k0 + k : Nat) : Int) + 1
  | [], _, _, k, s, h => by simp at h
  | x :: L, k0, h, 0, s, hs => by
    unfold rowF at h
    simp only [Bool.and_eq_true, beq_iff_eq] at h
    simp at hs; subst hs
    exact ⟨h.1.1, by rw [h.1.2]; rfl⟩
  | x :: L, k0, h, k + 1, s, hs => by
    unfold rowF at h
    simp only [Bool.and_eq_true] at h
    obtain ⟨h1, h2⟩ := rowF_at tr L (k0 + 1) h.2 k s (by simpa using hs)
    exact ⟨h1, by rw [h2]; congr 2; omega⟩
theorem lostP_more {L : List Pt} {k : Nat} {p : Pt} (h : L[k]? = some p) : lostP (L.take (k + 1)) = (lostP (L.take k) || p.lo) := by
  unfold lostP
  rw [List.take_add_one, h]
  show ((L.take k ++ [p]).any _) = _
  rw [List.any_append]
  simp
theorem Tryz.infoIntR : (Tryz.prog.info? 3).map (fun i => (i.zero, i.size, i.bytes)) = some (some (.int .i64 0), 1, 8) := by kernel_rfl
set_option maxHeartbeats 16000000 in
theorem rright16_any (r : RC) (u : Value) (w : World) (h : RdPt w u r.ps) (hok : okRc r = true) :
    Calls Tryz.prog 27 #[rcV r u] w fun e w' => e = .returned (.bool true) ∧ Fr noB w w' := by
  obtain ⟨h1, h2, h3, h4, h5, h6, h7⟩ := rc_ok hok
  obtain ⟨tr, jb, cl, wh, L⟩ := r
  simp only at h h1 h2 h3 h4 h5 h6 h7
  have hcr := psF_cr tr L (-1) h5
  have hlost := fun k p (h : L[k]? = some p) => lostP_more h
  obtain ⟨a, c, rfl, g1, g2, g3⟩ := h
  obtain ⟨n, hn⟩ : ∃ n, L.length = n := ⟨_, rfl⟩
  unfold rcV
  simp only [hn]
  rw [hn] at g1 g2 h6
  have hget : ∀ k, k < n → ∃ p, L[k]? = some p := fun k hk => ⟨L[k]'(by omega), List.getElem?_eq_getElem (by omega)⟩
  have f0 := (Fr.refl noB w).alloc (.cells #[.int .i64 tr, .int .i64 jb, .int .i64 cl, .bool wh, .slice a n c] 63)
  have b0 := Blk.new w 63 [.int .i64 tr, .int .i64 jb, .int .i64 cl, .bool wh, .slice a n c]
  obtain ⟨bb, hbb⟩ : ∃ bb, w.heap.size = bb := ⟨_, rfl⟩
  rw [hbb] at b0
  have d1 : decide (tr < 1) = false := by simp; omega
  have d2 : decide (65535 < tr) = false := by simp; omega
  have d3 : decide (jb < 1) = false := by simp; omega
  have d4 : decide (1073741824 < jb) = false := by simp; omega
  have d5 : decide (cl < 0) = false := by simp; omega
  have d6 : decide (3 < cl) = false := by simp; omega
  have d7 : decide ((n : Int) < 1) = false := by simp; omega
  have d8 : decide (4 < (n : Int)) = false := by simp; omega
  have d9 : decide (4 < n) = false := by simp; omega
  have d10 : decide (n < 1) = false := by simp; omega
  obtain ⟨i0, hi, hz0, hz1, hz2⟩ := info_parts Tryz.infoIntR
  replace h4 := Lib.hid h4
  replace h7 := Lib.hid h7
  replace hcr := Lib.hid hcr
  replace hlost := Lib.hid hlost
  replace g3 := Lib.hid g3
  replace hget := Lib.hid hget
  replace hn := Lib.hid hn
  have hn4 := Lib.hid h6
  replace b0 := Lib.hid b0
  replace f0 := Lib.hid f0
  clear h1 h2 h3 h5 h6 g1 g2
  go_enter Tryz.func27, Tryz.ntmps27
  go_upto_region 1 with fail
  try rw [hbb]
  replace hbb := Lib.hid hbb
  generalize (w.alloc (.cells #[.int .i64 tr, .int .i64 jb, .int .i64 cl, .bool wh, .slice a n c] 63)) = w1 at *
  have c0 : w1.cell? ⟨bb, 0, none⟩ = some (.int .i64 tr) := b0.out.cell 0
  have c1 : w1.cell? ⟨bb, 1, none⟩ = some (.int .i64 jb) := b0.out.cell 1
  have c2 : w1.cell? ⟨bb, 2, none⟩ = some (.int .i64 cl) := b0.out.cell 2
  have c4 : w1.cell? ⟨bb, 4, none⟩ = some (.slice a n c) := b0.out.cell 4
  go_wp2_with fail
  clear c0 c1 c2 c4 d1 d2 d3 d4 d5 d6 d7 d8 d9 d10
  go_loopg [3, 4, 5] n (fun gk v3 v4 v5 wr => ∃ (k : Nat) (aa : Option Addr) (ac : Nat), k + gk = n ∧ v3 = .slice aa k ac ∧ v4 = .bool (lostP (L.take k)) ∧ v5 = .int .i64 k ∧ Hid (wr.ownsRow w1.heap.size 3 1 (.slice aa k ac) k (((L.take k).map (·.a)).map (Value.int .i64))) ∧ Hid (Fr noB w1 wr))
  case atStart => exact ⟨0, none, 0, Nat.zero_add _, rfl, rfl, rfl, Lib.hid (World.ownsRow_nil _ _ _ _), Lib.hid (Fr.refl _ _)⟩
  case round =>
    obtain ⟨k, aa, ac, hk, rfl, rfl, rfl, ho, fr⟩ := hrel
    have bk := fr.out.blk b0.out (fun q => q)
    have y4 : wr.cell? ⟨bb, 4, none⟩ = some (.slice a n c) := bk.cell 4
    have y0 : wr.cell? ⟨bb, 0, none⟩ = some (.int .i64 tr) := bk.cell 0
    by_cases hlt : k < n
    · obtain ⟨x, hx⟩ := hget.out k hlt
      obtain ⟨g, o, sa, sc, ca, cc, rfl, e0, e1, e2, e3, hS, hC⟩ := g3.out k x hx
      have fw := f0.out.seqN fr.out
      replace e0 := fw.cell e0 (fun q => q)
      replace e1 := fw.cell e1 (fun q => q)
      replace e2 := fw.cell e2 (fun q => q)
      replace e3 := fw.cell e3 (fun q => q)
      have pok := h4.out x (List.mem_of_getElem? hx)
      have hlo := hlost.out k x hx
      have hmap : ((L.take (k + 1)).map (·.a)).map (Value.int .i64) = ((L.take k).map (·.a)).map (Value.int .i64) ++ [.int .i64 x.a] := by
        rw [List.take_add_one, hx, List.map_append, List.map_append]; rfl
      have hkn2 := Lib.hid (show k + 1 + (n - (k + 1)) = n by omega)
      have hmeas := Lib.hid (show n - (k + 1) < gk by omega)
      have hsu := Lib.hid (num_sucs k (by have := hn4.out; omega))
      have hb1 : (k : Int) < n := by omega
      have h0k : (0 : Int) ≤ k := by omega
      have hk4 : k ≤ 4 := by have := hn4.out; omega
      have fx := (Fr.refl noB wr).alloc (.cells #[.int .i64 x.a, .slice sa x.S.length sc, .slice ca x.cr.length cc, .bool x.lo] 112)
      have bx := Blk.new wr 112 [.int .i64 x.a, .slice sa x.S.length sc, .slice ca x.cr.length cc, .bool x.lo]
      obtain ⟨xb, hxb⟩ : ∃ xb, wr.heap.size = xb := ⟨_, rfl⟩
      rw [hxb] at bx
      have bk2 := fx.blk bk (fun q => q)
      have ho2 := ownsRow_fr ho.out fx (fun _ _ q => q)
      have fr2 := fr.out.seqN fx
      have hW : w1.heap.size ≤ (wr.alloc (.cells #[.int .i64 x.a, .slice sa x.S.length sc, .slice ca x.cr.length cc, .bool x.lo] 112)).heap.size := fr2.size
      have hSl : x.S.length ≤ 1000 := pok.l
      have hSr := pok.r
      have hrow := rowF_at tr x.S 0 pok.w
      have hrs := fun w' (f : Fr noB w w') => rising16_any (.slice ca x.cr.length cc) x.cr w' (hC.frN f) pok.f (by have := pok.n; omega)
      have hsg : ∀ i s, x.S[i]? = some s → ∃ g o, sa = some ⟨g, o, none⟩ ∧ w.cell? ⟨g, o + i * 3, none⟩ = some (.int .i64 s.t) ∧ w.cell? ⟨g, o + i * 3 + 1, none⟩ = some (.int .i64 s.q) ∧ w.cell? ⟨g, o + i * 3 + 2, none⟩ = some (.string s.x) := by
        obtain ⟨a', c', e', _, _, _, hh⟩ := hS
        injection e' with e1' e2' e3'
        subst e1'
        intro i s hi
        obtain ⟨g, o, e, c0, c1, c2⟩ := hh i s hi
        exact ⟨g, o, e, c0, c1, c2⟩
      have hSget : ∀ i, i < x.S.length → ∃ s, x.S[i]? = some s := fun i hi => ⟨x.S[i], List.getElem?_eq_getElem hi⟩
      have hSmem : ∀ i s, x.S[i]? = some s → rightS s = true := fun i s h => hSr s (List.mem_of_getElem? h)
      generalize x.S.length = sn at *
      generalize x.cr.length = cn at *
      obtain ⟨xa, hxa⟩ : ∃ q, x.a = q := ⟨_, rfl⟩
      obtain ⟨lo, hlo'⟩ : ∃ q, x.lo = q := ⟨_, rfl⟩
      rw [hxa] at e0 fx bx bk2 ho2 fr2 hW hmap
      rw [hlo'] at e3 fx bx bk2 ho2 fr2 hW hlo
      have dS : decide (1000 < (sn : Int)) = false := by simp; omega
      have dS2 : decide (1000 < sn) = false := by simp; omega
      replace hsg := Lib.hid hsg
      replace hSget := Lib.hid hSget
      replace hSmem := Lib.hid hSmem
      replace hrow := Lib.hid hrow
      replace hrs := Lib.hid hrs
      replace hlo := Lib.hid hlo
      replace hmap := Lib.hid hmap
      replace bx := Lib.hid bx
      replace bk2 := Lib.hid bk2
      replace ho2 := Lib.hid ho2
      replace fr2 := Lib.hid fr2
      replace hxb := Lib.hid hxb
      replace hSl := Lib.hid hSl
      replace hk4 := Lib.hid hk4
      clear pok hx bk ho fr fx fw hS hC hSr hxa hlo' hk
      go_upto_region 9 with fail
      try rw [hxb.out]
      generalize (wr.alloc (.cells #[.int .i64 xa, .slice sa sn sc, .slice ca cn cc, .bool lo] 112)) = w2 at *
      clear e0 e1 e2 e3 y4 y0
      have p0 : w2.cell? ⟨xb, 0, none⟩ = some (.int .i64 xa) := bx.out.cell 0
      have hk5 : k + 1 ≤ maxLen ∧ (k + 1) * 8 ≤ 140737488355328 := by have := hk4.out; unfold maxLen; omega
      have how := ho2.out
      have hW2 : w1.heap.size ≤ (w2.alloc (.cells #[.int .i64 xa] 3)).heap.size := Nat.le_trans hW ((Fr.refl noB w2).alloc _).size
      go_upto_region 10 with (first
        | (at_builtin; go_must (refine wpList_append_at _ rfl (.tmp 60) (.tmp 63) 30 rfl w1.heap.size 3 i0 _ 1 8 Tryz.underlying30 hi hz0 hz1 hz2 rfl (by decide) (.slice aa k ac) k _ rfl (how.alloc _) ⟨w2.heap.size, 0, none⟩ 1 1 [.int .i64 xa] rfl rfl (cell_new w2 _ _) (one_int _ _) hk5.1 hk5.2 hW2 ?_); intro v3 w3 o3 gr3 _; obtain ⟨a3, c3, rfl⟩ := ownsRow_slice o3)
        | fail)
      have f3 : Fr (rowB (.slice aa k ac)) (w2.alloc (.cells #[.int .i64 xa] 3)) w3 := (Fr.refl _ _).grown gr3 (fun k hk _ => hk)
      have fa := (Fr.refl noB w2).alloc (.cells #[.int .i64 xa] 3)
      have bx3 := f3.blk (fa.blk bx.out (fun q => q)) (row_not (how.alloc _) (fa.blk bx.out (fun q => q)) (by decide))
      have bk3 := f3.blk (fa.blk bk2.out (fun q => q)) (row_not (how.alloc _) (fa.blk bk2.out (fun q => q)) (by decide))
      have fr3 : Fr noB w1 w3 := (fr2.out.seqN fa).trans f3 (fun _ _ q => q) (fun q hq e => by have := (how.lt q e).1; omega)
      have fw3 := f0.out.seqN fr3
      have p1 : w3.cell? ⟨xb, 1, none⟩ = some (.slice sa sn sc) := bx3.cell 1
      have p2 : w3.cell? ⟨xb, 2, none⟩ = some (.slice ca cn cc) := bx3.cell 2
      have p3 : w3.cell? ⟨xb, 3, none⟩ = some (.bool lo) := bx3.cell 3
      have hr3 := hrs.out w3 fw3
      rw [← hmap.out] at o3
      have hlo2 := hlo.out
      obtain ⟨l0, hl0⟩ : ∃ b, lostP (L.take k) = b := ⟨_, rfl⟩
      obtain ⟨l1, hl1⟩ : ∃ b, lostP (L.take (k + 1)) = b := ⟨_, rfl⟩
      rw [hl0, hl1] at hlo2
      rw [hl0]
      replace o3 := Lib.hid o3
      replace bx3 := Lib.hid bx3
      replace bk3 := Lib.hid bk3
      replace fr3 := Lib.hid fr3
      replace fw3 := Lib.hid fw3
      replace hr3 := Lib.hid hr3
      replace hlo2 := Lib.hid hlo2
      replace hl0 := Lib.hid hl0
      replace hl1 := Lib.hid hl1
      clear gr3 f3 fa how ho2 bx bk2 fr2 p0 hk5 hW2 hlo
      go_cut [4] (fun v4 wx => v4 = .bool l1 ∧ wx = w3)
      case first =>
        cases l0
        all_goals (
          go_wp2_with fail
          go_meet
          exact ⟨by rw [hlo2.out]; rfl, rfl⟩)
      case rest =>
        obtain ⟨rfl, hwc⟩ := hcut
        obtain rfl := hwc
        clear p3
        go_wp2_with fail
        go_fit hr3.out
        rintro e w4 ⟨rfl, f4⟩
        have bx4 := f4.blk bx3.out (fun q => q)
        have bk4 := f4.blk bk3.out (fun q => q)
        have o4 := ownsRow_fr o3.out f4 (fun _ _ q => q)
        have fr4 := fr3.out.seqN f4
        have fw4 := fw3.out.seqN f4
        have p1' : w4.cell? ⟨xb, 1, none⟩ = some (.slice sa sn sc) := bx4.cell 1
        replace bx4 := Lib.hid bx4
        replace bk4 := Lib.hid bk4
        replace o4 := Lib.hid o4
        replace fr4 := Lib.hid fr4
        replace fw4 := Lib.hid fw4
        obtain ⟨gk0, hgk0⟩ : ∃ q, gk = q := ⟨_, rfl⟩
        replace hgk0 := Lib.hid hgk0
        clear p1 p2 bx3 bk3 o3 fr3 fw3 hr3 f4 hrs
        go_wp2_with fail
        go_loopg [7] sn (fun gj v7 wx => ∃ j : Nat, j + gj = sn ∧ v7 = .int .i64 j ∧ Fr noB w4 wx)
        case atStart => exact ⟨0, Nat.zero_add _, rfl, Fr.refl _ _⟩
        case round =>
          obtain ⟨wx, rfl⟩ : ∃ wx : World, wx = wr := ⟨_, rfl⟩
          obtain ⟨gj, rfl⟩ : ∃ gj : Nat, gj = gk := ⟨_, rfl⟩
          obtain ⟨j, hj, rfl, fj⟩ := hrel
          by_cases hjl : j < sn
          · obtain ⟨sp, hsp⟩ := hSget.out j hjl
            obtain ⟨gs, os, rfl, q0, q1, q2⟩ := hsg.out j sp hsp
            obtain ⟨ht, hq⟩ := hrow.out j sp hsp
            rw [Nat.zero_add] at hq
            have hrt := fun w' => rright_any sp w'
            rw [hSmem.out j sp hsp] at hrt
            obtain ⟨st, sq, sx⟩ := sp
            simp only at ht hq q0 q1 q2 hrt
            subst ht hq
            have fwx := fw4.out.seqN fj
            have hSS : ∀ w', Fr noB wx w' → (w'.cell? ⟨gs, os + j * 3, none⟩ = some (.int .i64 st) ∧ w'.cell? ⟨gs, os + j * 3 + 1, none⟩ = some (.int .i64 ((j : Int) + 1)) ∧ w'.cell? ⟨gs, os + j * 3 + 2, none⟩ = some (.string sx)) ∧ w'.cell? ⟨xb, 1, none⟩ = some (.slice (some ⟨gs, os, none⟩) sn sc) ∧ w'.cell? ⟨bb, 0, none⟩ = some (.int .i64 st) := fun w' f =>
              ⟨⟨(fwx.seqN f).cell q0 (fun q => q), (fwx.seqN f).cell q1 (fun q => q), (fwx.seqN f).cell q2 (fun q => q)⟩, ((fj.seqN f).blk bx4.out (fun q => q)).cell 1, ((fj.seqN f).blk bk4.out (fun q => q)).cell 0⟩
            have n1 : (st != st) = false := by simp
            have n2 : ((j : Int) + 1 != (j : Int) + 1) = false := by simp
            have hjl2 : (j : Int) < sn := by omega
            have h0j : (0 : Int) ≤ j := by omega
            have w1' := wrap_suc j (by have := hSl.out; omega)
            have w2' := wrap_sucI j (by have := hSl.out; omega)
            have hsj := Lib.hid (num_sucs j (by have := hSl.out; omega))
            have hj1 := Lib.hid (show j + 1 + (sn - (j + 1)) = sn by omega)
            have hj2 := Lib.hid (show sn - (j + 1) < gj by omega)
            have p1x : wx.cell? ⟨xb, 1, none⟩ = some (.slice (some ⟨gs, os, none⟩) sn sc) := (hSS wx (Fr.refl _ _)).2.1
            replace hSS := Lib.hid hSS
            replace hrt := Lib.hid hrt
            replace fj := Lib.hid fj
            clear q0 q1 q2 fwx hsp p1' hj
            go_upto_region 16 with fail
            clear p1x
            go_region_held3 (fun w' => (w'.cell? ⟨gs, os + j * 3, none⟩ = some (.int .i64 st) ∧ w'.cell? ⟨gs, os + j * 3 + 1, none⟩ = some (.int .i64 ((j : Int) + 1)) ∧ w'.cell? ⟨gs, os + j * 3 + 2, none⟩ = some (.string sx)) ∧ w'.cell? ⟨xb, 1, none⟩ = some (.slice (some ⟨gs, os, none⟩) sn sc) ∧ w'.cell? ⟨bb, 0, none⟩ = some (.int .i64 st))
              (first | exact hSS.out _ z7 | exact hSS.out _ ((Fr.refl noB _).drewN 1) | fail)
              (first
                | (go_at_call 56; refine (hrt.out _).mono ?_; rintro e wz ⟨rfl, z70⟩; have z7 := ((Fr.refl noB wx).drewN 1).seqN z70)
                | fail)
            all_goals (
              have fj2 := fj.out.seqN z7
              clear w1' w2' n1 n2
              go_wp2_with fail
              go_roundg (sn - (j + 1))
              case rel => exact ⟨j + 1, hj1.out, by first | exact hsj.out | rfl, fj2⟩
              case measure => exact hj2.out)
          · obtain rfl : j = sn := by omega
            have p1x : wx.cell? ⟨xb, 1, none⟩ = some (.slice sa j sc) := (fj.blk bx4.out (fun q => q)).cell 1
            have o9 := ownsRow_fr o4.out fj (fun _ _ q => q)
            have fr9 := fr4.out.seqN fj
            replace o9 := Lib.hid o9
            replace fr9 := Lib.hid fr9
            go_wp2_with fail
            go_roundg (n - (k + 1))
            case rel => exact ⟨k + 1, a3, c3, hkn2.out, rfl, by rw [hl1.out], by first | exact hsu.out | rfl, o9, fr9⟩
            case measure => exact hmeas.out
    · obtain rfl : k = n := by omega
      have htk : L.take k = L := List.take_of_length_le (by rw [hn.out]; exact Nat.le_refl _)
      rw [htk] at ho ⊢
      have hri := RdI.of_own ho.out
      obtain ⟨a', c', e', _⟩ := id hri
      have hrs := rising16_any (.slice aa k ac) (L.map (·.a)) wr hri hcr.out (by rw [List.length_map, hn.out]; have := hn4.out; omega)
      have bk := fr.out.blk b0.out (fun q => q)
      have hfin := f0.out.seqN fr.out
      replace hrs := Lib.hid hrs
      replace hfin := Lib.hid hfin
      obtain ⟨lz, hlz⟩ : ∃ b, lostP L = b := ⟨_, rfl⟩
      have hwh : wh = !lz := by rw [← hlz]; exact h7.out
      rw [hlz]
      replace hlz := Lib.hid hlz
      clear hri e' y0
      go_wp2_with fail
      go_fit hrs.out
      rintro e w5 ⟨rfl, f5⟩
      have z3 : w5.cell? ⟨bb, 3, none⟩ = some (.bool wh) := (f5.blk bk (fun q => q)).cell 3
      have hfin2 := Lib.hid (hfin.out.seqN f5)
      clear hrs hfin f5 bk y4
      subst hwh
      cases lz
      all_goals (
        go_wp2_with fail
        go_ret
        exact ⟨rfl, hfin2.out⟩)
end Go.Proofs.YtdmhnoffejjpnaaGreatDoor
end

section
set_option linter.unusedVariables false
set_option linter.unusedSimpArgs false
set_option maxRecDepth 100000
namespace Go.Proofs.YtdmhnoffejjpnaaGreatDoor
open Go.RowKit Go Go.Maps Go.Lib

/-- elements of the law's maps -/
def mkT (b : Bool) : Value := .bool b
theorem mkT_inj : ∀ x y, mkT x = mkT y → x = y := fun x y h => by unfold mkT at h; simpa using h
theorem zeroT (w : World) : (zeroValue 4).run Tryz.prog w = .ok (mkT false) w := by kernel_rfl
/-- the store, and the map of those who were told -/
structure CrL (w wr : World) (gS : Nat) (col : Nat → Tg) (n : Nat) (X : SS) (mT : Nat) (T : List (Int × Bool)) : Prop where
  s : StL w wr gS col n X
  m : Mp Tryz.prog 3 klI mkT wr mT T.length T
  c : col mT = tg0
  h : w.heap.size ≤ mT
  t : ∀ p ∈ T, p.1 ∈ jbs X.K
theorem CrL.frN {w wr w' : World} {gS : Nat} {col : Nat → Tg} {n : Nat} {X : SS} {mT : Nat} {T : List (Int × Bool)} (h : CrL w wr gS col n X mT T) (f : Fr noB wr w') : CrL w w' gS col n X mT T :=
  ⟨h.s.frN f, h.m.fr f (fun q => q), h.c, h.h, h.t⟩
theorem CrL.len {w wr : World} {gS : Nat} {col : Nat → Tg} {n : Nat} {X : SS} {mT : Nat} {T : List (Int × Bool)} (h : CrL w wr gS col n X mT T) : T.length ≤ 65536 := by
  have h1 := nodup_le h.m.nodup (G := jbs X.K) (fun k hk => by obtain ⟨p, hp, rfl⟩ := List.mem_map.1 hk; exact h.t p hp)
  have h2 := (wn_len h.s.inv).2
  unfold jbs at h1
  simp at h1
  omega
/-- a call on the store -/
theorem CrL.step {w wr w' : World} {gS : Nat} {col col' : Nat → Tg} {n m : Nat} {X Y : SS} {mT : Nat} {T : List (Int × Bool)} (h : CrL w wr gS col n X mT T) (k : StL w w' gS col' m Y) (s : Stp wr w' col col') (hK : ∀ j, j ∈ jbs X.K → j ∈ jbs Y.K) : CrL w w' gS col' m Y mT T :=
  ⟨k, h.m.fr s.1 (fun e => e h.c), by rw [s.2 _ h.m.lt]; exact h.c, h.h, fun p hp => hK _ (h.t p hp)⟩
theorem row_ne_map {w : World} {B e s n b m : Nat} {v : Value} {xs : List Value} {L : List (Int × Bool)} (ho : w.ownsRow B e s v n xs) (hm : Mp Tryz.prog 3 klI mkT w b m L) {g : Nat} (hg : v.ownBlock = some g) : g ≠ b := by
  obtain ⟨es, ⟨e', c, h1, _⟩, _⟩ := hm
  rcases ho.2 with ⟨rfl, _⟩ | ⟨g1, cap, cur, rfl, _, hg1, _⟩
  · cases hg
  · simp [Value.ownBlock] at hg
    subst hg
    intro e
    subst e
    rw [hg1] at h1
    cases h1
/-- one more is told -/
theorem CrL.tell {w wr w' : World} {gS : Nat} {col : Nat → Tg} {n : Nat} {X : SS} {mT : Nat} {T : List (Int × Bool)} {j : Int} (h : CrL w wr gS col n X mT T) (f : Fr (onlyB mT) wr w') (m : Mp Tryz.prog 3 klI mkT w' mT (T.length + 1) (withKey T j true)) (hj : j ∈ jbs X.K) : CrL w w' gS col n X mT (withKey T j true) := by
  obtain ⟨⟨a, ha⟩, h2, h3⟩ := h.s
  refine ⟨⟨⟨a, ha.fr f (fun q hq e => by unfold onlyB at e; subst e; exact hq h.c)⟩, h2, h3.trans f (fun _ _ q => q) (fun q hq e => by unfold onlyB at e; have := h.h; omega)⟩, m.tight (Nat.le_refl _), h.c, h.h, fun p hp => ?_⟩
  unfold withKey at hp
  rcases List.mem_cons.1 hp with rfl | hp
  · exact hj
  · exact h.t p (mem_without.1 hp).1
theorem told_K (X : SS) : ∀ p ∈ X.told2, p.2 ∈ jbs X.tick.K := by
  intro p hp
  unfold SS.told2 at hp
  obtain ⟨r, hr, rfl⟩ := List.mem_map.1 hp
  show r.jb ∈ jbs (X.K ++ X.Wn)
  rw [jbs_app]
  exact List.mem_append.2 (Or.inr (List.mem_map.2 ⟨r, hr, rfl⟩))
theorem tick_K (X : SS) : ∀ j, j ∈ jbs X.K → j ∈ jbs X.tick.K := fun j hj => by
  show j ∈ jbs (X.K ++ X.Wn)
  rw [jbs_app]
  exact List.mem_append.2 (Or.inl hj)
theorem col_K (X : SS) (m : Ms) : (X.col m).K = X.K := by
  unfold SS.col
  split
  · rfl
  · split <;> rfl
theorem hear_K (X : SS) (m : Ms) : (X.hear m).K = X.K := by
  unfold SS.hear
  split
  · rfl
  · split
    · split
      · exact col_K X _
      · rfl
    · split
      · exact col_K X _
      · rfl
    · rfl
theorem hearO_K (X : SS) (m : Option Ms) : (X.hearO m).K = X.K := by
  cases m with
  | none => rfl
  | some x => exact hear_K X x
theorem st_two {X : SS} {j : Int} (h : X.st j = some 2) : j ∈ jbs X.K := by
  unfold SS.st at h
  by_cases h1 : j ∈ jbs X.K
  · exact h1
  · rw [if_neg h1] at h
    by_cases h2 : j ∈ jbs X.Wn
    · rw [if_pos h2] at h; cases h
    · rw [if_neg h2] at h; cases h
theorem back_K (X : SS) (m : Option Ms) : ∀ p ∈ X.backO m, p.2 ∈ jbs X.K := by
  intro p hp
  cases m with
  | none => cases hp
  | some x =>
    have hp' : p ∈ X.back x := hp
    unfold SS.back at hp'
    split at hp'
    · cases hp'
    · split at hp'
      · split at hp'
        · rename_i hs
          rcases List.mem_cons.1 hp' with rfl | hp'
          · exact st_two hs
          · cases hp'
        · cases hp'
      · cases hp'
/-- behind a crash those that were kept are there, at their places -/
theorem crash_get {X : SS} (h : X.Inv) (k : Int) (i : Nat) (r : RC) (hr : X.K[i]? = some r) : (X.crash k).K[i]? = some r := by
  have h1 := X.fit_ge k h
  have hi : i < X.K.length := (List.getElem?_eq_some_iff.1 hr).1
  show (X.all.take _)[i]? = _
  rw [List.getElem?_take_of_lt (by omega)]
  unfold SS.all
  rw [List.getElem?_append_left hi]
  exact hr
theorem crash_len {X : SS} (h : X.Inv) (k : Int) : X.K.length ≤ (X.crash k).K.length ∧ (X.crash k).K.length ≤ X.K.length + X.Wn.length := by
  have h1 := X.fit_ge k h
  have h2 := (fit_le X.all (X.left k)).1
  have h3 : X.all.length = X.K.length + X.Wn.length := by unfold SS.all; rw [List.length_append]
  show _ ≤ (X.all.take _).length ∧ (X.all.take _).length ≤ _
  rw [List.length_take]
  omega
theorem crash_K {X : SS} (h : X.Inv) (k : Int) : ∀ j, j ∈ jbs X.K → j ∈ jbs (X.crash k).K := fun j hj => by
  obtain ⟨r, hr, rfl⟩ := List.mem_map.1 hj
  obtain ⟨i, hi, he⟩ := List.getElem_of_mem hr
  have := crash_get h k i r (by rw [← he]; exact List.getElem?_eq_getElem hi)
  exact List.mem_map.2 ⟨r, List.mem_of_getElem? this, rfl⟩
/-- rows of records that are the law's own stay -/
theorem OwnQ.keepS {w w' : World} {B : Nat} {col : Nat → Tg} {Q : List QU} (h : OwnQ w B Q) (hc : ∀ g, B ≤ g → g < w.heap.size → col g = tg0) (f : Fr (fun q => col q ≠ tg0) w w') : OwnQ w' B Q := fun q hq =>
  (h q hq).fr f (fun g hg e => e (hc g ((h q hq).r.lt g hg).1 ((h q hq).r.lt g hg).2)) (fun u hu g hg e => e (hc g ((h q hq).s.lt hu hg).1 ((h q hq).s.lt hu hg).2))
theorem CrL.frS {w wr w' : World} {S : Nat → Prop} {gS : Nat} {col : Nat → Tg} {n : Nat} {X : SS} {mT : Nat} {T : List (Int × Bool)} (h : CrL w wr gS col n X mT T) (f : Fr S wr w') (hS : ∀ q, S q → col q = tg0 ∧ q ≠ mT ∧ w.heap.size ≤ q) : CrL w w' gS col n X mT T := by
  obtain ⟨⟨a, ha⟩, h2, h3⟩ := h.s
  exact ⟨⟨⟨a, ha.fr f (fun q hq e => hq (hS q e).1)⟩, h2, h3.trans f (fun _ _ q => q) (fun q hq e => by have := (hS q e).2.2; omega)⟩, h.m.fr f (fun e => (hS _ e).2.1 rfl), h.c, h.h, h.t⟩
theorem look_bool {w : World} {b n : Nat} {L : List (Int × Bool)} (h : Mp Tryz.prog 3 klI mkT w b n L) (j : Int) (hj : okI j) : (Instr.lookup 59 (.map (some b)) (.int .i64 j) false).run Tryz.prog w = .ok (.bool ((look L j).getD false)) w :=
  h.run_look KI' Tryz.underlying59 (zeroT w) mkT_inj j hj
/-- those who were seen -/
structure SeL (w : World) (mS : Nat) (L : List RC) (i : Nat) (SL : List (Int × Bool)) : Prop where
  m : Mp Tryz.prog 3 klI mkT w mS SL.length SL
  l : ∀ j, look SL j = if j ∈ jbs (L.take i) then some true else none
  n : SL.length ≤ i
theorem SeL.next {w w' : World} {mS i : Nat} {L : List RC} {SL : List (Int × Bool)} {r : RC} (h : SeL w mS L i SL) (hr : L[i]? = some r) (m : Mp Tryz.prog 3 klI mkT w' mS (SL.length + 1) (withKey SL r.jb true)) : SeL w' mS L (i + 1) (withKey SL r.jb true) := by
  have hlen : (withKey SL r.jb true).length ≤ SL.length + 1 := by
    unfold withKey without
    rw [List.length_cons]
    exact Nat.succ_le_succ (List.length_filter_le _ _)
  refine ⟨m.tight (Nat.le_refl _), fun j => ?_, by have := h.n; omega⟩
  have e : j ∈ jbs (L.take (i + 1)) ↔ j ∈ jbs (L.take i) ∨ j = r.jb := by
    rw [List.take_add_one, hr, jbs_app, List.mem_append]; simp [jbs]
  by_cases hj : j = r.jb
  · rw [hj, look_withKey_same, if_pos (by rw [← hj]; exact e.2 (Or.inr hj))]
  · rw [look_withKey_other _ _ hj, h.l j]
    by_cases h2 : j ∈ jbs (L.take i)
    · rw [if_pos h2, if_pos (e.2 (Or.inl h2))]
    · rw [if_neg h2, if_neg (fun q => (e.1 q).elim h2 hj)]
theorem jbs_not {L : List RC} (h : (jbs L).Nodup) {i : Nat} {r : RC} (hr : L[i]? = some r) : r.jb ∉ jbs (L.take i) := by
  obtain ⟨hi, he⟩ := List.getElem?_eq_some_iff.1 hr
  intro hm
  unfold jbs at hm h
  rw [List.map_take] at hm
  obtain ⟨j, hj, hje⟩ := List.getElem_of_mem hm
  have hj' : j < i := by rw [List.length_take] at hj; omega
  rw [List.getElem_take] at hje
  have h1 : (L.map (·.jb))[i]'(by rw [List.length_map]; exact hi) = r.jb := by rw [List.getElem_map, he]
  exact List.pairwise_iff_getElem.1 h j i (by rw [List.length_map]; omega) (by rw [List.length_map]; exact hi) hj' (hje.trans h1.symm)
end Go.Proofs.YtdmhnoffejjpnaaGreatDoor
end
