/-
  seglog: Right, of any record: the record's own.
-/
import Derived.Test.YtdmhnoffejjpnaaGreatDoorZAM
import Derived.Deep.RegionHeld3
section
set_option linter.unusedVariables false
set_option linter.unusedSimpArgs false
set_option maxRecDepth 100000
set_option maxRecDepth 100000
namespace Go.Proofs.YtdmhnoffejjpnaaGreatDoor
open Go.RowKit Go Go.Lib

set_option maxHeartbeats 8000000 in
theorem sgRight_any (r : RC) (u : Value) (w : World) (h : RdPt w u r.ps) :
    Calls Tryz.prog 76 #[rcV r u] w fun e w' => e = .returned (.bool (okRc r)) ∧ Fr noB w w' := by
  obtain ⟨tr, jb, cl, wh, L⟩ := r
  unfold rcV
  simp only at h ⊢
  obtain ⟨B0, hB0⟩ : ∃ b, okRc ⟨tr, jb, cl, wh, L⟩ = b := ⟨_, rfl⟩
  rw [hB0]
  unfold okRc at hB0
  simp only at hB0
  have hwh := fun (w' : World) (f : Fr noB w w') => sgWhole_any u L w' (h.frN f)
  have hpt := fun (x : Pt) sa sc ca cc (w' : World) => sgPart_any x sa sc ca cc tr w'
  obtain ⟨a, c, rfl, h1, h2, h3⟩ := h
  have hget : ∀ k, k < L.length → ∃ m, L[k]? = some m := fun k hk => ⟨L[k], List.getElem?_eq_getElem hk⟩
  have hdrop := fun k (x : Pt) (h : L[k]? = some x) => psF_drop tr L k (lastP L k) x h
  have hlast := fun k (x : Pt) (h : L[k]? = some x) => lastP_succ h
  have h0 : psF tr (lastP L 0) (L.drop 0) = psF tr (-1) L := by rw [List.drop_zero]; rfl
  have hend : ∀ q, psF tr q (L.drop L.length) = true := fun q => by rw [List.drop_length]; rfl
  obtain ⟨n, hn⟩ : ∃ n, L.length = n := ⟨_, rfl⟩
  rw [hn] at h1 h2 hget hend hwh hB0 ⊢
  obtain ⟨bP, hbP⟩ : ∃ b, psF tr (-1) L = b := ⟨_, rfl⟩
  obtain ⟨bL, hbL⟩ : ∃ b, lostP L = b := ⟨_, rfl⟩
  rw [hbP] at h0
  rw [hbP, hbL] at hB0
  simp only [hbL] at hwh
  have fX := (Fr.refl noB w).alloc (.cells #[.int .i64 tr, .int .i64 jb, .int .i64 cl, .bool wh, .slice a n c] 63)
  have bX := Blk.new w 63 [.int .i64 tr, .int .i64 jb, .int .i64 cl, .bool wh, .slice a n c]
  have hnb : (n : Int) ≤ 9223372036854775807 := by omega
  replace h3 := Lib.hid h3
  replace hget := Lib.hid hget
  replace hdrop := Lib.hid hdrop
  replace hlast := Lib.hid hlast
  replace hend := Lib.hid hend
  replace hn := Lib.hid hn
  replace hB0 := Lib.hid hB0
  replace hbP := Lib.hid hbP
  replace hbL := Lib.hid hbL
  replace hwh := Lib.hid hwh
  replace hpt := Lib.hid hpt
  replace h0 := Lib.hid h0
  go_enter Tryz.func76, Tryz.ntmps76
  go_upto_region 1 with fail
  obtain ⟨gX, hgX⟩ : ∃ g, w.heap.size = g := ⟨_, rfl⟩
  rw [hgX] at bX
  try rw [hgX]
  generalize (w.alloc (.cells #[.int .i64 tr, .int .i64 jb, .int .i64 cl, .bool wh, .slice a n c] 63)) = wX at *
  replace hgX := Lib.hid hgX
  have i0 : wX.cell? ⟨gX, 0, none⟩ = some (.int .i64 tr) := bX.cell 0
  have i1 : wX.cell? ⟨gX, 1, none⟩ = some (.int .i64 jb) := bX.cell 1
  have i2 : wX.cell? ⟨gX, 2, none⟩ = some (.int .i64 cl) := bX.cell 2
  have i4 : wX.cell? ⟨gX, 4, none⟩ = some (.slice a n c) := bX.cell 4
  replace bX := Lib.hid bX
  by_cases k0 : tr < 1
  · have hf : B0 = false := by
      rw [← hB0.out]
      have : inB 1 65535 tr = false := by unfold inB; simp; omega
      rw [this]
      simp
    subst hf
    have d0 : decide (tr < 1) = true := by simpa using k0
    replace k0 := Lib.hid k0
    go_wp2_with fail
    go_ret
    exact ⟨rfl, fX⟩
  have d0 : decide (tr < 1) = false := by simp; omega
  by_cases k1 : 65535 < tr
  · have hf : B0 = false := by
      rw [← hB0.out]
      have : inB 1 65535 tr = false := by unfold inB; simp; omega
      rw [this]
      simp
    subst hf
    have d1 : decide (65535 < tr) = true := by simpa using k1
    have g1 : decide (tr > 65535) = true := by simp; omega
    replace k1 := Lib.hid k1
    go_wp2_with fail
    go_ret
    exact ⟨rfl, fX⟩
  have d1 : decide (65535 < tr) = false := by simp; omega
  have g1 : decide (tr > 65535) = false := by simp; omega
  by_cases k2 : jb < 1
  · have hf : B0 = false := by
      rw [← hB0.out]
      have : inB 1 1073741824 jb = false := by unfold inB; simp; omega
      rw [this]
      simp
    subst hf
    have d2 : decide (jb < 1) = true := by simpa using k2
    replace k2 := Lib.hid k2
    go_wp2_with fail
    go_ret
    exact ⟨rfl, fX⟩
  have d2 : decide (jb < 1) = false := by simp; omega
  by_cases k3 : 1073741824 < jb
  · have hf : B0 = false := by
      rw [← hB0.out]
      have : inB 1 1073741824 jb = false := by unfold inB; simp; omega
      rw [this]
      simp
    subst hf
    have d3 : decide (1073741824 < jb) = true := by simpa using k3
    have g3 : decide (jb > 1073741824) = true := by simp; omega
    replace k3 := Lib.hid k3
    go_wp2_with fail
    go_ret
    exact ⟨rfl, fX⟩
  have d3 : decide (1073741824 < jb) = false := by simp; omega
  have g3 : decide (jb > 1073741824) = false := by simp; omega
  by_cases k4 : cl < 0
  · have hf : B0 = false := by
      rw [← hB0.out]
      have : inB 0 3 cl = false := by unfold inB; simp; omega
      rw [this]
      simp
    subst hf
    have d4 : decide (cl < 0) = true := by simpa using k4
    replace k4 := Lib.hid k4
    go_wp2_with fail
    go_ret
    exact ⟨rfl, fX⟩
  have d4 : decide (cl < 0) = false := by simp; omega
  by_cases k5 : 4 ≤ cl
  · have hf : B0 = false := by
      rw [← hB0.out]
      have : inB 0 3 cl = false := by unfold inB; simp; omega
      rw [this]
      simp
    subst hf
    have d5 : decide (4 ≤ cl) = true := by simpa using k5
    have g5 : decide (cl ≥ 4) = true := by simp; omega
    replace k5 := Lib.hid k5
    go_wp2_with fail
    go_ret
    exact ⟨rfl, fX⟩
  have d5 : decide (4 ≤ cl) = false := by simp; omega
  have g5 : decide (cl ≥ 4) = false := by simp; omega
  have hB1 : (bP && (decide (0 < n) && (wh == !bL))) = B0 := by
    rw [← hB0.out]
    have e1 : inB 1 65535 tr = true := by unfold inB; simp; omega
    have e2 : inB 1 1073741824 jb = true := by unfold inB; simp; omega
    have e3 : inB 0 3 cl = true := by unfold inB; simp; omega
    rw [e1, e2, e3]
    rfl
  replace hB1 := Lib.hid hB1
  replace k0 := Lib.hid k0
  replace k1 := Lib.hid k1
  replace k2 := Lib.hid k2
  replace k3 := Lib.hid k3
  replace k4 := Lib.hid k4
  replace k5 := Lib.hid k5
  clear hB0
  go_upto_region 4 with fail
  clear d0 d1 d2 d3 d4 d5 g1 g3 g5 i1 i2
  go_wp2_with fail
  clear i0 i4
  go_loopw [3, 37] (fun lv i wr => ∃ k : Nat, k ≤ n ∧ i = .int .i64 k ∧ lv = .int .i64 (lastP L k) ∧ Hid (psF tr (lastP L k) (L.drop k) = bP) ∧ Hid (Fr noB wX wr)) (fun _ i _ => n - (RowKit.intOf i).toNat)
  case atStart => exact ⟨0, by omega, rfl, rfl, h0, Lib.hid (Fr.refl _ _)⟩
  case round =>
    obtain ⟨k, hk, rfl, rfl, hP, fr⟩ := hrel
    by_cases hlt : k < n
    · obtain ⟨x, hx⟩ := hget.out k hlt
      obtain ⟨g, o, sa, sc, ca, cc, rfl, c0, c1, c2, c3, r1, r2⟩ := h3.out k x hx
      have f0 := fX.seqN fr.out
      replace c0 := f0.cell c0 (fun q => q)
      replace c1 := f0.cell c1 (fun q => q)
      replace c2 := f0.cell c2 (fun q => q)
      replace c3 := f0.cell c3 (fun q => q)
      replace r1 := r1.frN f0
      replace r2 := r2.frN f0
      have i0 : wr.cell? ⟨gX, 0, none⟩ = some (.int .i64 tr) := fr.out.cell (bX.out.cell 0) (fun q => q)
      have hb1 : (k : Int) < n := by omega
      have hdk := hdrop.out k x hx
      rw [hP.out] at hdk
      have hls := hlast.out k x hx
      have fY := (Fr.refl noB wr).alloc (.cells #[.int .i64 x.a, .slice sa x.S.length sc, .slice ca x.cr.length cc, .bool x.lo] 112)
      have bY := Blk.new wr 112 [.int .i64 x.a, .slice sa x.S.length sc, .slice ca x.cr.length cc, .bool x.lo]
      have hc := hpt.out x sa sc ca cc _ (r1.frN fY) (r2.frN fY)
      obtain ⟨bK, hbK⟩ : ∃ b, okPt tr x = b := ⟨_, rfl⟩
      rw [hbK] at hc hdk
      obtain ⟨La, hLa⟩ : ∃ q, lastP L k = q := ⟨_, rfl⟩
      rw [hLa] at hdk
      try rw [hLa]
      replace hdk := Lib.hid hdk
      replace hls := Lib.hid hls
      generalize x.a = xa at *
      generalize x.S.length = xs at *
      generalize x.cr.length = xc at *
      generalize x.lo = xl at *
      have iY := fY.cell i0 (fun q => q)
      replace hc := Lib.hid hc
      replace hx := Lib.hid hx
      replace hbK := Lib.hid hbK
      replace hLa := Lib.hid hLa
      clear r1 r2 f0 hP
      go_upto_region 7 with fail
      obtain ⟨gY, hgY⟩ : ∃ q, wr.heap.size = q := ⟨_, rfl⟩
      rw [hgY] at bY
      try rw [hgY]
      generalize (wr.alloc (.cells #[.int .i64 xa, .slice sa xs sc, .slice ca xc cc, .bool xl] 112)) = wY at *
      have y0 : wY.cell? ⟨gY, 0, none⟩ = some (.int .i64 xa) := bY.cell 0
      have y1 : wY.cell? ⟨gY, 1, none⟩ = some (.slice sa xs sc) := bY.cell 1
      have y2 : wY.cell? ⟨gY, 2, none⟩ = some (.slice ca xc cc) := bY.cell 2
      have y3 : wY.cell? ⟨gY, 3, none⟩ = some (.bool xl) := bY.cell 3
      replace bY := Lib.hid bY
      replace fY := Lib.hid fY
      replace hgY := Lib.hid hgY
      clear c0 c1 c2 c3 i0
      go_wp2_with fail
      go_fit hc.out
      rintro e w3 ⟨rfl, f3⟩
      have b3 := f3.blk bY.out (fun q => q)
      have j0 : w3.cell? ⟨gY, 0, none⟩ = some (.int .i64 xa) := b3.cell 0
      have f4 := Lib.hid (fr.out.seqN (fY.out.seqN f3))
      clear fY f3 hc iY b3 bY fr y0 y1 y2 y3
      cases bK
      · have hf : B0 = false := by rw [← hB1.out, show bP = false from hdk.out]; rfl
        subst hf
        go_wp2_with fail
        go_ret
        exact ⟨rfl, fX.seqN f4.out⟩
      · by_cases hl : La < xa
        · have hd : decide (xa ≤ La) = false := by simp; omega
          have hP2 : Hid (psF tr (lastP L (k + 1)) (L.drop (k + 1)) = bP) := Lib.hid (by rw [hls.out, hdk.out]; simp [hl])
          have hls2 : lastP L (k + 1) = xa := hls.out
          replace hls2 := Lib.hid hls2
          clear hdk
          go_wp2_with fail
          go_roundw
          case rel => exact ⟨k + 1, by omega, by go_num, by rw [hls2.out], hP2, f4⟩
          case measure => simp [RowKit.intOf]; omega
        · have hd : decide (xa ≤ La) = true := by simp; omega
          have hf : B0 = false := by rw [← hB1.out, show bP = false by rw [hdk.out]; simp [hl]]; rfl
          subst hf
          replace hl := Lib.hid hl
          go_wp2_with fail
          go_ret
          exact ⟨rfl, fX.seqN f4.out⟩
    · obtain rfl : k = n := by omega
      have hP1 : bP = true := by rw [← hP.out, hend.out]
      subst hP1
      have hB2 : (decide (0 < k) && (wh == !bL)) = B0 := by rw [← hB1.out]; rfl
      replace hB2 := Lib.hid hB2
      have f5 := Lib.hid (fX.seqN fr.out)
      have hall : ∀ w', Fr noB wr w' → w'.cell? ⟨gX, 3, none⟩ = some (.bool wh) ∧ w'.cell? ⟨gX, 4, none⟩ = some (.slice a k c) := fun w' f => ⟨(f.blk (fr.out.blk bX.out (fun q => q)) (fun q => q)).cell 3, (f.blk (fr.out.blk bX.out (fun q => q)) (fun q => q)).cell 4⟩
      have hwq := fun (w' : World) (f : Fr noB wr w') => hwh.out w' (f5.out.seqN f)
      replace hall := Lib.hid hall
      replace hwq := Lib.hid hwq
      clear hP hwh hdrop hlast hend hget h3 hpt fr
      generalize lastP L k = La
      by_cases hz : k = 0
      · subst hz
        have hf : B0 = false := by rw [← hB2.out]; simp
        subst hf
        have hd : decide (0 < ((0 : Nat) : Int)) = false := by decide
        have hd2 : decide (((0 : Nat) : Int) > 0) = false := by decide
        go_wp2_with fail
        refine wp_region_held_drew (S := (fun w' => w'.cell? ⟨gX, 3, none⟩ = some (.bool wh) ∧ w'.cell? ⟨gX, 4, none⟩ = some (.slice a 0 c))) (by kernel_rfl) (hall.out _ ((Fr.refl noB wr).drew)) (fun hHeld => ?_)
        (refine wpAnyH_take (i := 0) (oi := ?_) (v := ?_) ?_ (by kernel_rfl) (by kernel_rfl) (by kernel_rfl) ?_ ?_ (by assumption) ?_; rotate_left 2; (focus ((simp only [List.getElem?_toArray, List.getElem?_cons_succ, List.getElem?_cons_zero]); try rfl)); (focus (exact (fun _ _ _ h => h))); (focus (refine Or.inl ⟨by rfl, ?_⟩; intro w hSw; (try dsimp only at hSw); go_simp; try with_reducible rfl)); try simp only [Act.put, List.setIfInBounds_toArray, List.set_cons_zero, List.set_cons_succ])
        (refine wpAnyH_take (i := 1) (oi := ?_) (v := ?_) ?_ (by kernel_rfl) (by kernel_rfl) (by kernel_rfl) ?_ ?_ (by assumption) ?_; rotate_left 2; (focus ((simp only [List.getElem?_toArray, List.getElem?_cons_succ, List.getElem?_cons_zero]); try rfl)); (focus (exact (fun _ _ _ h => h))); (focus (refine Or.inl ⟨by rfl, ?_⟩; intro w hSw; (try dsimp only at hSw); go_simp; try with_reducible rfl)); try simp only [Act.put, List.setIfInBounds_toArray, List.set_cons_zero, List.set_cons_succ])
        (refine wpAnyH_take (i := 2) (oi := ?_) (v := ?_) ?_ (by kernel_rfl) (by kernel_rfl) (by kernel_rfl) ?_ ?_ (by assumption) ?_; rotate_left 2; (focus ((simp only [List.getElem?_toArray, List.getElem?_cons_succ, List.getElem?_cons_zero]); try rfl)); (focus (exact (fun _ _ _ h => h))); (focus (refine Or.inl ⟨by rfl, ?_⟩; intro w hSw; (try dsimp only at hSw); go_simp; try with_reducible rfl)); try simp only [Act.put, List.setIfInBounds_toArray, List.set_cons_zero, List.set_cons_succ])
        (refine wpAnyH_take (i := 3) (oi := ?_) (v := ?_) ?_ (by kernel_rfl) (by kernel_rfl) (by kernel_rfl) ?_ ?_ (by assumption) ?_; rotate_left 2; (focus ((simp only [List.getElem?_toArray, List.getElem?_cons_succ, List.getElem?_cons_zero]); try rfl)); (focus (exact (fun _ _ _ h => h))); (focus (refine Or.inl ⟨by rfl, ?_⟩; intro w hSw; (try dsimp only at hSw); go_simp; try with_reducible rfl)); try simp only [Act.put, List.setIfInBounds_toArray, List.set_cons_zero, List.set_cons_succ])
        (refine wpAnyH_take (i := 4) (oi := ?_) (v := ?_) ?_ (by kernel_rfl) (by kernel_rfl) (by kernel_rfl) ?_ ?_ (by assumption) ?_; rotate_left 2; (focus ((simp only [List.getElem?_toArray, List.getElem?_cons_succ, List.getElem?_cons_zero]); try rfl)); (focus (exact (fun _ _ _ h => h))); (focus (refine Or.inl ⟨by rfl, ?_⟩; intro w hSw; (try dsimp only at hSw); go_simp; try with_reducible rfl)); try simp only [Act.put, List.setIfInBounds_toArray, List.set_cons_zero, List.set_cons_succ])
        (refine wpAnyH_take (i := 5) (oi := ?_) (v := undef) ?_ (by kernel_rfl) (by kernel_rfl) (by kernel_rfl) ?_ ?_ (by assumption) ?_; rotate_left 1; (focus ((simp only [List.getElem?_toArray, List.getElem?_cons_succ, List.getElem?_cons_zero]); try rfl)); (focus (exact (fun _ _ _ h => h))); (focus (exact Or.inr ⟨by rfl, rfl⟩)); try simp only [Act.put, List.setIfInBounds_toArray, List.set_cons_zero, List.set_cons_succ])
        (refine wpAnyH_take (i := 6) (oi := ?_) (v := undef) ?_ (by kernel_rfl) (by kernel_rfl) (by kernel_rfl) ?_ ?_ (by assumption) ?_; rotate_left 1; (focus ((simp only [List.getElem?_toArray, List.getElem?_cons_succ, List.getElem?_cons_zero]); try rfl)); (focus (exact (fun _ _ _ h => h))); (focus (exact Or.inr ⟨by rfl, rfl⟩)); try simp only [Act.put, List.setIfInBounds_toArray, List.set_cons_zero, List.set_cons_succ])
        (refine wpAnyH_take (i := 7) (oi := ?_) (v := undef) ?_ (by kernel_rfl) (by kernel_rfl) (by kernel_rfl) ?_ ?_ (by assumption) ?_; rotate_left 1; (focus ((simp only [List.getElem?_toArray, List.getElem?_cons_succ, List.getElem?_cons_zero]); try rfl)); (focus (exact (fun _ _ _ h => h))); (focus (exact Or.inr ⟨by rfl, rfl⟩)); try simp only [Act.put, List.setIfInBounds_toArray, List.set_cons_zero, List.set_cons_succ])
        (refine wpAnyH_take (i := 8) (oi := ?_) (v := undef) ?_ (by kernel_rfl) (by kernel_rfl) (by kernel_rfl) ?_ ?_ (by assumption) ?_; rotate_left 1; (focus ((simp only [List.getElem?_toArray, List.getElem?_cons_succ, List.getElem?_cons_zero]); try rfl)); (focus (exact (fun _ _ _ h => h))); (focus (exact Or.inr ⟨by rfl, rfl⟩)); try simp only [Act.put, List.setIfInBounds_toArray, List.set_cons_zero, List.set_cons_succ])
        (refine wpAnyH_take (i := 9) (oi := ?_) (v := undef) ?_ (by kernel_rfl) (by kernel_rfl) (by kernel_rfl) ?_ ?_ (by assumption) ?_; rotate_left 1; (focus ((simp only [List.getElem?_toArray, List.getElem?_cons_succ, List.getElem?_cons_zero]); try rfl)); (focus (exact (fun _ _ _ h => h))); (focus (exact Or.inr ⟨by rfl, rfl⟩)); try simp only [Act.put, List.setIfInBounds_toArray, List.set_cons_zero, List.set_cons_succ])
        (refine wpAnyH_take (i := 10) (oi := ?_) (v := undef) ?_ (by kernel_rfl) (by kernel_rfl) (by kernel_rfl) ?_ ?_ (by assumption) ?_; rotate_left 1; (focus ((simp only [List.getElem?_toArray, List.getElem?_cons_succ, List.getElem?_cons_zero]); try rfl)); (focus (exact (fun _ _ _ h => h))); (focus (exact Or.inr ⟨by rfl, rfl⟩)); try simp only [Act.put, List.setIfInBounds_toArray, List.set_cons_zero, List.set_cons_succ])
        (refine wpAnyH_take (i := 11) (oi := ?_) (v := ?_) ?_ (by kernel_rfl) (by kernel_rfl) (by kernel_rfl) ?_ ?_ (by assumption) ?_; rotate_left 2; (focus ((simp only [List.getElem?_toArray, List.getElem?_cons_succ, List.getElem?_cons_zero]); try rfl)); (focus (exact (fun _ _ _ h => h))); (focus (refine Or.inl ⟨by rfl, ?_⟩; intro w hSw; (try dsimp only at hSw); go_simp; try with_reducible rfl)); try simp only [Act.put, List.setIfInBounds_toArray, List.set_cons_zero, List.set_cons_succ])
        (refine wpAnyH_take (i := 12) (oi := ?_) (v := ?_) ?_ (by kernel_rfl) (by kernel_rfl) (by kernel_rfl) ?_ ?_ (by assumption) ?_; rotate_left 2; (focus ((simp only [List.getElem?_toArray, List.getElem?_cons_succ, List.getElem?_cons_zero]); try rfl)); (focus (exact (fun _ _ _ h => h))); (focus (refine Or.inl ⟨by rfl, ?_⟩; intro w hSw; (try dsimp only at hSw); go_simp; try with_reducible rfl)); try simp only [Act.put, List.setIfInBounds_toArray, List.set_cons_zero, List.set_cons_succ])
        refine wpAnyH_done (by kernel_rfl) ?_ _
        go_wp2_with fail
        go_ret
        exact ⟨rfl, f5.out.drew⟩
      · have hd : decide (0 < (k : Int)) = true := by simp; omega
        have hd2 : decide ((k : Int) > 0) = true := by simp; omega
        have hd3 : decide (0 < k) = true := by simp; omega
        have hd4 : 0 < k := by omega
        have hB3 : (wh == !bL) = B0 := by rw [← hB2.out]; simp; omega
        replace hz := Lib.hid hz
        replace hB3 := Lib.hid hB3
        go_wp2_with fail
        refine wp_region_held_drew (S := (fun w' => w'.cell? ⟨gX, 3, none⟩ = some (.bool wh) ∧ w'.cell? ⟨gX, 4, none⟩ = some (.slice a k c))) (by kernel_rfl) (hall.out _ ((Fr.refl noB wr).drew)) (fun hHeld => ?_)
        (refine wpAnyH_take (i := 0) (oi := ?_) (v := ?_) ?_ (by kernel_rfl) (by kernel_rfl) (by kernel_rfl) ?_ ?_ (by assumption) ?_; rotate_left 2; (focus ((simp only [List.getElem?_toArray, List.getElem?_cons_succ, List.getElem?_cons_zero]); try rfl)); (focus (exact (fun _ _ _ h => h))); (focus (refine Or.inl ⟨by rfl, ?_⟩; intro w hSw; (try dsimp only at hSw); go_simp; try with_reducible rfl)); try simp only [Act.put, List.setIfInBounds_toArray, List.set_cons_zero, List.set_cons_succ])
        (refine wpAnyH_take (i := 1) (oi := ?_) (v := ?_) ?_ (by kernel_rfl) (by kernel_rfl) (by kernel_rfl) ?_ ?_ (by assumption) ?_; rotate_left 2; (focus ((simp only [List.getElem?_toArray, List.getElem?_cons_succ, List.getElem?_cons_zero]); try rfl)); (focus (exact (fun _ _ _ h => h))); (focus (refine Or.inl ⟨by rfl, ?_⟩; intro w hSw; (try dsimp only at hSw); go_simp; try with_reducible rfl)); try simp only [Act.put, List.setIfInBounds_toArray, List.set_cons_zero, List.set_cons_succ])
        (refine wpAnyH_take (i := 2) (oi := ?_) (v := ?_) ?_ (by kernel_rfl) (by kernel_rfl) (by kernel_rfl) ?_ ?_ (by assumption) ?_; rotate_left 2; (focus ((simp only [List.getElem?_toArray, List.getElem?_cons_succ, List.getElem?_cons_zero]); try rfl)); (focus (exact (fun _ _ _ h => h))); (focus (refine Or.inl ⟨by rfl, ?_⟩; intro w hSw; (try dsimp only at hSw); go_simp; try with_reducible rfl)); try simp only [Act.put, List.setIfInBounds_toArray, List.set_cons_zero, List.set_cons_succ])
        (refine wpAnyH_take (i := 3) (oi := ?_) (v := ?_) ?_ (by kernel_rfl) (by kernel_rfl) (by kernel_rfl) ?_ ?_ (by assumption) ?_; rotate_left 2; (focus ((simp only [List.getElem?_toArray, List.getElem?_cons_succ, List.getElem?_cons_zero]); try rfl)); (focus (exact (fun _ _ _ h => h))); (focus (refine Or.inl ⟨by rfl, ?_⟩; intro w hSw; (try dsimp only at hSw); go_simp; try with_reducible rfl)); try simp only [Act.put, List.setIfInBounds_toArray, List.set_cons_zero, List.set_cons_succ])
        (refine wpAnyH_take (i := 4) (oi := ?_) (v := ?_) ?_ (by kernel_rfl) (by kernel_rfl) (by kernel_rfl) ?_ ?_ (by assumption) ?_; rotate_left 2; (focus ((simp only [List.getElem?_toArray, List.getElem?_cons_succ, List.getElem?_cons_zero]); try rfl)); (focus (exact (fun _ _ _ h => h))); (focus (refine Or.inl ⟨by rfl, ?_⟩; intro w hSw; (try dsimp only at hSw); go_simp; try with_reducible rfl)); try simp only [Act.put, List.setIfInBounds_toArray, List.set_cons_zero, List.set_cons_succ])
        (refine wpAnyH_take (i := 5) (oi := ?_) (v := ?_) ?_ (by kernel_rfl) (by kernel_rfl) (by kernel_rfl) ?_ ?_ (by assumption) ?_; rotate_left 2; (focus ((simp only [List.getElem?_toArray, List.getElem?_cons_succ, List.getElem?_cons_zero]); try rfl)); (focus (exact (fun _ _ _ h => h))); (focus (refine Or.inl ⟨by rfl, ?_⟩; intro w hSw; (try dsimp only at hSw); go_simp; try with_reducible rfl)); try simp only [Act.put, List.setIfInBounds_toArray, List.set_cons_zero, List.set_cons_succ])
        (refine wpAnyH_take (i := 6) (oi := ?_) (v := ?_) ?_ (by kernel_rfl) (by kernel_rfl) (by kernel_rfl) ?_ ?_ (by assumption) ?_; rotate_left 2; (focus ((simp only [List.getElem?_toArray, List.getElem?_cons_succ, List.getElem?_cons_zero]); try rfl)); (focus (exact (fun _ _ _ h => h))); (focus (refine Or.inl ⟨by rfl, ?_⟩; intro w hSw; (try dsimp only at hSw); go_simp; try with_reducible rfl)); try simp only [Act.put, List.setIfInBounds_toArray, List.set_cons_zero, List.set_cons_succ])
        (refine wpAnyH_take (i := 7) (oi := ?_) (v := ?_) ?_ (by kernel_rfl) (by kernel_rfl) (by kernel_rfl) ?_ ?_ (by assumption) ?_; rotate_left 2; (focus ((simp only [List.getElem?_toArray, List.getElem?_cons_succ, List.getElem?_cons_zero]); try rfl)); (focus (exact (fun _ _ _ h => h))); (focus (refine Or.inl ⟨by rfl, ?_⟩; intro w hSw; (try dsimp only at hSw); go_simp; try with_reducible rfl)); try simp only [Act.put, List.setIfInBounds_toArray, List.set_cons_zero, List.set_cons_succ])
        (refine wpAnyH_take (i := 8) (oi := ?_) (v := ?_) ?_ (by kernel_rfl) (by kernel_rfl) (by kernel_rfl) ?_ ?_ (by assumption) ?_; rotate_left 2; (focus ((simp only [List.getElem?_toArray, List.getElem?_cons_succ, List.getElem?_cons_zero]); try rfl)); (focus (exact (fun _ _ _ h => h))); (focus (refine Or.inl ⟨by rfl, ?_⟩; intro w hSw; (try dsimp only at hSw); go_simp; try with_reducible rfl)); try simp only [Act.put, List.setIfInBounds_toArray, List.set_cons_zero, List.set_cons_succ])
        refine wpAnyH_ready (rs := [9]) (by kernel_rfl) (by simp) (AllReadyH.cons rfl (fun K hK => ?_) AllReadyH.nil)
        go_simp
        refine (hwq.out _ ((Fr.refl noB wr).drew)).mono ?_
        rintro e w7 ⟨rfl, f7a⟩
        have f7 := ((Fr.refl noB wr).drew).seqN f7a
        clear f7a
        go_wp2_with fail
        refine hK.out _ _ (hall.out _ f7) (fun hHeld => ?_)
        clear hK K
        try simp only [Act.put, List.setIfInBounds_toArray, List.set_cons_zero, List.set_cons_succ]
        (refine wpAnyH_take (i := 10) (oi := ?_) (v := ?_) ?_ (by kernel_rfl) (by kernel_rfl) (by kernel_rfl) ?_ ?_ (by assumption) ?_; rotate_left 2; (focus ((simp only [List.getElem?_toArray, List.getElem?_cons_succ, List.getElem?_cons_zero]); try rfl)); (focus (exact (fun _ _ _ h => h))); (focus (refine Or.inl ⟨by rfl, ?_⟩; intro w hSw; (try dsimp only at hSw); go_simp; try with_reducible rfl)); try simp only [Act.put, List.setIfInBounds_toArray, List.set_cons_zero, List.set_cons_succ])
        (refine wpAnyH_take (i := 11) (oi := ?_) (v := ?_) ?_ (by kernel_rfl) (by kernel_rfl) (by kernel_rfl) ?_ ?_ (by assumption) ?_; rotate_left 2; (focus ((simp only [List.getElem?_toArray, List.getElem?_cons_succ, List.getElem?_cons_zero]); try rfl)); (focus (exact (fun _ _ _ h => h))); (focus (refine Or.inl ⟨by rfl, ?_⟩; intro w hSw; (try dsimp only at hSw); go_simp; try with_reducible rfl)); try simp only [Act.put, List.setIfInBounds_toArray, List.set_cons_zero, List.set_cons_succ])
        (refine wpAnyH_take (i := 12) (oi := ?_) (v := ?_) ?_ (by kernel_rfl) (by kernel_rfl) (by kernel_rfl) ?_ ?_ (by assumption) ?_; rotate_left 2; (focus ((simp only [List.getElem?_toArray, List.getElem?_cons_succ, List.getElem?_cons_zero]); try rfl)); (focus (exact (fun _ _ _ h => h))); (focus (refine Or.inl ⟨by rfl, ?_⟩; intro w hSw; (try dsimp only at hSw); go_simp; try with_reducible rfl)); try simp only [Act.put, List.setIfInBounds_toArray, List.set_cons_zero, List.set_cons_succ])
        refine wpAnyH_done (by kernel_rfl) ?_ _
        have f8 := Lib.hid (f5.out.seqN f7)
        go_wp2_with fail
        go_ret
        exact ⟨ret_bool hB3.out, f8.out⟩
end Go.Proofs.YtdmhnoffejjpnaaGreatDoor
end
