import Derived.Test.YtomgkegjdkkhoaaLeaseSame
import Derived.Test.YtomgkegjdkkhoaaLeaseHeld
set_option linter.unusedVariables false
set_option linter.unusedSimpArgs false
namespace Go.Proofs.Ytomgkegjdkkhoaa
open Go.RowKit Go Go.Lib

/-- leases and plain leases -/
structure Bt (w0 w : World) (g bh bo r B : Nat) (G : List Int) (T now : Int) (H : List (Int × (Int × Int))) (O : List (Int × Int)) (L Ov : List PL) : Prop where
  ls : Ls w g bh bo G T now H O
  rl : Rl w r B T L Ov
  sm : Sm H O now T L Ov
  n1 : ∀ k, lsB g bh bo k → k < B ∧ k ≠ r ∧ w0.heap.size ≤ k
  r0 : w0.heap.size ≤ r
  fr : Fr noB w0 w
theorem Bt.frN {w0 w w' : World} {g bh bo r B : Nat} {G : List Int} {T now : Int} {H : List (Int × (Int × Int))} {O : List (Int × Int)} {L Ov : List PL} (h : Bt w0 w g bh bo r B G T now H O L Ov) (hf : Fr noB w w') : Bt w0 w' g bh bo r B G T now H O L Ov :=
  ⟨h.ls.fr hf (fun _ _ q => q), h.rl.frN hf, h.sm, h.n1, h.r0, h.fr.seqN hf⟩
/-- the leases' call has been made -/
theorem Bt.rl1 {w0 w w' : World} {g bh bo r B : Nat} {G : List Int} {T now : Int} {H : List (Int × (Int × Int))} {O : List (Int × Int)} {L Ov : List PL} (h : Bt w0 w g bh bo r B G T now H O L Ov) (hf : Fr (lsB g bh bo) w w') : Rl w' r B T L Ov ∧ Fr noB w0 w' :=
  ⟨h.rl.fr hf (fun q => (h.n1 r q).2.1 rfl) (fun k hk _ _ q => by have := (h.n1 k q).1; omega), h.fr.trans hf (fun _ _ q => q) (fun i hi q => by have := (h.n1 i q).2.2; omega)⟩
/-- and the plain leases' -/
theorem ls2 {w w' : World} {g bh bo r B : Nat} {G : List Int} {T now : Int} {H : List (Int × (Int × Int))} {O : List (Int × Int)} (h : Ls w g bh bo G T now H O) (n1 : ∀ k, lsB g bh bo k → k < B ∧ k ≠ r) (hf : Fr (touchL w r B) w w') : Ls w' g bh bo G T now H O :=
  h.fr hf (fun k hk q => by
    have := n1 k hk
    rcases q with q | ⟨q, _⟩ <;> omega)
theorem fr2 {w0 w w' : World} {r B : Nat} (h : Fr noB w0 w) (hf : Fr (touchL w r B) w w') (r0 : w0.heap.size ≤ r) (rB : r < B) : Fr noB w0 w' :=
  h.trans hf (fun _ _ q => q) (fun i hi q => by rcases q with q | ⟨q, _⟩ <;> omega)
theorem touch_of {w w' : World} {r B : Nat} (h : Fr (onlyB r) w w') : Fr (touchL w r B) w w' := h.mono (fun i _ q => Or.inl q)
/-- the loop's element stands beside them -/
theorem op_l {w w' : World} {g bh bo B ob : Nat} {cs : List Value} (h : Blk w ob 33 cs) (hf : Fr (lsB g bh bo) w w') (hn : ∀ k, lsB g bh bo k → k < B) (hB : B ≤ ob) : Blk w' ob 33 cs := hf.blk h (fun q => by have := hn ob q; omega)
theorem op_r {w w' : World} {r B ob : Nat} {cs : List Value} (h : Blk w ob 33 cs) (hf : Fr (touchL w r B) w w') (rB : r < B) (hB : B ≤ ob) : Blk w' ob 33 cs := hf.blk h (fun q => by
  rcases q with q | ⟨_, cs', q⟩
  · omega
  · unfold Blk at h; rw [h] at q; cases q)

set_option maxHeartbeats 4000000 in
set_option maxRecDepth 10000 in
theorem plays_any (T : Int) (v : Value) (xs : List (Int × Int × Int)) (w : World) (hT : (Lit.int .i64 T).wf = true) (hxs : SlR w v 3 IsOp xs) :
    Calls Try.prog 3 #[.int .i64 T, v] w fun e w' => e = .returned (.bool true) ∧ Fr noB w w' := by
  obtain ⟨a, c, rfl, hx1, hx2, hx3⟩ := hxs
  unfold maxLen at hx2
  generalize hn : xs.length = n at *
  replace hx3 := Lib.hid hx3
  obtain ⟨hx1, _⟩ := hx1
  have hnb : n ≤ 9223372036854775807 := by omega
  replace hn := Lib.hid hn
  go_enter Try.func3, Try.ntmps3
  go_wp2_with fail
  refine (awake_any w).mono ?_
  rintro e w1 ⟨rfl, f1⟩
  by_cases hl : 300 < n
  · go_wp2_with fail
    refine (awake_any w1).mono ?_
    rintro e w2 ⟨rfl, f2⟩
    go_wp2
    go_ret
    exact ⟨rfl, f1.seqN f2⟩
  have hd1 : decide (300 < (n : Int)) = false := by simp; omega
  by_cases hTb : T < 1 ∨ 1000 < T
  · go_wp2_with fail
    refine (lnew_no T w1 hTb).mono ?_
    rintro e w2 ⟨rfl, hw2⟩
    obtain rfl := hw2.symm
    rcases hTb with hTb | hTb
    · go_wp2_with fail
      go_ret
      exact ⟨rfl, f1⟩
    · have hTb2 : ¬ T < 1 := by omega
      go_wp2_with fail
      go_ret
      exact ⟨rfl, f1⟩
  have hT1 : 1 ≤ T := by omega
  have hT2 : T ≤ 1000 := by omega
  have hTd1 : decide (T < 1) = false := by simp; omega
  have hTd2 : decide (1000 < T) = false := by simp; omega
  go_wp2_with fail
  refine (lnew_any T w1 hT1 hT2).mono ?_
  rintro e w2 ⟨rfl, l2, f2⟩
  have hlt2 := l2.lt
  have hf := (Fr.refl noB w2).alloc (.cells #[.int .i64 T, .slice none 0 0, .slice none 0 0] 31)
  have sz : (w2.alloc (.cells #[.int .i64 T, .slice none 0 0, .slice none 0 0] 31)).heap.size = w2.heap.size + 1 := by simp
  have st0 : Bt w (w2.alloc (.cells #[.int .i64 T, .slice none 0 0, .slice none 0 0] 31)) (w1.heap.size + 2) w1.heap.size (w1.heap.size + 1) w2.heap.size (w2.heap.size + 1) [] T (0 : Nat) [] [] [] [] :=
    ⟨l2.fr hf (fun _ _ q => q), ⟨⟨none, 0, none, 0, Blk.new w2 _ [.int .i64 T, .slice none 0 0, .slice none 0 0], World.ownsRow_nil _ _ _ _, World.ownsRow_nil _ _ _ _, fun q hq => by cases hq⟩, by omega, by rw [sz]; exact Nat.le_refl _, by simp, by simp⟩,
     ⟨List.Pairwise.nil, by simp, by simp, fun t => rfl⟩, fun k q => by have := hlt2 k q; have := f1.size; rcases q with rfl | rfl | rfl <;> omega, by have := f1.size; have := f2.size; omega, (f1.seqN f2).seqN hf⟩
  clear l2 f1 f2 hf hlt2 sz
  go_wp2_with fail
  generalize w1.heap.size + 2 = g at *
  generalize w1.heap.size + 1 = bo at *
  generalize w1.heap.size = bh at *
  generalize w2.heap.size = r at *
  generalize hBr : r + 1 = B at *
  replace hBr := Lib.hid hBr
  go_loopw [41] (fun i wr => ∃ (k now : Nat) (G : List Int) (H : List (Int × (Int × Int))) (O : List (Int × Int)) (L Ov : List PL), k ≤ n ∧ i = .int .i64 k ∧ Bt w wr g bh bo r B G T now H O L Ov ∧ G.length ≤ k ∧ now ≤ k ∧ Ov.length ≤ 300 * k) (fun i _ => n - (RowKit.intOf i).toNat)
  case atStart => exact ⟨0, 0, [], [], [], [], [], by omega, rfl, st0, by simp, by omega, by simp⟩
  case round =>
    clear st0
    obtain ⟨k, now, G, H, O, L, Ov, hk, rfl, st, hG, hnw, hOv⟩ := hrel
    by_cases hlt : k < n
    · obtain ⟨⟨kd, tr, jb⟩, hop⟩ : ∃ o, xs[k]? = some o := ⟨_, List.getElem?_eq_getElem (by rw [hn.out]; exact hlt)⟩
      obtain ⟨g0, o0, cs, ha, hcs, ⟨hcs2, hI1, hI2, hI3⟩, hcell⟩ := hx3.out k _ hop
      subst ha hcs2
      have e0 := st.fr.cell (hcell 0 _ rfl) (fun q => q)
      have e1 := st.fr.cell (hcell 1 _ rfl) (fun q => q)
      have e2 := st.fr.cell (hcell 2 _ rfl) (fun q => q)
      have hok : okI tr := okI_of hI2.1 hI2.2
      clear hop hcell hI1 hI2 hI3
      simp only [← Nat.add_assoc, Nat.add_zero] at e0 e1 e2
      have st1 := st.frN ((Fr.refl noB wr).alloc (.cells #[.int .i64 kd, .int .i64 tr, .int .i64 jb] 33))
      have bo1 := Blk.new wr 33 [.int .i64 kd, .int .i64 tr, .int .i64 jb]
      have hobB : B ≤ wr.heap.size := st.rl.Bw
      have rB := st.rl.rB
      have n1 := st.n1
      have hLl : L.length ≤ k := by have := st.sm.len; have := st.ls.mh.length; omega
      clear st
      obtain ⟨wa, hwa⟩ : ∃ wa, wa = wr.alloc (.cells #[.int .i64 kd, .int .i64 tr, .int .i64 jb] 33) := ⟨_, rfl⟩
      rcases (show kd = 1 ∨ kd = 2 ∨ (kd ≠ 1 ∧ kd ≠ 2) by omega) with rfl | rfl | ⟨k1, k2⟩
      focus
        go_wp2_with fail
        rw [← hwa] at st1 ⊢
        replace bo1 : Blk wa wr.heap.size 33 [.int .i64 1, .int .i64 tr, .int .i64 jb] := by rw [hwa]; exact bo1
        clear e0 e1 e2
        generalize wr.heap.size = ob at *
        clear hwa
        have c0 : wa.cell? ⟨ob, 0, none⟩ = some (.int .i64 1) := bo1.cell 0
        have c1 : wa.cell? ⟨ob, 1, none⟩ = some (.int .i64 tr) := bo1.cell 1
        have c2 : wa.cell? ⟨ob, 2, none⟩ = some (.int .i64 jb) := bo1.cell 2
        go_wp2_with fail
        refine (lgrant_any g bh bo _ T now tr jb _ _ wa st1.ls hok (by omega)).mono ?_
        rintro e w4 ⟨rfl, l4, f4⟩
        have b4 := op_l bo1 f4 (fun q hq => (n1 q hq).1) hobB
        obtain ⟨r4, g4⟩ := st1.rl1 f4
        have c1b : w4.cell? ⟨ob, 1, none⟩ = some (.int .i64 tr) := b4.cell 1
        have c2b : w4.cell? ⟨ob, 2, none⟩ = some (.int .i64 jb) := b4.cell 2
        clear c0 c1 c2 bo1
        go_wp2_with fail
        refine (rgrant_any r B T tr jb _ _ w4 r4 (by omega)).mono ?_
        rintro e w5 ⟨rfl, r5, f5⟩
        have f5t := touch_of (B := B) f5
        have b5 := op_r b4 f5t rB hobB
        have hsm := st1.sm.grant tr jb hT1
        have st5 : Bt w w5 g bh bo r B (tr :: G) T now (withKey H tr (jb, (now : Int) + T)) O (insL (L.filter fun m => decide (m.1 ≠ tr)) (tr, jb, T)) Ov := ⟨ls2 l4 (fun k hk => ⟨(n1 k hk).1, (n1 k hk).2.1⟩) f5t, r5, hsm, n1, st1.r0, fr2 g4 f5t st1.r0 rB⟩
        obtain ⟨G9, now9, H9, O9, L9, Ov9, st9, hG9, hn9, hV9⟩ : ∃ (G9 : List Int) (now9 : Nat) (H9 : List (Int × (Int × Int))) (O9 : List (Int × Int)) (L9 Ov9 : List PL), Bt w w5 g bh bo r B G9 T now9 H9 O9 L9 Ov9 ∧ G9.length ≤ k + 1 ∧ now9 ≤ k + 1 ∧ Ov9.length ≤ 300 * (k + 1) := ⟨_, _, _, _, _, _, st5, by simp; omega, by omega, by omega⟩
        clear st1 st5 f4 f5 f5t b4 l4 r4 g4 r5 hsm c1b c2b
        have c1 : w5.cell? ⟨ob, 1, none⟩ = some (.int .i64 tr) := b5.cell 1
        go_wp2_with fail
        refine (rof_any r B T tr _ _ w5 st9.rl).mono ?_
        rintro e w7 ⟨rfl, f7⟩
        obtain ⟨hof1, hof2⟩ := st9.sm.of tr
        rw [hof1, hof2]
        have hlast := st9.sm.ov tr
        have hlen := st9.sm.len
        have st7 := st9.frN f7
        have b7 := f7.blk b5 (fun q => q)
        clear hof1 hof2 st9 b5 c1 f7
        generalize hx1 : (ofL L9 tr).1 = ox at *
        clear hx1
        have hJ := fun (w' : World) (s : Bt w w' g bh bo r B G9 T now9 H9 O9 L9 Ov9) => ljob_any g bh bo _ _ _ tr _ _ w' s.ls hok
        have hL := fun (w' : World) (s : Bt w w' g bh bo r B G9 T now9 H9 O9 L9 Ov9) => lleft_any g bh bo _ _ _ tr _ _ w' s.ls hok (fun x hx => by
          obtain ⟨m, hm, _, rfl⟩ := (s.sm.look_iff tr x).1 hx
          have := s.sm.lb m hm
          have := s.ls.w1
          simp only; omega)
        have hO := fun (w' : World) (s : Bt w w' g bh bo r B G9 T now9 H9 O9 L9 Ov9) => lover_any g bh bo _ _ _ tr _ _ w' s.ls hok
        have hR := fun (w' : World) (s : Bt w w' g bh bo r B G9 T now9 H9 O9 L9 Ov9) => rlast_any r B T tr _ _ w' s.rl
        have hN := fun (w' : World) (s : Bt w w' g bh bo r B G9 T now9 H9 O9 L9 Ov9) => llen_any g bh bo _ _ _ _ _ w' s.ls
        rw [← hlast] at hR
        rw [hlen] at hN
        clear hlast hlen
        generalize ((look H9 tr).getD (0, 0)).1 = xj at *
        generalize leftOf now9 (look H9 tr) = xl at *
        generalize (look O9 tr).getD 0 = xo at *
        replace hJ := Lib.hid hJ
        replace hL := Lib.hid hL
        replace hO := Lib.hid hO
        replace hR := Lib.hid hR
        replace hN := Lib.hid hN
        obtain ⟨aL, cL, hr1⟩ : ∃ aL cL, w7.cell? ⟨r, 1, none⟩ = some (.slice aL L9.length cL) := by
          obtain ⟨⟨aL, cL, aO, cO, hb, _⟩, _⟩ := st7.rl
          exact ⟨aL, cL, hb.cell 1⟩
        have fX := (Fr.refl noB w7).alloc (.cells #[.int .i64 ox, .int .i64 xj, .int .i64 xl] 40)
        have bX := Blk.new w7 40 [.int .i64 ox, .int .i64 xj, .int .i64 xl]
        obtain ⟨wx, hwx⟩ : ∃ wx, wx = w7.alloc (.cells #[.int .i64 ox, .int .i64 xj, .int .i64 xl] 40) := ⟨_, rfl⟩
        go_wp2_with fail
        rw [← hwx] at fX ⊢
        replace bX : Blk wx w7.heap.size 40 [.int .i64 ox, .int .i64 xj, .int .i64 xl] := by rw [hwx]; exact bX
        have st8 := st7.frN fX
        have b8 := fX.blk b7 (fun q => q)
        have r8 := fX.cell hr1 (fun q => q)
        clear hwx st7 b7 hr1 fX
        generalize w7.heap.size = oX at *
        have hfacts : ∀ w', Fr noB wx w' → w'.cell? ⟨ob, 1, none⟩ = some (.int .i64 tr) ∧ w'.cell? ⟨oX, 1, none⟩ = some (.int .i64 xj) ∧ w'.cell? ⟨oX, 2, none⟩ = some (.int .i64 xl) ∧ w'.cell? ⟨r, 1, none⟩ = some (.slice aL L9.length cL) := fun w' f =>
          ⟨(f.blk b8 (fun q => q)).cell 1, (f.blk bX (fun q => q)).cell 1, (f.blk bX (fun q => q)).cell 2, f.cell r8 (fun q => q)⟩
        replace hfacts := Lib.hid hfacts
        generalize L9.length = nL at *
        go_region_held3 (fun w' => w'.cell? ⟨ob, 1, none⟩ = some (.int .i64 tr) ∧ w'.cell? ⟨oX, 1, none⟩ = some (.int .i64 xj) ∧ w'.cell? ⟨oX, 2, none⟩ = some (.int .i64 xl) ∧ w'.cell? ⟨r, 1, none⟩ = some (.slice aL nL cL))
          (first | exact hfacts.out _ ((Fr.refl noB _).drewN 1) | exact hfacts.out _ f4)
          (first
           | (go_at_call 16; refine (hJ.out _ (st8.frN ((Fr.refl noB _).drewN 1))).mono ?_; rintro e w4 ⟨rfl, rfl⟩)
           | (go_at_call 17; refine (hL.out _ (st8.frN ((Fr.refl noB _).drewN 1))).mono ?_; rintro e w4 ⟨rfl, f40⟩; have f4 : Fr noB wx w4 := ((Fr.refl noB wx).drewN 1).seqN f40; have s4 := st8.frN f4)
           | (go_at_call 18; refine (hO.out _ s4).mono ?_; rintro e w6 ⟨rfl, hw6⟩; obtain rfl := hw6.symm)
           | (go_at_call 19; refine (hR.out _ s4).mono ?_; rintro e w6 ⟨rfl, hw6⟩; obtain rfl := hw6.symm)
           | (go_at_call 20; refine (hN.out _ s4).mono ?_; rintro e w6 ⟨rfl, hw6⟩; obtain rfl := hw6.symm))
        all_goals (
          go_wp2_with fail
          go_roundw
          case rel => exact ⟨k + 1, now9, G9, H9, O9, L9, Ov9, by omega, by go_num, s4, hG9, hn9, hV9⟩
          case measure => simp [RowKit.intOf]; omega)
      focus
        go_wp2_with fail
        rw [← hwa] at st1 ⊢
        replace bo1 : Blk wa wr.heap.size 33 [.int .i64 2, .int .i64 tr, .int .i64 jb] := by rw [hwa]; exact bo1
        clear e0 e1 e2
        generalize wr.heap.size = ob at *
        clear hwa
        have c0 : wa.cell? ⟨ob, 0, none⟩ = some (.int .i64 2) := bo1.cell 0
        have c1 : wa.cell? ⟨ob, 1, none⟩ = some (.int .i64 tr) := bo1.cell 1
        have c2 : wa.cell? ⟨ob, 2, none⟩ = some (.int .i64 jb) := bo1.cell 2
        go_wp2_with fail
        refine (lend_any g bh bo _ T now tr _ _ wa st1.ls hok).mono ?_
        rintro e w4 ⟨rfl, l4, f4⟩
        have b4 := op_l bo1 f4 (fun q hq => (n1 q hq).1) hobB
        obtain ⟨r4, g4⟩ := st1.rl1 f4
        have c1b : w4.cell? ⟨ob, 1, none⟩ = some (.int .i64 tr) := b4.cell 1
        clear c0 c1 c2 bo1
        go_wp2_with fail
        refine (rend_any r B T tr _ _ w4 r4).mono ?_
        rintro e w5 ⟨rfl, r5, f5⟩
        have f5t := touch_of (B := B) f5
        have b5 := op_r b4 f5t rB hobB
        have hsm := st1.sm.stop tr
        have st5 : Bt w w5 g bh bo r B G T now (without H tr) O (L.filter fun m => decide (m.1 ≠ tr)) Ov := ⟨ls2 l4 (fun k hk => ⟨(n1 k hk).1, (n1 k hk).2.1⟩) f5t, r5, hsm, n1, st1.r0, fr2 g4 f5t st1.r0 rB⟩
        obtain ⟨G9, now9, H9, O9, L9, Ov9, st9, hG9, hn9, hV9⟩ : ∃ (G9 : List Int) (now9 : Nat) (H9 : List (Int × (Int × Int))) (O9 : List (Int × Int)) (L9 Ov9 : List PL), Bt w w5 g bh bo r B G9 T now9 H9 O9 L9 Ov9 ∧ G9.length ≤ k + 1 ∧ now9 ≤ k + 1 ∧ Ov9.length ≤ 300 * (k + 1) := ⟨_, _, _, _, _, _, st5, by omega, by omega, by omega⟩
        clear st1 st5 f4 f5 f5t b4 l4 r4 g4 r5 hsm c1b
        have c1 : w5.cell? ⟨ob, 1, none⟩ = some (.int .i64 tr) := b5.cell 1
        go_wp2_with fail
        refine (rof_any r B T tr _ _ w5 st9.rl).mono ?_
        rintro e w7 ⟨rfl, f7⟩
        obtain ⟨hof1, hof2⟩ := st9.sm.of tr
        rw [hof1, hof2]
        have hlast := st9.sm.ov tr
        have hlen := st9.sm.len
        have st7 := st9.frN f7
        have b7 := f7.blk b5 (fun q => q)
        clear hof1 hof2 st9 b5 c1 f7
        generalize hx1 : (ofL L9 tr).1 = ox at *
        clear hx1
        have hJ := fun (w' : World) (s : Bt w w' g bh bo r B G9 T now9 H9 O9 L9 Ov9) => ljob_any g bh bo _ _ _ tr _ _ w' s.ls hok
        have hL := fun (w' : World) (s : Bt w w' g bh bo r B G9 T now9 H9 O9 L9 Ov9) => lleft_any g bh bo _ _ _ tr _ _ w' s.ls hok (fun x hx => by
          obtain ⟨m, hm, _, rfl⟩ := (s.sm.look_iff tr x).1 hx
          have := s.sm.lb m hm
          have := s.ls.w1
          simp only; omega)
        have hO := fun (w' : World) (s : Bt w w' g bh bo r B G9 T now9 H9 O9 L9 Ov9) => lover_any g bh bo _ _ _ tr _ _ w' s.ls hok
        have hR := fun (w' : World) (s : Bt w w' g bh bo r B G9 T now9 H9 O9 L9 Ov9) => rlast_any r B T tr _ _ w' s.rl
        have hN := fun (w' : World) (s : Bt w w' g bh bo r B G9 T now9 H9 O9 L9 Ov9) => llen_any g bh bo _ _ _ _ _ w' s.ls
        rw [← hlast] at hR
        rw [hlen] at hN
        clear hlast hlen
        generalize ((look H9 tr).getD (0, 0)).1 = xj at *
        generalize leftOf now9 (look H9 tr) = xl at *
        generalize (look O9 tr).getD 0 = xo at *
        replace hJ := Lib.hid hJ
        replace hL := Lib.hid hL
        replace hO := Lib.hid hO
        replace hR := Lib.hid hR
        replace hN := Lib.hid hN
        obtain ⟨aL, cL, hr1⟩ : ∃ aL cL, w7.cell? ⟨r, 1, none⟩ = some (.slice aL L9.length cL) := by
          obtain ⟨⟨aL, cL, aO, cO, hb, _⟩, _⟩ := st7.rl
          exact ⟨aL, cL, hb.cell 1⟩
        have fX := (Fr.refl noB w7).alloc (.cells #[.int .i64 ox, .int .i64 xj, .int .i64 xl] 40)
        have bX := Blk.new w7 40 [.int .i64 ox, .int .i64 xj, .int .i64 xl]
        obtain ⟨wx, hwx⟩ : ∃ wx, wx = w7.alloc (.cells #[.int .i64 ox, .int .i64 xj, .int .i64 xl] 40) := ⟨_, rfl⟩
        go_wp2_with fail
        rw [← hwx] at fX ⊢
        replace bX : Blk wx w7.heap.size 40 [.int .i64 ox, .int .i64 xj, .int .i64 xl] := by rw [hwx]; exact bX
        have st8 := st7.frN fX
        have b8 := fX.blk b7 (fun q => q)
        have r8 := fX.cell hr1 (fun q => q)
        clear hwx st7 b7 hr1 fX
        generalize w7.heap.size = oX at *
        have hfacts : ∀ w', Fr noB wx w' → w'.cell? ⟨ob, 1, none⟩ = some (.int .i64 tr) ∧ w'.cell? ⟨oX, 1, none⟩ = some (.int .i64 xj) ∧ w'.cell? ⟨oX, 2, none⟩ = some (.int .i64 xl) ∧ w'.cell? ⟨r, 1, none⟩ = some (.slice aL L9.length cL) := fun w' f =>
          ⟨(f.blk b8 (fun q => q)).cell 1, (f.blk bX (fun q => q)).cell 1, (f.blk bX (fun q => q)).cell 2, f.cell r8 (fun q => q)⟩
        replace hfacts := Lib.hid hfacts
        generalize L9.length = nL at *
        go_region_held3 (fun w' => w'.cell? ⟨ob, 1, none⟩ = some (.int .i64 tr) ∧ w'.cell? ⟨oX, 1, none⟩ = some (.int .i64 xj) ∧ w'.cell? ⟨oX, 2, none⟩ = some (.int .i64 xl) ∧ w'.cell? ⟨r, 1, none⟩ = some (.slice aL nL cL))
          (first | exact hfacts.out _ ((Fr.refl noB _).drewN 1) | exact hfacts.out _ f4)
          (first
           | (go_at_call 16; refine (hJ.out _ (st8.frN ((Fr.refl noB _).drewN 1))).mono ?_; rintro e w4 ⟨rfl, rfl⟩)
           | (go_at_call 17; refine (hL.out _ (st8.frN ((Fr.refl noB _).drewN 1))).mono ?_; rintro e w4 ⟨rfl, f40⟩; have f4 : Fr noB wx w4 := ((Fr.refl noB wx).drewN 1).seqN f40; have s4 := st8.frN f4)
           | (go_at_call 18; refine (hO.out _ s4).mono ?_; rintro e w6 ⟨rfl, hw6⟩; obtain rfl := hw6.symm)
           | (go_at_call 19; refine (hR.out _ s4).mono ?_; rintro e w6 ⟨rfl, hw6⟩; obtain rfl := hw6.symm)
           | (go_at_call 20; refine (hN.out _ s4).mono ?_; rintro e w6 ⟨rfl, hw6⟩; obtain rfl := hw6.symm))
        all_goals (
          go_wp2_with fail
          go_roundw
          case rel => exact ⟨k + 1, now9, G9, H9, O9, L9, Ov9, by omega, by go_num, s4, hG9, hn9, hV9⟩
          case measure => simp [RowKit.intOf]; omega)
      focus
        have kb1 : (kd == 1) = false := by simpa using k1
        have kb2 : (kd == 2) = false := by simpa using k2
        clear k1 k2
        go_wp2_with fail
        rw [← hwa] at st1 ⊢
        replace bo1 : Blk wa wr.heap.size 33 [.int .i64 kd, .int .i64 tr, .int .i64 jb] := by rw [hwa]; exact bo1
        clear e0 e1 e2
        generalize wr.heap.size = ob at *
        clear hwa
        have c0 : wa.cell? ⟨ob, 0, none⟩ = some (.int .i64 kd) := bo1.cell 0
        have c1 : wa.cell? ⟨ob, 1, none⟩ = some (.int .i64 tr) := bo1.cell 1
        have c2 : wa.cell? ⟨ob, 2, none⟩ = some (.int .i64 jb) := bo1.cell 2
        go_wp2_with fail
        refine (ltick_any g bh bo _ T now _ _ wa st1.ls (by omega)).mono ?_
        rintro e w4 ⟨v4, E4, O4, rfl, o4, l4, f4, t4⟩
        have b4 := op_l bo1 f4 (fun q hq => (n1 q hq).1) hobB
        obtain ⟨r4, g4⟩ := st1.rl1 f4
        obtain ⟨hE, hsm⟩ := st1.sm.tick t4
        clear c0 c1 c2 bo1
        go_wp2_with fail
        refine (rtick1 r B T _ _ w4 r4 (fun m hm => by have := st1.sm.lb m hm; omega) (by omega)).mono ?_
        rintro e w5 ⟨v5, rfl, rd5, r5, f5⟩
        have b5 := op_r b4 f5 rB hobB
        have hawa := st1.rl.Bw
        have o5 := ownsRow_fr o4 f5 (fun q hq z => by
          rcases z with z | ⟨_, cs', z⟩
          · have := (o4.lt q hq).1; omega
          · obtain ⟨c', e'⟩ := row_type o4 hq
            rw [e'] at z; cases z)
        have hol := outL_len L
        have st5 : Bt w w5 g bh bo r B G T ((now + 1 : Nat) : Int) (goneOf H ((now : Int) + 1)) O4 ((L.map decP).filter fun m => decide (m.1 ∉ (outL L).map (·.1))) (Ov ++ outL L) := ⟨ls2 l4 (fun k hk => ⟨(n1 k hk).1, (n1 k hk).2.1⟩) f5, r5, hsm, n1, st1.r0, fr2 g4 f5 st1.r0 rB⟩
        have hx9 : (Ov ++ outL L).length ≤ 300 * (k + 1) := by simp; omega
        have rd4 := RdI.of_own o5
        rw [hE] at rd4
        clear st1 f4 f5 b4 l4 r4 g4 r5 hsm o4 o5 t4 hE hawa
        go_wp2_with fail
        refine (sameInts_any _ _ _ _ w5 rd4 rd5).mono ?_
        rintro e w6 ⟨rfl, q6, hw6⟩
        have f6 : Fr noB w5 w6 := by rw [hw6]; exact (Fr.refl noB w5).drewN q6
        have st6 := st5.frN f6
        have b6 := f6.blk b5 (fun q => q)
        clear hw6 f6 st5 b5 rd4 rd5
        simp only [decide_true]
        obtain ⟨G9, now9, H9, O9, L9, Ov9, st9, hG9, hn9, hV9⟩ : ∃ (G9 : List Int) (now9 : Nat) (H9 : List (Int × (Int × Int))) (O9 : List (Int × Int)) (L9 Ov9 : List PL), Bt w w6 g bh bo r B G9 T now9 H9 O9 L9 Ov9 ∧ G9.length ≤ k + 1 ∧ now9 ≤ k + 1 ∧ Ov9.length ≤ 300 * (k + 1) := ⟨_, _, _, _, _, _, st6, by omega, by omega, hx9⟩
        clear st6 hx9 hol
        have b5 := b6
        clear b6
        generalize w6 = w5 at *
        have c1 : w5.cell? ⟨ob, 1, none⟩ = some (.int .i64 tr) := b5.cell 1
        go_wp2_with fail
        refine (rof_any r B T tr _ _ w5 st9.rl).mono ?_
        rintro e w7 ⟨rfl, f7⟩
        obtain ⟨hof1, hof2⟩ := st9.sm.of tr
        rw [hof1, hof2]
        have hlast := st9.sm.ov tr
        have hlen := st9.sm.len
        have st7 := st9.frN f7
        have b7 := f7.blk b5 (fun q => q)
        clear hof1 hof2 st9 b5 c1 f7
        generalize hx1 : (ofL L9 tr).1 = ox at *
        clear hx1
        have hJ := fun (w' : World) (s : Bt w w' g bh bo r B G9 T now9 H9 O9 L9 Ov9) => ljob_any g bh bo _ _ _ tr _ _ w' s.ls hok
        have hL := fun (w' : World) (s : Bt w w' g bh bo r B G9 T now9 H9 O9 L9 Ov9) => lleft_any g bh bo _ _ _ tr _ _ w' s.ls hok (fun x hx => by
          obtain ⟨m, hm, _, rfl⟩ := (s.sm.look_iff tr x).1 hx
          have := s.sm.lb m hm
          have := s.ls.w1
          simp only; omega)
        have hO := fun (w' : World) (s : Bt w w' g bh bo r B G9 T now9 H9 O9 L9 Ov9) => lover_any g bh bo _ _ _ tr _ _ w' s.ls hok
        have hR := fun (w' : World) (s : Bt w w' g bh bo r B G9 T now9 H9 O9 L9 Ov9) => rlast_any r B T tr _ _ w' s.rl
        have hN := fun (w' : World) (s : Bt w w' g bh bo r B G9 T now9 H9 O9 L9 Ov9) => llen_any g bh bo _ _ _ _ _ w' s.ls
        rw [← hlast] at hR
        rw [hlen] at hN
        clear hlast hlen
        generalize ((look H9 tr).getD (0, 0)).1 = xj at *
        generalize leftOf now9 (look H9 tr) = xl at *
        generalize (look O9 tr).getD 0 = xo at *
        replace hJ := Lib.hid hJ
        replace hL := Lib.hid hL
        replace hO := Lib.hid hO
        replace hR := Lib.hid hR
        replace hN := Lib.hid hN
        obtain ⟨aL, cL, hr1⟩ : ∃ aL cL, w7.cell? ⟨r, 1, none⟩ = some (.slice aL L9.length cL) := by
          obtain ⟨⟨aL, cL, aO, cO, hb, _⟩, _⟩ := st7.rl
          exact ⟨aL, cL, hb.cell 1⟩
        have fX := (Fr.refl noB w7).alloc (.cells #[.int .i64 ox, .int .i64 xj, .int .i64 xl] 40)
        have bX := Blk.new w7 40 [.int .i64 ox, .int .i64 xj, .int .i64 xl]
        obtain ⟨wx, hwx⟩ : ∃ wx, wx = w7.alloc (.cells #[.int .i64 ox, .int .i64 xj, .int .i64 xl] 40) := ⟨_, rfl⟩
        go_wp2_with fail
        rw [← hwx] at fX ⊢
        replace bX : Blk wx w7.heap.size 40 [.int .i64 ox, .int .i64 xj, .int .i64 xl] := by rw [hwx]; exact bX
        have st8 := st7.frN fX
        have b8 := fX.blk b7 (fun q => q)
        have r8 := fX.cell hr1 (fun q => q)
        clear hwx st7 b7 hr1 fX
        generalize w7.heap.size = oX at *
        have hfacts : ∀ w', Fr noB wx w' → w'.cell? ⟨ob, 1, none⟩ = some (.int .i64 tr) ∧ w'.cell? ⟨oX, 1, none⟩ = some (.int .i64 xj) ∧ w'.cell? ⟨oX, 2, none⟩ = some (.int .i64 xl) ∧ w'.cell? ⟨r, 1, none⟩ = some (.slice aL L9.length cL) := fun w' f =>
          ⟨(f.blk b8 (fun q => q)).cell 1, (f.blk bX (fun q => q)).cell 1, (f.blk bX (fun q => q)).cell 2, f.cell r8 (fun q => q)⟩
        replace hfacts := Lib.hid hfacts
        generalize L9.length = nL at *
        go_region_held3 (fun w' => w'.cell? ⟨ob, 1, none⟩ = some (.int .i64 tr) ∧ w'.cell? ⟨oX, 1, none⟩ = some (.int .i64 xj) ∧ w'.cell? ⟨oX, 2, none⟩ = some (.int .i64 xl) ∧ w'.cell? ⟨r, 1, none⟩ = some (.slice aL nL cL))
          (first | exact hfacts.out _ ((Fr.refl noB _).drewN 1) | exact hfacts.out _ f4)
          (first
           | (go_at_call 16; refine (hJ.out _ (st8.frN ((Fr.refl noB _).drewN 1))).mono ?_; rintro e w4 ⟨rfl, rfl⟩)
           | (go_at_call 17; refine (hL.out _ (st8.frN ((Fr.refl noB _).drewN 1))).mono ?_; rintro e w4 ⟨rfl, f40⟩; have f4 : Fr noB wx w4 := ((Fr.refl noB wx).drewN 1).seqN f40; have s4 := st8.frN f4)
           | (go_at_call 18; refine (hO.out _ s4).mono ?_; rintro e w6 ⟨rfl, hw6⟩; obtain rfl := hw6.symm)
           | (go_at_call 19; refine (hR.out _ s4).mono ?_; rintro e w6 ⟨rfl, hw6⟩; obtain rfl := hw6.symm)
           | (go_at_call 20; refine (hN.out _ s4).mono ?_; rintro e w6 ⟨rfl, hw6⟩; obtain rfl := hw6.symm))
        all_goals (
          go_wp2_with fail
          go_roundw
          case rel => exact ⟨k + 1, now9, G9, H9, O9, L9, Ov9, by omega, by go_num, s4, hG9, hn9, hV9⟩
          case measure => simp [RowKit.intOf]; omega)
    · obtain rfl : k = n := by omega
      go_wp2_with fail
      go_ret
      exact ⟨rfl, st.fr⟩
end Go.Proofs.Ytomgkegjdkkhoaa
