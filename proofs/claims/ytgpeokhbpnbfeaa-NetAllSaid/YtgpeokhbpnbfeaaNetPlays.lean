import Derived.Test.YtgpeokhbpnbfeaaNetLaws
set_option linter.unusedVariables false
set_option linter.unusedSimpArgs false
namespace Go.Proofs.Ytgpeokhbpnbfeaa
open Go.RowKit Go Go.Lib

theorem Both.alloc {w0 w : World} {B g r : Nat} {ms : List (Int × ByteArray)} (h : Both w0 w B g r ms) (o : Obj) : Both w0 (w.alloc o) B g r ms := by
  have hf := (Fr.refl noB w).alloc o
  obtain ⟨aT, cT, aS, cS, hb, hT, hS, hrB, hBw, hl⟩ := h.rn
  exact ⟨h.nt.frame hf (fun q => q) (fun _ _ _ q => q), ⟨aT, cT, aS, cS, hf.keepN hb, ownsRow_fr hT hf (fun _ _ q => q), ownsRow_fr hS hf (fun _ _ q => q), hrB, Nat.le_trans hBw hf.size, hl⟩, h.ne, h.fr.alloc o, h.g0, h.r0, h.B0⟩
/-- the loop's own element stands beside both nets -/
theorem op_beside {w w' : World} {g B ob : Nat} {ms : List (Int × ByteArray)} {cs : List Value} (h : Blk w ob 32 cs) (k : Nt w g B ms) (hf : Fr (touched w g) w w') : Blk w' ob 32 cs := by
  refine hf.blk h (fun q => ?_)
  rcases touched_type k q with rfl | ⟨_, cs', h2⟩
  · obtain ⟨a, c, hb, _⟩ := k
    unfold Blk at h hb
    rw [h] at hb; cases hb
  · unfold Blk at h
    rw [h] at h2; cases h2
theorem op_besideR {w w' : World} {r B ob : Nat} {ms : List (Int × ByteArray)} {cs : List Value} (h : Blk w ob 32 cs) (k : Rn w r B ms) (hf : Fr (touchedR w r B) w w') : Blk w' ob 32 cs := by
  refine hf.blk h (fun q => ?_)
  rcases q with rfl | ⟨_, cs', t, h2, h3⟩
  · obtain ⟨aT, cT, aS, cS, hb, _⟩ := k
    unfold Blk at h hb
    rw [h] at hb; cases hb
  · unfold Blk at h
    rw [h] at h2; cases h2
    rcases h3 with h3 | h3 <;> cases h3

theorem Half.step {w0 w w' : World} {B g r : Nat} {ms ms2 ms3 : List (Int × ByteArray)} (h : Half w0 w B g r ms ms2) (n2 : Nt w' g B ms3) (hf : Fr (touched w g) w w') : Half w0 w' B g r ms ms3 :=
  ⟨n2, h.rn.beside h.nt hf h.ne, h.ne, h.fr.noT hf h.nt h.g0 h.B0, h.g0, h.r0, h.B0⟩
theorem Rn.at {w : World} {r B : Nat} {ms : List (Int × ByteArray)} (h : Rn w r B ms) {i : Nat} {m : Int × ByteArray} (hm : ms[i]? = some m) :
    ∃ gT cT gS cS, w.cell? ⟨r, 0, none⟩ = some (.slice (some ⟨gT, 0, none⟩) ms.length cT) ∧ w.cell? ⟨r, 1, none⟩ = some (.slice (some ⟨gS, 0, none⟩) ms.length cS) ∧ w.cell? ⟨gT, i, none⟩ = some (.int .i64 m.1) ∧ w.cell? ⟨gS, i, none⟩ = some (.string m.2) := by
  obtain ⟨aT, cT, aS, cS, hb, hT, hS, _⟩ := h
  have hpos : 0 < ms.length := by
    rcases Nat.lt_or_ge i ms.length with h1 | h1
    · omega
    · rw [List.getElem?_eq_none h1] at hm; cases hm
  obtain ⟨gT, _, hv, _⟩ := ownsRow_some hT hpos
  cases hv
  obtain ⟨gS, _, hv, _⟩ := ownsRow_some hS hpos
  cases hv
  refine ⟨gT, _, gS, _, hb.cell 0, hb.cell 1, ?_, ?_⟩
  · have := hT.cells rfl i (.int .i64 m.1) (by simp [toC, hm])
    rwa [Addr.add_lit, Nat.zero_add] at this
  · have := hS.cells rfl i (.string m.2) (by simp [sC, hm])
    rwa [Addr.add_lit, Nat.zero_add] at this
/-- the place, or none -/
def plc (ms : List (Int × ByteArray)) (k : Int) : Int := if ms = [] then -1 else placeN k ms.length
theorem rplace_all (r B : Nat) (ms : List (Int × ByteArray)) (k : Int) (w : World) (h : Rn w r B ms) : Calls Try.prog 8 #[.pointer (some ⟨r, 0, none⟩), .int .i64 k] w fun e w' => e = .returned (.int .i64 (plc ms k)) ∧ w' = w := by
  by_cases h0 : ms = []
  · subst h0; exact rplace_none r B k w h
  · unfold plc; rw [if_neg h0]; exact rplace_any r B ms k w h (List.length_pos_iff.2 h0)
set_option maxRecDepth 10000 in
set_option maxHeartbeats 2000000 in
theorem plays_any (v : Value) (xs : List (Int × Int × Int × ByteArray)) (w : World) (hxs : SlR w v 4 IsOp xs) :
    Calls Try.prog 3 #[v] w fun e w' => e = .returned (.bool true) ∧ Fr noB w w' := by
  obtain ⟨a, c, rfl, hx1, hx2, hx3⟩ := hxs
  unfold maxLen at hx2
  generalize hn : xs.length = n at *
  replace hx3 := Lib.hid hx3
  obtain ⟨hx1, _⟩ := hx1
  have hnb : n ≤ 9223372036854775807 := by omega
  replace hn := Lib.hid hn
  go_enter Try.func3, Try.ntmps3
  go_wp2_with fail
  refine (awake_any w).mono ?_
  rintro e w1 ⟨rfl, f1⟩
  by_cases hl : 500 < n
  · go_wp2_with fail
    refine (awake_any w1).mono ?_
    rintro e w2 ⟨rfl, f2⟩
    go_wp2
    go_ret
    exact ⟨rfl, f1.seqN f2⟩
  have hd1 : decide (500 < (n : Int)) = false := by simp; omega
  go_wp2_with fail
  refine (nnew_any w1).mono ?_
  rintro e w2 ⟨rfl, hw2⟩
  have z2 : w2.heap.size = w1.heap.size + 1 := by rw [hw2]; simp
  have b2 : Blk w2 w1.heap.size 48 [.slice none 0 0] := by rw [hw2]; exact Blk.new w1 _ _
  have f2 : Fr noB w1 w2 := by rw [hw2]; exact (Fr.refl _ _).alloc _
  clear hw2
  replace z2 := Lib.hid z2
  have hf := (Fr.refl noB w2).alloc (.cells #[.slice none 0 0, .slice none 0 0] 30)
  have hsz : (w2.alloc (.cells #[.slice none 0 0, .slice none 0 0] 30)).heap.size = w2.heap.size + 1 := by simp
  have st0 : Both w (w2.alloc (.cells #[.slice none 0 0, .slice none 0 0] 30)) (w2.heap.size + 1) w1.heap.size w2.heap.size [] :=
    ⟨⟨none, 0, hf.keepN b2, World.ownsRow_nil _ _ _ _, by have := z2.out; omega, by rw [hsz]; exact Nat.le_refl _, Nat.zero_le _⟩,
     ⟨none, 0, none, 0, Blk.new w2 _ [.slice none 0 0, .slice none 0 0], World.ownsRow_nil _ _ _ _, World.ownsRow_nil _ _ _ _, by omega, by rw [hsz]; exact Nat.le_refl _, Nat.zero_le _⟩,
     by have := z2.out; omega, (f1.seqN f2).seqN hf, f1.size, by have := f1.size; have := z2.out; omega, by have := f1.size; have := z2.out; omega⟩
  clear b2 f2 f1 hf hsz
  go_wp2_with fail
  generalize hG : w1.heap.size = g at *
  generalize hR : w2.heap.size = r at *
  generalize hBB : r + 1 = B at *
  clear hG z2 hBB
  replace hR := Lib.hid hR
  go_loopw [28] (fun i wr => ∃ (k : Nat) (ms : List (Int × ByteArray)), k ≤ n ∧ i = .int .i64 k ∧ Both w wr B g r ms) (fun i _ => n - (RowKit.intOf i).toNat)
  case atStart => exact ⟨0, [], by omega, rfl, st0⟩
  case round =>
    clear st0
    obtain ⟨k, ms, hk, rfl, st⟩ := hrel
    by_cases hlt : k < n
    · obtain ⟨⟨kd, to, kk, s⟩, hop⟩ : ∃ o, xs[k]? = some o := ⟨_, List.getElem?_eq_getElem (by rw [hn.out]; exact hlt)⟩
      obtain ⟨g0, o0, cs, ha, hcs, ⟨hcs2, hI1, hI2, hI3, hsz⟩, hcell⟩ := hx3.out k _ hop
      subst ha hcs2
      have e0 := st.fr.cell (hcell 0 _ rfl) (fun q => q)
      have e1 := st.fr.cell (hcell 1 _ rfl) (fun q => q)
      have e2 := st.fr.cell (hcell 2 _ rfl) (fun q => q)
      have e3 := st.fr.cell (hcell 3 _ rfl) (fun q => q)
      clear hop hcell
      simp only [← Nat.add_assoc, Nat.add_zero] at e0 e1 e2 e3 hI1 hI2 hI3 hsz
      by_cases hs2 : 300 < s.size
      · go_wp2
        go_ret
        exact ⟨rfl, st.fr.alloc _⟩
      have hs3 : s.size ≤ 300 := by omega
      have hd2 : decide (300 < (s.size : Int)) = false := by simp; omega
      have st1 := st.alloc (.cells #[.int .i64 kd, .int .i64 to, .int .i64 kk, .string s] 32)
      have bo := Blk.new wr 32 [.int .i64 kd, .int .i64 to, .int .i64 kk, .string s]
      clear st hsz
      obtain ⟨wa, hwa⟩ : ∃ wa, wa = wr.alloc (.cells #[.int .i64 kd, .int .i64 to, .int .i64 kk, .string s] 32) := ⟨_, rfl⟩
      go_wp2_with fail
      rw [← hwa] at st1 ⊢
      have bo1 : Blk wa wr.heap.size 32 [.int .i64 kd, .int .i64 to, .int .i64 kk, .string s] := by rw [hwa]; exact bo
      clear bo e0 e1 e2 e3
      generalize wr.heap.size = ob at *
      clear hwa
      have c0 : wa.cell? ⟨ob, 0, none⟩ = some (.int .i64 kd) := bo1.cell 0
      have c1 : wa.cell? ⟨ob, 1, none⟩ = some (.int .i64 to) := bo1.cell 1
      have c2 : wa.cell? ⟨ob, 2, none⟩ = some (.int .i64 kk) := bo1.cell 2
      have c3 : wa.cell? ⟨ob, 3, none⟩ = some (.string s) := bo1.cell 3
      refine (rplace_all r B ms kk wa st1.rn).mono ?_
      rintro e w3 ⟨rfl, hw3⟩
      obtain rfl := hw3.symm
      clear hx3 hn hs2 hd2 hl hd1 hx1 hx2
      generalize hp : plc ms kk = p
      replace hp := Lib.hid hp
      go_wp2_with fail
      rotate_left
      rotate_left
      rotate_left
      focus
        clear c1 c3 hI1 hI2 hI3 hs3
        by_cases h0 : ms = []
        · subst h0
          go_region_held3 (fun w' => w'.cell? ⟨ob, 2, none⟩ = some (.int .i64 kk))
            (first | exact c2 | exact d2 | exact q2)
            (first
             | (go_at_call 14; refine (ndrop_none g B kk _ ?_).mono ?_; exact st1.nt; rintro e w4 ⟨rfl, rfl⟩)
             | (go_at_call 13; refine (rdrop_none r B kk _ ?_).mono ?_; exact st1.rn; rintro e w5 ⟨rfl, rfl⟩))
          have st5 : Both w wa.drew B g r [] := st1.drewN 1
          clear st1 bo1 c0 c2
          generalize wa.drew = w5 at *
          obtain ⟨ms9, st9⟩ : ∃ ms9, Both w w5 B g r ms9 := ⟨_, st5⟩
          clear st5
          obtain ⟨aT, cT, aS, cS, hb9, _⟩ := id st9.rn
          have z1 : w5.cell? ⟨r, 1, none⟩ = some (.slice aS ms9.length cS) := hb9.cell 1
          have hLen := fun q : Nat => nlen_any g B ms9 (w5.drewN q) (st9.nt.drewN q)
          generalize ms9.length = L at z1 hLen
          clear hb9
          go_wp2_with fail
          go_quiet ((go_at_call 15; exact Calls.quiet_of_same (hLen _)))
          go_wp2_with fail
          go_roundw
          case rel => exact ⟨k + 1, ms9, by omega, by go_num, st9.drewN _⟩
          case measure => simp [RowKit.intOf]; omega
        · have hpos : 0 < ms.length := List.length_pos_iff.2 h0
          go_region_held3 (fun w' => w'.cell? ⟨ob, 2, none⟩ = some (.int .i64 kk))
            (first | exact c2 | exact d2 | exact q2)
            (first
             | (go_at_call 14; refine (ndrop_any g B ms kk _ ?_ hpos).mono ?_; exact st1.nt; rintro e w4 ⟨rfl, n4, f4⟩; have hh := (st1.drewN 1).half n4 f4; have o4 := op_beside (w := wa.drew) bo1 st1.nt f4; have d2 : w4.cell? ⟨ob, 2, none⟩ = some (.int .i64 kk) := o4.cell 2)
             | (go_at_call 13; refine (rdrop_any r B ms kk _ ?_ hpos).mono ?_; exact hh.rn; rintro e w5 ⟨rfl, r5, f5⟩; have st5 := hh.both r5 f5; have q2 : w5.cell? ⟨ob, 2, none⟩ = some (.int .i64 kk) := (op_besideR o4 hh.rn f5).cell 2))
          clear n4 f4 hh o4 d2 r5 f5 q2 st1 bo1 c0 c2 hpos
          obtain ⟨ms9, st9⟩ : ∃ ms9, Both w w5 B g r ms9 := ⟨_, st5⟩
          clear st5
          obtain ⟨aT, cT, aS, cS, hb9, _⟩ := id st9.rn
          have z1 : w5.cell? ⟨r, 1, none⟩ = some (.slice aS ms9.length cS) := hb9.cell 1
          have hLen := fun q : Nat => nlen_any g B ms9 (w5.drewN q) (st9.nt.drewN q)
          generalize ms9.length = L at z1 hLen
          clear hb9
          go_wp2_with fail
          go_quiet ((go_at_call 15; exact Calls.quiet_of_same (hLen _)))
          go_wp2_with fail
          go_roundw
          case rel => exact ⟨k + 1, ms9, by omega, by go_num, st9.drewN _⟩
          case measure => simp [RowKit.intOf]; omega
      focus
        clear c0 c2 hI1 hI2 hI3 hs3
        by_cases hfull : ms.length < 200
        · go_region_held3 (fun w' => w'.cell? ⟨ob, 1, none⟩ = some (.int .i64 to) ∧ w'.cell? ⟨ob, 3, none⟩ = some (.string s))
            (first | exact ⟨c1, c3⟩ | exact ⟨d1, d3⟩ | exact ⟨q1, q3⟩)
            (first
             | (go_at_call 9; refine (nsend_any g B ms to s _ ?_ hfull).mono ?_; exact st1.nt; rintro e w4 ⟨rfl, n4, f4⟩; have hh := (st1.drewN 1).half n4 f4; have o4 := op_beside (w := wa.drew) bo1 st1.nt f4; have d1 : w4.cell? ⟨ob, 1, none⟩ = some (.int .i64 to) := o4.cell 1; have d3 : w4.cell? ⟨ob, 3, none⟩ = some (.string s) := o4.cell 3)
             | (go_at_call 10; refine (rsend_any r B ms to s _ ?_ hfull).mono ?_; exact hh.rn; rintro e w5 ⟨rfl, r5, f5⟩; have st5 := hh.both r5 f5; have q1 : w5.cell? ⟨ob, 1, none⟩ = some (.int .i64 to) := (op_besideR o4 hh.rn f5).cell 1; have q3 : w5.cell? ⟨ob, 3, none⟩ = some (.string s) := (op_besideR o4 hh.rn f5).cell 3))
          clear n4 f4 hh o4 d1 d3 r5 f5 q1 q3 st1 bo1 c1 c3 hfull
          obtain ⟨ms9, st9⟩ : ∃ ms9, Both w w5 B g r ms9 := ⟨_, st5⟩
          clear st5
          obtain ⟨aT, cT, aS, cS, hb9, _⟩ := id st9.rn
          have z1 : w5.cell? ⟨r, 1, none⟩ = some (.slice aS ms9.length cS) := hb9.cell 1
          have hLen := fun q : Nat => nlen_any g B ms9 (w5.drewN q) (st9.nt.drewN q)
          generalize ms9.length = L at z1 hLen
          clear hb9
          go_wp2_with fail
          go_quiet ((go_at_call 15; exact Calls.quiet_of_same (hLen _)))
          go_wp2_with fail
          go_roundw
          case rel => exact ⟨k + 1, ms9, by omega, by go_num, st9.drewN _⟩
          case measure => simp [RowKit.intOf]; omega
        · have hf2 : ms.length = 200 := by obtain ⟨_, _, _, _, _, _, q⟩ := st1.nt; omega
          replace hf2 := Lib.hid hf2
          go_region_held3 (fun w' => w'.cell? ⟨ob, 1, none⟩ = some (.int .i64 to) ∧ w'.cell? ⟨ob, 3, none⟩ = some (.string s))
            (first | exact ⟨c1, c3⟩ | exact ⟨d1, d3⟩ | exact ⟨q1, q3⟩)
            (first
             | (go_at_call 9; refine (nsend_full g B ms to s _ ?_ hf2.out).mono ?_; exact st1.nt; rintro e w4 ⟨rfl, rfl⟩)
             | (go_at_call 10; refine (rsend_full r B ms to s _ ?_ hf2.out).mono ?_; exact st1.rn; rintro e w5 ⟨rfl, rfl⟩))
          have st5 : Both w wa.drew B g r ms := st1.drewN 1
          clear st1 bo1 c1 c3 hfull
          generalize wa.drew = w5 at *
          obtain ⟨ms9, st9⟩ : ∃ ms9, Both w w5 B g r ms9 := ⟨_, st5⟩
          clear st5
          obtain ⟨aT, cT, aS, cS, hb9, _⟩ := id st9.rn
          have z1 : w5.cell? ⟨r, 1, none⟩ = some (.slice aS ms9.length cS) := hb9.cell 1
          have hLen := fun q : Nat => nlen_any g B ms9 (w5.drewN q) (st9.nt.drewN q)
          generalize ms9.length = L at z1 hLen
          clear hb9
          go_wp2_with fail
          go_quiet ((go_at_call 15; exact Calls.quiet_of_same (hLen _)))
          go_wp2_with fail
          go_roundw
          case rel => exact ⟨k + 1, ms9, by omega, by go_num, st9.drewN _⟩
          case measure => simp [RowKit.intOf]; omega
      focus
        clear c1 c3 hI1 hI2 hI3 hs3
        by_cases h0 : ms = []
        · subst h0
          obtain rfl : p = -1 := by have := hp.out; simp [plc] at this; omega
          refine (nlook_none g B kk wa st1.nt).mono ?_
          rintro e w4 ⟨rfl, hw4⟩
          obtain rfl := hw4.symm
          go_wp2_with fail
          refine (nbring_none g B kk wa st1.nt).mono ?_
          rintro e w4 ⟨rfl, hw4⟩
          obtain rfl := hw4.symm
          go_wp2_with fail
          refine (rdrop_none r B kk wa st1.rn).mono ?_
          rintro e w4 ⟨rfl, hw4⟩
          obtain rfl := hw4.symm
          obtain ⟨w5, hw5⟩ : ∃ w5, w5 = wa := ⟨_, rfl⟩
          have st5 : Both w w5 B g r [] := by rw [hw5]; exact st1
          rw [← hw5]
          clear st1 bo1 c0 c2 hw5
          obtain ⟨ms9, st9⟩ : ∃ ms9, Both w w5 B g r ms9 := ⟨_, st5⟩
          clear st5
          obtain ⟨aT, cT, aS, cS, hb9, _⟩ := id st9.rn
          have z1 : w5.cell? ⟨r, 1, none⟩ = some (.slice aS ms9.length cS) := hb9.cell 1
          have hLen := fun q : Nat => nlen_any g B ms9 (w5.drewN q) (st9.nt.drewN q)
          generalize ms9.length = L at z1 hLen
          clear hb9
          go_wp2_with fail
          go_quiet ((go_at_call 15; exact Calls.quiet_of_same (hLen _)))
          go_wp2_with fail
          go_roundw
          case rel => exact ⟨k + 1, ms9, by omega, by go_num, st9.drewN _⟩
          case measure => simp [RowKit.intOf]; omega
        · have hpos : 0 < ms.length := List.length_pos_iff.2 h0
          have hpl := placeN_lt kk ms.length hpos
          obtain ⟨m, hm⟩ : ∃ m, ms[placeN kk ms.length]? = some m := ⟨_, List.getElem?_eq_getElem hpl⟩
          obtain rfl : p = (placeN kk ms.length : Int) := by have := hp.out; rw [plc, if_neg h0] at this; omega
          refine (nlook_any g B ms kk m wa st1.nt hpos hm).mono ?_
          rintro e w4 ⟨rfl, q4, rfl⟩
          go_wp2_with fail
          refine (nbring_any g B ms kk m _ (st1.nt.drewN q4) hpos hm).mono ?_
          rintro e w4 ⟨rfl, n4, f4⟩
          have hh := (st1.drewN q4).half n4 f4
          have o4 := op_beside (w := wa.drewN q4) bo1 st1.nt f4
          have d0 : w4.cell? ⟨ob, 0, none⟩ = some (.int .i64 kd) := o4.cell 0
          have d2 : w4.cell? ⟨ob, 2, none⟩ = some (.int .i64 kk) := o4.cell 2
          have hdr := rdrop_any r B ms kk w4 hh.rn hpos
          obtain ⟨gT, cT, gS, cS, t0, t1, t2, t3⟩ := hh.rn.at hm
          clear n4 f4 st1 bo1 c0 c2 hp hm o4
          obtain ⟨ms2, hms2⟩ : ∃ ms2, ms2 = ms.take (placeN kk ms.length) ++ ms.drop (placeN kk ms.length + 1) := ⟨_, rfl⟩
          rw [← hms2] at hh hdr
          replace hms2 := Lib.hid hms2
          generalize placeN kk ms.length = i at *
          generalize ms.length = L at *
          go_wp2_with fail
          refine hdr.mono ?_
          rintro e w5 ⟨rfl, r5, f5⟩
          have st5 := hh.both r5 f5
          clear hh r5 f5 d0 d2 t0 t1 t2 t3 hdr
          obtain ⟨ms9, st9⟩ : ∃ ms9, Both w w5 B g r ms9 := ⟨_, st5⟩
          clear st5
          obtain ⟨aT, cT, aS, cS, hb9, _⟩ := id st9.rn
          have z1 : w5.cell? ⟨r, 1, none⟩ = some (.slice aS ms9.length cS) := hb9.cell 1
          have hLen := fun q : Nat => nlen_any g B ms9 (w5.drewN q) (st9.nt.drewN q)
          generalize ms9.length = L at z1 hLen
          clear hb9
          go_wp2_with fail
          go_quiet ((go_at_call 15; exact Calls.quiet_of_same (hLen _)))
          go_wp2_with fail
          go_roundw
          case rel => exact ⟨k + 1, ms9, by omega, by go_num, st9.drewN _⟩
          case measure => simp [RowKit.intOf]; omega
      focus
        clear c1 c3 hI1 hI2 hI3 hs3
        by_cases h0 : ms = []
        · subst h0
          obtain rfl : p = -1 := by have := hp.out; simp [plc] at this; omega
          refine (nlook_none g B kk wa st1.nt).mono ?_
          rintro e w4 ⟨rfl, hw4⟩
          obtain rfl := hw4.symm
          obtain ⟨w5, hw5⟩ : ∃ w5, w5 = wa := ⟨_, rfl⟩
          have st5 : Both w w5 B g r [] := by rw [hw5]; exact st1
          have d0 : w5.cell? ⟨ob, 0, none⟩ = some (.int .i64 kd) := by rw [hw5]; exact c0
          rw [← hw5]
          clear st1 bo1 c0 c2 hw5
          obtain ⟨ms9, st9⟩ : ∃ ms9, Both w w5 B g r ms9 := ⟨_, st5⟩
          clear st5
          obtain ⟨aT, cT, aS, cS, hb9, _⟩ := id st9.rn
          have z1 : w5.cell? ⟨r, 1, none⟩ = some (.slice aS ms9.length cS) := hb9.cell 1
          have hLen := fun q : Nat => nlen_any g B ms9 (w5.drewN q) (st9.nt.drewN q)
          generalize ms9.length = L at z1 hLen
          clear hb9
          go_wp2_with fail
          go_quiet ((go_at_call 15; exact Calls.quiet_of_same (hLen _)))
          go_wp2_with fail
          go_roundw
          case rel => exact ⟨k + 1, ms9, by omega, by go_num, st9.drewN _⟩
          case measure => simp [RowKit.intOf]; omega
        · have hpos : 0 < ms.length := List.length_pos_iff.2 h0
          have hpl := placeN_lt kk ms.length hpos
          obtain ⟨m, hm⟩ : ∃ m, ms[placeN kk ms.length]? = some m := ⟨_, List.getElem?_eq_getElem hpl⟩
          obtain rfl : p = (placeN kk ms.length : Int) := by have := hp.out; rw [plc, if_neg h0] at this; omega
          refine (nlook_any g B ms kk m wa st1.nt hpos hm).mono ?_
          rintro e w4 ⟨rfl, q4, hw4⟩
          have st5 : Both w w4 B g r ms := by rw [hw4]; exact st1.drewN q4
          have d0 : w4.cell? ⟨ob, 0, none⟩ = some (.int .i64 kd) := by rw [hw4]; exact c0
          obtain ⟨gT, cT, gS, cS, t0, t1, t2, t3⟩ := st5.rn.at hm
          clear st1 bo1 c0 c2 hp hm hw4
          generalize placeN kk ms.length = i at *
          generalize ms.length = L at t0 t1 hpl
          obtain ⟨w5, rfl⟩ : ∃ w5, w5 = w4 := ⟨_, rfl⟩
          go_wp2_with fail
          clear t0 t1 t2 t3 d0 hpl
          obtain ⟨ms9, st9⟩ : ∃ ms9, Both w w5 B g r ms9 := ⟨_, st5⟩
          clear st5
          obtain ⟨aT, cT, aS, cS, hb9, _⟩ := id st9.rn
          have z1 : w5.cell? ⟨r, 1, none⟩ = some (.slice aS ms9.length cS) := hb9.cell 1
          have hLen := fun q : Nat => nlen_any g B ms9 (w5.drewN q) (st9.nt.drewN q)
          generalize ms9.length = L at z1 hLen
          clear hb9
          go_wp2_with fail
          go_quiet ((go_at_call 15; exact Calls.quiet_of_same (hLen _)))
          go_wp2_with fail
          go_roundw
          case rel => exact ⟨k + 1, ms9, by omega, by go_num, st9.drewN _⟩
          case measure => simp [RowKit.intOf]; omega
    · obtain rfl : k = n := by omega
      clear hx1 hx2 hx3 hn hd1 hl hlt
      have st2 : Half w wr B g r ms (ms.drop 0) := ⟨st.nt, st.rn, st.ne, st.fr, st.g0, st.r0, st.B0⟩
      obtain ⟨aT, cT, aS, cS, hb9, _, _, _, _, hL200⟩ := id st.rn
      have z1 : wr.cell? ⟨r, 1, none⟩ = some (.slice aS ms.length cS) := hb9.cell 1
      clear hb9 st
      generalize hL : ms.length = L at *
      replace hL := Lib.hid hL
      go_wp2_with fail
      clear z1
      go_loopw [150] (fun i wr => ∃ j : Nat, j ≤ L ∧ i = .int .i64 j ∧ Half w wr B g r ms (ms.drop j)) (fun i _ => L - (RowKit.intOf i).toNat)
      case atStart => exact ⟨0, by omega, rfl, st2⟩
      case round =>
        clear st2
        rename_i wr2
        obtain ⟨j, hj, rfl, st3⟩ := hrel
        by_cases hlt2 : j < L
        · obtain ⟨m, hm⟩ : ∃ m, ms[j]? = some m := ⟨_, List.getElem?_eq_getElem (by rw [hL.out]; exact hlt2)⟩
          have hpos2 : 0 < (ms.drop j).length := by have := hL.out; simp; omega
          have hm0 : (ms.drop j)[placeN 0 (ms.drop j).length]? = some m := by rw [pl0 _ hpos2]; simpa using hm
          have hms : (ms.drop j).take (placeN 0 (ms.drop j).length) ++ (ms.drop j).drop (placeN 0 (ms.drop j).length + 1) = ms.drop (j + 1) := by rw [pl0 _ hpos2]; simp [Nat.add_comm]
          replace hms := Lib.hid hms
          go_wp2_with fail
          refine (nbring_any g B _ 0 m _ st3.nt hpos2 hm0).mono ?_
          rintro e w4 ⟨rfl, n4, f4⟩
          rw [hms.out] at n4
          have st4 := st3.step n4 f4
          obtain ⟨gT, cT, gS, cS, t0, t1, t2, t3⟩ := st4.rn.at hm
          rw [hL.out] at t0 t1
          clear hms hm0 hm hpos2 n4 f4 st3
          go_wp2_with fail
          go_roundw
          case rel => exact ⟨j + 1, by omega, by go_num, st4⟩
          case measure => simp [RowKit.intOf]; omega
        · obtain rfl : j = L := by omega
          have hLen := nlen_any g B _ _ st3.nt
          rw [show (ms.drop j).length = 0 by have := hL.out; simp; omega] at hLen
          go_wp2_with fail
          refine hLen.mono ?_
          rintro e w4 ⟨rfl, hw4⟩
          obtain rfl := hw4.symm
          go_wp2_with fail
          go_ret
          exact ⟨rfl, st3.fr⟩
end Go.Proofs.Ytgpeokhbpnbfeaa
