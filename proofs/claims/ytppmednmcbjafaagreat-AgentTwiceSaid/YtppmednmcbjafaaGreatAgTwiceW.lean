/-
  Stage 12: a message that comes twice changes nothing more.
-/
import Derived.Test.YtppmednmcbjafaaGreatAgTwice
set_option linter.unusedVariables false
set_option linter.unusedSimpArgs false
set_option maxRecDepth 100000
set_option maxRecDepth 100000
namespace Go.Proofs.YtppmednmcbjafaaGreat
open Go.RowKit Go Go.Maps Go.Lib

theorem two_ptr (w : World) (pa pb : Nat) : Blk (w.alloc (.cells #[.pointer (some ⟨pa, 0, none⟩), .pointer (some ⟨pb, 0, none⟩)] 28)) w.heap.size 28 [.pointer (some ⟨pa, 0, none⟩), .pointer (some ⟨pb, 0, none⟩)] := Blk.new w _ _
/-- how far both have come -/
def Tw2 (L : Nat → Prop) (ws w : World) (pa pb n : Nat) (P : AG) (j : Nat) : Prop := (j = 0 ∧ TW L ws w pa pb 0 0 AA0 AA0) ∨ (j = 1 ∧ TW L ws w pa pb n 0 P AA0) ∨ (j = 2 ∧ TW L ws w pa pb n n P P)
set_option maxHeartbeats 16000000 in
theorem agentTwice_any (v : Value) (xs : List OpA) (m : OpA) (w : World) (hv : SlR w v 4 (IsOpA w) xs) (hm0 : IsOpA w (opC m) m) :
    Calls Tryz.prog 7 #[v, .agg #[.int .i64 m.k, .int .i64 m.t, .int .i64 m.n, .string m.s]] w fun e w' => e = .returned (.bool true) ∧ Fr noB w w' := by
  have hfew : ∀ w1, Fr noB w w1 → Calls Tryz.prog 9 #[v] w1 fun e w' => e = .returned (.bool (fewB xs)) ∧ Fr noB w1 w' := fun w1 f => few_any v xs w w1 (hv.frame f (fun _ _ q => q))
  obtain ⟨a, c, rfl, hx1, hx2, hx3⟩ := hv
  unfold maxLen at hx2
  have hok := @fewB_ok xs
  have hget : ∀ k, k < xs.length → ∃ m, xs[k]? = some m := fun k hk => ⟨xs[k], List.getElem?_eq_getElem hk⟩
  generalize hn : xs.length = n at *
  replace hx3 := Lib.hid hx3
  replace hget := Lib.hid hget
  replace hn := Lib.hid hn
  replace hfew := Lib.hid hfew
  replace hok := Lib.hid hok
  obtain ⟨hx1, _⟩ := hx1
  generalize hF : fewB xs = F at *
  replace hF := Lib.hid hF
  have fX := (Fr.refl noB w).alloc (.cells #[.int .i64 m.k, .int .i64 m.t, .int .i64 m.n, .string m.s] 36)
  have bX := Blk.new w 36 [.int .i64 m.k, .int .i64 m.t, .int .i64 m.n, .string m.s]
  have hone := fun (u u' : World) (g : Nat) (b : Blk u g 36 (opC m)) => few_any _ [m] w u (slr_one b hm0)
  have hmsg := message_any m
  have hear := fun (L : Nat → Prop) (ws w' : World) (pa pb na nb : Nat) (A B : AG) (h : TW L ws w' pa pb na nb A B) (hn : na < 100000) => tw_ear m h hn
  obtain ⟨Q1, hQ1⟩ : ∃ Q, (plays xs n).ear m = Q := ⟨_, rfl⟩
  obtain ⟨Q2, hQ2⟩ : ∃ Q, Q1.ear m = Q := ⟨_, rfl⟩
  have hobs := obs_ear (plays xs n) m
  rw [hQ1, hQ2] at hobs
  have hearP := fun (L : Nat → Prop) (ws w' : World) (pa pb na nb : Nat) (B : AG) (h : TW L ws w' pa pb na nb (plays xs n) B) (hn : na < 100000) => hear L ws w' pa pb na nb _ B h hn
  have hearQ := fun (L : Nat → Prop) (ws w' : World) (pa pb na nb : Nat) (B : AG) (h : TW L ws w' pa pb na nb Q1 B) (hn : na < 100000) => hear L ws w' pa pb na nb _ B h hn
  rw [hQ1] at hearP
  rw [hQ2] at hearQ
  clear hear hQ1 hQ2
  generalize m.msv = mv at hmsg hearP hearQ
  generalize hF2 : fewB [m] = F2 at hone
  obtain ⟨mk, mt, mn, ms⟩ := m
  unfold opC at hone
  simp only at fX bX hmsg hone ⊢
  replace hmsg := Lib.hid hmsg
  replace hone := Lib.hid hone
  replace hearP := Lib.hid hearP
  replace hearQ := Lib.hid hearQ
  replace hobs := Lib.hid hobs
  replace hF2 := Lib.hid hF2
  go_enter Tryz.func7, Tryz.ntmps7
  go_wp2_with fail
  generalize (w.alloc (.cells #[.int .i64 mk, .int .i64 mt, .int .i64 mn, .string ms] 36)) = wX at *
  obtain ⟨gX, hgX⟩ : ∃ g, w.heap.size = g := ⟨_, rfl⟩
  rw [hgX] at bX
  try rw [hgX]
  replace hgX := Lib.hid hgX
  go_fit (awake_any wX)
  rintro e w1 ⟨rfl, f1⟩
  have g1 := fX.seqN f1
  have b1 := f1.blk bX (fun q => q)
  clear f1 fX bX
  go_wp2_with fail
  go_fit (hfew.out w1 g1)
  rintro e w2 ⟨rfl, f2⟩
  have g2 := g1.seqN f2
  have b2 := f2.blk b1 (fun q => q)
  clear f2 hfew g1 b1
  cases F
  · go_wp2_with fail
    go_fit (awake_any w2)
    rintro e w3 ⟨rfl, f3⟩
    have g3 := g2.seqN f3
    go_wp2_with fail
    go_ret
    exact ⟨rfl, g3⟩
  have hn2 : n ≤ 200 := (hok.out rfl).1
  clear hok
  have c0 : w2.cell? ⟨gX, 0, none⟩ = some (.int .i64 mk) := b2.cell 0
  have c1 : w2.cell? ⟨gX, 1, none⟩ = some (.int .i64 mt) := b2.cell 1
  have c2 : w2.cell? ⟨gX, 2, none⟩ = some (.int .i64 mn) := b2.cell 2
  have c3 : w2.cell? ⟨gX, 3, none⟩ = some (.string ms) := b2.cell 3
  have fY := (Fr.refl noB w2).alloc (.cells #[.int .i64 mk, .int .i64 mt, .int .i64 mn, .string ms] 36)
  have bY := Blk.new w2 36 [.int .i64 mk, .int .i64 mt, .int .i64 mn, .string ms]
  go_wp2_with fail
  have b3 := fY.blk b2 (fun q => q)
  have g3 := g2.seqN fY
  have hY := hone.out _ w2 _ bY
  generalize (w2.alloc (.cells #[.int .i64 mk, .int .i64 mt, .int .i64 mn, .string ms] 36)) = w3 at *
  clear c0 c1 c2 c3 fY bY b2 g2 hone
  replace hY := Lib.hid hY
  go_fit hY.out
  rintro e w4 ⟨rfl, f4⟩
  have g4 := g3.seqN f4
  have b4 := f4.blk b3 (fun q => q)
  have c0 : w4.cell? ⟨gX, 0, none⟩ = some (.int .i64 mk) := b4.cell 0
  clear b3 g3 f4 hY
  cases F2
  · go_wp2_with fail
    go_fit (awake_any w4)
    rintro e w5 ⟨rfl, f5⟩
    have g5 := g4.seqN f5
    go_wp2_with fail
    go_ret
    exact ⟨rfl, g5⟩
  by_cases hk5 : mk < 5
  · have hd : decide (mk < 5) = true := by simpa using hk5
    go_wp2_with fail
    go_fit (awake_any w4)
    rintro e w5 ⟨rfl, f5⟩
    have g5 := g4.seqN f5
    go_wp2_with fail
    go_ret
    exact ⟨rfl, g5⟩
  have hd : decide (mk < 5) = false := by simp; omega
  go_wp2_with fail
  go_fit (cfg_any w4)
  rintro e w5 ⟨rfl, f5⟩
  have g5 := g4.seqN f5
  have b5 := f5.blk b4 (fun q => q)
  clear g4 b4 f5 c0 hd hF2
  go_wp2_with fail
  go_fit (bin_new w5)
  rintro e w6 ⟨pa, ca, rfl, h6, _, _⟩
  have b6 := h6.fr.blk b5 (fun q => q)
  replace h6 := Lib.hid h6
  go_wp2_with fail
  go_fit (cfg_any w6)
  rintro e w7 ⟨rfl, f7⟩
  have h7 := Lib.hid (h6.out.frN f7)
  have b7 := f7.blk b6 (fun q => q)
  clear h6 b6 f7
  go_wp2_with fail
  go_fit (bin_new w7)
  rintro e w8 ⟨pb, cb, rfl, h8, _, _⟩
  have b8 := h8.fr.blk b7 (fun q => q)
  have f9 := (Fr.refl noB w8).alloc (.cells #[.pointer (some ⟨pa, 0, none⟩), .pointer (some ⟨pb, 0, none⟩)] 28)
  have bP := two_ptr w8 pa pb
  have b9 := f9.blk b8 (fun q => q)
  have hTW := tw_new h7.out h8 f9 w8.heap.size rfl bP.lt
  have F9 : Fr noB w (w8.alloc (.cells #[.pointer (some ⟨pa, 0, none⟩), .pointer (some ⟨pb, 0, none⟩)] 28)) := ((g5.seqN h7.out.fr).seqN h8.fr).seqN f9
  have hXL : gX < w5.heap.size := b5.lt
  have hwL : w.heap.size ≤ w5.heap.size := g5.size
  clear h7 h8 b7 b8 f9 b5
  go_wp2_with fail
  generalize (w8.alloc (.cells #[.pointer (some ⟨pa, 0, none⟩), .pointer (some ⟨pb, 0, none⟩)] 28)) = ws at *
  obtain ⟨gs, hgs⟩ : ∃ g, w8.heap.size = g := ⟨_, rfl⟩
  rw [hgs] at bP hTW
  try rw [hgs]
  obtain ⟨L, hL⟩ : ∃ L : Nat → Prop, (fun q => q < w5.heap.size ∨ q = gs) = L := ⟨_, rfl⟩
  rw [hL] at hTW
  have hLX : L gX := by rw [← hL]; exact Or.inl hXL
  have hLs : L gs := by rw [← hL]; exact Or.inr rfl
  have hLw : ∀ q, q < w.heap.size → L q := fun q hq => by rw [← hL]; exact Or.inl (by omega)
  clear hL hXL hwL g5 hgs
  have hfr : ∀ (u : World) (na nb : Nat) (A B : AG), TW L ws u pa pb na nb A B → Fr noB w u := fun _ _ _ _ _ h => by
    obtain ⟨_, _, _, _, _, _, h5⟩ := h
    exact F9.trans h5 (fun _ _ q => q) (fun i hi q => q (hLw i hi))
  replace hfr := Lib.hid hfr
  replace F9 := Lib.hid F9
  replace hLw := Lib.hid hLw
  replace bP := Lib.hid bP
  replace b9 := Lib.hid b9
  have h0 : Tw2 L ws ws pa pb n (plays xs n) 0 := Or.inl ⟨rfl, hTW⟩
  clear hTW
  go_loopw [53] (fun vi wr => ∃ j : Nat, j ≤ 2 ∧ vi = .int .i64 j ∧ Tw2 L ws wr pa pb n (plays xs n) j) (fun vi _ => 2 - (RowKit.intOf vi).toNat)
  case atStart => exact ⟨0, by omega, rfl, h0⟩
  case round =>
    clear h0
    obtain ⟨j, hj, rfl, h2⟩ := hrel
    rcases h2 with ⟨rfl, hT⟩ | ⟨rfl, hT⟩ | ⟨rfl, hT⟩
    · have s0 : wr.cell? ⟨gs, 0, none⟩ = some (.pointer (some ⟨pa, 0, none⟩)) := (hT.blk bP.out hLs).cell 0
      simp only [show ((0 : Nat) : Int) = 0 from rfl]
      have hT0 : TW L ws wr pa pb 0 0 (plays xs 0) AA0 := hT
      clear hT
      go_wp2_with fail
      clear s0
      go_loopw [59] (fun vi wr => ∃ k : Nat, k ≤ n ∧ vi = .int .i64 k ∧ TW L ws wr pa pb k 0 (plays xs k) AA0) (fun vi _ => n - (RowKit.intOf vi).toNat)
      case atStart => exact ⟨0, by omega, rfl, hT0⟩
      case round =>
        clear hT0
        obtain ⟨k, hk, rfl, hB⟩ := hrel
        by_cases hlt : k < n
        · obtain ⟨m, hm⟩ := hget.out k hlt
          obtain ⟨g, o, cs, rfl, hcs, ⟨rfl, hw1, hw2, hw3, hsm⟩, hc⟩ := hx3.out k m hm
          have fr := hfr.out _ _ _ _ _ hB
          have c0 := fr.cell (hc 0 _ rfl) (fun q => q)
          have c1 := fr.cell (hc 1 _ rfl) (fun q => q)
          have c2 := fr.cell (hc 2 _ rfl) (fun q => q)
          have c3 := fr.cell (hc 3 _ rfl) (fun q => q)
          rw [Nat.add_zero] at c0
          simp only [← Nat.add_assoc] at c1 c2 c3
          have hp := plays_succ hm
          have hpi := plays_inv xs k
          have hmm := message_any m
          have hear := fun (w' : World) (h : TW L ws w' pa pb k 0 (plays xs k) AA0) => tw_ear m h (by omega)
          have sp := fun (w' : World) (e : m.k = 1) (h : TW L ws w' pa pb k 0 (plays xs k) AA0) => tw_span m e h (by omega)
          have cr := fun (w' : World) (e : m.k = 2) (h : TW L ws w' pa pb k 0 (plays xs k) AA0) => tw_crumb m e h hw2 (by omega)
          have tr := fun (w' : World) (e : m.k = 3) (h : TW L ws w' pa pb k 0 (plays xs k) AA0) => tw_trig m e h (by omega)
          have ti := fun (w' : World) (e : m.k = 4) (h : TW L ws w' pa pb k 0 (plays xs k) AA0) => tw_tick m e h hpi (by omega)
          have hoe := op_ear (plays xs k) m
          rw [← hp] at sp cr tr ti hoe
          generalize m.msv = mw at hmm hear
          replace hmm := Lib.hid hmm
          replace hear := Lib.hid hear
          replace sp := Lib.hid sp
          replace cr := Lib.hid cr
          replace tr := Lib.hid tr
          replace ti := Lib.hid ti
          replace hoe := Lib.hid hoe
          replace hpi := Lib.hid hpi
          replace hp := Lib.hid hp
          obtain ⟨kk, t, z, s⟩ := m
          simp only at hmm hear sp cr tr ti hoe c0 c1 c2 c3 hw1 hw2 hw3 hsm
          have fA := (Fr.refl noB wr).alloc (.cells #[.int .i64 kk, .int .i64 t, .int .i64 z, .string s] 36)
          have hA := Lib.hid (hB.frN fA)
          replace hm := Lib.hid hm
          clear hc hB fr
          by_cases k1 : kk = 1
          · subst k1
            go_wp2_with fail
            go_fit (sp.out _ (by first | rfl | trivial) hA.out)
            rintro e wC ⟨⟨y, y2, rfl⟩, hC⟩
            clear hA c0 c1 c2 c3 fA
            go_wp2_with fail
            go_roundw
            case rel => exact ⟨k + 1, by omega, by go_num, hC⟩
            case measure => simp [RowKit.intOf]; omega
          by_cases k2 : kk = 2
          · subst k2
            go_wp2_with fail
            go_fit (cr.out _ (by first | rfl | trivial) hA.out)
            rintro e wC ⟨⟨y, rfl⟩, hC⟩
            clear hA c0 c1 c2 c3 fA
            go_wp2_with fail
            go_roundw
            case rel => exact ⟨k + 1, by omega, by go_num, hC⟩
            case measure => simp [RowKit.intOf]; omega
          by_cases k3 : kk = 3
          · subst k3
            go_wp2_with fail
            go_fit (tr.out _ (by first | rfl | trivial) hA.out)
            rintro e wC ⟨⟨y, y2, rfl⟩, hC⟩
            clear hA c0 c1 c2 c3 fA
            go_wp2_with fail
            go_roundw
            case rel => exact ⟨k + 1, by omega, by go_num, hC⟩
            case measure => simp [RowKit.intOf]; omega
          by_cases k4 : kk = 4
          · subst k4
            go_wp2_with fail
            go_fit (ti.out _ (by first | rfl | trivial) hA.out)
            rintro e wC ⟨⟨y, rfl⟩, hC⟩
            clear hA c0 c1 c2 c3 fA
            go_wp2_with fail
            go_roundw
            case rel => exact ⟨k + 1, by omega, by go_num, hC⟩
            case measure => simp [RowKit.intOf]; omega
          · have d1 : decide (kk = 1) = false := by simpa using k1
            have d2 : decide (kk = 2) = false := by simpa using k2
            have d3 : decide (kk = 3) = false := by simpa using k3
            have d4 : decide (kk = 4) = false := by simpa using k4
            have hoe2 := Lib.hid (hoe.out ⟨k1, k2, k3, k4⟩)
            go_wp2_with fail
            go_fit (hmm.out _)
            rintro e wB2 ⟨rfl, fB2⟩
            have hB2 := hA.out.frN fB2
            clear hA c0 c1 c2 c3 fA
            go_wp2_with fail
            go_fit (hear.out wB2 hB2)
            rintro e wC ⟨⟨y, y2, rfl⟩, hC⟩
            rw [← hoe2.out] at hC
            clear hB2
            go_wp2_with fail
            go_roundw
            case rel => exact ⟨k + 1, by omega, by go_num, hC⟩
            case measure => simp [RowKit.intOf]; omega
        · obtain rfl : k = n := by omega
          go_wp2_with fail
          go_roundw
          case rel => exact ⟨1, by omega, by go_num, Or.inr (Or.inl ⟨rfl, hB⟩)⟩
          case measure => simp [RowKit.intOf]
    · have s1 : wr.cell? ⟨gs, 1, none⟩ = some (.pointer (some ⟨pb, 0, none⟩)) := (hT.blk bP.out hLs).cell 1
      simp only [show ((1 : Nat) : Int) = 1 from rfl]
      have hT0 : TW L ws wr pb pa 0 n (plays xs 0) (plays xs n) := hT.swap
      clear hT
      go_wp2_with fail
      clear s1
      go_loopw [59] (fun vi wr => ∃ k : Nat, k ≤ n ∧ vi = .int .i64 k ∧ TW L ws wr pb pa k n (plays xs k) (plays xs n)) (fun vi _ => n - (RowKit.intOf vi).toNat)
      case atStart => exact ⟨0, by omega, rfl, hT0⟩
      case round =>
        clear hT0
        obtain ⟨k, hk, rfl, hB⟩ := hrel
        by_cases hlt : k < n
        · obtain ⟨m, hm⟩ := hget.out k hlt
          obtain ⟨g, o, cs, rfl, hcs, ⟨rfl, hw1, hw2, hw3, hsm⟩, hc⟩ := hx3.out k m hm
          have fr := hfr.out _ _ _ _ _ (TW.swap hB)
          have c0 := fr.cell (hc 0 _ rfl) (fun q => q)
          have c1 := fr.cell (hc 1 _ rfl) (fun q => q)
          have c2 := fr.cell (hc 2 _ rfl) (fun q => q)
          have c3 := fr.cell (hc 3 _ rfl) (fun q => q)
          rw [Nat.add_zero] at c0
          simp only [← Nat.add_assoc] at c1 c2 c3
          have hp := plays_succ hm
          have hpi := plays_inv xs k
          have hmm := message_any m
          have hear := fun (w' : World) (h : TW L ws w' pb pa k n (plays xs k) (plays xs n)) => tw_ear m h (by omega)
          have sp := fun (w' : World) (e : m.k = 1) (h : TW L ws w' pb pa k n (plays xs k) (plays xs n)) => tw_span m e h (by omega)
          have cr := fun (w' : World) (e : m.k = 2) (h : TW L ws w' pb pa k n (plays xs k) (plays xs n)) => tw_crumb m e h hw2 (by omega)
          have tr := fun (w' : World) (e : m.k = 3) (h : TW L ws w' pb pa k n (plays xs k) (plays xs n)) => tw_trig m e h (by omega)
          have ti := fun (w' : World) (e : m.k = 4) (h : TW L ws w' pb pa k n (plays xs k) (plays xs n)) => tw_tick m e h hpi (by omega)
          have hoe := op_ear (plays xs k) m
          rw [← hp] at sp cr tr ti hoe
          generalize m.msv = mw at hmm hear
          replace hmm := Lib.hid hmm
          replace hear := Lib.hid hear
          replace sp := Lib.hid sp
          replace cr := Lib.hid cr
          replace tr := Lib.hid tr
          replace ti := Lib.hid ti
          replace hoe := Lib.hid hoe
          replace hpi := Lib.hid hpi
          replace hp := Lib.hid hp
          obtain ⟨kk, t, z, s⟩ := m
          simp only at hmm hear sp cr tr ti hoe c0 c1 c2 c3 hw1 hw2 hw3 hsm
          have fA := (Fr.refl noB wr).alloc (.cells #[.int .i64 kk, .int .i64 t, .int .i64 z, .string s] 36)
          have hA := Lib.hid (hB.frN fA)
          replace hm := Lib.hid hm
          clear hc hB fr
          by_cases k1 : kk = 1
          · subst k1
            go_wp2_with fail
            go_fit (sp.out _ (by first | rfl | trivial) hA.out)
            rintro e wC ⟨⟨y, y2, rfl⟩, hC⟩
            clear hA c0 c1 c2 c3 fA
            go_wp2_with fail
            go_roundw
            case rel => exact ⟨k + 1, by omega, by go_num, hC⟩
            case measure => simp [RowKit.intOf]; omega
          by_cases k2 : kk = 2
          · subst k2
            go_wp2_with fail
            go_fit (cr.out _ (by first | rfl | trivial) hA.out)
            rintro e wC ⟨⟨y, rfl⟩, hC⟩
            clear hA c0 c1 c2 c3 fA
            go_wp2_with fail
            go_roundw
            case rel => exact ⟨k + 1, by omega, by go_num, hC⟩
            case measure => simp [RowKit.intOf]; omega
          by_cases k3 : kk = 3
          · subst k3
            go_wp2_with fail
            go_fit (tr.out _ (by first | rfl | trivial) hA.out)
            rintro e wC ⟨⟨y, y2, rfl⟩, hC⟩
            clear hA c0 c1 c2 c3 fA
            go_wp2_with fail
            go_roundw
            case rel => exact ⟨k + 1, by omega, by go_num, hC⟩
            case measure => simp [RowKit.intOf]; omega
          by_cases k4 : kk = 4
          · subst k4
            go_wp2_with fail
            go_fit (ti.out _ (by first | rfl | trivial) hA.out)
            rintro e wC ⟨⟨y, rfl⟩, hC⟩
            clear hA c0 c1 c2 c3 fA
            go_wp2_with fail
            go_roundw
            case rel => exact ⟨k + 1, by omega, by go_num, hC⟩
            case measure => simp [RowKit.intOf]; omega
          · have d1 : decide (kk = 1) = false := by simpa using k1
            have d2 : decide (kk = 2) = false := by simpa using k2
            have d3 : decide (kk = 3) = false := by simpa using k3
            have d4 : decide (kk = 4) = false := by simpa using k4
            have hoe2 := Lib.hid (hoe.out ⟨k1, k2, k3, k4⟩)
            go_wp2_with fail
            go_fit (hmm.out _)
            rintro e wB2 ⟨rfl, fB2⟩
            have hB2 := hA.out.frN fB2
            clear hA c0 c1 c2 c3 fA
            go_wp2_with fail
            go_fit (hear.out wB2 hB2)
            rintro e wC ⟨⟨y, y2, rfl⟩, hC⟩
            rw [← hoe2.out] at hC
            clear hB2
            go_wp2_with fail
            go_roundw
            case rel => exact ⟨k + 1, by omega, by go_num, hC⟩
            case measure => simp [RowKit.intOf]; omega
        · obtain rfl : k = n := by omega
          go_wp2_with fail
          go_roundw
          case rel => exact ⟨2, by omega, by go_num, Or.inr (Or.inr ⟨rfl, hB.swap⟩)⟩
          case measure => simp [RowKit.intOf]
    · simp only [show ((2 : Nat) : Int) = 2 from rfl]
      have bT := hT.blk b9.out hLX
      have c0 : wr.cell? ⟨gX, 0, none⟩ = some (.int .i64 mk) := bT.cell 0
      have c1 : wr.cell? ⟨gX, 1, none⟩ = some (.int .i64 mt) := bT.cell 1
      have c2 : wr.cell? ⟨gX, 2, none⟩ = some (.int .i64 mn) := bT.cell 2
      have c3 : wr.cell? ⟨gX, 3, none⟩ = some (.string ms) := bT.cell 3
      replace hT := Lib.hid hT
      go_wp2_with fail
      go_fit (hmsg.out wr)
      rintro e u1 ⟨rfl, f1⟩
      have t1 := hT.out.frN f1
      clear hT c0 c1 c2 c3 bT f1
      go_wp2_with fail
      go_fit (hearP.out _ _ _ _ _ _ _ _ t1 (by omega))
      rintro e u2 ⟨⟨x1, x2, rfl⟩, t2⟩
      have bT := t2.blk b9.out hLX
      have c0 : u2.cell? ⟨gX, 0, none⟩ = some (.int .i64 mk) := bT.cell 0
      have c1 : u2.cell? ⟨gX, 1, none⟩ = some (.int .i64 mt) := bT.cell 1
      have c2 : u2.cell? ⟨gX, 2, none⟩ = some (.int .i64 mn) := bT.cell 2
      have c3 : u2.cell? ⟨gX, 3, none⟩ = some (.string ms) := bT.cell 3
      clear t1
      go_wp2_with fail
      go_fit (hmsg.out u2)
      rintro e u3 ⟨rfl, f1⟩
      have t3 := (t2.frN f1).swap
      clear t2 c0 c1 c2 c3 bT f1
      go_wp2_with fail
      go_fit (hearP.out _ _ _ _ _ _ _ _ t3 (by omega))
      rintro e u4 ⟨⟨x3, x4, rfl⟩, t4⟩
      have bT := t4.blk b9.out hLX
      have c0 : u4.cell? ⟨gX, 0, none⟩ = some (.int .i64 mk) := bT.cell 0
      have c1 : u4.cell? ⟨gX, 1, none⟩ = some (.int .i64 mt) := bT.cell 1
      have c2 : u4.cell? ⟨gX, 2, none⟩ = some (.int .i64 mn) := bT.cell 2
      have c3 : u4.cell? ⟨gX, 3, none⟩ = some (.string ms) := bT.cell 3
      clear t3
      go_wp2_with fail
      go_fit (hmsg.out u4)
      rintro e u5 ⟨rfl, f1⟩
      have t5 := t4.frN f1
      clear t4 c0 c1 c2 c3 bT f1
      go_wp2_with fail
      go_fit (hearQ.out _ _ _ _ _ _ _ _ t5 (by omega))
      rintro e u6 ⟨⟨x5, x6, rfl⟩, t6'⟩
      have t6 := t6'.swap
      clear t5 t6' hx3 hget hn b9 bP
      go_wp2_with fail
      go_loopw [111] (fun vi wr => ∃ k : Nat, k ≤ 10 ∧ vi = .int .i64 k ∧ ∃ na nb, TW L ws wr pa pb na nb Q1 Q2) (fun vi _ => 10 - (RowKit.intOf vi).toNat)
      case atStart => exact ⟨0, by omega, rfl, _, _, t6⟩
      case round =>
        clear t6
        obtain ⟨k, hk, rfl, na, nb, hT⟩ := hrel
        by_cases hlt : k < 10
        · have hokk : okI (k : Int) := okI_of (by omega) (by omega)
          have hd : decide ((k : Int) < 10) = true := by simp; omega
          have q1 := fun u (h : TW L ws u pa pb na nb Q1 Q2) => tw_job h hokk
          have q2 := fun u (h : TW L ws u pa pb na nb Q1 Q2) => tw_job h.swap hokk
          have q3 := fun u (h : TW L ws u pa pb na nb Q1 Q2) => tw_lost h hokk
          have q4 := fun u (h : TW L ws u pa pb na nb Q1 Q2) => tw_lost h.swap hokk
          have q5 := fun u (h : TW L ws u pa pb na nb Q1 Q2) => tw_spans (t := (k : Int)) h
          have q6 := fun u (h : TW L ws u pa pb na nb Q1 Q2) => tw_spans (t := (k : Int)) h.swap
          have q7 := fun u (h : TW L ws u pa pb na nb Q1 Q2) => tw_crumbs h hokk
          have q8 := fun u (h : TW L ws u pa pb na nb Q1 Q2) => tw_crumbs h.swap hokk
          rw [hobs.out.job] at q2
          rw [hobs.out.loss] at q4
          rw [hobs.out.P] at q6
          rw [hobs.out.X] at q8
          generalize Q1.job (k : Int) = v1 at q1 q2
          generalize decide ((k : Int) ∈ Q1.K.loss) = v2 at q3 q4
          generalize (txt Q1.K.P (k : Int)).length = v3 at q5 q6
          generalize (Q1.X (k : Int)).length = v4 at q7 q8
          replace q1 := Lib.hid q1
          replace q2 := Lib.hid q2
          replace q3 := Lib.hid q3
          replace q4 := Lib.hid q4
          replace q5 := Lib.hid q5
          replace q6 := Lib.hid q6
          replace q7 := Lib.hid q7
          replace q8 := Lib.hid q8
          go_wp2_with fail
          go_fit (q1.out wr hT)
          rintro e u1 ⟨rfl, hw⟩
          obtain rfl := hw.symm
          clear hw
          go_wp2_with fail
          go_fit (q2.out wr hT)
          rintro e u1 ⟨rfl, hw⟩
          obtain rfl := hw.symm
          clear hw
          go_wp2_with fail
          go_fit (q3.out wr hT)
          rintro e u3 ⟨rfl, f3⟩
          have t3 := hT.frN f3
          go_wp2_with fail
          go_fit (q4.out u3 t3)
          rintro e u4 ⟨rfl, f4⟩
          have t4 := t3.frN f4
          go_wp2_with fail
          go_fit (q5.out u4 t4)
          rintro e u5 ⟨⟨y1, y2, rfl⟩, f5⟩
          have t5 := t4.frN f5
          go_wp2_with fail
          go_fit (q6.out u5 t5)
          rintro e u6 ⟨⟨y3, y4, rfl⟩, f6⟩
          have t6 := t5.frN f6
          go_wp2_with fail
          go_fit (q7.out u6 t6)
          rintro e u7 ⟨⟨y5, y6, rfl⟩, f7⟩
          have t7 := t6.frN f7
          go_wp2_with fail
          go_fit (q8.out u7 t7)
          rintro e u8 ⟨⟨y7, y8, rfl⟩, f8⟩
          have t8 := t7.frN f8
          go_wp2_with fail
          go_roundw
          case rel => exact ⟨k + 1, by omega, by go_num, na, nb, t8⟩
          case measure => simp [RowKit.intOf]; omega
        · obtain rfl : k = 10 := by omega
          have q1 := fun u (h : TW L ws u pa pb na nb Q1 Q2) => tw_used h
          have q2 := fun u (h : TW L ws u pa pb na nb Q1 Q2) => tw_used h.swap
          have q3 := fun u (h : TW L ws u pa pb na nb Q1 Q2) => tw_evicted h
          have q4 := fun u (h : TW L ws u pa pb na nb Q1 Q2) => tw_evicted h.swap
          rw [hobs.out.P] at q2
          rw [hobs.out.gone] at q4
          generalize used Q1.K.P = v1 at q1 q2
          generalize Q1.K.gone.length = v2 at q3 q4
          replace q1 := Lib.hid q1
          replace q2 := Lib.hid q2
          replace q3 := Lib.hid q3
          replace q4 := Lib.hid q4
          simp only [show ((10 : Nat) : Int) = 10 from rfl]
          go_wp2_with fail
          go_fit (q1.out wr hT)
          rintro e u1 ⟨rfl, f1⟩
          have t1 := hT.frN f1
          go_wp2_with fail
          go_fit (q2.out u1 t1)
          rintro e u2 ⟨rfl, f2⟩
          have t2 := t1.frN f2
          go_wp2_with fail
          go_fit (q3.out u2 t2)
          rintro e u3 ⟨⟨y1, y2, rfl⟩, f3⟩
          have t3 := t2.frN f3
          go_wp2_with fail
          go_fit (q4.out u3 t3)
          rintro e u4 ⟨⟨y3, y4, rfl⟩, f4⟩
          have t4 := t3.frN f4
          have g4 := hfr.out _ _ _ _ _ t4
          go_wp2_with fail
          go_ret
          exact ⟨rfl, g4⟩
theorem agentTwice_cs (v : Value) (xs : List OpA) (cs : Array Value) (m : OpA) (w : World) (hv : SlR w v 4 (IsOpA w) xs) (h : IsOpA w cs.toList m) :
    Calls Tryz.prog 7 #[v, .agg cs] w fun e w' => e = .returned (.bool true) ∧ Fr noB w w' := by
  have h0 := h.1
  obtain ⟨cs⟩ := cs
  simp only at h0
  subst h0
  exact agentTwice_any v xs m w hv h
end Go.Proofs.YtppmednmcbjafaaGreat
