/-
  Stage 12: no agent uses more buffers than it has; a trace that was lost is written no more.
-/
import Derived.Test.YtppmednmcbjafaaGreatAgL
set_option linter.unusedVariables false
set_option linter.unusedSimpArgs false
set_option maxRecDepth 100000
set_option maxRecDepth 100000
set_option maxRecDepth 100000
namespace Go.Proofs.YtppmednmcbjafaaGreat
open Go.RowKit Go Go.Maps Go.Lib

theorem bin_span2 {w0 w w1 : World} {p n : Nat} {t : Int} (h : BIn w0 w p n) (fA : Fr noB w w1) (ht : okI t) (hn : n < 100000) : Calls Tryz.prog 34 #[.pointer (some ⟨p, 0, none⟩), .int .i64 t] w1 fun e w1' => ∃ b, e = .returned (.bool b) ∧ BIn w0 w1' p n ∧ Fr noB w1 w1' ∧ ∀ (x : ByteArray) (w2 : World), Fr noB w1' w2 → Calls Tryz.prog 13 #[.pointer (some ⟨p, 0, none⟩), .int .i64 t, .string x] w2 fun e w' => ∃ q z S, e = .returned (.tuple #[spV q, .int .i64 z]) ∧ SpOk t x b z q ∧ BIn w0 w' p (n + 1) ∧ Fr S w2 w' ∧ ∀ q, w.heap.size ≤ q → ¬ S q := by
  obtain ⟨col, A, h1, h2, h3⟩ := h
  have hlow : ∀ q, w.heap.size ≤ q → ¬ col q ≠ 0 := fun q hq hc => by
    obtain ⟨a, ha⟩ := h1.ag
    have := ha.low q hc
    omega
  have hA := h1.frN fA
  refine (ag_lostIn hA ht).mono ?_
  rintro e w1' ⟨rfl, f⟩
  refine ⟨_, rfl, ⟨col, A, hA.frN f, h2, h3⟩, f, fun x w2 f2 => ?_⟩
  have hB := (hA.frN f).frN f2
  obtain ⟨a, ha⟩ := hB.ag
  exact (ag_span p col n A a t x w2 ha hn).mono fun e w' ⟨k1, c2, k2⟩ => ⟨_, _, _, k1, wr_ok _ _ _ _, ⟨c2, _, hB.step k2, h2.wr t x, h3⟩, k2.2.1, hlow⟩
theorem cfg_buffers (w : World) : (Instr.field 24 (.agg #[.int .i64 3, .int .i64 4, .int .i64 3, .int .i64 4, .int .u64 9, .int .i64 2, .int .i64 1]) 1).run Tryz.prog w = .ok (.int .i64 4) w := by kernel_rfl
set_option maxHeartbeats 8000000 in
theorem agentBounds_any (v : Value) (xs : List OpA) (w : World) (hv : SlR w v 4 (IsOpA w) xs) :
    Calls Tryz.prog 6 #[v] w fun e w' => e = .returned (.bool true) ∧ Fr noB w w' := by
  have hfew : ∀ w1, Fr noB w w1 → Calls Tryz.prog 9 #[v] w1 fun e w' => e = .returned (.bool (fewB xs)) ∧ Fr noB w1 w' := fun w1 f => few_any v xs w w1 (hv.frame f (fun _ _ q => q))
  obtain ⟨a, c, rfl, hx1, hx2, hx3⟩ := hv
  unfold maxLen at hx2
  have hok := @fewB_ok xs
  have hget : ∀ k, k < xs.length → ∃ m, xs[k]? = some m := fun k hk => ⟨xs[k], List.getElem?_eq_getElem hk⟩
  generalize hn : xs.length = n at *
  replace hx3 := Lib.hid hx3
  replace hget := Lib.hid hget
  replace hn := Lib.hid hn
  replace hfew := Lib.hid hfew
  replace hok := Lib.hid hok
  obtain ⟨hx1, _⟩ := hx1
  generalize fewB xs = F at *
  go_enter Tryz.func6, Tryz.ntmps6
  go_wp2_with fail
  go_fit (awake_any w)
  rintro e w1 ⟨rfl, f1⟩
  go_wp2_with fail
  go_fit (hfew.out w1 f1)
  rintro e w2 ⟨rfl, f2⟩
  have g2 := f1.seqN f2
  clear f1 f2 hfew
  cases F
  · go_wp2_with fail
    go_fit (awake_any w2)
    rintro e w3 ⟨rfl, f3⟩
    have g3 := g2.seqN f3
    go_wp2_with fail
    go_ret
    exact ⟨rfl, g3⟩
  · obtain ⟨hn2, _⟩ := hok.out rfl
    clear hok
    go_wp2_with fail
    go_fit (cfg_any w2)
    rintro e w3 ⟨rfl, f3⟩
    have g3 := g2.seqN f3
    clear f3 g2
    go_wp2_with fail
    go_fit (bin_new w3)
    rintro e w4 ⟨p, col, rfl, h4, hi4, hN4⟩
    have b4 : BIn w w4 p 0 := ⟨col, AA0, ⟨h4.ag, g3.seqN h4.fr, fun q hq => h4.lo q (Nat.lt_of_lt_of_le hq g3.size)⟩, hi4, hN4⟩
    clear h4 hi4 hN4 g3
    go_wp2_with fail
    go_loopw [27] (fun i wr => ∃ k : Nat, k ≤ n ∧ i = .int .i64 k ∧ BIn w wr p k) (fun i _ => n - (RowKit.intOf i).toNat)
    case atStart => exact ⟨0, by omega, rfl, b4⟩
    case round =>
      obtain ⟨k, hk, rfl, hB⟩ := hrel
      clear b4
      by_cases hlt : k < n
      · obtain ⟨m, hm⟩ := hget.out k hlt
        obtain ⟨g, o, cs, rfl, hcs, ⟨rfl, hw1, hw2, hw3, hsm⟩, hc⟩ := hx3.out k m hm
        have fr := hB.fr
        have c0 := fr.cell (hc 0 _ rfl) (fun q => q)
        have c1 := fr.cell (hc 1 _ rfl) (fun q => q)
        have c2 := fr.cell (hc 2 _ rfl) (fun q => q)
        have c3 := fr.cell (hc 3 _ rfl) (fun q => q)
        rw [Nat.add_zero] at c0
        simp only [← Nat.add_assoc] at c1 c2 c3
        have hmsg := message_any m
        have hear := fun (w' : World) (h : BIn w w' p k) => bin_ear m h (by omega)
        generalize m.msv = mv at hmsg hear
        replace hmsg := Lib.hid hmsg
        replace hear := Lib.hid hear
        obtain ⟨kk, t, z, s⟩ := m
        simp only at hmsg hear c0 c1 c2 c3 hw1 hw2 hw3 hsm
        have fA := (Fr.refl noB wr).alloc (.cells #[.int .i64 kk, .int .i64 t, .int .i64 z, .string s] 36)
        have bA := Blk.new wr 36 [.int .i64 kk, .int .i64 t, .int .i64 z, .string s]
        have hA := Lib.hid (And.intro hB fA)
        have hge := Lib.hid (Nat.le_refl wr.heap.size)
        replace hm := Lib.hid hm
        obtain ⟨gA, hgA⟩ : ∃ q, wr.heap.size = q := ⟨_, rfl⟩
        rw [hgA] at bA
        replace hgA := Lib.hid hgA
        have a1 : (wr.alloc (.cells #[.int .i64 kk, .int .i64 t, .int .i64 z, .string s] 36)).cell? ⟨gA, 1, none⟩ = some (.int .i64 t) := bA.cell 1
        clear hc fA hB fr
        have fin : ∀ w' : World, BIn w w' p (k + 1) → Calls Tryz.prog 36 #[.pointer (some ⟨p, 0, none⟩)] w' fun e w2 => (∃ u : Int, e = .returned (.int .i64 u) ∧ decide (4 < u) = false) ∧ BIn w w2 p (k + 1) := fun w' h => (bin_used h).mono fun e w2 ⟨h1, h2⟩ => ⟨h1, h.frN h2⟩
        replace fin := Lib.hid fin
        go_wp2_with fail
        rw [hgA.out]
        generalize hwA : (wr.alloc (.cells #[.int .i64 kk, .int .i64 t, .int .i64 z, .string s] 36)) = wA at *
        clear c0 c1 c2 c3 hwA
        go_fit (bin_span2 hA.out.1 hA.out.2 hw2 (by omega))
        rintro e wB ⟨b, rfl, hB, fB, hsp⟩
        have bB := fB.blk bA (fun q => q)
        replace hsp := Lib.hid hsp
        have c0 : wB.cell? ⟨gA, 0, none⟩ = some (.int .i64 kk) := bB.cell 0
        have c1 : wB.cell? ⟨gA, 1, none⟩ = some (.int .i64 t) := bB.cell 1
        have c2 : wB.cell? ⟨gA, 2, none⟩ = some (.int .i64 z) := bB.cell 2
        have c3 : wB.cell? ⟨gA, 3, none⟩ = some (.string s) := bB.cell 3
        replace hB := Lib.hid hB
        replace bB := Lib.hid bB
        clear fB bA hA a1
        by_cases k1 : kk = 1
        · subst k1
          go_wp2_with fail
          go_fit (hsp.out s wB (Fr.refl _ _))
          rintro e wC ⟨⟨qt, qq, qx⟩, y, S, rfl, hy, hC', fS, hS⟩
          unfold SpOk at hy
          simp only at hy
          have fC := (Fr.refl noB wC).alloc (.cells #[.int .i64 qt, .int .i64 qq, .string qx] 38)
          have bC := Blk.new wC 38 [.int .i64 qt, .int .i64 qq, .string qx]
          have bG := fC.blk (fS.blk bB.out (hS gA (by have := hge.out; have := hgA.out; omega))) (fun q => q)
          have hC := hC'.frN fC
          have e1 : (wC.alloc (.cells #[.int .i64 qt, .int .i64 qq, .string qx] 38)).cell? ⟨gA, 1, none⟩ = some (.int .i64 t) := bG.cell 1
          have e3 : (wC.alloc (.cells #[.int .i64 qt, .int .i64 qq, .string qx] 38)).cell? ⟨gA, 3, none⟩ = some (.string s) := bG.cell 3
          have q0 : (wC.alloc (.cells #[.int .i64 qt, .int .i64 qq, .string qx] 38)).cell? ⟨wC.heap.size, 0, none⟩ = some (.int .i64 qt) := bC.cell 0
          have q2 : (wC.alloc (.cells #[.int .i64 qt, .int .i64 qq, .string qx] 38)).cell? ⟨wC.heap.size, 2, none⟩ = some (.string qx) := bC.cell 2
          clear c0 c1 c2 c3 hB hsp hC' fS hS fC bC bG bB
          unfold spV
          simp only
          rcases hy with rfl | ⟨rfl, rfl⟩ | ⟨rfl, hy⟩ | ⟨rfl, rfl, rfl, rfl⟩
          · cases b
            · go_wp2_with fail
              go_fit (fin.out _ hC)
              rintro e wD ⟨⟨u, rfl, hu⟩, hD⟩
              clear hC
              go_wp2_with fail
              go_fit (cfg_any wD)
              rintro e wE ⟨rfl, fE⟩
              have hE := hD.frN fE
              have hfd := cfg_buffers
              go_wp2_with fail
              go_roundw
              case rel => exact ⟨k + 1, by omega, by go_num, hE⟩
              case measure => simp [RowKit.intOf]; omega
            · go_wp2_with fail
              go_fit (fin.out _ hC)
              rintro e wD ⟨⟨u, rfl, hu⟩, hD⟩
              clear hC
              go_wp2_with fail
              go_fit (cfg_any wD)
              rintro e wE ⟨rfl, fE⟩
              have hE := hD.frN fE
              have hfd := cfg_buffers
              go_wp2_with fail
              go_roundw
              case rel => exact ⟨k + 1, by omega, by go_num, hE⟩
              case measure => simp [RowKit.intOf]; omega
          · go_wp2_with fail
            go_fit (fin.out _ hC)
            rintro e wD ⟨⟨u, rfl, hu⟩, hD⟩
            clear hC
            go_wp2_with fail
            go_fit (cfg_any wD)
            rintro e wE ⟨rfl, fE⟩
            have hE := hD.frN fE
            have hfd := cfg_buffers
            go_wp2_with fail
            go_roundw
            case rel => exact ⟨k + 1, by omega, by go_num, hE⟩
            case measure => simp [RowKit.intOf]; omega
          · have hy' : decide (y = 0) = false := by simpa using hy
            go_wp2_with fail
            go_fit (fin.out _ hC)
            rintro e wD ⟨⟨u, rfl, hu⟩, hD⟩
            clear hC
            go_wp2_with fail
            go_fit (cfg_any wD)
            rintro e wE ⟨rfl, fE⟩
            have hE := hD.frN fE
            have hfd := cfg_buffers
            go_wp2_with fail
            go_roundw
            case rel => exact ⟨k + 1, by omega, by go_num, hE⟩
            case measure => simp [RowKit.intOf]; omega
          · go_wp2_with fail
            go_fit (fin.out _ hC)
            rintro e wD ⟨⟨u, rfl, hu⟩, hD⟩
            clear hC
            go_wp2_with fail
            go_fit (cfg_any wD)
            rintro e wE ⟨rfl, fE⟩
            have hE := hD.frN fE
            have hfd := cfg_buffers
            go_wp2_with fail
            go_roundw
            case rel => exact ⟨k + 1, by omega, by go_num, hE⟩
            case measure => simp [RowKit.intOf]; omega
        by_cases k2 : kk = 2
        · subst k2
          go_wp2_with fail
          go_fit (bin_crumb hB.out hw2 (by omega))
          rintro e wC ⟨⟨y, rfl⟩, hC⟩
          clear hB c0 c1 c2 c3 bB hsp
          go_wp2_with fail
          go_fit (fin.out wC hC)
          rintro e wD ⟨⟨u, rfl, hu⟩, hD⟩
          clear hC
          go_wp2_with fail
          go_fit (cfg_any wD)
          rintro e wE ⟨rfl, fE⟩
          have hE := hD.frN fE
          have hfd := cfg_buffers
          go_wp2_with fail
          go_roundw
          case rel => exact ⟨k + 1, by omega, by go_num, hE⟩
          case measure => simp [RowKit.intOf]; omega
        by_cases k3 : kk = 3
        · subst k3
          go_wp2_with fail
          go_fit (bin_trig hB.out (by omega))
          rintro e wC ⟨⟨y, y2, rfl⟩, hC⟩
          clear hB c0 c1 c2 c3 bB hsp
          go_wp2_with fail
          go_fit (fin.out wC hC)
          rintro e wD ⟨⟨u, rfl, hu⟩, hD⟩
          clear hC
          go_wp2_with fail
          go_fit (cfg_any wD)
          rintro e wE ⟨rfl, fE⟩
          have hE := hD.frN fE
          have hfd := cfg_buffers
          go_wp2_with fail
          go_roundw
          case rel => exact ⟨k + 1, by omega, by go_num, hE⟩
          case measure => simp [RowKit.intOf]; omega
        by_cases k4 : kk = 4
        · subst k4
          go_wp2_with fail
          go_fit (bin_tick hB.out (by omega))
          rintro e wC ⟨⟨y, rfl⟩, hC⟩
          clear hB c0 c1 c2 c3 bB hsp
          go_wp2_with fail
          go_fit (fin.out wC hC)
          rintro e wD ⟨⟨u, rfl, hu⟩, hD⟩
          clear hC
          go_wp2_with fail
          go_fit (cfg_any wD)
          rintro e wE ⟨rfl, fE⟩
          have hE := hD.frN fE
          have hfd := cfg_buffers
          go_wp2_with fail
          go_roundw
          case rel => exact ⟨k + 1, by omega, by go_num, hE⟩
          case measure => simp [RowKit.intOf]; omega
        · have d1 : decide (kk = 1) = false := by simpa using k1
          have d2 : decide (kk = 2) = false := by simpa using k2
          have d3 : decide (kk = 3) = false := by simpa using k3
          have d4 : decide (kk = 4) = false := by simpa using k4
          go_wp2_with fail
          go_fit (hmsg.out wB)
          rintro e wB2 ⟨rfl, fB2⟩
          have hB2 := hB.out.frN fB2
          clear hB c0 c1 c2 c3 bB hsp
          go_wp2_with fail
          go_fit (hear.out wB2 hB2)
          rintro e wC ⟨⟨y, y2, rfl⟩, hC⟩
          clear hB2
          go_wp2_with fail
          go_fit (fin.out wC hC)
          rintro e wD ⟨⟨u, rfl, hu⟩, hD⟩
          clear hC
          go_wp2_with fail
          go_fit (cfg_any wD)
          rintro e wE ⟨rfl, fE⟩
          have hE := hD.frN fE
          have hfd := cfg_buffers
          go_wp2_with fail
          go_roundw
          case rel => exact ⟨k + 1, by omega, by go_num, hE⟩
          case measure => simp [RowKit.intOf]; omega
      · obtain rfl : k = n := by omega
        have fr := hB.fr
        go_wp2_with fail
        go_ret
        exact ⟨rfl, fr⟩
end Go.Proofs.YtppmednmcbjafaaGreat
