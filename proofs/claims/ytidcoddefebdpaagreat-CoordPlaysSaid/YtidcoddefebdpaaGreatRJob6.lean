/-
  The reference's job: Outs, phase by phase.
-/
import Derived.Test.YtidcoddefebdpaaGreatRjC
import Derived.Deep.LoopGhost
set_option linter.unusedVariables false
set_option linter.unusedSimpArgs false
set_option maxRecDepth 100000
set_option maxRecDepth 100000
namespace Go.Proofs.YtidcoddefebdpaaGreat
open Go.RowKit Go Go.Lib

/-- what is still to be said to an agent: a message's kind, or 0 -/
def RJ.kd (q : RJ) (i : Nat) : Int := if q.S.getD i 0 = 0 then 0 else if q.ph = 1 ∧ q.S.getD i 0 = 1 then 2 else if q.ph = 2 then 5 else if q.ph = 3 ∧ q.F.getD i false = false then 9 else 0
def RJ.ks (q : RJ) : Nat → List (Int × Int)
  | 0 => []
  | k + 1 => q.ks k ++ if 0 < q.kd k then [((k : Int), q.kd k)] else []
theorem ks_len (q : RJ) (k : Nat) : (q.ks k).length ≤ k := by
  induction k with
  | zero => simp [RJ.ks]
  | succ k ih =>
    unfold RJ.ks
    rw [List.length_append]
    split
    · simp; omega
    · simp; omega
def RJ.toL (L : List (Int × Int)) : List Value := L.map fun x => .int .i64 x.1
def RJ.msL (q : RJ) (L : List (Int × Int)) : List Value := L.flatMap fun x => mrC { k := x.2, t := q.tr, j := q.id }
theorem infoMsgK : (Tryz.prog.info? 54).map (fun i => (i.zero, i.size, i.bytes)) = some (some (.agg (mrC {}).toArray), 15, 168) := by kernel_rfl
theorem mrc_one (m : MR) : ∀ u ∈ mrC m, u.oneCell' = true := by
  intro v hv
  unfold mrC at hv
  simp only [List.mem_cons, List.not_mem_nil, or_false] at hv
  rcases hv with rfl | rfl | rfl | rfl | rfl | rfl | rfl | rfl | rfl | rfl | rfl | rfl | rfl | rfl | rfl <;> rfl
set_option maxHeartbeats 8000000 in
theorem routs_1 (r gs gp gf : Nat) (q : RJ) (w : World) (h : Rj w r gs gp gf q) (hph : q.ph = 1) :
    Calls Tryz.prog 19 #[.pointer (some ⟨r, 0, none⟩)] w fun e w' => ∃ ut uo, e = .returned (.tuple #[ut, uo]) ∧ w'.ownsRow w.heap.size 3 1 ut ((q.ks q.S.length).length) (RJ.toL (q.ks q.S.length)) ∧ w'.ownsRow w.heap.size 54 15 uo ((q.ks q.S.length).length) (q.msL (q.ks q.S.length)) ∧ Fr noB w w' := by
  obtain ⟨i0, hi, hz0, hz1, hz2⟩ := info_of infoIntK
  obtain ⟨j0, hj, hy0, hy1, hy2⟩ := info_of infoMsgK
  have hzm : (Value.agg (mrC {}).toArray).cells.size = 15 := by kernel_rfl
  obtain ⟨l, hl⟩ : ∃ l, q.S.length = l := ⟨_, rfl⟩
  have hn4 := h.n4
  have hR := Lib.hid h
  rw [hl] at hn4 ⊢
  obtain ⟨B, hB⟩ : ∃ B, w.heap.size = B := ⟨_, rfl⟩
  rw [hB]
  have c3 : w.cell? ⟨r, 3, none⟩ = some (.int .i64 1) := by rw [← hph]; exact h.blk.cell 3
  replace hl := Lib.hid hl
  replace hB := Lib.hid hB
  replace hph := Lib.hid hph
  clear h
  go_enter Tryz.func19, Tryz.ntmps19
  have fr0 := Fr.refl noB w
  have oT0 : Hid (w.ownsRow B 3 1 (.slice none 0 0) 0 []) := Lib.hid (World.ownsRow_nil _ _ _ _)
  have oM0 : Hid (w.ownsRow B 54 15 (.slice none 0 0) 0 []) := Lib.hid (World.ownsRow_nil _ _ _ _)
  go_wp2_with fail
  go_loopw [4, 5, 6] (fun vt vo i wr => ∃ (k N : Nat), k ≤ l ∧ N = (q.ks k).length + 0 ∧ i = .int .i64 k ∧ Hid (wr.ownsRow B 3 1 vt N (RJ.toL (q.ks k))) ∧ Hid (wr.ownsRow B 54 15 vo N (q.msL (q.ks k))) ∧ Fr noB w wr) (fun _ _ i _ => l - (RowKit.intOf i).toNat)
  case atStart => exact ⟨0, 0, by omega, rfl, rfl, oT0, oM0, fr0⟩
  case round =>
    clear oT0 oM0 fr0 c3
    obtain ⟨k, N, hk, hNk, rfl, hT, hM, fr⟩ := hrel
    obtain ⟨ta, tc, rfl⟩ := ownsRow_slice hT.out
    obtain ⟨ma, mc, rfl⟩ := ownsRow_slice hM.out
    have RR := hR.out.frN fr
    have c0 : wr.cell? ⟨r, 0, none⟩ = some (.int .i64 q.id) := RR.blk.cell 0
    have c1 : wr.cell? ⟨r, 1, none⟩ = some (.int .i64 q.tr) := RR.blk.cell 1
    have c3' : wr.cell? ⟨r, 3, none⟩ = some (.int .i64 1) := by rw [← hph.out]; exact RR.blk.cell 3
    have c4 : wr.cell? ⟨r, 4, none⟩ = some (.slice (some ⟨gs, 0, none⟩) l l) := by rw [← hl.out]; exact RR.blk.cell 4
    have c6 : wr.cell? ⟨r, 6, none⟩ = some (.slice (some ⟨gf, 0, none⟩) l l) := by rw [← hl.out]; exact RR.blk.cell 6
    by_cases hlt : k < l
    · have hkl : k < q.S.length := by rw [hl.out]; exact hlt
      have s0 := RR.s hkl
      have f0 := RR.f hkl
      have hx1 : q.ks (k + 1) = q.ks k ++ if 0 < q.kd k then [((k : Int), q.kd k)] else [] := rfl
      have hkd : q.kd k = if q.S.getD k 0 = 0 then 0 else if (1 : Int) = 1 ∧ q.S.getD k 0 = 1 then 2 else if (1 : Int) = 2 then 5 else if (1 : Int) = 3 ∧ q.F.getD k false = false then 9 else 0 := by unfold RJ.kd; rw [hph.out]
      have hkl2 := ks_len q k
      generalize q.S.getD k 0 = x at *
      generalize q.F.getD k false = fb at *
      generalize q.kd k = kd at *
      clear hkl RR
      by_cases hx0 : x = 0
      · rw [if_pos hx0] at hkd
        subst hx0
        have hx2 : q.ks (k + 1) = q.ks k := by rw [hx1, hkd, if_neg (by omega), List.append_nil]
        have hNk2 : N = (q.ks (k + 1)).length + 0 := by rw [hx2]; exact hNk
        replace hT : Hid (wr.ownsRow B 3 1 (.slice ta N tc) N (RJ.toL (q.ks (k + 1)))) := by rw [hx2]; exact hT
        replace hM : Hid (wr.ownsRow B 54 15 (.slice ma N mc) N (q.msL (q.ks (k + 1)))) := by rw [hx2]; exact hM
        replace hNk2 := Lib.hid hNk2
        clear hx1 hx2 hkd hkl2 hNk
        go_wp2_with fail
        go_roundw
        case rel => exact ⟨k + 1, N, by omega, hNk2.out, by go_num, hT, hM, fr⟩
        case measure => simp [RowKit.intOf]; omega
      rw [if_neg hx0] at hkd
      have d0 : decide (x = 0) = false := by simpa using hx0
      have e0 : (x == 0) = false := by simpa using hx0
      by_cases hx1' : x = 1
      · rw [if_pos ⟨rfl, hx1'⟩] at hkd
        subst hx1'
        clear hx0 d0 e0
        have hx2 : q.ks (k + 1) = q.ks k ++ [((k : Int), 2)] := by rw [hx1, hkd, if_pos (by omega)]
        have hNk2 : N + 1 = (q.ks (k + 1)).length + 0 := by rw [hx2, List.length_append, hNk]; simp; try omega
        have hN4 : N ≤ 5 := by omega
        have fA1 : Fr noB wr (wr.alloc (.cells #[.int .i64 (k : Int)] 3)) := (Fr.refl _ _).alloc _
        have hA := ownsRow_fr hT.out fA1 (fun _ _ q => q)
        have hMA := ownsRow_fr hM.out fA1 (fun _ _ q => q)
        have hN1 := cell_new wr (.int .i64 (k : Int)) 3
        have hB1 : B ≤ (wr.alloc (.cells #[.int .i64 (k : Int)] 3)).heap.size := by rw [size_alloc]; have := fr.size; have := hB.out; omega
        replace hx2 := Lib.hid hx2
        replace hNk2 := Lib.hid hNk2
        replace hMA := Lib.hid hMA
        clear hx1 hkd hkl2 hNk
        go_wp2_with (first
          | (at_builtin; go_must (refine wpList_append_at _ rfl (.tmp 79) (.tmp 81) 36 rfl B 3 i0 _ 1 8 Tryz.underlying36 hi hz0 hz1 hz2 rfl (by omega) _ N _ rfl hA ⟨wr.heap.size, 0, none⟩ 1 1 [.int .i64 (k : Int)] rfl rfl hN1 (one_int _ _) ?_ ?_ hB1 ?_))
          | fail)
        · unfold maxLen; omega
        · omega
        intro v1 w1 o1 gr1 _
        obtain ⟨a1, d1, rfl⟩ := ownsRow_slice o1
        have f1 : Fr (rowB (.slice ta N tc)) (wr.alloc (.cells #[.int .i64 (k : Int)] 3)) w1 := (Fr.refl _ _).grown gr1 (fun k hk _ => hk)
        have hM1 := ownsRow_fr hMA.out f1 (own_apart hMA.out hA (by decide))
        have fr1 : Fr noB w w1 := (fr.seqN fA1).trans f1 (fun _ _ q => q) (fun i hi q => by have h1 := (hA.lt i q).1; have h2 := hB.out; omega)
        have R1 := hR.out.frN fr1
        have g0 : w1.cell? ⟨r, 0, none⟩ = some (.int .i64 q.id) := R1.blk.cell 0
        have g1 : w1.cell? ⟨r, 1, none⟩ = some (.int .i64 q.tr) := R1.blk.cell 1
        have fA2 : Fr noB w1 (w1.alloc (.cells #[.int .i64 2, .int .i64 0, .int .i64 q.tr, .int .i64 q.id, .int .i64 0, .int .i64 0, .int .i64 0, .int .i64 0, .int .i64 0, .int .i64 0, .int .i64 0, .slice none 0 0, .bool false, .slice none 0 0, .slice none 0 0] 54)) := (Fr.refl _ _).alloc _
        have hX := ownsRow_fr hM1 fA2.drew (fun _ _ q => q)
        have hT2 := ownsRow_fr o1 fA2.drew (fun _ _ q => q)
        have hNX : ∀ j u, [Value.int .i64 2, .int .i64 0, .int .i64 q.tr, .int .i64 q.id, .int .i64 0, .int .i64 0, .int .i64 0, .int .i64 0, .int .i64 0, .int .i64 0, .int .i64 0, .slice none 0 0, .bool false, .slice none 0 0, .slice none 0 0][j]? = some u → (w1.alloc (.cells #[.int .i64 2, .int .i64 0, .int .i64 q.tr, .int .i64 q.id, .int .i64 0, .int .i64 0, .int .i64 0, .int .i64 0, .int .i64 0, .int .i64 0, .int .i64 0, .slice none 0 0, .bool false, .slice none 0 0, .slice none 0 0] 54)).drew.cell? ((⟨w1.heap.size, 0, none⟩ : Addr).add j) = some u := news_at w1 54 _
        have hone2 := mrc_one { k := 2, t := q.tr, j := q.id }
        unfold mrC at hone2
        simp only at hone2
        have hB2 : B ≤ (w1.alloc (.cells #[.int .i64 2, .int .i64 0, .int .i64 q.tr, .int .i64 q.id, .int .i64 0, .int .i64 0, .int .i64 0, .int .i64 0, .int .i64 0, .int .i64 0, .int .i64 0, .slice none 0 0, .bool false, .slice none 0 0, .slice none 0 0] 54)).drew.heap.size := by
          show B ≤ (w1.alloc (.cells #[.int .i64 2, .int .i64 0, .int .i64 q.tr, .int .i64 q.id, .int .i64 0, .int .i64 0, .int .i64 0, .int .i64 0, .int .i64 0, .int .i64 0, .int .i64 0, .slice none 0 0, .bool false, .slice none 0 0, .slice none 0 0] 54)).heap.size
          rw [size_alloc]; have := fr1.size; have := hB.out; omega
        have mixed : Tryz.prog.follows .mixedOrders = true := by kernel_rfl
        replace hX := Lib.hid hX
        replace hT2 := Lib.hid hT2
        replace hNX := Lib.hid hNX
        clear hA hMA hN1 hB1 gr1 o1 fA1 f1 hM1 R1 c0 c1 c3' c4 c6 s0 f0
        go_wp2_with fail
        go_region_law (first
          | (refine step_append_at rfl (.tmp 83) (.tmp 94) 39 rfl B 54 j0 _ 15 168 Tryz.underlying39 hj hy0 hy1 hy2 hzm (by omega) (.slice ma N mc) N _ (by simp [Act.eval, Act.put]) hX.out ⟨w1.heap.size, 0, none⟩ 1 1 [.int .i64 2, .int .i64 0, .int .i64 q.tr, .int .i64 q.id, .int .i64 0, .int .i64 0, .int .i64 0, .int .i64 0, .int .i64 0, .int .i64 0, .int .i64 0, .slice none 0 0, .bool false, .slice none 0 0, .slice none 0 0] (by simp [Act.eval, Act.put]) rfl hNX.out hone2 (by unfold maxLen; omega) (by omega) hB2 ?_; intro v9 w9 o9 gr9 _; obtain ⟨a9, c9, rfl⟩ := ownsRow_slice o9; have f9 : Fr (rowB (.slice ma N mc)) (w1.alloc (.cells #[.int .i64 2, .int .i64 0, .int .i64 q.tr, .int .i64 q.id, .int .i64 0, .int .i64 0, .int .i64 0, .int .i64 0, .int .i64 0, .int .i64 0, .int .i64 0, .slice none 0 0, .bool false, .slice none 0 0, .slice none 0 0] 54)).drew w9 := (Fr.refl _ _).grown gr9 (fun k hk _ => hk))
          | fail)
        all_goals (
          have fr9 : Fr noB w w9 := (fr1.seqN fA2.drew).trans f9 (fun _ _ q => q) (fun i hi q => by have h1 := (hX.out.lt i q).1; have h2 := hB.out; omega)
          have hT9 := ownsRow_fr hT2.out f9 (own_apart hT2.out hX.out (by decide))
          have hT10 : Hid (w9.ownsRow B 3 1 (.slice a1 (N + 1) d1) (N + 1) (RJ.toL (q.ks (k + 1)))) := Lib.hid (by rw [hx2.out]; unfold RJ.toL; rw [List.map_append]; first | exact hT9 | (rw [← List.append_assoc]; exact hT9))
          have hM10 : Hid (w9.ownsRow B 54 15 (.slice a9 (N + 1) c9) (N + 1) (q.msL (q.ks (k + 1)))) := Lib.hid (by rw [hx2.out]; unfold RJ.msL; rw [List.flatMap_append]; first | exact o9 | (rw [← List.append_assoc]; exact o9))
          clear hX hT2 hNX hone2 hB2 f9 hT9 o9 gr9 fr1 fA2 g0 g1
          go_wp2_with fail
          go_roundw
          case rel => exact ⟨k + 1, N + 1, by omega, hNk2.out, by go_num, hT10, hM10, fr9⟩
          case measure => simp [RowKit.intOf]; omega)
      · rw [if_neg (fun e => hx1' e.2), if_neg (by omega), if_neg (by omega)] at hkd
        have d1 : decide (x = 1) = false := by simpa using hx1'
        have e1 : (x == 1) = false := by simpa using hx1'
        replace hx0 := Lib.hid hx0
        replace hx1' := Lib.hid hx1'
        have hx2 : q.ks (k + 1) = q.ks k := by rw [hx1, hkd, if_neg (by omega), List.append_nil]
        have hNk2 : N = (q.ks (k + 1)).length + 0 := by rw [hx2]; exact hNk
        replace hT : Hid (wr.ownsRow B 3 1 (.slice ta N tc) N (RJ.toL (q.ks (k + 1)))) := by rw [hx2]; exact hT
        replace hM : Hid (wr.ownsRow B 54 15 (.slice ma N mc) N (q.msL (q.ks (k + 1)))) := by rw [hx2]; exact hM
        replace hNk2 := Lib.hid hNk2
        clear hx1 hx2 hkd hkl2 hNk
        go_wp2_with fail
        go_roundw
        case rel => exact ⟨k + 1, N, by omega, hNk2.out, by go_num, hT, hM, fr⟩
        case measure => simp [RowKit.intOf]; omega
    · obtain rfl : k = l := by omega
      subst hNk
      replace hR := Lib.hid hR
      clear RR
      go_wp2_with fail
      go_ret2
      exact ⟨_, _, rfl, hT.out, hM.out, fr⟩
set_option maxHeartbeats 8000000 in
theorem routs_2 (r gs gp gf : Nat) (q : RJ) (w : World) (h : Rj w r gs gp gf q) (hph : q.ph = 2) :
    Calls Tryz.prog 19 #[.pointer (some ⟨r, 0, none⟩)] w fun e w' => ∃ ut uo qa qc, e = .returned (.tuple #[ut, uo]) ∧ w'.ownsRow w.heap.size 3 1 ut ((q.ks q.S.length).length + 1) ([Value.int .i64 (-1)] ++ RJ.toL (q.ks q.S.length)) ∧ w'.ownsRow w.heap.size 54 15 uo ((q.ks q.S.length).length + 1) (mrC { k := 7, t := q.tr, j := q.id, c := q.cl, qa := qa, qn := (q.parts q.S.length).length, qc := qc } ++ q.msL (q.ks q.S.length)) ∧ w'.ownsRow w.heap.size 50 6 (.slice qa (q.parts q.S.length).length qc) (q.parts q.S.length).length ((q.parts q.S.length).flatMap RPt.cs) ∧ Fr noB w w' := by
  obtain ⟨i0, hi, hz0, hz1, hz2⟩ := info_of infoIntK
  obtain ⟨j0, hj, hy0, hy1, hy2⟩ := info_of infoMsgK
  have hzm : (Value.agg (mrC {}).toArray).cells.size = 15 := by kernel_rfl
  obtain ⟨l, hl⟩ : ∃ l, q.S.length = l := ⟨_, rfl⟩
  have hn4 := h.n4
  have hR := Lib.hid h
  have hman := rmanifest_any r gs gp gf q
  have hpp := parts_len q q.S.length
  rw [hl] at hn4 ⊢
  rw [hl] at hman hpp
  generalize q.parts l = PS at *
  generalize hnp : PS.length = np at *
  replace hman := Lib.hid hman
  replace hnp := Lib.hid hnp
  obtain ⟨B, hB⟩ : ∃ B, w.heap.size = B := ⟨_, rfl⟩
  rw [hB]
  have c3 : w.cell? ⟨r, 3, none⟩ = some (.int .i64 2) := by rw [← hph]; exact h.blk.cell 3
  replace hl := Lib.hid hl
  replace hB := Lib.hid hB
  replace hph := Lib.hid hph
  clear h
  have fA0 : Fr noB w (w.alloc (.cells #[.int .i64 (-1)] 3)) := (Fr.refl _ _).alloc _
  have hN0 := cell_new w (.int .i64 (-1)) 3
  have hB0 : B ≤ (w.alloc (.cells #[.int .i64 (-1)] 3)).heap.size := by have := fA0.size; have := hB.out; omega
  go_enter Tryz.func19, Tryz.ntmps19
  go_wp2_with (first
    | (at_builtin; go_must (refine wpList_append_at _ rfl (.tmp 13) (.tmp 14) 36 rfl B 3 i0 _ 1 8 Tryz.underlying36 hi hz0 hz1 hz2 rfl (by omega) _ 0 [] rfl (World.ownsRow_nil _ _ _ _) ⟨w.heap.size, 0, none⟩ 1 1 [.int .i64 (-1)] rfl rfl hN0 (one_int _ _) (by unfold maxLen; omega) (by omega) hB0 ?_))
    | fail)
  intro vt w1 o1 gr1 _
  have f1 : Fr noB w w1 := fA0.grown gr1 (fun k hk hlt => by cases hk)
  obtain ⟨ta, tc, rfl⟩ := ownsRow_slice o1
  have hm1 := hman.out w1 (hR.out.frN f1)
  replace hm1 := Lib.hid hm1
  replace o1 := Lib.hid o1
  clear fA0 hN0 hB0 gr1 hman c3
  go_wp2_with fail
  go_fit hm1.out
  rintro e w2 ⟨qa, qc, rfl, oP, f2⟩
  unfold mrV mrC
  simp only
  try rw [hnp.out] at oP
  have f12 := f1.seqN f2
  have o2 := ownsRow_fr o1.out f2 (fun _ _ q => q)
  have fA2 : Fr noB w2 (w2.alloc (.cells #[.int .i64 7, .int .i64 0, .int .i64 q.tr, .int .i64 q.id, .int .i64 q.cl, .int .i64 0, .int .i64 0, .int .i64 0, .int .i64 0, .int .i64 0, .int .i64 0, .slice none 0 0, .bool false, .slice qa np qc, .slice none 0 0] 54)) := (Fr.refl _ _).alloc _
  have hN2 := news_at w2 54 [.int .i64 7, .int .i64 0, .int .i64 q.tr, .int .i64 q.id, .int .i64 q.cl, .int .i64 0, .int .i64 0, .int .i64 0, .int .i64 0, .int .i64 0, .int .i64 0, .slice none 0 0, .bool false, .slice qa np qc, .slice none 0 0]
  have hone2 := mrc_one { k := 7, t := q.tr, j := q.id, c := q.cl, qa := qa, qn := np, qc := qc }
  unfold mrC at hone2
  simp only at hone2
  have hB2 : B ≤ (w2.alloc (.cells #[.int .i64 7, .int .i64 0, .int .i64 q.tr, .int .i64 q.id, .int .i64 q.cl, .int .i64 0, .int .i64 0, .int .i64 0, .int .i64 0, .int .i64 0, .int .i64 0, .slice none 0 0, .bool false, .slice qa np qc, .slice none 0 0] 54)).heap.size := by rw [size_alloc]; have := f12.size; have := hB.out; omega
  have oP1 := ownsRow_mono oP (show B ≤ w1.heap.size by have := f1.size; have := hB.out; omega)
  replace o2 := Lib.hid o2
  replace oP1 := Lib.hid oP1
  clear hm1 o1 oP f1 f2
  go_wp2_with (first
    | (at_builtin; go_must (refine wpList_append_at _ rfl (.tmp 16) (.tmp 19) 39 rfl B 54 j0 _ 15 168 Tryz.underlying39 hj hy0 hy1 hy2 hzm (by omega) _ 0 [] rfl (World.ownsRow_nil _ _ _ _) ⟨w2.heap.size, 0, none⟩ 1 1 [.int .i64 7, .int .i64 0, .int .i64 q.tr, .int .i64 q.id, .int .i64 q.cl, .int .i64 0, .int .i64 0, .int .i64 0, .int .i64 0, .int .i64 0, .int .i64 0, .slice none 0 0, .bool false, .slice qa np qc, .slice none 0 0] rfl rfl hN2 hone2 (by unfold maxLen; omega) (by omega) hB2 ?_))
    | fail)
  intro vm w3 o3 gr3 _
  obtain ⟨ma, mc, rfl⟩ := ownsRow_slice o3
  have f23 : Fr noB w2 w3 := fA2.grown gr3 (fun k hk hlt => by cases hk)
  have fr0 := f12.seqN f23
  have oT0 := Lib.hid (ownsRow_fr o2.out f23 (fun _ _ q => q))
  have oP0 := Lib.hid (ownsRow_fr oP1.out f23 (fun _ _ q => q))
  have oM0 := Lib.hid o3
  clear fA2 hN2 hone2 hB2 gr3 o2 o3 oP1 f12 f23
  go_wp2_with fail
  go_loopw [4, 5, 6] (fun vt vo i wr => ∃ (k N : Nat), k ≤ l ∧ N = (q.ks k).length + 1 ∧ i = .int .i64 k ∧ Hid (wr.ownsRow B 3 1 vt N ([Value.int .i64 (-1)] ++ RJ.toL (q.ks k))) ∧ Hid (wr.ownsRow B 54 15 vo N ([.int .i64 7, .int .i64 0, .int .i64 q.tr, .int .i64 q.id, .int .i64 q.cl, .int .i64 0, .int .i64 0, .int .i64 0, .int .i64 0, .int .i64 0, .int .i64 0, .slice none 0 0, .bool false, .slice qa np qc, .slice none 0 0] ++ q.msL (q.ks k))) ∧ Hid (wr.ownsRow B 50 6 (.slice qa np qc) np (PS.flatMap RPt.cs)) ∧ Fr noB w wr) (fun _ _ i _ => l - (RowKit.intOf i).toNat)
  case atStart => exact ⟨0, 1, by omega, rfl, rfl, oT0, oM0, oP0, fr0⟩
  case round =>
    clear oT0 oM0 oP0 fr0
    obtain ⟨k, N, hk, hNk, rfl, hT, hM, hP, fr⟩ := hrel
    obtain ⟨ta, tc, rfl⟩ := ownsRow_slice hT.out
    obtain ⟨ma, mc, rfl⟩ := ownsRow_slice hM.out
    have RR := hR.out.frN fr
    have c0 : wr.cell? ⟨r, 0, none⟩ = some (.int .i64 q.id) := RR.blk.cell 0
    have c1 : wr.cell? ⟨r, 1, none⟩ = some (.int .i64 q.tr) := RR.blk.cell 1
    have c3' : wr.cell? ⟨r, 3, none⟩ = some (.int .i64 2) := by rw [← hph.out]; exact RR.blk.cell 3
    have c4 : wr.cell? ⟨r, 4, none⟩ = some (.slice (some ⟨gs, 0, none⟩) l l) := by rw [← hl.out]; exact RR.blk.cell 4
    have c6 : wr.cell? ⟨r, 6, none⟩ = some (.slice (some ⟨gf, 0, none⟩) l l) := by rw [← hl.out]; exact RR.blk.cell 6
    by_cases hlt : k < l
    · have hkl : k < q.S.length := by rw [hl.out]; exact hlt
      have s0 := RR.s hkl
      have f0 := RR.f hkl
      have hx1 : q.ks (k + 1) = q.ks k ++ if 0 < q.kd k then [((k : Int), q.kd k)] else [] := rfl
      have hkd : q.kd k = if q.S.getD k 0 = 0 then 0 else if (2 : Int) = 1 ∧ q.S.getD k 0 = 1 then 2 else if (2 : Int) = 2 then 5 else if (2 : Int) = 3 ∧ q.F.getD k false = false then 9 else 0 := by unfold RJ.kd; rw [hph.out]
      have hkl2 := ks_len q k
      generalize q.S.getD k 0 = x at *
      generalize q.F.getD k false = fb at *
      generalize q.kd k = kd at *
      clear hkl RR
      by_cases hx0 : x = 0
      · rw [if_pos hx0] at hkd
        subst hx0
        have hx2 : q.ks (k + 1) = q.ks k := by rw [hx1, hkd, if_neg (by omega), List.append_nil]
        have hNk2 : N = (q.ks (k + 1)).length + 1 := by rw [hx2]; exact hNk
        replace hT : Hid (wr.ownsRow B 3 1 (.slice ta N tc) N ([Value.int .i64 (-1)] ++ RJ.toL (q.ks (k + 1)))) := by rw [hx2]; exact hT
        replace hM : Hid (wr.ownsRow B 54 15 (.slice ma N mc) N ([.int .i64 7, .int .i64 0, .int .i64 q.tr, .int .i64 q.id, .int .i64 q.cl, .int .i64 0, .int .i64 0, .int .i64 0, .int .i64 0, .int .i64 0, .int .i64 0, .slice none 0 0, .bool false, .slice qa np qc, .slice none 0 0] ++ q.msL (q.ks (k + 1)))) := by rw [hx2]; exact hM
        replace hNk2 := Lib.hid hNk2
        clear hx1 hx2 hkd hkl2 hNk
        go_wp2_with fail
        go_roundw
        case rel => exact ⟨k + 1, N, by omega, hNk2.out, by go_num, hT, hM, hP, fr⟩
        case measure => simp [RowKit.intOf]; omega
      rw [if_neg hx0] at hkd
      have d0 : decide (x = 0) = false := by simpa using hx0
      have e0 : (x == 0) = false := by simpa using hx0
      rw [if_neg (by omega), if_pos rfl] at hkd
      replace hx0 := Lib.hid hx0
      have hx2 : q.ks (k + 1) = q.ks k ++ [((k : Int), 5)] := by rw [hx1, hkd, if_pos (by omega)]
      have hNk2 : N + 1 = (q.ks (k + 1)).length + 1 := by rw [hx2, List.length_append, hNk]; simp; try omega
      have hN4 : N ≤ 5 := by omega
      have fA1 : Fr noB wr (wr.alloc (.cells #[.int .i64 (k : Int)] 3)) := (Fr.refl _ _).alloc _
      have hA := ownsRow_fr hT.out fA1 (fun _ _ q => q)
      have hMA := ownsRow_fr hM.out fA1 (fun _ _ q => q)
      have hPA := ownsRow_fr hP.out fA1 (fun _ _ q => q)
      have hN1 := cell_new wr (.int .i64 (k : Int)) 3
      have hB1 : B ≤ (wr.alloc (.cells #[.int .i64 (k : Int)] 3)).heap.size := by rw [size_alloc]; have := fr.size; have := hB.out; omega
      replace hx2 := Lib.hid hx2
      replace hNk2 := Lib.hid hNk2
      replace hMA := Lib.hid hMA
      replace hPA := Lib.hid hPA
      clear hx1 hkd hkl2 hNk
      go_wp2_with (first
        | (at_builtin; go_must (refine wpList_append_at _ rfl (.tmp 79) (.tmp 81) 36 rfl B 3 i0 _ 1 8 Tryz.underlying36 hi hz0 hz1 hz2 rfl (by omega) _ N _ rfl hA ⟨wr.heap.size, 0, none⟩ 1 1 [.int .i64 (k : Int)] rfl rfl hN1 (one_int _ _) ?_ ?_ hB1 ?_))
        | fail)
      · unfold maxLen; omega
      · omega
      intro v1 w1 o1 gr1 _
      obtain ⟨a1, d1, rfl⟩ := ownsRow_slice o1
      have f1 : Fr (rowB (.slice ta N tc)) (wr.alloc (.cells #[.int .i64 (k : Int)] 3)) w1 := (Fr.refl _ _).grown gr1 (fun k hk _ => hk)
      have hM1 := ownsRow_fr hMA.out f1 (own_apart hMA.out hA (by decide))
      have hP1 := ownsRow_fr hPA.out f1 (own_apart hPA.out hA (by decide))
      have fr1 : Fr noB w w1 := (fr.seqN fA1).trans f1 (fun _ _ q => q) (fun i hi q => by have h1 := (hA.lt i q).1; have h2 := hB.out; omega)
      have R1 := hR.out.frN fr1
      have g0 : w1.cell? ⟨r, 0, none⟩ = some (.int .i64 q.id) := R1.blk.cell 0
      have g1 : w1.cell? ⟨r, 1, none⟩ = some (.int .i64 q.tr) := R1.blk.cell 1
      have fA2 : Fr noB w1 (w1.alloc (.cells #[.int .i64 5, .int .i64 0, .int .i64 q.tr, .int .i64 q.id, .int .i64 0, .int .i64 0, .int .i64 0, .int .i64 0, .int .i64 0, .int .i64 0, .int .i64 0, .slice none 0 0, .bool false, .slice none 0 0, .slice none 0 0] 54)) := (Fr.refl _ _).alloc _
      have hX := ownsRow_fr hM1 fA2.drew (fun _ _ q => q)
      have hT2 := ownsRow_fr o1 fA2.drew (fun _ _ q => q)
      have hP2 := ownsRow_fr hP1 fA2.drew (fun _ _ q => q)
      have hNX : ∀ j u, [Value.int .i64 5, .int .i64 0, .int .i64 q.tr, .int .i64 q.id, .int .i64 0, .int .i64 0, .int .i64 0, .int .i64 0, .int .i64 0, .int .i64 0, .int .i64 0, .slice none 0 0, .bool false, .slice none 0 0, .slice none 0 0][j]? = some u → (w1.alloc (.cells #[.int .i64 5, .int .i64 0, .int .i64 q.tr, .int .i64 q.id, .int .i64 0, .int .i64 0, .int .i64 0, .int .i64 0, .int .i64 0, .int .i64 0, .int .i64 0, .slice none 0 0, .bool false, .slice none 0 0, .slice none 0 0] 54)).drew.cell? ((⟨w1.heap.size, 0, none⟩ : Addr).add j) = some u := news_at w1 54 _
      have hone2 := mrc_one { k := 5, t := q.tr, j := q.id }
      unfold mrC at hone2
      simp only at hone2
      have hB2 : B ≤ (w1.alloc (.cells #[.int .i64 5, .int .i64 0, .int .i64 q.tr, .int .i64 q.id, .int .i64 0, .int .i64 0, .int .i64 0, .int .i64 0, .int .i64 0, .int .i64 0, .int .i64 0, .slice none 0 0, .bool false, .slice none 0 0, .slice none 0 0] 54)).drew.heap.size := by
        show B ≤ (w1.alloc (.cells #[.int .i64 5, .int .i64 0, .int .i64 q.tr, .int .i64 q.id, .int .i64 0, .int .i64 0, .int .i64 0, .int .i64 0, .int .i64 0, .int .i64 0, .int .i64 0, .slice none 0 0, .bool false, .slice none 0 0, .slice none 0 0] 54)).heap.size
        rw [size_alloc]; have := fr1.size; have := hB.out; omega
      have mixed : Tryz.prog.follows .mixedOrders = true := by kernel_rfl
      replace hX := Lib.hid hX
      replace hT2 := Lib.hid hT2
      replace hP2 := Lib.hid hP2
      replace hNX := Lib.hid hNX
      clear hA hMA hN1 hB1 gr1 o1 fA1 f1 hM1 R1 c0 c1 c3' c4 c6 s0 f0 hPA hP1
      go_wp2_with fail
      go_region_law (first
        | (refine step_append_at rfl (.tmp 83) (.tmp 94) 39 rfl B 54 j0 _ 15 168 Tryz.underlying39 hj hy0 hy1 hy2 hzm (by omega) (.slice ma N mc) N _ (by simp [Act.eval, Act.put]) hX.out ⟨w1.heap.size, 0, none⟩ 1 1 [.int .i64 5, .int .i64 0, .int .i64 q.tr, .int .i64 q.id, .int .i64 0, .int .i64 0, .int .i64 0, .int .i64 0, .int .i64 0, .int .i64 0, .int .i64 0, .slice none 0 0, .bool false, .slice none 0 0, .slice none 0 0] (by simp [Act.eval, Act.put]) rfl hNX.out hone2 (by unfold maxLen; omega) (by omega) hB2 ?_; intro v9 w9 o9 gr9 _; obtain ⟨a9, c9, rfl⟩ := ownsRow_slice o9; have f9 : Fr (rowB (.slice ma N mc)) (w1.alloc (.cells #[.int .i64 5, .int .i64 0, .int .i64 q.tr, .int .i64 q.id, .int .i64 0, .int .i64 0, .int .i64 0, .int .i64 0, .int .i64 0, .int .i64 0, .int .i64 0, .slice none 0 0, .bool false, .slice none 0 0, .slice none 0 0] 54)).drew w9 := (Fr.refl _ _).grown gr9 (fun k hk _ => hk))
        | fail)
      all_goals (
        have fr9 : Fr noB w w9 := (fr1.seqN fA2.drew).trans f9 (fun _ _ q => q) (fun i hi q => by have h1 := (hX.out.lt i q).1; have h2 := hB.out; omega)
        have hT9 := ownsRow_fr hT2.out f9 (own_apart hT2.out hX.out (by decide))
        have hP9 := Lib.hid (ownsRow_fr hP2.out f9 (own_apart hP2.out hX.out (by decide)))
        have hT10 : Hid (w9.ownsRow B 3 1 (.slice a1 (N + 1) d1) (N + 1) ([Value.int .i64 (-1)] ++ RJ.toL (q.ks (k + 1)))) := Lib.hid (by rw [hx2.out]; unfold RJ.toL; rw [List.map_append]; first | exact hT9 | (rw [← List.append_assoc]; exact hT9))
        have hM10 : Hid (w9.ownsRow B 54 15 (.slice a9 (N + 1) c9) (N + 1) ([.int .i64 7, .int .i64 0, .int .i64 q.tr, .int .i64 q.id, .int .i64 q.cl, .int .i64 0, .int .i64 0, .int .i64 0, .int .i64 0, .int .i64 0, .int .i64 0, .slice none 0 0, .bool false, .slice qa np qc, .slice none 0 0] ++ q.msL (q.ks (k + 1)))) := Lib.hid (by rw [hx2.out]; unfold RJ.msL; rw [List.flatMap_append]; first | exact o9 | (rw [← List.append_assoc]; exact o9))
        clear hX hT2 hNX hone2 hB2 f9 hT9 o9 gr9 fr1 fA2 g0 g1 hP2
        go_wp2_with fail
        go_roundw
        case rel => exact ⟨k + 1, N + 1, by omega, hNk2.out, by go_num, hT10, hM10, hP9, fr9⟩
        case measure => simp [RowKit.intOf]; omega)
    · obtain rfl : k = l := by omega
      subst hNk
      replace hR := Lib.hid hR
      clear RR
      go_wp2_with fail
      go_ret2
      exact ⟨_, _, qa, qc, rfl, hT.out, hM.out, hP.out, fr⟩
set_option maxHeartbeats 8000000 in
theorem routs_3 (r gs gp gf : Nat) (q : RJ) (w : World) (h : Rj w r gs gp gf q) (hph : q.ph = 3) :
    Calls Tryz.prog 19 #[.pointer (some ⟨r, 0, none⟩)] w fun e w' => ∃ ut uo, e = .returned (.tuple #[ut, uo]) ∧ w'.ownsRow w.heap.size 3 1 ut ((q.ks q.S.length).length) (RJ.toL (q.ks q.S.length)) ∧ w'.ownsRow w.heap.size 54 15 uo ((q.ks q.S.length).length) (q.msL (q.ks q.S.length)) ∧ Fr noB w w' := by
  obtain ⟨i0, hi, hz0, hz1, hz2⟩ := info_of infoIntK
  obtain ⟨j0, hj, hy0, hy1, hy2⟩ := info_of infoMsgK
  have hzm : (Value.agg (mrC {}).toArray).cells.size = 15 := by kernel_rfl
  obtain ⟨l, hl⟩ : ∃ l, q.S.length = l := ⟨_, rfl⟩
  have hn4 := h.n4
  have hR := Lib.hid h
  rw [hl] at hn4 ⊢
  obtain ⟨B, hB⟩ : ∃ B, w.heap.size = B := ⟨_, rfl⟩
  rw [hB]
  have c3 : w.cell? ⟨r, 3, none⟩ = some (.int .i64 3) := by rw [← hph]; exact h.blk.cell 3
  replace hl := Lib.hid hl
  replace hB := Lib.hid hB
  replace hph := Lib.hid hph
  clear h
  go_enter Tryz.func19, Tryz.ntmps19
  have fr0 := Fr.refl noB w
  have oT0 : Hid (w.ownsRow B 3 1 (.slice none 0 0) 0 []) := Lib.hid (World.ownsRow_nil _ _ _ _)
  have oM0 : Hid (w.ownsRow B 54 15 (.slice none 0 0) 0 []) := Lib.hid (World.ownsRow_nil _ _ _ _)
  go_wp2_with fail
  go_loopw [4, 5, 6] (fun vt vo i wr => ∃ (k N : Nat), k ≤ l ∧ N = (q.ks k).length + 0 ∧ i = .int .i64 k ∧ Hid (wr.ownsRow B 3 1 vt N (RJ.toL (q.ks k))) ∧ Hid (wr.ownsRow B 54 15 vo N (q.msL (q.ks k))) ∧ Fr noB w wr) (fun _ _ i _ => l - (RowKit.intOf i).toNat)
  case atStart => exact ⟨0, 0, by omega, rfl, rfl, oT0, oM0, fr0⟩
  case round =>
    clear oT0 oM0 fr0 c3
    obtain ⟨k, N, hk, hNk, rfl, hT, hM, fr⟩ := hrel
    obtain ⟨ta, tc, rfl⟩ := ownsRow_slice hT.out
    obtain ⟨ma, mc, rfl⟩ := ownsRow_slice hM.out
    have RR := hR.out.frN fr
    have c0 : wr.cell? ⟨r, 0, none⟩ = some (.int .i64 q.id) := RR.blk.cell 0
    have c1 : wr.cell? ⟨r, 1, none⟩ = some (.int .i64 q.tr) := RR.blk.cell 1
    have c3' : wr.cell? ⟨r, 3, none⟩ = some (.int .i64 3) := by rw [← hph.out]; exact RR.blk.cell 3
    have c4 : wr.cell? ⟨r, 4, none⟩ = some (.slice (some ⟨gs, 0, none⟩) l l) := by rw [← hl.out]; exact RR.blk.cell 4
    have c6 : wr.cell? ⟨r, 6, none⟩ = some (.slice (some ⟨gf, 0, none⟩) l l) := by rw [← hl.out]; exact RR.blk.cell 6
    by_cases hlt : k < l
    · have hkl : k < q.S.length := by rw [hl.out]; exact hlt
      have s0 := RR.s hkl
      have f0 := RR.f hkl
      have hx1 : q.ks (k + 1) = q.ks k ++ if 0 < q.kd k then [((k : Int), q.kd k)] else [] := rfl
      have hkd : q.kd k = if q.S.getD k 0 = 0 then 0 else if (3 : Int) = 1 ∧ q.S.getD k 0 = 1 then 2 else if (3 : Int) = 2 then 5 else if (3 : Int) = 3 ∧ q.F.getD k false = false then 9 else 0 := by unfold RJ.kd; rw [hph.out]
      have hkl2 := ks_len q k
      generalize q.S.getD k 0 = x at *
      generalize q.F.getD k false = fb at *
      generalize q.kd k = kd at *
      clear hkl RR
      by_cases hx0 : x = 0
      · rw [if_pos hx0] at hkd
        subst hx0
        have hx2 : q.ks (k + 1) = q.ks k := by rw [hx1, hkd, if_neg (by omega), List.append_nil]
        have hNk2 : N = (q.ks (k + 1)).length + 0 := by rw [hx2]; exact hNk
        replace hT : Hid (wr.ownsRow B 3 1 (.slice ta N tc) N (RJ.toL (q.ks (k + 1)))) := by rw [hx2]; exact hT
        replace hM : Hid (wr.ownsRow B 54 15 (.slice ma N mc) N (q.msL (q.ks (k + 1)))) := by rw [hx2]; exact hM
        replace hNk2 := Lib.hid hNk2
        clear hx1 hx2 hkd hkl2 hNk
        go_wp2_with fail
        go_roundw
        case rel => exact ⟨k + 1, N, by omega, hNk2.out, by go_num, hT, hM, fr⟩
        case measure => simp [RowKit.intOf]; omega
      rw [if_neg hx0] at hkd
      have d0 : decide (x = 0) = false := by simpa using hx0
      have e0 : (x == 0) = false := by simpa using hx0
      replace hx0 := Lib.hid hx0
      cases fb
      · rw [if_neg (by omega), if_neg (by omega), if_pos ⟨rfl, rfl⟩] at hkd
        have hx2 : q.ks (k + 1) = q.ks k ++ [((k : Int), 9)] := by rw [hx1, hkd, if_pos (by omega)]
        have hNk2 : N + 1 = (q.ks (k + 1)).length + 0 := by rw [hx2, List.length_append, hNk]; simp; try omega
        have hN4 : N ≤ 5 := by omega
        have fA1 : Fr noB wr (wr.alloc (.cells #[.int .i64 (k : Int)] 3)) := (Fr.refl _ _).alloc _
        have hA := ownsRow_fr hT.out fA1 (fun _ _ q => q)
        have hMA := ownsRow_fr hM.out fA1 (fun _ _ q => q)
        have hN1 := cell_new wr (.int .i64 (k : Int)) 3
        have hB1 : B ≤ (wr.alloc (.cells #[.int .i64 (k : Int)] 3)).heap.size := by rw [size_alloc]; have := fr.size; have := hB.out; omega
        replace hx2 := Lib.hid hx2
        replace hNk2 := Lib.hid hNk2
        replace hMA := Lib.hid hMA
        clear hx1 hkd hkl2 hNk
        go_wp2_with (first
          | (at_builtin; go_must (refine wpList_append_at _ rfl (.tmp 79) (.tmp 81) 36 rfl B 3 i0 _ 1 8 Tryz.underlying36 hi hz0 hz1 hz2 rfl (by omega) _ N _ rfl hA ⟨wr.heap.size, 0, none⟩ 1 1 [.int .i64 (k : Int)] rfl rfl hN1 (one_int _ _) ?_ ?_ hB1 ?_))
          | fail)
        · unfold maxLen; omega
        · omega
        intro v1 w1 o1 gr1 _
        obtain ⟨a1, d1, rfl⟩ := ownsRow_slice o1
        have f1 : Fr (rowB (.slice ta N tc)) (wr.alloc (.cells #[.int .i64 (k : Int)] 3)) w1 := (Fr.refl _ _).grown gr1 (fun k hk _ => hk)
        have hM1 := ownsRow_fr hMA.out f1 (own_apart hMA.out hA (by decide))
        have fr1 : Fr noB w w1 := (fr.seqN fA1).trans f1 (fun _ _ q => q) (fun i hi q => by have h1 := (hA.lt i q).1; have h2 := hB.out; omega)
        have R1 := hR.out.frN fr1
        have g0 : w1.cell? ⟨r, 0, none⟩ = some (.int .i64 q.id) := R1.blk.cell 0
        have g1 : w1.cell? ⟨r, 1, none⟩ = some (.int .i64 q.tr) := R1.blk.cell 1
        have fA2 : Fr noB w1 (w1.alloc (.cells #[.int .i64 9, .int .i64 0, .int .i64 q.tr, .int .i64 q.id, .int .i64 0, .int .i64 0, .int .i64 0, .int .i64 0, .int .i64 0, .int .i64 0, .int .i64 0, .slice none 0 0, .bool false, .slice none 0 0, .slice none 0 0] 54)) := (Fr.refl _ _).alloc _
        have hX := ownsRow_fr hM1 fA2.drew (fun _ _ q => q)
        have hT2 := ownsRow_fr o1 fA2.drew (fun _ _ q => q)
        have hNX : ∀ j u, [Value.int .i64 9, .int .i64 0, .int .i64 q.tr, .int .i64 q.id, .int .i64 0, .int .i64 0, .int .i64 0, .int .i64 0, .int .i64 0, .int .i64 0, .int .i64 0, .slice none 0 0, .bool false, .slice none 0 0, .slice none 0 0][j]? = some u → (w1.alloc (.cells #[.int .i64 9, .int .i64 0, .int .i64 q.tr, .int .i64 q.id, .int .i64 0, .int .i64 0, .int .i64 0, .int .i64 0, .int .i64 0, .int .i64 0, .int .i64 0, .slice none 0 0, .bool false, .slice none 0 0, .slice none 0 0] 54)).drew.cell? ((⟨w1.heap.size, 0, none⟩ : Addr).add j) = some u := news_at w1 54 _
        have hone2 := mrc_one { k := 9, t := q.tr, j := q.id }
        unfold mrC at hone2
        simp only at hone2
        have hB2 : B ≤ (w1.alloc (.cells #[.int .i64 9, .int .i64 0, .int .i64 q.tr, .int .i64 q.id, .int .i64 0, .int .i64 0, .int .i64 0, .int .i64 0, .int .i64 0, .int .i64 0, .int .i64 0, .slice none 0 0, .bool false, .slice none 0 0, .slice none 0 0] 54)).drew.heap.size := by
          show B ≤ (w1.alloc (.cells #[.int .i64 9, .int .i64 0, .int .i64 q.tr, .int .i64 q.id, .int .i64 0, .int .i64 0, .int .i64 0, .int .i64 0, .int .i64 0, .int .i64 0, .int .i64 0, .slice none 0 0, .bool false, .slice none 0 0, .slice none 0 0] 54)).heap.size
          rw [size_alloc]; have := fr1.size; have := hB.out; omega
        have mixed : Tryz.prog.follows .mixedOrders = true := by kernel_rfl
        replace hX := Lib.hid hX
        replace hT2 := Lib.hid hT2
        replace hNX := Lib.hid hNX
        clear hA hMA hN1 hB1 gr1 o1 fA1 f1 hM1 R1 c0 c1 c3' c4 c6 s0 f0
        go_wp2_with fail
        go_region_law (first
          | (refine step_append_at rfl (.tmp 83) (.tmp 94) 39 rfl B 54 j0 _ 15 168 Tryz.underlying39 hj hy0 hy1 hy2 hzm (by omega) (.slice ma N mc) N _ (by simp [Act.eval, Act.put]) hX.out ⟨w1.heap.size, 0, none⟩ 1 1 [.int .i64 9, .int .i64 0, .int .i64 q.tr, .int .i64 q.id, .int .i64 0, .int .i64 0, .int .i64 0, .int .i64 0, .int .i64 0, .int .i64 0, .int .i64 0, .slice none 0 0, .bool false, .slice none 0 0, .slice none 0 0] (by simp [Act.eval, Act.put]) rfl hNX.out hone2 (by unfold maxLen; omega) (by omega) hB2 ?_; intro v9 w9 o9 gr9 _; obtain ⟨a9, c9, rfl⟩ := ownsRow_slice o9; have f9 : Fr (rowB (.slice ma N mc)) (w1.alloc (.cells #[.int .i64 9, .int .i64 0, .int .i64 q.tr, .int .i64 q.id, .int .i64 0, .int .i64 0, .int .i64 0, .int .i64 0, .int .i64 0, .int .i64 0, .int .i64 0, .slice none 0 0, .bool false, .slice none 0 0, .slice none 0 0] 54)).drew w9 := (Fr.refl _ _).grown gr9 (fun k hk _ => hk))
          | fail)
        all_goals (
          have fr9 : Fr noB w w9 := (fr1.seqN fA2.drew).trans f9 (fun _ _ q => q) (fun i hi q => by have h1 := (hX.out.lt i q).1; have h2 := hB.out; omega)
          have hT9 := ownsRow_fr hT2.out f9 (own_apart hT2.out hX.out (by decide))
          have hT10 : Hid (w9.ownsRow B 3 1 (.slice a1 (N + 1) d1) (N + 1) (RJ.toL (q.ks (k + 1)))) := Lib.hid (by rw [hx2.out]; unfold RJ.toL; rw [List.map_append]; first | exact hT9 | (rw [← List.append_assoc]; exact hT9))
          have hM10 : Hid (w9.ownsRow B 54 15 (.slice a9 (N + 1) c9) (N + 1) (q.msL (q.ks (k + 1)))) := Lib.hid (by rw [hx2.out]; unfold RJ.msL; rw [List.flatMap_append]; first | exact o9 | (rw [← List.append_assoc]; exact o9))
          clear hX hT2 hNX hone2 hB2 f9 hT9 o9 gr9 fr1 fA2 g0 g1
          go_wp2_with fail
          go_roundw
          case rel => exact ⟨k + 1, N + 1, by omega, hNk2.out, by go_num, hT10, hM10, fr9⟩
          case measure => simp [RowKit.intOf]; omega)
      · rw [if_neg (by omega), if_neg (by omega), if_neg (by simp)] at hkd
        have hx2 : q.ks (k + 1) = q.ks k := by rw [hx1, hkd, if_neg (by omega), List.append_nil]
        have hNk2 : N = (q.ks (k + 1)).length + 0 := by rw [hx2]; exact hNk
        replace hT : Hid (wr.ownsRow B 3 1 (.slice ta N tc) N (RJ.toL (q.ks (k + 1)))) := by rw [hx2]; exact hT
        replace hM : Hid (wr.ownsRow B 54 15 (.slice ma N mc) N (q.msL (q.ks (k + 1)))) := by rw [hx2]; exact hM
        replace hNk2 := Lib.hid hNk2
        clear hx1 hx2 hkd hkl2 hNk
        go_wp2_with fail
        go_roundw
        case rel => exact ⟨k + 1, N, by omega, hNk2.out, by go_num, hT, hM, fr⟩
        case measure => simp [RowKit.intOf]; omega
    · obtain rfl : k = l := by omega
      subst hNk
      replace hR := Lib.hid hR
      clear RR
      go_wp2_with fail
      go_ret2
      exact ⟨_, _, rfl, hT.out, hM.out, fr⟩
set_option maxHeartbeats 8000000 in
theorem routs_4 (r gs gp gf : Nat) (q : RJ) (w : World) (h : Rj w r gs gp gf q) (hph : q.ph = 4) :
    Calls Tryz.prog 19 #[.pointer (some ⟨r, 0, none⟩)] w fun e w' => ∃ ut uo, e = .returned (.tuple #[ut, uo]) ∧ w'.ownsRow w.heap.size 3 1 ut ((q.ks q.S.length).length) (RJ.toL (q.ks q.S.length)) ∧ w'.ownsRow w.heap.size 54 15 uo ((q.ks q.S.length).length) (q.msL (q.ks q.S.length)) ∧ Fr noB w w' := by
  obtain ⟨i0, hi, hz0, hz1, hz2⟩ := info_of infoIntK
  obtain ⟨j0, hj, hy0, hy1, hy2⟩ := info_of infoMsgK
  have hzm : (Value.agg (mrC {}).toArray).cells.size = 15 := by kernel_rfl
  obtain ⟨l, hl⟩ : ∃ l, q.S.length = l := ⟨_, rfl⟩
  have hn4 := h.n4
  have hR := Lib.hid h
  rw [hl] at hn4 ⊢
  obtain ⟨B, hB⟩ : ∃ B, w.heap.size = B := ⟨_, rfl⟩
  rw [hB]
  have c3 : w.cell? ⟨r, 3, none⟩ = some (.int .i64 4) := by rw [← hph]; exact h.blk.cell 3
  replace hl := Lib.hid hl
  replace hB := Lib.hid hB
  replace hph := Lib.hid hph
  clear h
  go_enter Tryz.func19, Tryz.ntmps19
  have fr0 := Fr.refl noB w
  have oT0 : Hid (w.ownsRow B 3 1 (.slice none 0 0) 0 []) := Lib.hid (World.ownsRow_nil _ _ _ _)
  have oM0 : Hid (w.ownsRow B 54 15 (.slice none 0 0) 0 []) := Lib.hid (World.ownsRow_nil _ _ _ _)
  go_wp2_with fail
  go_loopw [4, 5, 6] (fun vt vo i wr => ∃ (k N : Nat), k ≤ l ∧ N = (q.ks k).length + 0 ∧ i = .int .i64 k ∧ Hid (wr.ownsRow B 3 1 vt N (RJ.toL (q.ks k))) ∧ Hid (wr.ownsRow B 54 15 vo N (q.msL (q.ks k))) ∧ Fr noB w wr) (fun _ _ i _ => l - (RowKit.intOf i).toNat)
  case atStart => exact ⟨0, 0, by omega, rfl, rfl, oT0, oM0, fr0⟩
  case round =>
    clear oT0 oM0 fr0 c3
    obtain ⟨k, N, hk, hNk, rfl, hT, hM, fr⟩ := hrel
    obtain ⟨ta, tc, rfl⟩ := ownsRow_slice hT.out
    obtain ⟨ma, mc, rfl⟩ := ownsRow_slice hM.out
    have RR := hR.out.frN fr
    have c0 : wr.cell? ⟨r, 0, none⟩ = some (.int .i64 q.id) := RR.blk.cell 0
    have c1 : wr.cell? ⟨r, 1, none⟩ = some (.int .i64 q.tr) := RR.blk.cell 1
    have c3' : wr.cell? ⟨r, 3, none⟩ = some (.int .i64 4) := by rw [← hph.out]; exact RR.blk.cell 3
    have c4 : wr.cell? ⟨r, 4, none⟩ = some (.slice (some ⟨gs, 0, none⟩) l l) := by rw [← hl.out]; exact RR.blk.cell 4
    have c6 : wr.cell? ⟨r, 6, none⟩ = some (.slice (some ⟨gf, 0, none⟩) l l) := by rw [← hl.out]; exact RR.blk.cell 6
    by_cases hlt : k < l
    · have hkl : k < q.S.length := by rw [hl.out]; exact hlt
      have s0 := RR.s hkl
      have f0 := RR.f hkl
      have hx1 : q.ks (k + 1) = q.ks k ++ if 0 < q.kd k then [((k : Int), q.kd k)] else [] := rfl
      have hkd : q.kd k = if q.S.getD k 0 = 0 then 0 else if (4 : Int) = 1 ∧ q.S.getD k 0 = 1 then 2 else if (4 : Int) = 2 then 5 else if (4 : Int) = 3 ∧ q.F.getD k false = false then 9 else 0 := by unfold RJ.kd; rw [hph.out]
      have hkl2 := ks_len q k
      generalize q.S.getD k 0 = x at *
      generalize q.F.getD k false = fb at *
      generalize q.kd k = kd at *
      clear hkl RR
      by_cases hx0 : x = 0
      · rw [if_pos hx0] at hkd
        subst hx0
        have hx2 : q.ks (k + 1) = q.ks k := by rw [hx1, hkd, if_neg (by omega), List.append_nil]
        have hNk2 : N = (q.ks (k + 1)).length + 0 := by rw [hx2]; exact hNk
        replace hT : Hid (wr.ownsRow B 3 1 (.slice ta N tc) N (RJ.toL (q.ks (k + 1)))) := by rw [hx2]; exact hT
        replace hM : Hid (wr.ownsRow B 54 15 (.slice ma N mc) N (q.msL (q.ks (k + 1)))) := by rw [hx2]; exact hM
        replace hNk2 := Lib.hid hNk2
        clear hx1 hx2 hkd hkl2 hNk
        go_wp2_with fail
        go_roundw
        case rel => exact ⟨k + 1, N, by omega, hNk2.out, by go_num, hT, hM, fr⟩
        case measure => simp [RowKit.intOf]; omega
      rw [if_neg hx0] at hkd
      have d0 : decide (x = 0) = false := by simpa using hx0
      have e0 : (x == 0) = false := by simpa using hx0
      rw [if_neg (by omega), if_neg (by omega), if_neg (by omega)] at hkd
      replace hx0 := Lib.hid hx0
      have hx2 : q.ks (k + 1) = q.ks k := by rw [hx1, hkd, if_neg (by omega), List.append_nil]
      have hNk2 : N = (q.ks (k + 1)).length + 0 := by rw [hx2]; exact hNk
      replace hT : Hid (wr.ownsRow B 3 1 (.slice ta N tc) N (RJ.toL (q.ks (k + 1)))) := by rw [hx2]; exact hT
      replace hM : Hid (wr.ownsRow B 54 15 (.slice ma N mc) N (q.msL (q.ks (k + 1)))) := by rw [hx2]; exact hM
      replace hNk2 := Lib.hid hNk2
      clear hx1 hx2 hkd hkl2 hNk
      go_wp2_with fail
      go_roundw
      case rel => exact ⟨k + 1, N, by omega, hNk2.out, by go_num, hT, hM, fr⟩
      case measure => simp [RowKit.intOf]; omega
    · obtain rfl : k = l := by omega
      subst hNk
      replace hR := Lib.hid hR
      clear RR
      go_wp2_with fail
      go_ret2
      exact ⟨_, _, rfl, hT.out, hM.out, fr⟩
end Go.Proofs.YtidcoddefebdpaaGreat
