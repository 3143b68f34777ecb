/-
  The reference's comparison of two records that read alike.
-/
import Derived.Test.YtdfkjigkpcgngaaAsmRefR2
set_option linter.unusedVariables false
set_option linter.unusedSimpArgs false
set_option maxRecDepth 100000
namespace Go.Proofs.Ytdfkjigkpcgngaa
open Go.RowKit Go Go.Maps Go.Lib

/-- two blocks made one after the other -/
theorem two_l (w : World) (t : TypeId) (xs ys : List Value) : Blk ((w.alloc (.cells xs.toArray t)).alloc (.cells ys.toArray t)) w.heap.size t xs := ((Fr.refl noB _).alloc _).blk (Blk.new w t xs) (fun q => q)
theorem two_r (w : World) (t : TypeId) (xs ys : List Value) : Blk ((w.alloc (.cells xs.toArray t)).alloc (.cells ys.toArray t)) (w.heap.size + 1) t ys := by
  have := Blk.new (w.alloc (.cells xs.toArray t)) t ys
  rwa [size_alloc] at this
set_option maxHeartbeats 16000000 in
theorem same16_any (t j c : Int) (wh : Bool) (v u : Value) (L : List (Pn × List Sp)) (w : World) (hv : RdRP w v L) (hu : RdRP w u L) :
    Calls Try.prog 18 #[.agg #[.int .i64 t, .int .i64 j, .int .i64 c, .bool wh, v], .agg #[.int .i64 t, .int .i64 j, .int .i64 c, .bool wh, u]] w fun e w' => e = .returned (.bool true) ∧ Fr noB w w' := by
  obtain ⟨va, vc, rfl, hl1, hx⟩ := hv
  obtain ⟨ub, uc, rfl, _, hy⟩ := hu
  obtain ⟨N, hN⟩ : ∃ N, L.length = N := ⟨_, rfl⟩
  rw [hN] at hl1 ⊢
  have hget : ∀ k, k < N → ∃ m, L[k]? = some m := fun k hk => ⟨L[k]'(by omega), List.getElem?_eq_getElem (by omega)⟩
  have f1 : Fr noB w (w.alloc (.cells #[.int .i64 t, .int .i64 j, .int .i64 c, .bool wh, .slice va N vc] 50)) := (Fr.refl _ _).alloc _
  have b1 := Blk.new w 50 [.int .i64 t, .int .i64 j, .int .i64 c, .bool wh, .slice va N vc]
  obtain ⟨xb, hxb⟩ : ∃ xb, w.heap.size = xb := ⟨_, rfl⟩
  rw [hxb] at b1
  have hs1 : (w.alloc (.cells #[.int .i64 t, .int .i64 j, .int .i64 c, .bool wh, .slice va N vc] 50)).heap.size = xb + 1 := by rw [size_alloc, hxb]
  have f2 : Fr noB (w.alloc (.cells #[.int .i64 t, .int .i64 j, .int .i64 c, .bool wh, .slice va N vc] 50)) ((w.alloc (.cells #[.int .i64 t, .int .i64 j, .int .i64 c, .bool wh, .slice va N vc] 50)).alloc (.cells #[.int .i64 t, .int .i64 j, .int .i64 c, .bool wh, .slice ub N uc] 50)) := (Fr.refl _ _).alloc _
  have b2 := Blk.new (w.alloc (.cells #[.int .i64 t, .int .i64 j, .int .i64 c, .bool wh, .slice va N vc] 50)) 50 [.int .i64 t, .int .i64 j, .int .i64 c, .bool wh, .slice ub N uc]
  rw [hs1] at b2
  have b12 := f2.blk b1 (fun q => q)
  have fw := f1.seqN f2
  replace hN := Lib.hid hN
  replace hget := Lib.hid hget
  replace hx := Lib.hid hx
  replace hy := Lib.hid hy
  clear f1 b1 f2 hs1
  go_enter Try.func18, Try.ntmps18
  go_upto_region 1 with fail
  try rw [hxb]
  try rw [hxb]
  replace hxb := Lib.hid hxb
  generalize ((w.alloc (.cells #[.int .i64 t, .int .i64 j, .int .i64 c, .bool wh, .slice va N vc] 50)).alloc (.cells #[.int .i64 t, .int .i64 j, .int .i64 c, .bool wh, .slice ub N uc] 50)) = w2 at *
  have p0 : w2.cell? ⟨xb, 0, none⟩ = some (.int .i64 t) := b12.cell 0
  have p1 : w2.cell? ⟨xb, 1, none⟩ = some (.int .i64 j) := b12.cell 1
  have p2 : w2.cell? ⟨xb, 2, none⟩ = some (.int .i64 c) := b12.cell 2
  have p3 : w2.cell? ⟨xb, 3, none⟩ = some (.bool wh) := b12.cell 3
  have p4 : w2.cell? ⟨xb, 4, none⟩ = some (.slice va N vc) := b12.cell 4
  have q0 : w2.cell? ⟨xb + 1, 0, none⟩ = some (.int .i64 t) := b2.cell 0
  have q1 : w2.cell? ⟨xb + 1, 1, none⟩ = some (.int .i64 j) := b2.cell 1
  have q2 : w2.cell? ⟨xb + 1, 2, none⟩ = some (.int .i64 c) := b2.cell 2
  have q3 : w2.cell? ⟨xb + 1, 3, none⟩ = some (.bool wh) := b2.cell 3
  have q4 : w2.cell? ⟨xb + 1, 4, none⟩ = some (.slice ub N uc) := b2.cell 4
  have n1 : (t != t) = false := by simp
  have n2 : (j != j) = false := by simp
  have n3 : (c != c) = false := by simp
  have n4 : (wh != wh) = false := by simp
  have n5 : ((N : Int) != (N : Int)) = false := by simp
  replace b12 := Lib.hid b12
  replace b2 := Lib.hid b2
  replace fw := Lib.hid fw
  go_wp2_with fail
  clear p0 p1 p2 p3 p4 q0 q1 q2 q3 q4 n1 n2 n3 n4 n5
  go_loopw [5] (fun vi wr => ∃ k : Nat, k ≤ N ∧ vi = .int .i64 k ∧ Fr noB w2 wr) (fun vi _ => N - (RowKit.intOf vi).toNat)
  case atStart => exact ⟨0, by omega, rfl, Fr.refl _ _⟩
  case round =>
    obtain ⟨k, hk, rfl, fr⟩ := hrel
    have bx := fr.blk b12.out (fun q => q)
    have p4 : wr.cell? ⟨xb, 4, none⟩ = some (.slice va N vc) := bx.cell 4
    by_cases hlt : k < N
    · obtain ⟨x, hk2⟩ := hget.out k hlt
      obtain ⟨g, sa, sc, ca, cc, rfl, c0, c1, c2, c3, s1, r1⟩ := hx.out k x hk2
      obtain ⟨g', sb, sd, cb, cd, rfl, d0, d1, d2, d3, s2, r2⟩ := hy.out k x hk2
      have hS : ∀ w', Fr noB wr w' → (w'.cell? ⟨xb, 4, none⟩ = some (.slice (some ⟨g, 0, none⟩) N vc) ∧ w'.cell? ⟨xb + 1, 4, none⟩ = some (.slice (some ⟨g', 0, none⟩) N uc)) ∧ (w'.cell? ⟨g, k * 4, none⟩ = some (.int .i64 x.1.a) ∧ w'.cell? ⟨g, k * 4 + 1, none⟩ = some (.slice sa x.2.length sc) ∧ w'.cell? ⟨g, k * 4 + 2, none⟩ = some (.slice ca x.1.cr.length cc) ∧ w'.cell? ⟨g, k * 4 + 3, none⟩ = some (.bool x.1.lo)) ∧ w'.cell? ⟨g', k * 4, none⟩ = some (.int .i64 x.1.a) ∧ w'.cell? ⟨g', k * 4 + 1, none⟩ = some (.slice sb x.2.length sd) ∧ w'.cell? ⟨g', k * 4 + 2, none⟩ = some (.slice cb x.1.cr.length cd) ∧ w'.cell? ⟨g', k * 4 + 3, none⟩ = some (.bool x.1.lo) := fun w' f => by
        have F := fw.out.seqN (fr.seqN f)
        exact ⟨⟨((fr.seqN f).blk b12.out (fun q => q)).cell 4, ((fr.seqN f).blk b2.out (fun q => q)).cell 4⟩, ⟨F.cell c0 (fun q => q), F.cell c1 (fun q => q), F.cell c2 (fun q => q), F.cell c3 (fun q => q)⟩, F.cell d0 (fun q => q), F.cell d1 (fun q => q), F.cell d2 (fun q => q), F.cell d3 (fun q => q)⟩
      have F0 := fw.out.seqN fr
      have hsm := fun w' (f : Fr noB wr w') => same_any _ _ x.2 w' (s1.frN (F0.seqN f)) (s2.frN (F0.seqN f))
      have hsi := fun w' (f : Fr noB wr w') => sameInts16_any _ _ x.1.cr x.1.cr w' (r1.frN (F0.seqN f)) (r2.frN (F0.seqN f))
      have hb1 : (k : Int) < N := by omega
      generalize x.1.a = a at *
      generalize x.2.length = n at *
      generalize x.1.cr.length = m at *
      generalize x.1.lo = lo at *
      replace hS := Lib.hid hS
      replace hsm := Lib.hid hsm
      replace hsi := Lib.hid hsi
      replace F0 := Lib.hid F0
      replace hk2 := Lib.hid hk2
      clear c0 c1 c2 c3 d0 d1 d2 d3 bx s1 s2 r1 r2
      go_upto_region 6 with fail
      go_cut [6, 7] from 50 to 59 (fun v6 v7 wx => ∃ g1 g2, v6 = .pointer (some ⟨g1, 0, none⟩) ∧ v7 = .pointer (some ⟨g2, 0, none⟩) ∧ Hid (Blk wx g1 69 [.int .i64 a, .slice sa n sc, .slice ca m cc, .bool lo]) ∧ Hid (Blk wx g2 69 [.int .i64 a, .slice sb n sd, .slice cb m cd, .bool lo]) ∧ Fr noB wr wx)
      case first =>
        clear p4
        go_region_held3 (fun w' => (w'.cell? ⟨xb, 4, none⟩ = some (.slice (some ⟨g, 0, none⟩) N vc) ∧ w'.cell? ⟨xb + 1, 4, none⟩ = some (.slice (some ⟨g', 0, none⟩) N uc)) ∧ (w'.cell? ⟨g, k * 4, none⟩ = some (.int .i64 a) ∧ w'.cell? ⟨g, k * 4 + 1, none⟩ = some (.slice sa n sc) ∧ w'.cell? ⟨g, k * 4 + 2, none⟩ = some (.slice ca m cc) ∧ w'.cell? ⟨g, k * 4 + 3, none⟩ = some (.bool lo)) ∧ w'.cell? ⟨g', k * 4, none⟩ = some (.int .i64 a) ∧ w'.cell? ⟨g', k * 4 + 1, none⟩ = some (.slice sb n sd) ∧ w'.cell? ⟨g', k * 4 + 2, none⟩ = some (.slice cb m cd) ∧ w'.cell? ⟨g', k * 4 + 3, none⟩ = some (.bool lo))
          (first | exact hS.out _ ((Fr.refl noB wr).drewN 1) | exact hS.out _ (((Fr.refl noB wr).drewN 1).alloc _) | exact hS.out _ ((((Fr.refl noB wr).drewN 1).alloc _).alloc _) | exact hS.out _ (((Fr.refl noB wr).alloc _).drewN 1) | exact hS.out _ ((((Fr.refl noB wr).alloc _).alloc _).drewN 1) | fail)
          (fail)
        all_goals (
          go_wp2_with fail
          go_meet
          first
            | exact ⟨_, _, rfl, rfl, Lib.hid (two_l _ _ _ _), Lib.hid (two_r _ _ _ _), (((Fr.refl noB wr).drewN 1).alloc _).alloc _⟩
            | exact ⟨_, _, rfl, rfl, Lib.hid (two_r _ _ _ _), Lib.hid (two_l _ _ _ _), (((Fr.refl noB wr).drewN 1).alloc _).alloc _⟩
            | (trace_state; fail))
      case rest =>
        obtain ⟨g1, g2, rfl, rfl, hb1', hb2', fc⟩ := hcut
        have y0 : wc.cell? ⟨g1, 0, none⟩ = some (.int .i64 a) := hb1'.out.cell 0
        have y1 : wc.cell? ⟨g1, 1, none⟩ = some (.slice sa n sc) := hb1'.out.cell 1
        have y3 : wc.cell? ⟨g1, 3, none⟩ = some (.bool lo) := hb1'.out.cell 3
        have z0 : wc.cell? ⟨g2, 0, none⟩ = some (.int .i64 a) := hb2'.out.cell 0
        have z1 : wc.cell? ⟨g2, 1, none⟩ = some (.slice sb n sd) := hb2'.out.cell 1
        have z3 : wc.cell? ⟨g2, 3, none⟩ = some (.bool lo) := hb2'.out.cell 3
        have n1 : (a != a) = false := by simp
        have n2 : (lo != lo) = false := by simp
        have hsm2 := hsm.out wc fc
        replace fc := Lib.hid fc
        clear p4 hS
        replace hsm2 := Lib.hid hsm2
        go_wp2_with fail
        go_fit hsm2.out
        rintro e w5 ⟨rfl, f5⟩
        have fc5 := fc.out.seqN f5
        have y2 : w5.cell? ⟨g1, 2, none⟩ = some (.slice ca m cc) := (f5.blk hb1'.out (fun q => q)).cell 2
        have z2 : w5.cell? ⟨g2, 2, none⟩ = some (.slice cb m cd) := (f5.blk hb2'.out (fun q => q)).cell 2
        have hsi2 := hsi.out w5 fc5
        rw [decide_eq_true trivial] at hsi2
        replace hsi2 := Lib.hid hsi2
        replace fc5 := Lib.hid fc5
        clear y0 y1 y3 z0 z1 z3 n1 n2 f5 hsm2
        go_wp2_with fail
        go_fit hsi2.out
        rintro e w6 ⟨rfl, nq, rfl⟩
        have frz := fr.seqN (fc5.out.drewN nq)
        clear y2 z2 hsi2
        go_wp2_with fail
        go_roundw
        case rel => exact ⟨k + 1, by omega, by go_num, frz⟩
        case measure => simp [RowKit.intOf]; omega
    · obtain rfl : k = N := by omega
      replace bx := Lib.hid bx
      go_wp2_with fail
      go_ret
      exact ⟨rfl, fw.out.seqN fr⟩
end Go.Proofs.Ytdfkjigkpcgngaa
