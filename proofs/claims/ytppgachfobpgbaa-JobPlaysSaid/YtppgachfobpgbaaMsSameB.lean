/-
  The law's samePart, Same: two alike.
-/
import Derived.Test.YtppgachfobpgbaaMsLikeB
import Derived.Deep.LoopGhost
import Derived.Deep.DeepCutAuto
set_option linter.unusedVariables false
set_option linter.unusedSimpArgs false
set_option maxRecDepth 100000
set_option maxRecDepth 100000
namespace Go.Proofs.Ytppgachfobpgbaa
open Go.RowKit Go Go.Lib

set_option maxHeartbeats 2000000 in
theorem same_part (p : Pn) (ua ub : Option Addr) (uc ud : Nat) (w : World) (hu : RdI w (.slice ua p.cr.length uc) p.cr) (hv : RdI w (.slice ub p.cr.length ud) p.cr) :
    Calls Try.prog 40 #[.agg #[.int .i64 p.a, .int .i64 p.t, .int .i64 p.j, .int .i64 p.n, .slice ua p.cr.length uc, .bool p.lo], .agg #[.int .i64 p.a, .int .i64 p.t, .int .i64 p.j, .int .i64 p.n, .slice ub p.cr.length ud, .bool p.lo]] w fun e w' => e = .returned (.bool true) ∧ Fr noB w w' := by
  have hs := fun w' (f : Fr noB w w') => sameInts_any _ _ p.cr p.cr w' (hu.frN f) (hv.frN f)
  generalize p.cr.length = cl at *
  have fX := ((Fr.refl noB w).alloc (.cells #[.int .i64 p.a, .int .i64 p.t, .int .i64 p.j, .int .i64 p.n, .slice ua cl uc, .bool p.lo] 33)).alloc (.cells #[.int .i64 p.a, .int .i64 p.t, .int .i64 p.j, .int .i64 p.n, .slice ub cl ud, .bool p.lo] 33)
  have k0 : (p.a == p.a) = true := by simp
  have k1 : (p.t == p.t) = true := by simp
  have k2 : (p.j == p.j) = true := by simp
  have k3 : (p.n == p.n) = true := by simp
  have k4 : (p.lo == p.lo) = true := by simp
  have hs2 := hs _ fX
  rw [show decide (p.cr = p.cr) = true by simp] at hs2
  replace hs2 := Lib.hid hs2
  clear hs hu hv
  go_enter Try.func40, Try.ntmps40
  go_wp2_with fail
  go_fit hs2.out
  rintro e w1 ⟨rfl, q, hw⟩
  obtain rfl := hw
  go_wp2_with fail
  go_ret
  exact ⟨rfl, fX.drewN q⟩

/-- the reference's message with just these fields -/
def RfG (w : World) (v : Value) (k a t j c i n : Int) (p : Pn) (ps : List Pn) (sp : List Sp) : Prop := ∃ ua uc qa qc sa sc, v = mrV { k := k, a := a, t := t, j := j, c := c, i := i, n := n, pa := p.a, pt := p.t, pj := p.j, pc := p.n, ua := ua, un := p.cr.length, uc := uc, lo := p.lo, qa := qa, qn := ps.length, qc := qc, sa := sa, sn := sp.length, sc := sc } ∧ RdI w (.slice ua p.cr.length uc) p.cr ∧ RdPs w (.slice qa ps.length qc) ps ∧ RdSp w (.slice sa sp.length sc) sp
set_option maxHeartbeats 2000000 in
theorem same_gen (v u : Value) (k a t j c i n : Int) (p : Pn) (ps : List Pn) (sp : List Sp) (w : World) (hv : RfG w v k a t j c i n p ps sp) (hu : RfG w u k a t j c i n p ps sp) :
    Calls Try.prog 24 #[v, u] w fun e w' => e = .returned (.bool true) ∧ Fr noB w w' := by
  obtain ⟨ua, uc, qa, qc, sa, sc, rfl, hu1, hq1, hs1⟩ := hv
  obtain ⟨ub, ud, qb, qd, sb, sd, rfl, hu2, hq2, hs2⟩ := hu
  have hsp := fun w' (f : Fr noB w w') => same_part p ua ub uc ud w' (hu1.frN f) (hu2.frN f)
  have hss := fun w' (f : Fr noB w w') => same_any _ _ sp w' (hs1.frN f) (hs2.frN f)
  have hget : ∀ k, k < ps.length → ∃ m, ps[k]? = some m := fun k hk => ⟨ps[k], List.getElem?_eq_getElem hk⟩
  obtain ⟨_, _, e1, hx1, hx2, hx3⟩ := hq1
  cases e1
  obtain ⟨_, _, e2, hy1, hy2, hy3⟩ := hq2
  cases e2
  unfold mrV mrC
  generalize hcl : p.cr.length = cl at *
  generalize hN : ps.length = N at *
  generalize hM : sp.length = M at *
  have hNb : (N : Int) ≤ 9223372036854775807 := by omega
  have fX := ((Fr.refl noB w).alloc (.cells #[.int .i64 k, .int .i64 a, .int .i64 t, .int .i64 j, .int .i64 c, .int .i64 i, .int .i64 n, .int .i64 p.a, .int .i64 p.t, .int .i64 p.j, .int .i64 p.n, .slice ua cl uc, .bool p.lo, .slice qa N qc, .slice sa M sc] 37)).alloc (.cells #[.int .i64 k, .int .i64 a, .int .i64 t, .int .i64 j, .int .i64 c, .int .i64 i, .int .i64 n, .int .i64 p.a, .int .i64 p.t, .int .i64 p.j, .int .i64 p.n, .slice ub cl ud, .bool p.lo, .slice qb N qd, .slice sb M sd] 37)
  have h1 := ((Fr.refl noB (w.alloc (.cells #[.int .i64 k, .int .i64 a, .int .i64 t, .int .i64 j, .int .i64 c, .int .i64 i, .int .i64 n, .int .i64 p.a, .int .i64 p.t, .int .i64 p.j, .int .i64 p.n, .slice ua cl uc, .bool p.lo, .slice qa N qc, .slice sa M sc] 37))).alloc (.cells #[.int .i64 k, .int .i64 a, .int .i64 t, .int .i64 j, .int .i64 c, .int .i64 i, .int .i64 n, .int .i64 p.a, .int .i64 p.t, .int .i64 p.j, .int .i64 p.n, .slice ub cl ud, .bool p.lo, .slice qb N qd, .slice sb M sd] 37)).blk (Blk.new w 37 [.int .i64 k, .int .i64 a, .int .i64 t, .int .i64 j, .int .i64 c, .int .i64 i, .int .i64 n, .int .i64 p.a, .int .i64 p.t, .int .i64 p.j, .int .i64 p.n, .slice ua cl uc, .bool p.lo, .slice qa N qc, .slice sa M sc]) (fun q => q)
  have h2 := Blk.new (w.alloc (.cells #[.int .i64 k, .int .i64 a, .int .i64 t, .int .i64 j, .int .i64 c, .int .i64 i, .int .i64 n, .int .i64 p.a, .int .i64 p.t, .int .i64 p.j, .int .i64 p.n, .slice ua cl uc, .bool p.lo, .slice qa N qc, .slice sa M sc] 37)) 37 [.int .i64 k, .int .i64 a, .int .i64 t, .int .i64 j, .int .i64 c, .int .i64 i, .int .i64 n, .int .i64 p.a, .int .i64 p.t, .int .i64 p.j, .int .i64 p.n, .slice ub cl ud, .bool p.lo, .slice qb N qd, .slice sb M sd]
  rw [size_alloc] at h2
  obtain ⟨g1, hg1⟩ : ∃ g, w.heap.size = g := ⟨_, rfl⟩
  rw [hg1] at h1 h2
  obtain ⟨g2, hg2⟩ : ∃ g, g1 + 1 = g := ⟨_, rfl⟩
  rw [hg2] at h2
  have z0 : ∀ x : Int, (x != x) = false := fun x => by simp
  have hsp1 := hsp _ fX
  replace hsp1 := Lib.hid hsp1
  replace hss := Lib.hid hss
  replace hget := Lib.hid hget
  replace hx3 := Lib.hid hx3
  replace hy3 := Lib.hid hy3
  replace hcl := Lib.hid hcl
  replace hN := Lib.hid hN
  replace hM := Lib.hid hM
  replace hu1 := Lib.hid hu1
  replace hu2 := Lib.hid hu2
  replace hs1 := Lib.hid hs1
  replace hs2 := Lib.hid hs2
  replace h1 := Lib.hid h1
  replace h2 := Lib.hid h2
  clear hsp hx1 hx2 hy2
  go_enter Try.func24, Try.ntmps24
  go_upto_region 1 with fail
  generalize ((w.alloc (.cells #[.int .i64 k, .int .i64 a, .int .i64 t, .int .i64 j, .int .i64 c, .int .i64 i, .int .i64 n, .int .i64 p.a, .int .i64 p.t, .int .i64 p.j, .int .i64 p.n, .slice ua cl uc, .bool p.lo, .slice qa N qc, .slice sa M sc] 37)).alloc (.cells #[.int .i64 k, .int .i64 a, .int .i64 t, .int .i64 j, .int .i64 c, .int .i64 i, .int .i64 n, .int .i64 p.a, .int .i64 p.t, .int .i64 p.j, .int .i64 p.n, .slice ub cl ud, .bool p.lo, .slice qb N qd, .slice sb M sd] 37)) = wX at *
  have a0 : wX.cell? ⟨g1, 0, none⟩ = some (.int .i64 k) := h1.out.cell 0
  have b0 : wX.cell? ⟨g2, 0, none⟩ = some (.int .i64 k) := h2.out.cell 0
  have a1 : wX.cell? ⟨g1, 1, none⟩ = some (.int .i64 a) := h1.out.cell 1
  have b1 : wX.cell? ⟨g2, 1, none⟩ = some (.int .i64 a) := h2.out.cell 1
  have a2 : wX.cell? ⟨g1, 2, none⟩ = some (.int .i64 t) := h1.out.cell 2
  have b2 : wX.cell? ⟨g2, 2, none⟩ = some (.int .i64 t) := h2.out.cell 2
  have a3 : wX.cell? ⟨g1, 3, none⟩ = some (.int .i64 j) := h1.out.cell 3
  have b3 : wX.cell? ⟨g2, 3, none⟩ = some (.int .i64 j) := h2.out.cell 3
  have a4 : wX.cell? ⟨g1, 4, none⟩ = some (.int .i64 c) := h1.out.cell 4
  have b4 : wX.cell? ⟨g2, 4, none⟩ = some (.int .i64 c) := h2.out.cell 4
  have a5 : wX.cell? ⟨g1, 5, none⟩ = some (.int .i64 i) := h1.out.cell 5
  have b5 : wX.cell? ⟨g2, 5, none⟩ = some (.int .i64 i) := h2.out.cell 5
  have a6 : wX.cell? ⟨g1, 6, none⟩ = some (.int .i64 n) := h1.out.cell 6
  have b6 : wX.cell? ⟨g2, 6, none⟩ = some (.int .i64 n) := h2.out.cell 6
  have a7 : wX.cell? ⟨g1, 7, none⟩ = some (.int .i64 p.a) := h1.out.cell 7
  have b7 : wX.cell? ⟨g2, 7, none⟩ = some (.int .i64 p.a) := h2.out.cell 7
  have a8 : wX.cell? ⟨g1, 8, none⟩ = some (.int .i64 p.t) := h1.out.cell 8
  have b8 : wX.cell? ⟨g2, 8, none⟩ = some (.int .i64 p.t) := h2.out.cell 8
  have a9 : wX.cell? ⟨g1, 9, none⟩ = some (.int .i64 p.j) := h1.out.cell 9
  have b9 : wX.cell? ⟨g2, 9, none⟩ = some (.int .i64 p.j) := h2.out.cell 9
  have a10 : wX.cell? ⟨g1, 10, none⟩ = some (.int .i64 p.n) := h1.out.cell 10
  have b10 : wX.cell? ⟨g2, 10, none⟩ = some (.int .i64 p.n) := h2.out.cell 10
  have a11 : wX.cell? ⟨g1, 11, none⟩ = some (.slice ua cl uc) := h1.out.cell 11
  have b11 : wX.cell? ⟨g2, 11, none⟩ = some (.slice ub cl ud) := h2.out.cell 11
  have a12 : wX.cell? ⟨g1, 12, none⟩ = some (.bool p.lo) := h1.out.cell 12
  have b12 : wX.cell? ⟨g2, 12, none⟩ = some (.bool p.lo) := h2.out.cell 12
  have a13 : wX.cell? ⟨g1, 13, none⟩ = some (.slice qa N qc) := h1.out.cell 13
  have b13 : wX.cell? ⟨g2, 13, none⟩ = some (.slice qb N qd) := h2.out.cell 13
  have a14 : wX.cell? ⟨g1, 14, none⟩ = some (.slice sa M sc) := h1.out.cell 14
  have b14 : wX.cell? ⟨g2, 14, none⟩ = some (.slice sb M sd) := h2.out.cell 14
  go_wp2_with fail
  go_fit hsp1.out
  rintro e w1 ⟨rfl, f1⟩
  have fr1 := fX.seqN f1
  have h1w1 := f1.blk h1.out (fun q => q)
  have h2w1 := f1.blk h2.out (fun q => q)
  clear a0 b0 a1 b1 a2 b2 a3 b3 a4 b4 a5 b5 a6 b6 a7 b7 a8 b8 a9 b9 a10 b10 a11 b11 a12 b12 a13 b13 a14 b14
  have a13 : w1.cell? ⟨g1, 13, none⟩ = some (.slice qa N qc) := h1w1.cell 13
  have b13 : w1.cell? ⟨g2, 13, none⟩ = some (.slice qb N qd) := h2w1.cell 13
  have a14 : w1.cell? ⟨g1, 14, none⟩ = some (.slice sa M sc) := h1w1.cell 14
  have b14 : w1.cell? ⟨g2, 14, none⟩ = some (.slice sb M sd) := h2w1.cell 14
  have hss1 := hss.out w1 fr1
  replace hss1 := Lib.hid hss1
  replace h1w1 := Lib.hid h1w1
  replace h2w1 := Lib.hid h2w1
  go_wp2_with fail
  go_fit hss1.out
  rintro e w2 ⟨rfl, f2⟩
  have fr2 := fr1.seqN f2
  have h1w2 := f2.blk h1w1.out (fun q => q)
  have h2w2 := f2.blk h2w1.out (fun q => q)
  clear a13 b13 a14 b14
  have a13 : w2.cell? ⟨g1, 13, none⟩ = some (.slice qa N qc) := h1w2.cell 13
  replace h1w2 := Lib.hid h1w2
  replace h2w2 := Lib.hid h2w2
  go_wp2_with fail
  clear a13
  go_loopw [81] (fun vi wr => ∃ m : Nat, m ≤ N ∧ vi = .int .i64 m ∧ Fr noB w2 wr) (fun vi _ => N - (RowKit.intOf vi).toNat)
  case atStart => exact ⟨0, by omega, rfl, Fr.refl _ _⟩
  case round =>
    obtain ⟨m, hm, rfl, fr⟩ := hrel
    have frw := fr2.seqN fr
    by_cases hlt : m < N
    · obtain ⟨r, hr⟩ := hget.out m hlt
      obtain ⟨ga, oa, va, vc, rfl, hca, hra⟩ := hx3.out m r hr
      obtain ⟨gb, ob, vb, vd, rfl, hcb, hrb⟩ := hy3.out m r hr
      have hpt := fun w' (f : Fr noB w w') => same_part r va vb vc vd w' (hra.frN f) (hrb.frN f)
      generalize hrl : r.cr.length = rl at *
      have hS : ∀ w', Fr noB wr w' → ((w'.cell? ⟨g1, 13, none⟩ = some (.slice (some ⟨ga, oa, none⟩) N qc) ∧ w'.cell? ⟨g2, 13, none⟩ = some (.slice (some ⟨gb, ob, none⟩) N qd)) ∧ (w'.cell? ⟨ga, oa + m * 6, none⟩ = some (.int .i64 r.a) ∧ w'.cell? ⟨ga, oa + m * 6 + 1, none⟩ = some (.int .i64 r.t) ∧ w'.cell? ⟨ga, oa + m * 6 + 2, none⟩ = some (.int .i64 r.j) ∧ w'.cell? ⟨ga, oa + m * 6 + 3, none⟩ = some (.int .i64 r.n) ∧ w'.cell? ⟨ga, oa + m * 6 + 4, none⟩ = some (.slice va rl vc) ∧ w'.cell? ⟨ga, oa + m * 6 + 5, none⟩ = some (.bool r.lo)) ∧ w'.cell? ⟨gb, ob + m * 6, none⟩ = some (.int .i64 r.a) ∧ w'.cell? ⟨gb, ob + m * 6 + 1, none⟩ = some (.int .i64 r.t) ∧ w'.cell? ⟨gb, ob + m * 6 + 2, none⟩ = some (.int .i64 r.j) ∧ w'.cell? ⟨gb, ob + m * 6 + 3, none⟩ = some (.int .i64 r.n) ∧ w'.cell? ⟨gb, ob + m * 6 + 4, none⟩ = some (.slice vb rl vd) ∧ w'.cell? ⟨gb, ob + m * 6 + 5, none⟩ = some (.bool r.lo)) := fun w' f => by
        have b1 := (fr.seqN f).blk h1w2.out (fun q => q)
        have b2 := (fr.seqN f).blk h2w2.out (fun q => q)
        have fw := frw.seqN f
        exact ⟨⟨b1.cell 13, b2.cell 13⟩, ⟨fw.cell (hca 0 _ rfl) (fun q => q), fw.cell (hca 1 _ rfl) (fun q => q), fw.cell (hca 2 _ rfl) (fun q => q), fw.cell (hca 3 _ rfl) (fun q => q), fw.cell (hca 4 _ (by simp [pnC, hrl])) (fun q => q), fw.cell (hca 5 _ rfl) (fun q => q)⟩, fw.cell (hcb 0 _ rfl) (fun q => q), fw.cell (hcb 1 _ rfl) (fun q => q), fw.cell (hcb 2 _ rfl) (fun q => q), fw.cell (hcb 3 _ rfl) (fun q => q), fw.cell (hcb 4 _ (by simp [pnC, hrl])) (fun q => q), fw.cell (hcb 5 _ rfl) (fun q => q)⟩
      have hb1 : (m : Int) < N := by omega
      have fq := (Fr.refl noB wr).drewN 1
      replace hS := Lib.hid hS
      replace hpt := Lib.hid hpt
      replace hr := Lib.hid hr
      replace hrl := Lib.hid hrl
      clear hca hcb hra hrb
      go_wp2_with fail
      go_region_held3 (fun w' => ((w'.cell? ⟨g1, 13, none⟩ = some (.slice (some ⟨ga, oa, none⟩) N qc) ∧ w'.cell? ⟨g2, 13, none⟩ = some (.slice (some ⟨gb, ob, none⟩) N qd)) ∧ (w'.cell? ⟨ga, oa + m * 6, none⟩ = some (.int .i64 r.a) ∧ w'.cell? ⟨ga, oa + m * 6 + 1, none⟩ = some (.int .i64 r.t) ∧ w'.cell? ⟨ga, oa + m * 6 + 2, none⟩ = some (.int .i64 r.j) ∧ w'.cell? ⟨ga, oa + m * 6 + 3, none⟩ = some (.int .i64 r.n) ∧ w'.cell? ⟨ga, oa + m * 6 + 4, none⟩ = some (.slice va rl vc) ∧ w'.cell? ⟨ga, oa + m * 6 + 5, none⟩ = some (.bool r.lo)) ∧ w'.cell? ⟨gb, ob + m * 6, none⟩ = some (.int .i64 r.a) ∧ w'.cell? ⟨gb, ob + m * 6 + 1, none⟩ = some (.int .i64 r.t) ∧ w'.cell? ⟨gb, ob + m * 6 + 2, none⟩ = some (.int .i64 r.j) ∧ w'.cell? ⟨gb, ob + m * 6 + 3, none⟩ = some (.int .i64 r.n) ∧ w'.cell? ⟨gb, ob + m * 6 + 4, none⟩ = some (.slice vb rl vd) ∧ w'.cell? ⟨gb, ob + m * 6 + 5, none⟩ = some (.bool r.lo)))
        (first | exact hS.out _ fq | exact hS.out _ ((Fr.refl noB _).drewN 1) | fail)
        (first | (go_at_call 40; refine (hpt.out _ (frw.seqN fq)).mono ?_; rintro e w5 ⟨rfl, f5⟩; have fq := fq.seqN f5) | fail)
      all_goals (
        go_wp2_with fail
        go_roundw
        case rel => exact ⟨m + 1, by omega, by go_num, fr.seqN fq⟩
        case measure => simp [RowKit.intOf]; omega)
    · obtain rfl : m = N := by omega
      go_wp2_with fail
      go_ret
      exact ⟨rfl, frw⟩

def zP : Pn := ⟨0, 0, 0, 0, [], false⟩
theorem rdI_nil (w : World) : RdI w (.slice none 0 0) [] := ⟨none, 0, rfl, by simp, by simp, fun i hi => by simp at hi⟩
theorem rdPs_nil (w : World) : RdPs w (.slice none 0 0) [] := ⟨none, 0, rfl, by simp, by simp, fun i p hi => by simp at hi⟩
theorem rdSp_nil (w : World) : RdSp w (.slice none 0 0) [] := ⟨none, 0, rfl, by simp, by simp [maxLen], fun _ => rfl, fun i s hi => by simp at hi⟩
/-- the fields of a message, as Same reads them -/
def RfM (w : World) (v : Value) : Ms → Prop
  | .trigger a t c => RfG w v 1 a t 0 c 0 0 zP [] []
  | .pin t j => RfG w v 2 0 t j 0 0 0 zP [] []
  | .pinned p => RfG w v 3 0 0 0 0 0 0 p [] []
  | .gone a t j => RfG w v 4 a t j 0 0 0 zP [] []
  | .collect t j => RfG w v 5 0 t j 0 0 0 zP [] []
  | .chunk a t j i n sp => RfG w v 6 a t j 0 i n zP [] sp
  | .manifest t j c ps => RfG w v 7 0 t j c 0 0 zP ps []
  | .stored t j => RfG w v 8 0 t j 0 0 0 zP [] []
  | .unpin t j => RfG w v 9 0 t j 0 0 0 zP [] []
  | .unpinned a t j => RfG w v 10 a t j 0 0 0 zP [] []
theorem RfW.gen {w : World} {v : Value} {m : Ms} (h : RfW w v m) : RfM w v m := by
  have n1 := rdI_nil w
  have n2 := rdPs_nil w
  have n3 := rdSp_nil w
  cases m with
  | pinned p => obtain ⟨ua, uc, rfl, h1⟩ := h; exact ⟨ua, uc, none, 0, none, 0, rfl, h1, n2, n3⟩
  | chunk a t j i n sp => obtain ⟨sa, sc, rfl, h1⟩ := h; exact ⟨none, 0, none, 0, sa, sc, rfl, n1, n2, h1⟩
  | manifest t j c ps => obtain ⟨qa, qc, rfl, h1⟩ := h; exact ⟨none, 0, qa, qc, none, 0, rfl, n1, h1, n3⟩
  | _ => obtain rfl := h; exact ⟨none, 0, none, 0, none, 0, rfl, n1, n2, n3⟩
theorem same_ms (v u : Value) (m : Ms) (w : World) (hv : RfW w v m) (hu : RfW w u m) : Calls Try.prog 24 #[v, u] w fun e w' => e = .returned (.bool true) ∧ Fr noB w w' := by
  have h1 := hv.gen
  have h2 := hu.gen
  cases m <;> exact same_gen v u _ _ _ _ _ _ _ _ _ _ w h1 h2
end Go.Proofs.Ytppgachfobpgbaa
