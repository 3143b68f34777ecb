/-
  The document's agent hears a Collect.
  The document's agent hears what it lets be.
  What the agent says and what the document's says: the law's comparison.
-/
import Derived.Test.YtppmednmcbjafaaGreatQmD
import Derived.Deep.LoopGhost
import Derived.Deep.DeepCutAuto
import Derived.Test.YtppmednmcbjafaaGreatQmC
section
set_option linter.unusedVariables false
set_option linter.unusedSimpArgs false
set_option maxRecDepth 100000
namespace Go.Proofs.YtppmednmcbjafaaGreat
open Go.RowKit Go Go.Maps Go.Lib

section
variable {w : World} {z : Nat} {col : Nat → Nat} {n : Nat} {A : AG} {b : Bd}
theorem co_yes {A : AG} {t j : Int} (h : A.job t = j) : A.co t j = ([], A.cks t j) := by unfold AG.co; rw [if_pos h.symm]
theorem co_nil {A : AG} {t j : Int} (h : A.job t ≠ j) (h2 : j ≤ A.done t) : A.co t j = ([], []) := by unfold AG.co; rw [if_neg (fun q => h q.symm), if_pos h2]
theorem co_gone {A : AG} {t j : Int} (h : A.job t ≠ j) (h2 : ¬ j ≤ A.done t) : A.co t j = ([.gone A.id t j], []) := by unfold AG.co; rw [if_neg (fun q => h q.symm), if_neg h2]
theorem ra_len (t : Int) (h : RA w z col n A b) : (txt A.K.P t).length ≤ 48 := by
  obtain ⟨vp, vl, vg, S, hk, hS⟩ := h.kx
  obtain ⟨vt, vs, V, hp, hS2⟩ := hk.pool
  have h1 := used_drop A.K.P t hp.ris
  have h2 := hp.le
  have h3 := hp.n16
  omega
set_option maxHeartbeats 16000000 in
theorem rhear_collect (t j : Int) (hb : bCollect t j = true) (h : RA w z col n A b) (hn : n < 201) :
    Calls Tryz.prog 24 #[.pointer (some ⟨z, 0, none⟩), mrV { k := 5, t := t, j := j }] w fun e w' => QHear e w w' z col (n + 1) A (A.co t j).1 (A.co t j).2 := by
  have hr := fun w' (f : Fr noB w w') => rr_5 t j w'
  simp only [show (inB 1 65535 t && inB 1 1073741824 j) = true from hb] at hr
  have hfj := field_job
  have hof := fun w' (f : Fr noB w w') => rof_job t (h.frN f)
  have hdn := fun w' (f : Fr noB w w') => rdone_any t (h.frN f)
  have hov := fun w' (f : Fr noB w w') => rover_any t (h.frN f)
  have hzw : z < w.heap.size := h.blk.lt
  unfold mrV mrC
  unfold mrV mrC at hr
  simp only at hr ⊢
  have fX := (Fr.refl noB w).alloc (.cells #[.int .i64 5, .int .i64 0, .int .i64 t, .int .i64 j, .int .i64 0, .int .i64 0, .int .i64 0, .int .i64 0, .int .i64 0, .int .i64 0, .int .i64 0, .slice none 0 0, .bool false, .slice none 0 0, .slice none 0 0] 73)
  have bX := Blk.new w 73 [.int .i64 5, .int .i64 0, .int .i64 t, .int .i64 j, .int .i64 0, .int .i64 0, .int .i64 0, .int .i64 0, .int .i64 0, .int .i64 0, .int .i64 0, .slice none 0 0, .bool false, .slice none 0 0, .slice none 0 0]
  replace hr := Lib.hid hr
  replace hfj := Lib.hid hfj
  replace hof := Lib.hid hof
  replace hdn := Lib.hid hdn
  replace hov := Lib.hid hov
  have hh := Lib.hid h
  clear h
  go_enter Tryz.func24, Tryz.ntmps24
  go_upto_region 1 with fail
  generalize (w.alloc (.cells #[.int .i64 5, .int .i64 0, .int .i64 t, .int .i64 j, .int .i64 0, .int .i64 0, .int .i64 0, .int .i64 0, .int .i64 0, .int .i64 0, .int .i64 0, .slice none 0 0, .bool false, .slice none 0 0, .slice none 0 0] 73)) = w1 at *
  obtain ⟨gX, hgX⟩ : ∃ g, w.heap.size = g := ⟨_, rfl⟩
  rw [hgX] at bX
  try rw [hgX]
  replace hgX := Lib.hid hgX
  have y0 : w1.cell? ⟨gX, 0, none⟩ = some (.int .i64 5) := bX.cell 0
  have y1 : w1.cell? ⟨gX, 1, none⟩ = some (.int .i64 0) := bX.cell 1
  have y2 : w1.cell? ⟨gX, 2, none⟩ = some (.int .i64 t) := bX.cell 2
  have y3 : w1.cell? ⟨gX, 3, none⟩ = some (.int .i64 j) := bX.cell 3
  have y4 : w1.cell? ⟨gX, 4, none⟩ = some (.int .i64 0) := bX.cell 4
  have y5 : w1.cell? ⟨gX, 5, none⟩ = some (.int .i64 0) := bX.cell 5
  have y6 : w1.cell? ⟨gX, 6, none⟩ = some (.int .i64 0) := bX.cell 6
  have y7 : w1.cell? ⟨gX, 7, none⟩ = some (.int .i64 0) := bX.cell 7
  have y8 : w1.cell? ⟨gX, 8, none⟩ = some (.int .i64 0) := bX.cell 8
  have y9 : w1.cell? ⟨gX, 9, none⟩ = some (.int .i64 0) := bX.cell 9
  have y10 : w1.cell? ⟨gX, 10, none⟩ = some (.int .i64 0) := bX.cell 10
  have y11 : w1.cell? ⟨gX, 11, none⟩ = some (.slice none 0 0) := bX.cell 11
  have y12 : w1.cell? ⟨gX, 12, none⟩ = some (.bool false) := bX.cell 12
  have y13 : w1.cell? ⟨gX, 13, none⟩ = some (.slice none 0 0) := bX.cell 13
  have y14 : w1.cell? ⟨gX, 14, none⟩ = some (.slice none 0 0) := bX.cell 14
  go_wp2_with fail
  go_fit (hr.out w1 fX)
  rintro e w2 ⟨rfl, f2⟩
  have f12 := fX.seqN f2
  have b2 := f2.blk bX (fun q => q)
  clear y0 y1 y2 y3 y4 y5 y6 y7 y8 y9 y10 y11 y12 y13 y14 fX f2 hr bX
  have hS : ∀ w', Fr noB w2 w' → (w'.cell? ⟨gX, 2, none⟩ = some (.int .i64 t) ∧ w'.cell? ⟨gX, 3, none⟩ = some (.int .i64 j)) := fun w' f => ⟨f.cell (b2.cell 2) (fun q => q), f.cell (b2.cell 3) (fun q => q)⟩
  replace hS := Lib.hid hS
  replace b2 := Lib.hid b2
  have f13 := f12.seqN (Fr.refl noB w2).drew
  have b3 := (Fr.refl noB w2).drew.blk b2.out (fun q => q)
  have R3 := hh.out.frN f13
  have d3 : w2.drew.cell? ⟨z, 3, none⟩ = some (.pointer (some ⟨b.l, 0, none⟩)) := R3.blk.cell 3
  replace R3 := Lib.hid R3
  replace b3 := Lib.hid b3
  go_upto_region 3 with fail
  go_region_held3 (fun w' => w'.cell? ⟨gX, 2, none⟩ = some (.int .i64 t) ∧ w'.cell? ⟨gX, 3, none⟩ = some (.int .i64 j))
    (first | exact hS.out _ ((Fr.refl noB _).drewN 1) | fail) (fail)
  clear b2 hS f12
  generalize w2.drew = w3 at *
  go_wp2_with fail
  go_fit (hof.out w3 f13)
  rintro e w4 ⟨m0, m2, rfl, f4⟩
  have hf4 := hfj.out m0 (A.job t) m2 w4
  have f14 := f13.seqN f4
  have R4 := R3.out.frN f4
  have d0 : w4.cell? ⟨z, 0, none⟩ = some (.int .i64 A.id) := R4.blk.cell 0
  have b4 := f4.blk b3.out (fun q => q)
  have fG := (Fr.refl noB w4).alloc (.cells #[.int .i64 4, .int .i64 A.id, .int .i64 t, .int .i64 j, .int .i64 0, .int .i64 0, .int .i64 0, .int .i64 0, .int .i64 0, .int .i64 0, .int .i64 0, .slice none 0 0, .bool false, .slice none 0 0, .slice none 0 0] 73)
  have bG := Blk.new w4 73 [.int .i64 4, .int .i64 A.id, .int .i64 t, .int .i64 j, .int .i64 0, .int .i64 0, .int .i64 0, .int .i64 0, .int .i64 0, .int .i64 0, .int .i64 0, .slice none 0 0, .bool false, .slice none 0 0, .slice none 0 0]
  have f15 := f14.seqN fG
  have R5 := R4.frN fG
  have b5 := fG.blk b4 (fun q => q)
  obtain ⟨gG, hgG⟩ : ∃ g, w4.heap.size = g := ⟨_, rfl⟩
  rw [hgG] at bG
  replace R5 := Lib.hid R5
  replace b5 := Lib.hid b5
  replace bG := Lib.hid bG
  clear f13 R3 b3 d3 hof R4 b4 fG f14 f4
  go_upto_region 6 with fail
  try rw [hgG]
  replace hgG := Lib.hid hgG
  generalize (w4.alloc (.cells #[.int .i64 4, .int .i64 A.id, .int .i64 t, .int .i64 j, .int .i64 0, .int .i64 0, .int .i64 0, .int .i64 0, .int .i64 0, .int .i64 0, .int .i64 0, .slice none 0 0, .bool false, .slice none 0 0, .slice none 0 0] 73)) = w5 at *
  have z0 : w5.cell? ⟨gX, 0, none⟩ = some (.int .i64 5) := b5.out.cell 0
  clear d0 hf4 hfj b5
  have no5 : ∀ w', Fr noB w w' → ∃ c2, RTo w w' z col (n + 1) A c2 := fun w' f => ⟨col, RTo.same (hh.out.up (Nat.le_succ n) (by omega)) f⟩
  have hdn5 := hdn.out w5 f15
  replace no5 := Lib.hid no5
  replace hdn5 := Lib.hid hdn5
  clear hdn hov
  by_cases hj : A.job t = j
  case neg =>
    have hd : (A.job t == j) = false := by simp [hj]
    have hd2 : (A.job t != j) = true := by simp [hj]
    by_cases hc1 : j ≤ A.done t
    · have E1 := Lib.hid (co_nil hj hc1)
      have hd1 : decide (j ≤ A.done t) = true := by simpa using hc1
      replace hj := Lib.hid hj
      clear hc1
      go_wp2_with fail
      go_fit hdn5.out
      rintro e w6 ⟨rfl, hw6⟩
      obtain rfl := hw6.symm
      clear hw6
      go_wp2_with fail
      go_returns
      rw [E1.out]
      exact ⟨_, _, rfl, OutR.nil _, OutR.nil _, no5.out _ f15⟩
    · have E1 := Lib.hid (co_gone hj hc1)
      have hd1 : decide (j ≤ A.done t) = false := by simpa using hc1
      replace hj := Lib.hid hj
      clear hc1
      go_wp2_with fail
      go_fit hdn5.out
      rintro e w6 ⟨rfl, hw6⟩
      obtain rfl := hw6.symm
      clear hw6
      go_wp2_with fail
      go_returns
      rw [E1.out]
      exact ⟨_, _, rfl, OutR.one (M := { k := 4, a := A.id, t := t, j := j }) (m := .gone A.id t j) bG.out rfl, OutR.nil _, no5.out _ f15⟩
  have hd : (A.job t == j) = true := by simp [hj]
  have hd2 : (A.job t != j) = false := by simp [hj]
  have E1 := Lib.hid (co_yes hj)
  have z1 : w5.cell? ⟨z, 1, none⟩ = some (.pointer (some ⟨b.k, 0, none⟩)) := R5.out.blk.cell 1
  have hz5 : z < w5.heap.size := R5.out.blk.lt
  have hid5 : ∀ w', Fr noB w5 w' → w'.cell? ⟨z, 0, none⟩ = some (.int .i64 A.id) := fun w' f => f.cell (R5.out.blk.cell 0) (fun q => q)
  obtain ⟨vl, vg, q0, q3, q4, hvl, hvg⟩ := rk_cells R5.out
  have hpo := rpof_any t R5.out
  have hk48 := ra_len t R5.out
  have hcl := cks_len A t j
  have hck := fun i hi => cks_get A t j (i := i) hi
  have hsl := spansOf_len t (txt A.K.P t)
  obtain ⟨i0, hi0, hz0, hz1, hz2⟩ := infoMK
  generalize A.cks t j = C at *
  generalize (txt A.K.P t).length = k at *
  generalize hLs : spansOf t (txt A.K.P t) = L at *
  obtain ⟨nn, hnn⟩ : ∃ nn, max ((k + 1) / 2) 1 = nn := ⟨_, rfl⟩
  rw [hnn] at hcl
  have hnn2 : nn ≤ 24 ∧ (2 * nn ≤ k + 1 ∨ (nn = 1 ∧ k = 0)) ∧ k ≤ 2 * nn := by omega
  have en : max (((k : Int) + 1) / 2) 1 = (nn : Int) := by omega
  have hck2 : ∀ i, i < nn → C[i]? = some (.chunk A.id t j i nn ((L.drop (2 * i)).take 2)) := fun i hi => by rw [hck i (by omega), hcl]
  have hmx := @Go.Lib.run_max_ints Tryz.prog
  replace hj := Lib.hid hj
  replace hpo := Lib.hid hpo
  replace hck2 := Lib.hid hck2
  replace hid5 := Lib.hid hid5
  replace hnn := Lib.hid hnn
  replace hLs := Lib.hid hLs
  clear hck hvl hvg q3 q4 hdn5 bG R5
  go_wp2_with fail
  go_fit hpo.out
  rintro e w6 ⟨v6, rfl, hv6, _, hw6⟩
  obtain rfl := hw6.symm
  clear hw6 hpo
  obtain ⟨la, lc, hv, hl1, hl2, hl3, hl4⟩ := id hv6
  rw [hsl] at hv hl1
  subst hv
  replace hl3 := Lib.hid hl3
  replace hl4 := Lib.hid hl4
  replace hv6 := Lib.hid hv6
  go_upto_region 22 with fail
  clear hmx en
  have hmi := @Go.Lib.run_min_ints Tryz.prog
  go_wp2_with fail
  go_loopg [12, 13] nn (fun gk vo vi wr => ∃ (q : Nat) (Ml : List MR), q + gk = nn ∧ vi = .int .i64 q ∧ ∃ oa oc, vo = .slice oa q oc ∧ Hid (CkJ w5 wr C q (.slice oa q oc) Ml))
  case atStart => exact ⟨0, [], Nat.zero_add _, rfl, none, 0, rfl, Lib.hid (CkJ.nil (Fr.refl noB w5))⟩
  case round =>
    obtain ⟨q, Ml, hk, rfl, oa, oc, rfl, hJ⟩ := hrel
    by_cases hlt3 : q < nn
    · obtain ⟨lo, hlo⟩ : ∃ lo : Nat, lo = 2 * q := ⟨_, rfl⟩
      obtain ⟨hi, hhi⟩ : ∃ hi : Nat, hi = min (2 * q + 2) k := ⟨_, rfl⟩
      have hlk : lo ≤ k := by omega
      have m1 : min (2 * (q : Int)) (k : Int) = (lo : Int) := by omega
      have m2 : min (2 * (q : Int) + 2) (k : Int) = (hi : Int) := by omega
      have hb1 : (q : Int) < nn := by omega
      have hlh : lo ≤ hi := by omega
      have hhk : hi ≤ k := by omega
      have hhc : hi ≤ lc := by omega
      have hmeas3 : nn - (q + 1) < gk := by omega
      have hkn4 : q + 1 + (nn - (q + 1)) = nn := by omega
      have hq24 : q < 24 := by omega
      have hid0 : wr.cell? ⟨z, 0, none⟩ = some (.int .i64 A.id) := hid5.out wr hJ.out.fr
      have hrz : ¬ rowB (.slice oa q oc) z := fun e => by have h1 := (hJ.out.own.lt z e).1; omega
      have hCq := hck2.out q hlt3
      have hch : (L.drop lo).take (hi - lo) = (L.drop (2 * q)).take 2 := by
        rw [← hlo]
        by_cases h9 : lo + 2 ≤ k
        · rw [show hi - lo = 2 by omega]
        · rw [List.take_of_length_le (by rw [List.length_drop]; omega), List.take_of_length_le (by rw [List.length_drop]; omega)]
      have hrz2 := Lib.hid hrz
      replace hrz := Lib.hid hrz
      replace hmeas3 := Lib.hid hmeas3
      replace hkn4 := Lib.hid hkn4
      by_cases hk0 : k = 0
      · obtain rfl : k = 0 := hk0
        obtain rfl : q = 0 := by omega
        obtain rfl : nn = 1 := by omega
        obtain rfl : lo = 0 := by omega
        obtain rfl : hi = 0 := by omega
        have hl00 : (L.drop (2 * 0)).take 2 = [] := by rw [List.eq_nil_of_length_eq_zero hsl]; rfl
        rw [hl00] at hCq
        have m3 : min (2 : Int) 0 = 0 := by decide
        have hsub : ∀ (sa : Option Addr) (sc : Nat), (sa = none → sc = 0) → sc ≤ lc → RfW w5 (mrV { k := 6, a := A.id, t := t, j := j, i := ((0 : Nat) : Int), n := ((1 : Nat) : Int), sa := sa, sn := 0, sc := sc }) (.chunk A.id t j ((0 : Nat) : Int) ((1 : Nat) : Int) []) := fun sa sc h1 h2 => ⟨sa, sc, rfl, sa, sc, rfl, Nat.zero_le _, by omega, h1, fun i s hi => by simp at hi⟩
        have hlc : la = none → lc = 0 := hl3.out
        replace hCq := Lib.hid hCq
        replace hsub := Lib.hid hsub
        replace hlo := ()
        replace hhi := ()
        clear hch hk hnn2 m1 m2 hlh hhk hhc hlk hb1 hlt3 hl00
        have hb1 : ((0 : Nat) : Int) < ((1 : Nat) : Int) := by decide
        have iz : (0 : Int) ≤ 0 := by decide
        have ic : (0 : Int) ≤ (lc : Int) := by omega
        have w0' : IntKind.i64.wrap 0 = 0 := by rw [IntKind.wrap_i64]; omega
        have w2' : IntKind.i64.wrap ((0 : Int) + 2) = 2 := by rw [IntKind.wrap_i64]; omega
        have w3' : IntKind.i64.wrap 2 = 2 := by rw [IntKind.wrap_i64]; omega
        have m5 : min (0 : Int) 0 = 0 := by decide
        cases la with
        | none =>
          obtain rfl : lc = 0 := hlc rfl
          replace hsub := Lib.hid (hsub.out none 0 (fun _ => rfl) (Nat.le_refl _))
          clear hlc
          have fC : Fr noB wr (wr.drew.alloc (.cells #[.int .i64 6, .int .i64 A.id, .int .i64 t, .int .i64 j, .int .i64 0, .int .i64 0, .int .i64 1, .int .i64 0, .int .i64 0, .int .i64 0, .int .i64 0, .slice none 0 0, .bool false, .slice none 0 0, .slice none 0 0] 73)) := ((Fr.refl noB wr).drewN 1).seqN ((Fr.refl noB _).alloc _)
          have hX := ownsRow_fr hJ.out.own fC (fun _ _ q => q)
          have hNX : ∀ j' u, [Value.int .i64 6, .int .i64 A.id, .int .i64 t, .int .i64 j, .int .i64 0, .int .i64 0, .int .i64 1, .int .i64 0, .int .i64 0, .int .i64 0, .int .i64 0, .slice none 0 0, .bool false, .slice none 0 0, .slice none 0 0][j']? = some u → (wr.drew.alloc (.cells #[.int .i64 6, .int .i64 A.id, .int .i64 t, .int .i64 j, .int .i64 0, .int .i64 0, .int .i64 1, .int .i64 0, .int .i64 0, .int .i64 0, .int .i64 0, .slice none 0 0, .bool false, .slice none 0 0, .slice none 0 0] 73)).cell? ((⟨wr.heap.size, 0, none⟩ : Addr).add j') = some u := news_at wr.drew 73 _
          have hone := mrc_one { k := 6, a := A.id, t := t, j := j, i := (0 : Int), n := (1 : Int), sa := none, sn := 0, sc := 0 }
          have hBA : w5.heap.size ≤ (wr.drew.alloc (.cells #[.int .i64 6, .int .i64 A.id, .int .i64 t, .int .i64 j, .int .i64 0, .int .i64 0, .int .i64 1, .int .i64 0, .int .i64 0, .int .i64 0, .int .i64 0, .slice none 0 0, .bool false, .slice none 0 0, .slice none 0 0] 73)).heap.size := (hJ.out.fr.seqN fC).size
          have hid : (wr.drew.alloc (.cells #[.int .i64 6, .int .i64 A.id, .int .i64 t, .int .i64 j, .int .i64 0, .int .i64 0, .int .i64 1, .int .i64 0, .int .i64 0, .int .i64 0, .int .i64 0, .slice none 0 0, .bool false, .slice none 0 0, .slice none 0 0] 73)).cell? ⟨z, 0, none⟩ = some (.int .i64 A.id) := fC.cell hid0 (fun q => q)
          replace hX := Lib.hid hX
          replace hNX := Lib.hid hNX
          replace hone := Lib.hid hone
          replace hBA := Lib.hid hBA
          go_upto_region 26 with fail
          go_region_held3 (fun w' => w'.cell? ⟨z, 0, none⟩ = some (.int .i64 A.id))
            (first | exact hid0 | exact hid | exact ((Fr.refl noB wr).drewN 1).cell hid0 (fun q => q) | exact f9c | fail)
            (first
              | (refine LR.step_append_at rfl (.tmp 136) (.tmp 159) 65 rfl w5.heap.size 73 i0 _ 15 168 Tryz.underlying65 hi0 hz0 hz1 hz2 rfl (by decide) (.slice oa 0 oc) 0 _ (by simp [Act.eval, Act.put]) hX.out ⟨wr.heap.size, 0, none⟩ 1 1 [.int .i64 6, .int .i64 A.id, .int .i64 t, .int .i64 j, .int .i64 0, .int .i64 0, .int .i64 1, .int .i64 0, .int .i64 0, .int .i64 0, .int .i64 0, .slice none 0 0, .bool false, .slice none 0 0, .slice none 0 0] (by simp [Act.eval, Act.put]) rfl hNX.out hone.out (by have := hq24; unfold maxLen; omega) (by have := hq24; omega) hBA.out ?_; intro v9 w9 o9 gr9 _; obtain ⟨a9, c9, rfl⟩ := ownsRow_slice o9; have f9 : Fr (rowB (.slice oa 0 oc)) (wr.drew.alloc (.cells #[.int .i64 6, .int .i64 A.id, .int .i64 t, .int .i64 j, .int .i64 0, .int .i64 0, .int .i64 1, .int .i64 0, .int .i64 0, .int .i64 0, .int .i64 0, .slice none 0 0, .bool false, .slice none 0 0, .slice none 0 0] 73)) w9 := (Fr.refl _ _).grown gr9 (fun k hk _ => hk); have f9c : w9.cell? ⟨z, 0, none⟩ = some (.int .i64 A.id) := f9.cell hid (fun q => hrz.out q))
              | fail)
          all_goals (
            have JF := Lib.hid (CkJ.next hJ.out hCq.out hsub.out fC o9 f9)
            clear o9 gr9 f9 f9c
            go_wp2_with fail
            go_roundg (1 - (0 + 1))
            case rel => exact ⟨0 + 1, _, by decide, by go_num, a9, c9, rfl, JF⟩
            case measure => exact hmeas3.out)
        | some ad =>
          replace hsub := Lib.hid (fun sc h2 => hsub.out (some ad) sc (fun e => by cases e) h2)
          clear hlc
          by_cases hc0 : lc = 0
          · obtain rfl : lc = 0 := hc0
            replace hsub := Lib.hid (hsub.out 0 (Nat.le_refl _))
            have fC : Fr noB wr (wr.drew.alloc (.cells #[.int .i64 6, .int .i64 A.id, .int .i64 t, .int .i64 j, .int .i64 0, .int .i64 0, .int .i64 1, .int .i64 0, .int .i64 0, .int .i64 0, .int .i64 0, .slice none 0 0, .bool false, .slice none 0 0, .slice (some ad) 0 0] 73)) := ((Fr.refl noB wr).drewN 1).seqN ((Fr.refl noB _).alloc _)
            have hX := ownsRow_fr hJ.out.own fC (fun _ _ q => q)
            have hNX : ∀ j' u, [Value.int .i64 6, .int .i64 A.id, .int .i64 t, .int .i64 j, .int .i64 0, .int .i64 0, .int .i64 1, .int .i64 0, .int .i64 0, .int .i64 0, .int .i64 0, .slice none 0 0, .bool false, .slice none 0 0, .slice (some ad) 0 0][j']? = some u → (wr.drew.alloc (.cells #[.int .i64 6, .int .i64 A.id, .int .i64 t, .int .i64 j, .int .i64 0, .int .i64 0, .int .i64 1, .int .i64 0, .int .i64 0, .int .i64 0, .int .i64 0, .slice none 0 0, .bool false, .slice none 0 0, .slice (some ad) 0 0] 73)).cell? ((⟨wr.heap.size, 0, none⟩ : Addr).add j') = some u := news_at wr.drew 73 _
            have hone := mrc_one { k := 6, a := A.id, t := t, j := j, i := (0 : Int), n := (1 : Int), sa := some ad, sn := 0, sc := 0 }
            have hBA : w5.heap.size ≤ (wr.drew.alloc (.cells #[.int .i64 6, .int .i64 A.id, .int .i64 t, .int .i64 j, .int .i64 0, .int .i64 0, .int .i64 1, .int .i64 0, .int .i64 0, .int .i64 0, .int .i64 0, .slice none 0 0, .bool false, .slice none 0 0, .slice (some ad) 0 0] 73)).heap.size := (hJ.out.fr.seqN fC).size
            have hid : (wr.drew.alloc (.cells #[.int .i64 6, .int .i64 A.id, .int .i64 t, .int .i64 j, .int .i64 0, .int .i64 0, .int .i64 1, .int .i64 0, .int .i64 0, .int .i64 0, .int .i64 0, .slice none 0 0, .bool false, .slice none 0 0, .slice (some ad) 0 0] 73)).cell? ⟨z, 0, none⟩ = some (.int .i64 A.id) := fC.cell hid0 (fun q => q)
            replace hX := Lib.hid hX
            replace hNX := Lib.hid hNX
            replace hone := Lib.hid hone
            replace hBA := Lib.hid hBA
            go_upto_region 26 with fail
            go_region_held3 (fun w' => w'.cell? ⟨z, 0, none⟩ = some (.int .i64 A.id))
              (first | exact hid0 | exact hid | exact ((Fr.refl noB wr).drewN 1).cell hid0 (fun q => q) | exact f9c | fail)
              (first
                | (refine LR.step_append_at rfl (.tmp 136) (.tmp 159) 65 rfl w5.heap.size 73 i0 _ 15 168 Tryz.underlying65 hi0 hz0 hz1 hz2 rfl (by decide) (.slice oa 0 oc) 0 _ (by simp [Act.eval, Act.put]) hX.out ⟨wr.heap.size, 0, none⟩ 1 1 [.int .i64 6, .int .i64 A.id, .int .i64 t, .int .i64 j, .int .i64 0, .int .i64 0, .int .i64 1, .int .i64 0, .int .i64 0, .int .i64 0, .int .i64 0, .slice none 0 0, .bool false, .slice none 0 0, .slice (some ad) 0 0] (by simp [Act.eval, Act.put]) rfl hNX.out hone.out (by have := hq24; unfold maxLen; omega) (by have := hq24; omega) hBA.out ?_; intro v9 w9 o9 gr9 _; obtain ⟨a9, c9, rfl⟩ := ownsRow_slice o9; have f9 : Fr (rowB (.slice oa 0 oc)) (wr.drew.alloc (.cells #[.int .i64 6, .int .i64 A.id, .int .i64 t, .int .i64 j, .int .i64 0, .int .i64 0, .int .i64 1, .int .i64 0, .int .i64 0, .int .i64 0, .int .i64 0, .slice none 0 0, .bool false, .slice none 0 0, .slice (some ad) 0 0] 73)) w9 := (Fr.refl _ _).grown gr9 (fun k hk _ => hk); have f9c : w9.cell? ⟨z, 0, none⟩ = some (.int .i64 A.id) := f9.cell hid (fun q => hrz.out q))
                | fail)
            all_goals (
              have JF := Lib.hid (CkJ.next hJ.out hCq.out hsub.out fC o9 f9)
              clear o9 gr9 f9 f9c
              go_wp2_with fail
              go_roundg (1 - (0 + 1))
              case rel => exact ⟨0 + 1, _, by decide, by go_num, a9, c9, rfl, JF⟩
              case measure => exact hmeas3.out)
          · have e5 : ¬ 0 = lc := fun e => hc0 e.symm
            have e6 : 0 < lc := by omega
            replace hsub := Lib.hid (hsub.out lc (Nat.le_refl _))
            have fC : Fr noB wr (wr.drew.alloc (.cells #[.int .i64 6, .int .i64 A.id, .int .i64 t, .int .i64 j, .int .i64 0, .int .i64 0, .int .i64 1, .int .i64 0, .int .i64 0, .int .i64 0, .int .i64 0, .slice none 0 0, .bool false, .slice none 0 0, .slice (some ad) 0 lc] 73)) := ((Fr.refl noB wr).drewN 1).seqN ((Fr.refl noB _).alloc _)
            have hX := ownsRow_fr hJ.out.own fC (fun _ _ q => q)
            have hNX : ∀ j' u, [Value.int .i64 6, .int .i64 A.id, .int .i64 t, .int .i64 j, .int .i64 0, .int .i64 0, .int .i64 1, .int .i64 0, .int .i64 0, .int .i64 0, .int .i64 0, .slice none 0 0, .bool false, .slice none 0 0, .slice (some ad) 0 lc][j']? = some u → (wr.drew.alloc (.cells #[.int .i64 6, .int .i64 A.id, .int .i64 t, .int .i64 j, .int .i64 0, .int .i64 0, .int .i64 1, .int .i64 0, .int .i64 0, .int .i64 0, .int .i64 0, .slice none 0 0, .bool false, .slice none 0 0, .slice (some ad) 0 lc] 73)).cell? ((⟨wr.heap.size, 0, none⟩ : Addr).add j') = some u := news_at wr.drew 73 _
            have hone := mrc_one { k := 6, a := A.id, t := t, j := j, i := (0 : Int), n := (1 : Int), sa := some ad, sn := 0, sc := lc }
            have hBA : w5.heap.size ≤ (wr.drew.alloc (.cells #[.int .i64 6, .int .i64 A.id, .int .i64 t, .int .i64 j, .int .i64 0, .int .i64 0, .int .i64 1, .int .i64 0, .int .i64 0, .int .i64 0, .int .i64 0, .slice none 0 0, .bool false, .slice none 0 0, .slice (some ad) 0 lc] 73)).heap.size := (hJ.out.fr.seqN fC).size
            have hid : (wr.drew.alloc (.cells #[.int .i64 6, .int .i64 A.id, .int .i64 t, .int .i64 j, .int .i64 0, .int .i64 0, .int .i64 1, .int .i64 0, .int .i64 0, .int .i64 0, .int .i64 0, .slice none 0 0, .bool false, .slice none 0 0, .slice (some ad) 0 lc] 73)).cell? ⟨z, 0, none⟩ = some (.int .i64 A.id) := fC.cell hid0 (fun q => q)
            replace hX := Lib.hid hX
            replace hNX := Lib.hid hNX
            replace hone := Lib.hid hone
            replace hBA := Lib.hid hBA
            go_upto_region 26 with fail
            go_region_held3 (fun w' => w'.cell? ⟨z, 0, none⟩ = some (.int .i64 A.id))
              (first | exact hid0 | exact hid | exact ((Fr.refl noB wr).drewN 1).cell hid0 (fun q => q) | exact f9c | fail)
              (first
                | (refine LR.step_append_at rfl (.tmp 136) (.tmp 159) 65 rfl w5.heap.size 73 i0 _ 15 168 Tryz.underlying65 hi0 hz0 hz1 hz2 rfl (by decide) (.slice oa 0 oc) 0 _ (by simp [Act.eval, Act.put]) hX.out ⟨wr.heap.size, 0, none⟩ 1 1 [.int .i64 6, .int .i64 A.id, .int .i64 t, .int .i64 j, .int .i64 0, .int .i64 0, .int .i64 1, .int .i64 0, .int .i64 0, .int .i64 0, .int .i64 0, .slice none 0 0, .bool false, .slice none 0 0, .slice (some ad) 0 lc] (by simp [Act.eval, Act.put]) rfl hNX.out hone.out (by have := hq24; unfold maxLen; omega) (by have := hq24; omega) hBA.out ?_; intro v9 w9 o9 gr9 _; obtain ⟨a9, c9, rfl⟩ := ownsRow_slice o9; have f9 : Fr (rowB (.slice oa 0 oc)) (wr.drew.alloc (.cells #[.int .i64 6, .int .i64 A.id, .int .i64 t, .int .i64 j, .int .i64 0, .int .i64 0, .int .i64 1, .int .i64 0, .int .i64 0, .int .i64 0, .int .i64 0, .slice none 0 0, .bool false, .slice none 0 0, .slice (some ad) 0 lc] 73)) w9 := (Fr.refl _ _).grown gr9 (fun k hk _ => hk); have f9c : w9.cell? ⟨z, 0, none⟩ = some (.int .i64 A.id) := f9.cell hid (fun q => hrz.out q))
                | fail)
            all_goals (
              have JF := Lib.hid (CkJ.next hJ.out hCq.out hsub.out fC o9 f9)
              clear o9 gr9 f9 f9c
              go_wp2_with fail
              go_roundg (1 - (0 + 1))
              case rel => exact ⟨0 + 1, _, by decide, by go_num, a9, c9, rfl, JF⟩
              case measure => exact hmeas3.out)
      · obtain ⟨s0, hs0⟩ : ∃ s, L[0]? = some s := ⟨_, List.getElem?_eq_getElem (by omega)⟩
        obtain ⟨g3, o3, rfl, _⟩ := hl4.out 0 s0 hs0
        have hrd := RdSp.sub hv6.out lo hi hlh (by omega)
        rw [hch] at hrd
        have hsub : RfW w5 (mrV { k := 6, a := A.id, t := t, j := j, i := (q : Int), n := (nn : Int), sa := some ⟨g3, o3 + lo * 3, none⟩, sn := hi - lo, sc := lc - lo }) (.chunk A.id t j (q : Int) (nn : Int) ((L.drop (2 * q)).take 2)) := by
          have hlen : ((L.drop (2 * q)).take 2).length = hi - lo := by rw [← hch, List.length_take, List.length_drop]; omega
          refine ⟨some ⟨g3, o3 + lo * 3, none⟩, lc - lo, by rw [hlen], by rw [hlen]; exact hrd⟩
        have e1 : ¬ lc - lo = 0 := by omega
        have e2 : ¬ lo = lc := by omega
        have e3 : ¬ lc = lo := by omega
        have e4 : lo < lc := by omega
        have iL : (0 : Int) ≤ (lo : Int) := by omega
        have iH : (lo : Int) ≤ (hi : Int) := by omega
        have iC : (hi : Int) ≤ (lc : Int) := by omega
        have w1 : IntKind.i64.wrap (2 * (q : Int)) = (lo : Int) := by rw [IntKind.wrap_i64]; omega
        have w2 : IntKind.i64.wrap ((lo : Int) + 2) = (lo : Int) + 2 := by rw [IntKind.wrap_i64]; omega
        have m3 : min (lo : Int) (k : Int) = (lo : Int) := by omega
        have m4 : min ((lo : Int) + 2) (k : Int) = (hi : Int) := by omega
        replace hlo := Lib.hid hlo
        replace hhi := Lib.hid hhi
        replace hrd := Lib.hid hrd
        replace hch := Lib.hid hch
        replace hCq := Lib.hid hCq
        replace hsub := Lib.hid hsub
        clear hs0 hk hnn2
        have fC : Fr noB wr (wr.drew.alloc (.cells #[.int .i64 6, .int .i64 A.id, .int .i64 t, .int .i64 j, .int .i64 0, .int .i64 q, .int .i64 nn, .int .i64 0, .int .i64 0, .int .i64 0, .int .i64 0, .slice none 0 0, .bool false, .slice none 0 0, .slice (some ⟨g3, o3 + lo * 3, none⟩) (hi - lo) (lc - lo)] 73)) := ((Fr.refl noB wr).drewN 1).seqN ((Fr.refl noB _).alloc _)
        have hX := ownsRow_fr hJ.out.own fC (fun _ _ q => q)
        have hNX : ∀ j' u, [Value.int .i64 6, .int .i64 A.id, .int .i64 t, .int .i64 j, .int .i64 0, .int .i64 q, .int .i64 nn, .int .i64 0, .int .i64 0, .int .i64 0, .int .i64 0, .slice none 0 0, .bool false, .slice none 0 0, .slice (some ⟨g3, o3 + lo * 3, none⟩) (hi - lo) (lc - lo)][j']? = some u → (wr.drew.alloc (.cells #[.int .i64 6, .int .i64 A.id, .int .i64 t, .int .i64 j, .int .i64 0, .int .i64 q, .int .i64 nn, .int .i64 0, .int .i64 0, .int .i64 0, .int .i64 0, .slice none 0 0, .bool false, .slice none 0 0, .slice (some ⟨g3, o3 + lo * 3, none⟩) (hi - lo) (lc - lo)] 73)).cell? ((⟨wr.heap.size, 0, none⟩ : Addr).add j') = some u := news_at wr.drew 73 _
        have hone := mrc_one { k := 6, a := A.id, t := t, j := j, i := (q : Int), n := (nn : Int), sa := some ⟨g3, o3 + lo * 3, none⟩, sn := hi - lo, sc := lc - lo }
        have hBA : w5.heap.size ≤ (wr.drew.alloc (.cells #[.int .i64 6, .int .i64 A.id, .int .i64 t, .int .i64 j, .int .i64 0, .int .i64 q, .int .i64 nn, .int .i64 0, .int .i64 0, .int .i64 0, .int .i64 0, .slice none 0 0, .bool false, .slice none 0 0, .slice (some ⟨g3, o3 + lo * 3, none⟩) (hi - lo) (lc - lo)] 73)).heap.size := (hJ.out.fr.seqN fC).size
        have hid : (wr.drew.alloc (.cells #[.int .i64 6, .int .i64 A.id, .int .i64 t, .int .i64 j, .int .i64 0, .int .i64 q, .int .i64 nn, .int .i64 0, .int .i64 0, .int .i64 0, .int .i64 0, .slice none 0 0, .bool false, .slice none 0 0, .slice (some ⟨g3, o3 + lo * 3, none⟩) (hi - lo) (lc - lo)] 73)).cell? ⟨z, 0, none⟩ = some (.int .i64 A.id) := fC.cell hid0 (fun q => q)
        replace hX := Lib.hid hX
        replace hNX := Lib.hid hNX
        replace hone := Lib.hid hone
        replace hBA := Lib.hid hBA
        go_upto_region 26 with fail
        go_region_held3 (fun w' => w'.cell? ⟨z, 0, none⟩ = some (.int .i64 A.id))
          (first | exact hid0 | exact hid | exact ((Fr.refl noB wr).drewN 1).cell hid0 (fun q => q) | exact f9c | fail)
          (first
            | (refine LR.step_append_at rfl (.tmp 136) (.tmp 159) 65 rfl w5.heap.size 73 i0 _ 15 168 Tryz.underlying65 hi0 hz0 hz1 hz2 rfl (by decide) (.slice oa q oc) q _ (by simp [Act.eval, Act.put]) hX.out ⟨wr.heap.size, 0, none⟩ 1 1 [.int .i64 6, .int .i64 A.id, .int .i64 t, .int .i64 j, .int .i64 0, .int .i64 q, .int .i64 nn, .int .i64 0, .int .i64 0, .int .i64 0, .int .i64 0, .slice none 0 0, .bool false, .slice none 0 0, .slice (some ⟨g3, o3 + lo * 3, none⟩) (hi - lo) (lc - lo)] (by simp [Act.eval, Act.put]) rfl hNX.out hone.out (by have := hq24; unfold maxLen; omega) (by have := hq24; omega) hBA.out ?_; intro v9 w9 o9 gr9 _; obtain ⟨a9, c9, rfl⟩ := ownsRow_slice o9; have f9 : Fr (rowB (.slice oa q oc)) (wr.drew.alloc (.cells #[.int .i64 6, .int .i64 A.id, .int .i64 t, .int .i64 j, .int .i64 0, .int .i64 q, .int .i64 nn, .int .i64 0, .int .i64 0, .int .i64 0, .int .i64 0, .slice none 0 0, .bool false, .slice none 0 0, .slice (some ⟨g3, o3 + lo * 3, none⟩) (hi - lo) (lc - lo)] 73)) w9 := (Fr.refl _ _).grown gr9 (fun k hk _ => hk); have f9c : w9.cell? ⟨z, 0, none⟩ = some (.int .i64 A.id) := f9.cell hid (fun q => hrz.out q))
            | fail)
        all_goals (
          have JF := Lib.hid (CkJ.next hJ.out hCq.out hsub.out fC o9 f9)
          clear o9 gr9 f9 f9c
          go_wp2_with fail
          go_roundg (nn - (q + 1))
          case rel => exact ⟨q + 1, _, hkn4.out, by go_num, a9, c9, rfl, JF⟩
          case measure => exact hmeas3.out)
    · obtain rfl : q = nn := by omega
      have hF := hJ.out.out hcl
      have hfr := hJ.out.fr
      have TF := no5.out _ (f15.seqN hfr)
      replace hF := Lib.hid hF
      replace TF := Lib.hid TF
      clear hfr hJ
      go_wp2_with fail
      go_returns
      rw [E1.out]
      exact ⟨_, _, rfl, OutR.nil _, hF.out, TF.out⟩
end
end Go.Proofs.YtppmednmcbjafaaGreat
end

section
set_option linter.unusedVariables false
set_option linter.unusedSimpArgs false
set_option maxRecDepth 100000
namespace Go.Proofs.YtppmednmcbjafaaGreat
open Go.RowKit Go Go.Maps Go.Lib

section
variable {w : World} {z : Nat} {col : Nat → Nat} {n : Nat} {A : AG} {b : Bd}
theorem QHear.same {A : AG} {b : Bd} (h : RA w z col n A b) (hn : n < 201) {w' : World} (f : Fr noB w w') : QHear (.returned (.tuple #[.slice none 0 0, .slice none 0 0])) w w' z col (n + 1) A [] [] := ⟨_, _, rfl, OutR.nil _, OutR.nil _, col, RTo.same (h.up (Nat.le_succ n) (by omega)) f⟩
set_option maxHeartbeats 8000000 in
theorem rhear_off (M : MR) (h : RA w z col n A b) (hn : n < 201) (hr0 : ∀ w', Calls Tryz.prog 64 #[mrV M] w' fun e w'' => e = .returned (.bool false) ∧ Fr noB w' w'') :
    Calls Tryz.prog 24 #[.pointer (some ⟨z, 0, none⟩), mrV M] w fun e w' => QHear e w w' z col (n + 1) A [] [] := by
  have hfin := fun w' (f : Fr noB w w') => QHear.same h hn f
  obtain ⟨m1, m2, m3, m4, m5, m6, m7, m8, m9, m10, m11, ua, un, uc, lo, qa, qn, qc, sa, sn, sc⟩ := M
  unfold mrV mrC
  unfold mrV mrC at hr0
  simp only at hr0 ⊢
  have fX := (Fr.refl noB w).alloc (.cells #[.int .i64 m1, .int .i64 m2, .int .i64 m3, .int .i64 m4, .int .i64 m5, .int .i64 m6, .int .i64 m7, .int .i64 m8, .int .i64 m9, .int .i64 m10, .int .i64 m11, .slice ua un uc, .bool lo, .slice qa qn qc, .slice sa sn sc] 73)
  replace hr0 := Lib.hid hr0
  replace hfin := Lib.hid hfin
  clear h
  go_enter Tryz.func24, Tryz.ntmps24
  go_upto_region 1 with fail
  have bX := Blk.new w 73 [.int .i64 m1, .int .i64 m2, .int .i64 m3, .int .i64 m4, .int .i64 m5, .int .i64 m6, .int .i64 m7, .int .i64 m8, .int .i64 m9, .int .i64 m10, .int .i64 m11, .slice ua un uc, .bool lo, .slice qa qn qc, .slice sa sn sc]
  generalize (w.alloc (.cells #[.int .i64 m1, .int .i64 m2, .int .i64 m3, .int .i64 m4, .int .i64 m5, .int .i64 m6, .int .i64 m7, .int .i64 m8, .int .i64 m9, .int .i64 m10, .int .i64 m11, .slice ua un uc, .bool lo, .slice qa qn qc, .slice sa sn sc] 73)) = w1 at *
  obtain ⟨gX, hgX⟩ : ∃ g, w.heap.size = g := ⟨_, rfl⟩
  rw [hgX] at bX
  try rw [hgX]
  replace hgX := Lib.hid hgX
  have y0 : w1.cell? ⟨gX, 0, none⟩ = some (.int .i64 m1) := bX.cell 0
  have y1 : w1.cell? ⟨gX, 1, none⟩ = some (.int .i64 m2) := bX.cell 1
  have y2 : w1.cell? ⟨gX, 2, none⟩ = some (.int .i64 m3) := bX.cell 2
  have y3 : w1.cell? ⟨gX, 3, none⟩ = some (.int .i64 m4) := bX.cell 3
  have y4 : w1.cell? ⟨gX, 4, none⟩ = some (.int .i64 m5) := bX.cell 4
  have y5 : w1.cell? ⟨gX, 5, none⟩ = some (.int .i64 m6) := bX.cell 5
  have y6 : w1.cell? ⟨gX, 6, none⟩ = some (.int .i64 m7) := bX.cell 6
  have y7 : w1.cell? ⟨gX, 7, none⟩ = some (.int .i64 m8) := bX.cell 7
  have y8 : w1.cell? ⟨gX, 8, none⟩ = some (.int .i64 m9) := bX.cell 8
  have y9 : w1.cell? ⟨gX, 9, none⟩ = some (.int .i64 m10) := bX.cell 9
  have y10 : w1.cell? ⟨gX, 10, none⟩ = some (.int .i64 m11) := bX.cell 10
  have y11 : w1.cell? ⟨gX, 11, none⟩ = some (.slice ua un uc) := bX.cell 11
  have y12 : w1.cell? ⟨gX, 12, none⟩ = some (.bool lo) := bX.cell 12
  have y13 : w1.cell? ⟨gX, 13, none⟩ = some (.slice qa qn qc) := bX.cell 13
  have y14 : w1.cell? ⟨gX, 14, none⟩ = some (.slice sa sn sc) := bX.cell 14
  go_wp2_with fail
  go_fit (hr0.out w1)
  rintro e w2 ⟨rfl, f2⟩
  have f12 := fX.seqN f2
  clear fX f2 bX
  go_wp2_with fail
  go_returns
  exact hfin.out _ f12
set_option maxHeartbeats 8000000 in
theorem rhear_stored (t j : Int) (h : RA w z col n A b) (hn : n < 201) (hr0 : ∀ w', Calls Tryz.prog 64 #[mrV { k := 8, a := 0, t := t, j := j }] w' fun e w'' => e = .returned (.bool true) ∧ Fr noB w' w'') :
    Calls Tryz.prog 24 #[.pointer (some ⟨z, 0, none⟩), mrV { k := 8, a := 0, t := t, j := j }] w fun e w' => QHear e w w' z col (n + 1) A [] [] := by
  have hr := fun w' (f : Fr noB w w') => (hr0 w' : _)
  have hfj := field_job
  have hof := fun w' (f : Fr noB w w') => rof_job t (h.frN f)
  have hdn := fun w' (f : Fr noB w w') => rdone_any t (h.frN f)
  have hov := fun w' (f : Fr noB w w') => rover_any t (h.frN f)
  have hzw : z < w.heap.size := h.blk.lt
  unfold mrV mrC
  unfold mrV mrC at hr
  simp only at hr ⊢
  have fX := (Fr.refl noB w).alloc (.cells #[.int .i64 8, .int .i64 0, .int .i64 t, .int .i64 j, .int .i64 0, .int .i64 0, .int .i64 0, .int .i64 0, .int .i64 0, .int .i64 0, .int .i64 0, .slice none 0 0, .bool false, .slice none 0 0, .slice none 0 0] 73)
  have bX := Blk.new w 73 [.int .i64 8, .int .i64 0, .int .i64 t, .int .i64 j, .int .i64 0, .int .i64 0, .int .i64 0, .int .i64 0, .int .i64 0, .int .i64 0, .int .i64 0, .slice none 0 0, .bool false, .slice none 0 0, .slice none 0 0]
  replace hr := Lib.hid hr
  replace hfj := Lib.hid hfj
  replace hof := Lib.hid hof
  replace hdn := Lib.hid hdn
  replace hov := Lib.hid hov
  have hh := Lib.hid h
  clear h
  go_enter Tryz.func24, Tryz.ntmps24
  go_upto_region 1 with fail
  generalize (w.alloc (.cells #[.int .i64 8, .int .i64 0, .int .i64 t, .int .i64 j, .int .i64 0, .int .i64 0, .int .i64 0, .int .i64 0, .int .i64 0, .int .i64 0, .int .i64 0, .slice none 0 0, .bool false, .slice none 0 0, .slice none 0 0] 73)) = w1 at *
  obtain ⟨gX, hgX⟩ : ∃ g, w.heap.size = g := ⟨_, rfl⟩
  rw [hgX] at bX
  try rw [hgX]
  replace hgX := Lib.hid hgX
  have y0 : w1.cell? ⟨gX, 0, none⟩ = some (.int .i64 8) := bX.cell 0
  have y1 : w1.cell? ⟨gX, 1, none⟩ = some (.int .i64 0) := bX.cell 1
  have y2 : w1.cell? ⟨gX, 2, none⟩ = some (.int .i64 t) := bX.cell 2
  have y3 : w1.cell? ⟨gX, 3, none⟩ = some (.int .i64 j) := bX.cell 3
  have y4 : w1.cell? ⟨gX, 4, none⟩ = some (.int .i64 0) := bX.cell 4
  have y5 : w1.cell? ⟨gX, 5, none⟩ = some (.int .i64 0) := bX.cell 5
  have y6 : w1.cell? ⟨gX, 6, none⟩ = some (.int .i64 0) := bX.cell 6
  have y7 : w1.cell? ⟨gX, 7, none⟩ = some (.int .i64 0) := bX.cell 7
  have y8 : w1.cell? ⟨gX, 8, none⟩ = some (.int .i64 0) := bX.cell 8
  have y9 : w1.cell? ⟨gX, 9, none⟩ = some (.int .i64 0) := bX.cell 9
  have y10 : w1.cell? ⟨gX, 10, none⟩ = some (.int .i64 0) := bX.cell 10
  have y11 : w1.cell? ⟨gX, 11, none⟩ = some (.slice none 0 0) := bX.cell 11
  have y12 : w1.cell? ⟨gX, 12, none⟩ = some (.bool false) := bX.cell 12
  have y13 : w1.cell? ⟨gX, 13, none⟩ = some (.slice none 0 0) := bX.cell 13
  have y14 : w1.cell? ⟨gX, 14, none⟩ = some (.slice none 0 0) := bX.cell 14
  go_wp2_with fail
  go_fit (hr.out w1 fX)
  rintro e w2 ⟨rfl, f2⟩
  have f12 := fX.seqN f2
  have b2 := f2.blk bX (fun q => q)
  clear y0 y1 y2 y3 y4 y5 y6 y7 y8 y9 y10 y11 y12 y13 y14 fX f2 hr bX
  have hS : ∀ w', Fr noB w2 w' → (w'.cell? ⟨gX, 2, none⟩ = some (.int .i64 t) ∧ w'.cell? ⟨gX, 3, none⟩ = some (.int .i64 j)) := fun w' f => ⟨f.cell (b2.cell 2) (fun q => q), f.cell (b2.cell 3) (fun q => q)⟩
  replace hS := Lib.hid hS
  replace b2 := Lib.hid b2
  have f13 := f12.seqN (Fr.refl noB w2).drew
  have b3 := (Fr.refl noB w2).drew.blk b2.out (fun q => q)
  have R3 := hh.out.frN f13
  have d3 : w2.drew.cell? ⟨z, 3, none⟩ = some (.pointer (some ⟨b.l, 0, none⟩)) := R3.blk.cell 3
  replace R3 := Lib.hid R3
  replace b3 := Lib.hid b3
  go_upto_region 3 with fail
  go_region_held3 (fun w' => w'.cell? ⟨gX, 2, none⟩ = some (.int .i64 t) ∧ w'.cell? ⟨gX, 3, none⟩ = some (.int .i64 j))
    (first | exact hS.out _ ((Fr.refl noB _).drewN 1) | fail) (fail)
  clear b2 hS f12
  generalize w2.drew = w3 at *
  go_wp2_with fail
  go_fit (hof.out w3 f13)
  rintro e w4 ⟨m0, m2, rfl, f4⟩
  have hf4 := hfj.out m0 (A.job t) m2 w4
  have f14 := f13.seqN f4
  have R4 := R3.out.frN f4
  have d0 : w4.cell? ⟨z, 0, none⟩ = some (.int .i64 A.id) := R4.blk.cell 0
  have b4 := f4.blk b3.out (fun q => q)
  have fG := (Fr.refl noB w4).alloc (.cells #[.int .i64 4, .int .i64 A.id, .int .i64 t, .int .i64 j, .int .i64 0, .int .i64 0, .int .i64 0, .int .i64 0, .int .i64 0, .int .i64 0, .int .i64 0, .slice none 0 0, .bool false, .slice none 0 0, .slice none 0 0] 73)
  have bG := Blk.new w4 73 [.int .i64 4, .int .i64 A.id, .int .i64 t, .int .i64 j, .int .i64 0, .int .i64 0, .int .i64 0, .int .i64 0, .int .i64 0, .int .i64 0, .int .i64 0, .slice none 0 0, .bool false, .slice none 0 0, .slice none 0 0]
  have f15 := f14.seqN fG
  have R5 := R4.frN fG
  have b5 := fG.blk b4 (fun q => q)
  obtain ⟨gG, hgG⟩ : ∃ g, w4.heap.size = g := ⟨_, rfl⟩
  rw [hgG] at bG
  replace R5 := Lib.hid R5
  replace b5 := Lib.hid b5
  replace bG := Lib.hid bG
  clear f13 R3 b3 d3 hof R4 b4 fG f14 f4
  go_upto_region 6 with fail
  try rw [hgG]
  replace hgG := Lib.hid hgG
  generalize (w4.alloc (.cells #[.int .i64 4, .int .i64 A.id, .int .i64 t, .int .i64 j, .int .i64 0, .int .i64 0, .int .i64 0, .int .i64 0, .int .i64 0, .int .i64 0, .int .i64 0, .slice none 0 0, .bool false, .slice none 0 0, .slice none 0 0] 73)) = w5 at *
  have z0 : w5.cell? ⟨gX, 0, none⟩ = some (.int .i64 8) := b5.out.cell 0
  clear d0 hf4 hfj b5
  clear hdn hov bG R5
  go_wp2_with fail
  go_returns
  exact QHear.same hh.out hn f15
set_option maxHeartbeats 8000000 in
theorem rhear_unpinned (t j : Int) (h : RA w z col n A b) (hn : n < 201) (hr0 : ∀ w', Calls Tryz.prog 64 #[mrV { k := 10, a := 1, t := t, j := j }] w' fun e w'' => e = .returned (.bool true) ∧ Fr noB w' w'') :
    Calls Tryz.prog 24 #[.pointer (some ⟨z, 0, none⟩), mrV { k := 10, a := 1, t := t, j := j }] w fun e w' => QHear e w w' z col (n + 1) A [] [] := by
  have hr := fun w' (f : Fr noB w w') => (hr0 w' : _)
  have hfj := field_job
  have hof := fun w' (f : Fr noB w w') => rof_job t (h.frN f)
  have hdn := fun w' (f : Fr noB w w') => rdone_any t (h.frN f)
  have hov := fun w' (f : Fr noB w w') => rover_any t (h.frN f)
  have hzw : z < w.heap.size := h.blk.lt
  unfold mrV mrC
  unfold mrV mrC at hr
  simp only at hr ⊢
  have fX := (Fr.refl noB w).alloc (.cells #[.int .i64 10, .int .i64 1, .int .i64 t, .int .i64 j, .int .i64 0, .int .i64 0, .int .i64 0, .int .i64 0, .int .i64 0, .int .i64 0, .int .i64 0, .slice none 0 0, .bool false, .slice none 0 0, .slice none 0 0] 73)
  have bX := Blk.new w 73 [.int .i64 10, .int .i64 1, .int .i64 t, .int .i64 j, .int .i64 0, .int .i64 0, .int .i64 0, .int .i64 0, .int .i64 0, .int .i64 0, .int .i64 0, .slice none 0 0, .bool false, .slice none 0 0, .slice none 0 0]
  replace hr := Lib.hid hr
  replace hfj := Lib.hid hfj
  replace hof := Lib.hid hof
  replace hdn := Lib.hid hdn
  replace hov := Lib.hid hov
  have hh := Lib.hid h
  clear h
  go_enter Tryz.func24, Tryz.ntmps24
  go_upto_region 1 with fail
  generalize (w.alloc (.cells #[.int .i64 10, .int .i64 1, .int .i64 t, .int .i64 j, .int .i64 0, .int .i64 0, .int .i64 0, .int .i64 0, .int .i64 0, .int .i64 0, .int .i64 0, .slice none 0 0, .bool false, .slice none 0 0, .slice none 0 0] 73)) = w1 at *
  obtain ⟨gX, hgX⟩ : ∃ g, w.heap.size = g := ⟨_, rfl⟩
  rw [hgX] at bX
  try rw [hgX]
  replace hgX := Lib.hid hgX
  have y0 : w1.cell? ⟨gX, 0, none⟩ = some (.int .i64 10) := bX.cell 0
  have y1 : w1.cell? ⟨gX, 1, none⟩ = some (.int .i64 1) := bX.cell 1
  have y2 : w1.cell? ⟨gX, 2, none⟩ = some (.int .i64 t) := bX.cell 2
  have y3 : w1.cell? ⟨gX, 3, none⟩ = some (.int .i64 j) := bX.cell 3
  have y4 : w1.cell? ⟨gX, 4, none⟩ = some (.int .i64 0) := bX.cell 4
  have y5 : w1.cell? ⟨gX, 5, none⟩ = some (.int .i64 0) := bX.cell 5
  have y6 : w1.cell? ⟨gX, 6, none⟩ = some (.int .i64 0) := bX.cell 6
  have y7 : w1.cell? ⟨gX, 7, none⟩ = some (.int .i64 0) := bX.cell 7
  have y8 : w1.cell? ⟨gX, 8, none⟩ = some (.int .i64 0) := bX.cell 8
  have y9 : w1.cell? ⟨gX, 9, none⟩ = some (.int .i64 0) := bX.cell 9
  have y10 : w1.cell? ⟨gX, 10, none⟩ = some (.int .i64 0) := bX.cell 10
  have y11 : w1.cell? ⟨gX, 11, none⟩ = some (.slice none 0 0) := bX.cell 11
  have y12 : w1.cell? ⟨gX, 12, none⟩ = some (.bool false) := bX.cell 12
  have y13 : w1.cell? ⟨gX, 13, none⟩ = some (.slice none 0 0) := bX.cell 13
  have y14 : w1.cell? ⟨gX, 14, none⟩ = some (.slice none 0 0) := bX.cell 14
  go_wp2_with fail
  go_fit (hr.out w1 fX)
  rintro e w2 ⟨rfl, f2⟩
  have f12 := fX.seqN f2
  have b2 := f2.blk bX (fun q => q)
  clear y0 y1 y2 y3 y4 y5 y6 y7 y8 y9 y10 y11 y12 y13 y14 fX f2 hr bX
  have hS : ∀ w', Fr noB w2 w' → (w'.cell? ⟨gX, 2, none⟩ = some (.int .i64 t) ∧ w'.cell? ⟨gX, 3, none⟩ = some (.int .i64 j)) := fun w' f => ⟨f.cell (b2.cell 2) (fun q => q), f.cell (b2.cell 3) (fun q => q)⟩
  replace hS := Lib.hid hS
  replace b2 := Lib.hid b2
  have f13 := f12.seqN (Fr.refl noB w2).drew
  have b3 := (Fr.refl noB w2).drew.blk b2.out (fun q => q)
  have R3 := hh.out.frN f13
  have d3 : w2.drew.cell? ⟨z, 3, none⟩ = some (.pointer (some ⟨b.l, 0, none⟩)) := R3.blk.cell 3
  replace R3 := Lib.hid R3
  replace b3 := Lib.hid b3
  go_upto_region 3 with fail
  go_region_held3 (fun w' => w'.cell? ⟨gX, 2, none⟩ = some (.int .i64 t) ∧ w'.cell? ⟨gX, 3, none⟩ = some (.int .i64 j))
    (first | exact hS.out _ ((Fr.refl noB _).drewN 1) | fail) (fail)
  clear b2 hS f12
  generalize w2.drew = w3 at *
  go_wp2_with fail
  go_fit (hof.out w3 f13)
  rintro e w4 ⟨m0, m2, rfl, f4⟩
  have hf4 := hfj.out m0 (A.job t) m2 w4
  have f14 := f13.seqN f4
  have R4 := R3.out.frN f4
  have d0 : w4.cell? ⟨z, 0, none⟩ = some (.int .i64 A.id) := R4.blk.cell 0
  have b4 := f4.blk b3.out (fun q => q)
  have fG := (Fr.refl noB w4).alloc (.cells #[.int .i64 4, .int .i64 A.id, .int .i64 t, .int .i64 j, .int .i64 0, .int .i64 0, .int .i64 0, .int .i64 0, .int .i64 0, .int .i64 0, .int .i64 0, .slice none 0 0, .bool false, .slice none 0 0, .slice none 0 0] 73)
  have bG := Blk.new w4 73 [.int .i64 4, .int .i64 A.id, .int .i64 t, .int .i64 j, .int .i64 0, .int .i64 0, .int .i64 0, .int .i64 0, .int .i64 0, .int .i64 0, .int .i64 0, .slice none 0 0, .bool false, .slice none 0 0, .slice none 0 0]
  have f15 := f14.seqN fG
  have R5 := R4.frN fG
  have b5 := fG.blk b4 (fun q => q)
  obtain ⟨gG, hgG⟩ : ∃ g, w4.heap.size = g := ⟨_, rfl⟩
  rw [hgG] at bG
  replace R5 := Lib.hid R5
  replace b5 := Lib.hid b5
  replace bG := Lib.hid bG
  clear f13 R3 b3 d3 hof R4 b4 fG f14 f4
  go_upto_region 6 with fail
  try rw [hgG]
  replace hgG := Lib.hid hgG
  generalize (w4.alloc (.cells #[.int .i64 4, .int .i64 A.id, .int .i64 t, .int .i64 j, .int .i64 0, .int .i64 0, .int .i64 0, .int .i64 0, .int .i64 0, .int .i64 0, .int .i64 0, .slice none 0 0, .bool false, .slice none 0 0, .slice none 0 0] 73)) = w5 at *
  have z0 : w5.cell? ⟨gX, 0, none⟩ = some (.int .i64 10) := b5.out.cell 0
  clear d0 hf4 hfj b5
  clear hdn hov bG R5
  go_wp2_with fail
  go_returns
  exact QHear.same hh.out hn f15
theorem rr_10' (a t j : Int) (w : World) : Calls Tryz.prog 64 #[mrV { k := 10, a := a, t := t, j := j }] w fun e w' => e = .returned (.bool (bUnpinned a t j)) ∧ Fr noB w w' :=
  (rr_10 a t j w).mono fun e w' ⟨h1, f⟩ => ⟨h1.trans (by unfold bUnpinned; cases inB 0 3 a <;> cases inB 1 65535 t <;> cases inB 1 1073741824 j <;> rfl), f⟩
/-- what a call's message is in the document's form -/
def OpA.rm (o : OpA) : MR := match o.ms with
  | some (.pin t j) => { k := 2, t := t, j := j }
  | some (.collect t j) => { k := 5, t := t, j := j }
  | some (.unpin t j) => { k := 9, t := t, j := j }
  | some (.stored t j) => { k := 8, t := t, j := j }
  | some (.unpinned a t j) => { k := 10, a := a, t := t, j := j }
  | _ => {}
/-- what a call's message is answered -/
def AG.says (A : AG) (o : OpA) : List Ms × List Ms := match o.ms with | some m => A.outs m | none => ([], [])
set_option maxHeartbeats 1000000 in
theorem rr_none (w : World) : Calls Tryz.prog 64 #[mrV {}] w fun e w' => e = .returned (.bool false) ∧ Fr noB w w' := by
  unfold mrV mrC
  have fX := (Fr.refl noB w).alloc (.cells (mrC {}).toArray 73)
  unfold mrC at fX
  have k0 := within_any 0 1 65535
  rw [show inB 1 65535 0 = false by decide] at k0
  go_enter Tryz.func64, Tryz.ntmps64
  go_wp2_with fail
  refine (k0 _).mono ?_
  rintro e w1 ⟨rfl, hw1⟩
  obtain rfl := hw1.symm
  go_wp2_with fail
  go_ret
  exact ⟨rfl, fX⟩
theorem hear_bad {A : AG} {m : Ms} (h : m.ok = false) : A.hear m = A ∧ A.outs m = ([], []) := by unfold AG.hear AG.outs; rw [if_pos h, if_pos h]; exact ⟨rfl, rfl⟩
theorem op_ms (o : OpA) : o.ms = none ∨ o.ms = some (.pin o.t o.n) ∨ o.ms = some (.collect o.t o.n) ∨ o.ms = some (.unpin o.t o.n) ∨ o.ms = some (.stored o.t o.n) ∨ o.ms = some (.unpinned 1 o.t o.n) := by
  unfold OpA.ms
  repeat' split
  all_goals simp
/-- the document's agent hears a call's message -/
theorem rhear_op (o : OpA) (h : RA w z col n A b) (hT : 1 ≤ A.T) (hXl : (A.X o.t).length ≤ 4) (hn : n < 201) :
    Calls Tryz.prog 24 #[.pointer (some ⟨z, 0, none⟩), mrV o.rm] w fun e w' => QHear e w w' z col (n + 1) (A.ear o) (A.says o).1 (A.says o).2 := by
  unfold AG.ear AG.says OpA.rm
  rcases op_ms o with e | e | e | e | e | e
  · rw [e]; exact rhear_off {} h hn rr_none
  · rw [e]
    simp only
    cases hb : bPin o.t o.n with
    | false =>
      obtain ⟨e1, e2⟩ := hear_bad (A := A) (m := .pin o.t o.n) hb
      rw [e1, e2]
      exact rhear_off _ h hn (fun w' => by have := rr_2 o.t o.n w'; rw [show (inB 1 65535 o.t && inB 1 1073741824 o.n) = false from hb] at this; exact this)
    | true =>
      have e1 : A.hear (.pin o.t o.n) = A.pn o.t o.n := by unfold AG.hear; rw [if_neg (by show ¬ bPin o.t o.n = false; rw [hb]; decide)]
      have e2 : A.outs (.pin o.t o.n) = (A.pu o.t o.n, []) := by unfold AG.outs; rw [if_neg (by show ¬ bPin o.t o.n = false; rw [hb]; decide)]
      rw [e1, e2]
      exact rhear_pin o.t o.n hb h hT hXl hn
  · rw [e]
    simp only
    cases hb : bCollect o.t o.n with
    | false =>
      obtain ⟨e1, e2⟩ := hear_bad (A := A) (m := .collect o.t o.n) hb
      rw [e1, e2]
      exact rhear_off _ h hn (fun w' => by have := rr_5 o.t o.n w'; rw [show (inB 1 65535 o.t && inB 1 1073741824 o.n) = false from hb] at this; exact this)
    | true =>
      have e1 : A.hear (.collect o.t o.n) = A := by unfold AG.hear; rw [if_neg (by show ¬ bCollect o.t o.n = false; rw [hb]; decide)]
      have e2 : A.outs (.collect o.t o.n) = A.co o.t o.n := by unfold AG.outs; rw [if_neg (by show ¬ bCollect o.t o.n = false; rw [hb]; decide)]
      rw [e1, e2]
      exact rhear_collect o.t o.n hb h hn
  · rw [e]
    simp only
    cases hb : bUnpin o.t o.n with
    | false =>
      obtain ⟨e1, e2⟩ := hear_bad (A := A) (m := .unpin o.t o.n) hb
      rw [e1, e2]
      exact rhear_off _ h hn (fun w' => by have := rr_9 o.t o.n w'; rw [show (inB 1 65535 o.t && inB 1 1073741824 o.n) = false from hb] at this; exact this)
    | true =>
      have e1 : A.hear (.unpin o.t o.n) = A.un o.t o.n := by unfold AG.hear; rw [if_neg (by show ¬ bUnpin o.t o.n = false; rw [hb]; decide)]
      have e2 : A.outs (.unpin o.t o.n) = ([.unpinned A.id o.t o.n], []) := by unfold AG.outs; rw [if_neg (by show ¬ bUnpin o.t o.n = false; rw [hb]; decide)]
      rw [e1, e2]
      exact rhear_unpin o.t o.n hb h hn
  · rw [e]
    simp only
    have e1 : A.hear (.stored o.t o.n) = A := by unfold AG.hear; split <;> rfl
    have e2 : A.outs (.stored o.t o.n) = ([], []) := by unfold AG.outs; split <;> rfl
    rw [e1, e2]
    cases hb : bStored o.t o.n with
    | false => exact rhear_off _ h hn (fun w' => by have := rr_8 o.t o.n w'; rw [show (inB 1 65535 o.t && inB 1 1073741824 o.n) = false from hb] at this; exact this)
    | true => exact rhear_stored o.t o.n h hn (fun w' => by have := rr_8 o.t o.n w'; rw [show (inB 1 65535 o.t && inB 1 1073741824 o.n) = true from hb] at this; exact this)
  · rw [e]
    simp only
    have e1 : A.hear (.unpinned 1 o.t o.n) = A := by unfold AG.hear; split <;> rfl
    have e2 : A.outs (.unpinned 1 o.t o.n) = ([], []) := by unfold AG.outs; split <;> rfl
    rw [e1, e2]
    cases hb : bUnpinned 1 o.t o.n with
    | false => exact rhear_off _ h hn (fun w' => by have := rr_10' 1 o.t o.n w'; rw [hb] at this; exact this)
    | true => exact rhear_unpinned o.t o.n h hn (fun w' => by have := rr_10' 1 o.t o.n w'; rw [hb] at this; exact this)
end
end Go.Proofs.YtppmednmcbjafaaGreat
end

section
set_option linter.unusedVariables false
set_option linter.unusedSimpArgs false
set_option maxRecDepth 100000
namespace Go.Proofs.YtppmednmcbjafaaGreat
open Go.RowKit Go Go.Maps Go.Lib

set_option maxHeartbeats 1000000 in
theorem like_none (w : World) : Calls Tryz.prog 25 #[.nilIface] w fun e w' => e = .returned (mrV {}) ∧ Fr noB w w' := by
  unfold mrV mrC
  have fX := (Fr.refl noB w).alloc (.cells (mrC {}).toArray 73)
  unfold mrC at fX
  have q0 := as_nil_Trigger
  have q1 := as_nil_Pin
  have q2 := as_nil_Pinned
  have q3 := as_nil_Gone
  have q4 := as_nil_Collect
  have q5 := as_nil_Chunk
  have q6 := as_nil_Manifest
  have q7 := as_nil_Stored
  have q8 := as_nil_Unpin
  have q9 := as_nil_Unpinned
  go_enter Tryz.func25, Tryz.ntmps25
  go_wp2_with fail
  go_returns
  exact ⟨rfl, fX⟩
/-- the document's form of a call's message -/
theorem like_op (o : OpA) (w : World) : Calls Tryz.prog 25 #[o.msv] w fun e w' => e = .returned (mrV o.rm) ∧ Fr noB w w' := by
  unfold OpA.msv OpA.rm OpA.ms
  by_cases h5 : o.k = 5
  · simp only [if_pos h5]; exact like_Pin o.t o.n w
  by_cases h6 : o.k = 6
  · simp only [if_neg h5, if_pos h6]; exact like_Collect o.t o.n w
  by_cases h7 : o.k = 7
  · simp only [if_neg h5, if_neg h6, if_pos h7]; exact like_Unpin o.t o.n w
  by_cases h8 : o.k = 8
  · simp only [if_neg h5, if_neg h6, if_neg h7, if_pos h8]; exact like_Stored o.t o.n w
  by_cases h9 : o.k = 9
  · simp only [if_neg h5, if_neg h6, if_neg h7, if_neg h8, if_pos h9]; exact like_Unpin o.t o.n w
  by_cases h10 : o.k = 10
  · simp only [if_neg h5, if_neg h6, if_neg h7, if_neg h8, if_neg h9, if_pos h10]; exact like_Unpinned 1 o.t o.n w
  · simp only [if_neg h5, if_neg h6, if_neg h7, if_neg h8, if_neg h9, if_neg h10]; exact like_none w
set_option maxHeartbeats 8000000 in
theorem same12_any (w : World) (u v : Value) (ms : List Ms) (hu : OutW w u ms) (hv : OutR w v ms) (hf : ∀ m ∈ ms, m.few) (hl : ms.length ≤ 1000) :
    Calls Tryz.prog 26 #[u, v] w fun e w' => e = .returned (.bool true) ∧ Fr noB w w' := by
  obtain ⟨a, ac, rfl, a1, a2, hA0⟩ := hu
  obtain ⟨b, bc, rfl, b1, hB0⟩ := hv
  have key : ∀ k, k < ms.length → ∃ (g1 o1 g2 o2 : Nat) (x : Value) (M : MR), a = some ⟨g1, o1, none⟩ ∧ b = some ⟨g2, o2, none⟩ ∧ (∀ w', Fr noB w w' → (w'.cell? ⟨g1, o1 + k, none⟩ = some x ∧ w'.cell? ⟨g2, o2 + k * 15, none⟩ = some (.int .i64 M.k) ∧ w'.cell? ⟨g2, o2 + k * 15 + 1, none⟩ = some (.int .i64 M.a) ∧ w'.cell? ⟨g2, o2 + k * 15 + 2, none⟩ = some (.int .i64 M.t) ∧ w'.cell? ⟨g2, o2 + k * 15 + 3, none⟩ = some (.int .i64 M.j) ∧ w'.cell? ⟨g2, o2 + k * 15 + 4, none⟩ = some (.int .i64 M.c) ∧ w'.cell? ⟨g2, o2 + k * 15 + 5, none⟩ = some (.int .i64 M.i) ∧ w'.cell? ⟨g2, o2 + k * 15 + 6, none⟩ = some (.int .i64 M.n) ∧ w'.cell? ⟨g2, o2 + k * 15 + 7, none⟩ = some (.int .i64 M.pa) ∧ w'.cell? ⟨g2, o2 + k * 15 + 8, none⟩ = some (.int .i64 M.pt) ∧ w'.cell? ⟨g2, o2 + k * 15 + 9, none⟩ = some (.int .i64 M.pj) ∧ w'.cell? ⟨g2, o2 + k * 15 + 10, none⟩ = some (.int .i64 M.pc) ∧ w'.cell? ⟨g2, o2 + k * 15 + 11, none⟩ = some (.slice M.ua M.un M.uc) ∧ w'.cell? ⟨g2, o2 + k * 15 + 12, none⟩ = some (.bool M.lo) ∧ w'.cell? ⟨g2, o2 + k * 15 + 13, none⟩ = some (.slice M.qa M.qn M.qc) ∧ w'.cell? ⟨g2, o2 + k * 15 + 14, none⟩ = some (.slice M.sa M.sn M.sc))) ∧ (∀ w1, Fr noB w w1 → Calls Tryz.prog 25 #[x] w1 fun e w2 => ∃ y, e = .returned y ∧ Fr noB w1 w2 ∧ ∀ w3, Fr noB w2 w3 → Calls Tryz.prog 73 #[y, .agg #[.int .i64 M.k, .int .i64 M.a, .int .i64 M.t, .int .i64 M.j, .int .i64 M.c, .int .i64 M.i, .int .i64 M.n, .int .i64 M.pa, .int .i64 M.pt, .int .i64 M.pj, .int .i64 M.pc, .slice M.ua M.un M.uc, .bool M.lo, .slice M.qa M.qn M.qc, .slice M.sa M.sn M.sc]] w3 fun e w4 => e = .returned (.bool true) ∧ Fr noB w3 w4) := by
    intro k hk
    obtain ⟨g1, o1, x, e1, h1, hx⟩ := hA0 k _ (List.getElem?_eq_getElem hk)
    obtain ⟨g2, o2, M, e2, h2', hM⟩ := hB0 k _ (List.getElem?_eq_getElem hk)
    have h2 : ∀ q u, (mrC M)[q]? = some u → w.cell? ⟨g2, o2 + k * 15 + q, none⟩ = some u := fun q u hq => by rw [Nat.add_assoc]; exact h2' q u hq
    refine ⟨g1, o1, g2, o2, x, M, e1, e2, fun w' f => ⟨f.cell h1 (fun q => q), f.cell (h2 0 _ rfl) (fun q => q), f.cell (h2 1 _ rfl) (fun q => q), f.cell (h2 2 _ rfl) (fun q => q), f.cell (h2 3 _ rfl) (fun q => q), f.cell (h2 4 _ rfl) (fun q => q), f.cell (h2 5 _ rfl) (fun q => q), f.cell (h2 6 _ rfl) (fun q => q), f.cell (h2 7 _ rfl) (fun q => q), f.cell (h2 8 _ rfl) (fun q => q), f.cell (h2 9 _ rfl) (fun q => q), f.cell (h2 10 _ rfl) (fun q => q), f.cell (h2 11 _ rfl) (fun q => q), f.cell (h2 12 _ rfl) (fun q => q), f.cell (h2 13 _ rfl) (fun q => q), f.cell (h2 14 _ rfl) (fun q => q)⟩, fun w1 f1 => ?_⟩
    refine (like_ms x _ w1 (hx.frN f1) (hf _ (List.getElem_mem hk))).mono ?_
    rintro e w2 ⟨y, rfl, hy, f2⟩
    refine ⟨y, rfl, f2, fun w3 f3 => ?_⟩
    exact same_ms y (mrV M) _ w3 (hy.frN f3) (hM.frN ((f1.seqN f2).seqN f3))
  clear hA0 hB0 hf
  generalize hn : ms.length = n at *
  have e4 : ((n : Int) != n) = false := by simp
  replace key := Lib.hid key
  replace hn := Lib.hid hn
  go_enter Tryz.func26, Tryz.ntmps26
  go_wp2_with fail
  go_loopg [13] n (fun gk i wr => ∃ k : Nat, k + gk = n ∧ i = .int .i64 k ∧ Hid (Fr noB w wr))
  case atStart => exact ⟨0, Nat.zero_add _, rfl, Lib.hid (Fr.refl _ _)⟩
  case round =>
    obtain ⟨k, hk, rfl, fI⟩ := hrel
    by_cases hlt : k < n
    · obtain ⟨g1, o1, g2, o2, x, M, e1, e2, hA, hsm⟩ := key.out k hlt
      subst e1 e2
      have hm2 : n - (k + 1) < gk := by omega
      have hk2 : k + 1 + (n - (k + 1)) = n := by omega
      have hb2 : (k : Int) < n := by omega
      have fCI : Fr noB w wr := fI.out
      replace hA := Lib.hid hA
      replace hsm := Lib.hid hsm
      replace hm2 := Lib.hid hm2
      replace hk2 := Lib.hid hk2
      go_upto_region 6 with fail
      go_cut [26] from 16 to 26 (fun b wy => b = .bool false ∧ Fr noB wr wy)
      case first =>
        go_region_held3 (fun w' => w'.cell? ⟨g1, o1 + k, none⟩ = some x ∧ w'.cell? ⟨g2, o2 + k * 15, none⟩ = some (.int .i64 M.k) ∧ w'.cell? ⟨g2, o2 + k * 15 + 1, none⟩ = some (.int .i64 M.a) ∧ w'.cell? ⟨g2, o2 + k * 15 + 2, none⟩ = some (.int .i64 M.t) ∧ w'.cell? ⟨g2, o2 + k * 15 + 3, none⟩ = some (.int .i64 M.j) ∧ w'.cell? ⟨g2, o2 + k * 15 + 4, none⟩ = some (.int .i64 M.c) ∧ w'.cell? ⟨g2, o2 + k * 15 + 5, none⟩ = some (.int .i64 M.i) ∧ w'.cell? ⟨g2, o2 + k * 15 + 6, none⟩ = some (.int .i64 M.n) ∧ w'.cell? ⟨g2, o2 + k * 15 + 7, none⟩ = some (.int .i64 M.pa) ∧ w'.cell? ⟨g2, o2 + k * 15 + 8, none⟩ = some (.int .i64 M.pt) ∧ w'.cell? ⟨g2, o2 + k * 15 + 9, none⟩ = some (.int .i64 M.pj) ∧ w'.cell? ⟨g2, o2 + k * 15 + 10, none⟩ = some (.int .i64 M.pc) ∧ w'.cell? ⟨g2, o2 + k * 15 + 11, none⟩ = some (.slice M.ua M.un M.uc) ∧ w'.cell? ⟨g2, o2 + k * 15 + 12, none⟩ = some (.bool M.lo) ∧ w'.cell? ⟨g2, o2 + k * 15 + 13, none⟩ = some (.slice M.qa M.qn M.qc) ∧ w'.cell? ⟨g2, o2 + k * 15 + 14, none⟩ = some (.slice M.sa M.sn M.sc))
          (first | exact hA.out _ (fCI.seqN z8) | exact hA.out _ (fCI.seqN z7) | exact hA.out _ (fCI.seqN ((Fr.refl noB _).drewN 1)) | fail)
          (first
            | (go_at_call 73; refine (hsame.out _ (Fr.refl _ _)).mono ?_; rintro e w8 ⟨rfl, z80⟩; have z8 := z7.seqN z80)
            | (go_at_call 25; refine (hsm.out _ (fCI.seqN ((Fr.refl noB _).drewN 1))).mono ?_; rintro e w7 ⟨u7, rfl, z70, hsame⟩; replace hsame := Lib.hid hsame; have z7 := ((Fr.refl noB wr).drewN 1).seqN z70)
            | fail)
        all_goals (
          go_wp2_with fail
          go_meet
          exact ⟨rfl, z8⟩)
      case rest =>
        obtain ⟨rfl, fY⟩ := hcut
        have fI2 := Lib.hid (fI.out.seqN fY)
        clear fY
        go_wp2_with fail
        go_roundg (n - (k + 1))
        case rel => exact ⟨k + 1, hk2.out, by go_num, fI2⟩
        case measure => exact hm2.out
    · obtain rfl : k = n := by omega
      go_wp2_with fail
      go_ret
      exact ⟨rfl, fI.out⟩
end Go.Proofs.YtppmednmcbjafaaGreat
end
