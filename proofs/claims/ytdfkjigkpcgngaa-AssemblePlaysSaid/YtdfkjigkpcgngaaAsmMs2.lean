/-
  A call's message and what Like makes of it, with where their rows lie.
-/
import Derived.Test.YtdfkjigkpcgngaaAsmMs
import Derived.Test.YtdfkjigkpcgngaaAsmSame0
set_option linter.unusedVariables false
set_option linter.unusedSimpArgs false
set_option maxRecDepth 100000
namespace Go.Proofs.Ytdfkjigkpcgngaa
open Go.RowKit Go Go.Maps Go.Lib

theorem RdPsD.of_own {w : World} {B n : Nat} {e : TypeId} {v : Value} {P : List PU} {ps : List Pn} {D : Nat → Prop} (h : w.ownsRow B e 6 v n (P.flatMap PU.cs)) (ho : ∀ q ∈ P, RdI w q.v q.p.cr) (hp : P.map PU.p = ps) (hn : P.length = n) (hb : n ≤ 1000000) (hD : ∀ g, B ≤ g → g < w.heap.size → D g) (hcr : ∀ p ∈ ps, p.cr = []) : RdPsD w D v ps := by
  have hl : ps.length = n := by rw [← hp, List.length_map]; exact hn
  rcases h.2 with ⟨rfl, h1⟩ | ⟨g, cap, cur, rfl, hbg, hg, hnc, hcm, hcs, htake⟩
  · refine ⟨none, 0, by rw [hl, h1], by omega, by omega, fun i p hi => ?_⟩
    rw [List.eq_nil_of_length_eq_zero (by omega : ps.length = 0)] at hi
    simp at hi
  · refine ⟨_, cap, by rw [hl], by omega, by omega, fun i p hi => ?_⟩
    have hpc := hcr p (List.mem_of_getElem? hi)
    rw [← hp, List.getElem?_map] at hi
    cases hq : P[i]? with
    | none => rw [hq] at hi; cases hi
    | some u =>
      rw [hq] at hi
      simp at hi
      subst hi
      refine ⟨g, u.a, u.c, rfl, hD g hbg (h.lt g rfl).2, fun q x hx => ?_, ho u (List.mem_of_getElem? hq), fun hne => absurd hpc hne⟩
      have hq6 : q < 6 := (List.getElem?_eq_some_iff.1 hx).1
      have h2 := PU.get P i q u hq hq6
      have h3 := h.cells (g := g) rfl (i * 6 + q) x (by rw [h2]; exact hx)
      rw [add_none, Nat.zero_add] at h3
      exact h3
set_option maxHeartbeats 2000000 in
theorem like_Manifest2 (t j c : Int) (v : Value) (ps : List Pn) (w : World) (hv : RdPs w v ps) (hl : ps.length ≤ 100) (hcr : ∀ p ∈ ps, p.cr = []) :
    Calls Try.prog 12 #[mManifest t j c v] w fun e w' => ∃ a cc, e = .returned (mrV { k := 7, t := t, j := j, c := c, qa := a, qn := ps.length, qc := cc }) ∧ RdPsD w' (fun g => w.heap.size ≤ g ∧ g < w'.heap.size) (.slice a ps.length cc) ps ∧ Fr noB w w' := by
  obtain ⟨i0, hi, hz0, hz1, hz2⟩ := info_parts Try.infoPart
  have hget : ∀ k, k < ps.length → ∃ m, ps[k]? = some m := fun k hk => ⟨ps[k], List.getElem?_eq_getElem hk⟩
  have hv0 := hv
  obtain ⟨sa, sc, rfl, hx1, hx2, hx3⟩ := hv
  obtain ⟨N, hN⟩ : ∃ N, ps.length = N := ⟨_, rfl⟩
  obtain ⟨B, hB⟩ : ∃ B, w.heap.size = B := ⟨_, rfl⟩
  replace hcr := Lib.hid hcr
  rw [hN] at hget hx1 hx2 hl ⊢
  unfold mManifest
  have b0 := Blk.new w 34 (mrC {})
  have f0 : Fr noB w (w.alloc (.cells (mrC {}).toArray 34)) := (Fr.refl _ w).alloc _
  have hs1 : (w.alloc (.cells (mrC {}).toArray 34)).heap.size = B + 1 := by rw [size_alloc, hB]
  rw [hB] at b0
  unfold mrC at b0 f0 hs1
  have q0 := as_Manifest_Trigger
  have q1 := as_Manifest_Pin
  have q2 := as_Manifest_Pinned
  have q3 := as_Manifest_Gone
  have q4 := as_Manifest_Collect
  have q5 := as_Manifest_Chunk
  have q6 := as_Manifest_Manifest
  have hpart := fun (p : Pn) ua cl uc w' => part_fr p.a p.t p.j p.n ua cl uc p.lo w'
  replace hpart := Lib.hid hpart
  go_enter Try.func12, Try.ntmps12
  go_wp2_with fail
  generalize (w.alloc (.cells #[.int .i64 0, .int .i64 0, .int .i64 0, .int .i64 0, .int .i64 0, .int .i64 0, .int .i64 0, .int .i64 0, .int .i64 0, .int .i64 0, .int .i64 0, .slice none 0 0, .bool false, .slice none 0 0, .slice none 0 0] 34)) = w1 at *
  have bm := Blk.new w1 59 [.int .i64 t, .int .i64 j, .int .i64 c, .slice sa N sc]
  have f1 : Fr noB w1 (w1.alloc (.cells #[.int .i64 t, .int .i64 j, .int .i64 c, .slice sa N sc] 59)) := (Fr.refl _ _).alloc _
  have hs2 : (w1.alloc (.cells #[.int .i64 t, .int .i64 j, .int .i64 c, .slice sa N sc] 59)).heap.size = B + 2 := by rw [size_alloc, hs1]
  rw [hs1] at bm
  have b02 := f1.blk b0 (fun q => q)
  generalize (w1.alloc (.cells #[.int .i64 t, .int .i64 j, .int .i64 c, .slice sa N sc] 59)) = w2 at *
  have own3 := own_new w2 30 [] 6 0 rfl (Nat.zero_le _)
  have f3 : Fr noB w2 (w2.alloc (.cells #[] 30)) := (Fr.refl _ _).alloc _
  have b03 := f3.blk b02 (fun q => q)
  have bm3 := f3.blk bm (fun q => q)
  rw [hs2] at own3
  have fr3 := (f0.seqN f1).seqN f3
  have own3b := ownsRow_mono own3 (show B ≤ B + 2 by omega)
  replace hv0 := Lib.hid hv0
  replace hx3 := Lib.hid hx3
  replace hget := Lib.hid hget
  replace hN := Lib.hid hN
  clear b0 f0 b02 bm f1 f3 own3 q0 q1 q2 q3 q4 q5 q6
  go_loopg [10, 82] N (fun gk vl vi wr => ∃ (k : Nat) (P : List PU), k + gk = N ∧ vi = .int .i64 k ∧ Hid (P.map PU.p = ps.take k) ∧ Hid (P.length = k) ∧ Hid (∀ q ∈ P, RdI w q.v q.p.cr) ∧ Hid (wr.ownsRow B 30 6 vl k (P.flatMap PU.cs)) ∧ Hid (Blk wr B 34 [.int .i64 0, .int .i64 0, .int .i64 0, .int .i64 0, .int .i64 0, .int .i64 0, .int .i64 0, .int .i64 0, .int .i64 0, .int .i64 0, .int .i64 0, .slice none 0 0, .bool false, .slice none 0 0, .slice none 0 0]) ∧ Hid (Blk wr (B + 1) 59 [.int .i64 t, .int .i64 j, .int .i64 c, .slice sa N sc]) ∧ Fr noB w wr)
  case atStart => exact ⟨0, [], by omega, by first | rfl | trivial, Lib.hid rfl, Lib.hid rfl, Lib.hid (fun q hq => by simp at hq), Lib.hid own3b, Lib.hid b03, Lib.hid bm3, fr3⟩
  case round =>
    clear own3b b03 bm3 fr3 hs1 hs2
    obtain ⟨k, P, hkn, rfl, hPf, hPl, hPr, hown, hb0, hbm, fr⟩ := hrel
    by_cases hlt : k < N
    · obtain ⟨p, hs⟩ := hget.out k hlt
      obtain ⟨g', o, ua, uc, rfl, hc, hri2⟩ := hx3.out k p hs
      have c0 : wr.cell? ⟨g', o + k * 6, none⟩ = some (.int .i64 p.a) := fr.cell (hc 0 _ rfl) (fun q => q)
      have c1 : wr.cell? ⟨g', o + k * 6 + 1, none⟩ = some (.int .i64 p.t) := fr.cell (hc 1 _ rfl) (fun q => q)
      have c2 : wr.cell? ⟨g', o + k * 6 + 2, none⟩ = some (.int .i64 p.j) := fr.cell (hc 2 _ rfl) (fun q => q)
      have c3 : wr.cell? ⟨g', o + k * 6 + 3, none⟩ = some (.int .i64 p.n) := fr.cell (hc 3 _ rfl) (fun q => q)
      have c4 : wr.cell? ⟨g', o + k * 6 + 4, none⟩ = some (.slice ua p.cr.length uc) := fr.cell (hc 4 _ rfl) (fun q => q)
      have c5 : wr.cell? ⟨g', o + k * 6 + 5, none⟩ = some (.bool p.lo) := fr.cell (hc 5 _ rfl) (fun q => q)
      have hb1 : (k : Int) < N := by omega
      have hmeas : N - (k + 1) < gk := by omega
      have hkn2 : k + 1 + (N - (k + 1)) = N := by omega
      have hk1 : k ≤ 100 := by omega
      have hBr : B ≤ wr.heap.size := by have := fr.size; omega
      obtain ⟨cl, hcl⟩ : ∃ cl, p.cr.length = cl := ⟨_, rfl⟩
      have hpu : PU.cs (PU.mk p ua uc) = [.int .i64 p.a, .int .i64 p.t, .int .i64 p.j, .int .i64 p.n, .slice ua p.cr.length uc, .bool p.lo] := rfl
      have hri3 : RdI w (PU.v (PU.mk p ua uc)) p.cr := hri2
      rw [hcl] at c4 hpu
      have fA : Fr noB wr (wr.alloc (.cells #[.int .i64 p.a, .int .i64 p.t, .int .i64 p.j, .int .i64 p.n, .slice ua cl uc, .bool p.lo] 65)) := (Fr.refl _ _).alloc _
      have hpp := hpart.out p ua cl uc (wr.alloc (.cells #[.int .i64 p.a, .int .i64 p.t, .int .i64 p.j, .int .i64 p.n, .slice ua cl uc, .bool p.lo] 65))
      replace hpp := Lib.hid hpp
      replace hri3 := Lib.hid hri3
      replace hpu := Lib.hid hpu
      replace hs := Lib.hid hs
      replace hcl := Lib.hid hcl
      replace hmeas := Lib.hid hmeas
      replace hkn2 := Lib.hid hkn2
      clear hc hri2 hkn hlt
      go_wp2_with fail
      go_fit hpp.out
      rintro e w4 ⟨rfl, f4⟩
      have f5 : Fr noB w4 (w4.alloc (.cells #[.int .i64 p.a, .int .i64 p.t, .int .i64 p.j, .int .i64 p.n, .slice ua cl uc, .bool p.lo] 30)) := (Fr.refl _ _).alloc _
      have f45 := (fA.seqN f4).seqN f5
      have ow5 := ownsRow_fr hown.out f45 (fun _ _ q => q)
      have b05 := f45.blk hb0.out (fun q => q)
      have bm5 := f45.blk hbm.out (fun q => q)
      have hB5 : B ≤ (w4.alloc (.cells #[.int .i64 p.a, .int .i64 p.t, .int .i64 p.j, .int .i64 p.n, .slice ua cl uc, .bool p.lo] 30)).heap.size := by have := f45.size; omega
      have b6 := news_at w4 30 [.int .i64 p.a, .int .i64 p.t, .int .i64 p.j, .int .i64 p.n, .slice ua cl uc, .bool p.lo]
      replace b05 := Lib.hid b05
      replace bm5 := Lib.hid bm5
      clear hpp fA f4 f5
      go_wp2_with (first
        | (at_builtin; go_must (refine wpList_append_at _ rfl (.tmp 86) (.tmp 89) 31 rfl B 30 i0 _ 6 64 Try.underlying31 hi hz0 hz1 hz2 rfl (by decide) _ k _ rfl ow5 ⟨w4.heap.size, 0, none⟩ 1 1 [.int .i64 p.a, .int .i64 p.t, .int .i64 p.j, .int .i64 p.n, .slice ua cl uc, .bool p.lo] rfl rfl b6 (by intro u hu; simp only [List.mem_cons, List.not_mem_nil, or_false] at hu; rcases hu with rfl | rfl | rfl | rfl | rfl | rfl <;> rfl) ?_ ?_ hB5 ?_))
        | fail)
      · unfold maxLen; omega
      · omega
      intro v8 w8 o8 gr8 _
      have f8 : Fr (rowB u10) (w4.alloc (.cells #[.int .i64 p.a, .int .i64 p.t, .int .i64 p.j, .int .i64 p.n, .slice ua cl uc, .bool p.lo] 30)) w8 := (Fr.refl _ _).grown gr8 (fun k hk _ => hk)
      have b08 := f8.blk b05.out (row_not ow5 b05.out (by decide))
      have bm8 := f8.blk bm5.out (row_not ow5 bm5.out (by decide))
      have fr8 : Fr noB w w8 := (fr.seqN f45).trans f8 (fun _ _ q => q) (fun i hi q => by have := (hown.out.lt i q).1; omega)
      rw [show P.flatMap PU.cs ++ [.int .i64 p.a, .int .i64 p.t, .int .i64 p.j, .int .i64 p.n, .slice ua cl uc, .bool p.lo] = (P ++ [PU.mk p ua uc]).flatMap PU.cs by rw [List.flatMap_append, ← hpu.out]; simp] at o8
      have hPf2 : (P ++ [PU.mk p ua uc]).map PU.p = ps.take (k + 1) := by rw [List.map_append, hPf.out, List.take_add_one, hs.out]; rfl
      have hPl2 : (P ++ [PU.mk p ua uc]).length = k + 1 := by rw [List.length_append, hPl.out]; rfl
      have hPr2 : ∀ q ∈ P ++ [PU.mk p ua uc], RdI w q.v q.p.cr := fun q hq => by
        rcases List.mem_append.1 hq with hq | hq
        · exact hPr.out q hq
        · simp at hq; subst hq; exact hri3.out
      replace o8 := Lib.hid o8
      replace b08 := Lib.hid b08
      replace bm8 := Lib.hid bm8
      replace hPf2 := Lib.hid hPf2
      replace hPl2 := Lib.hid hPl2
      replace hPr2 := Lib.hid hPr2
      clear gr8 f8 f45 ow5 b05 bm5 b6 hB5
      go_wp2_with fail
      go_roundg (N - (k + 1))
      case rel => exact ⟨k + 1, P ++ [PU.mk p ua uc], hkn2.out, by go_num, hPf2, hPl2, hPr2, o8, b08, bm8, fr8⟩
      case measure => exact hmeas.out
    · obtain rfl : k = N := by omega
      obtain ⟨qa, qc, rfl⟩ := ownsRow_slice hown.out
      have d0 : wr.cell? ⟨B + 1, 0, none⟩ = some (.int .i64 t) := hbm.out.cell 0
      have d1 : wr.cell? ⟨B + 1, 1, none⟩ = some (.int .i64 j) := hbm.out.cell 1
      have d2 : wr.cell? ⟨B + 1, 2, none⟩ = some (.int .i64 c) := hbm.out.cell 2
      have t1a : Hid (wr.there B 0 (#[.int .i64 7, .int .i64 0, .int .i64 t, .int .i64 j, .int .i64 c, .int .i64 0, .int .i64 0, .int .i64 0, .int .i64 0, .int .i64 0, .int .i64 0, .slice none 0 0, .bool false, .slice qa k qc, .slice none 0 0] : Array Value).size) := Lib.hid (there6m hb0.out (by simp))
      have hsz : (Try.prog.info? 34).map (·.size) = some (#[.int .i64 7, .int .i64 0, .int .i64 t, .int .i64 j, .int .i64 c, .int .i64 0, .int .i64 0, .int .i64 0, .int .i64 0, .int .i64 0, .int .i64 0, .slice none 0 0, .bool false, .slice qa k qc, .slice none 0 0] : Array Value).size := size_msg
      have hon : (#[.int .i64 7, .int .i64 0, .int .i64 t, .int .i64 j, .int .i64 c, .int .i64 0, .int .i64 0, .int .i64 0, .int .i64 0, .int .i64 0, .int .i64 0, .slice none 0 0, .bool false, .slice qa k qc, .slice none 0 0] : Array Value).all (·.oneCell') = true := mr_one { k := 7, t := t, j := j, c := c, qa := qa, qn := k, qc := qc }
      have hfull : ps.take k = ps := by rw [← hN.out, List.take_length]
      have hbl0 := hb0
      replace hsz := Lib.hid hsz
      replace hon := Lib.hid hon
      replace hfull := Lib.hid hfull
      go_wp2_with (first
        | (refine wpList_store_mid rfl 34 (.tmp 2) (.tmp 99) rfl B 0 #[.int .i64 7, .int .i64 0, .int .i64 t, .int .i64 j, .int .i64 c, .int .i64 0, .int .i64 0, .int .i64 0, .int .i64 0, .int .i64 0, .int .i64 0, .slice none 0 0, .bool false, .slice qa k qc, .slice none 0 0] rfl rfl t1a.out hsz.out hon.out ?_; obtain ⟨w10, hw10, f10, h10⟩ := store_all wr B #[.int .i64 7, .int .i64 0, .int .i64 t, .int .i64 j, .int .i64 c, .int .i64 0, .int .i64 0, .int .i64 0, .int .i64 0, .int .i64 0, .int .i64 0, .slice none 0 0, .bool false, .slice qa k qc, .slice none 0 0]; rw [← hw10]; clear hw10; have h10 := h10 _ _ hb0.out rfl; have f10 := Lib.hid f10)
        | fail)
      have r0 : w10.cell? ⟨B, 0, none⟩ = some (.int .i64 7) := h10.cell 0
      have r1 : w10.cell? ⟨B, 1, none⟩ = some (.int .i64 0) := h10.cell 1
      have r2 : w10.cell? ⟨B, 2, none⟩ = some (.int .i64 t) := h10.cell 2
      have r3 : w10.cell? ⟨B, 3, none⟩ = some (.int .i64 j) := h10.cell 3
      have r4 : w10.cell? ⟨B, 4, none⟩ = some (.int .i64 c) := h10.cell 4
      have r5 : w10.cell? ⟨B, 5, none⟩ = some (.int .i64 0) := h10.cell 5
      have r6 : w10.cell? ⟨B, 6, none⟩ = some (.int .i64 0) := h10.cell 6
      have r7 : w10.cell? ⟨B, 7, none⟩ = some (.int .i64 0) := h10.cell 7
      have r8 : w10.cell? ⟨B, 8, none⟩ = some (.int .i64 0) := h10.cell 8
      have r9 : w10.cell? ⟨B, 9, none⟩ = some (.int .i64 0) := h10.cell 9
      have r10 : w10.cell? ⟨B, 10, none⟩ = some (.int .i64 0) := h10.cell 10
      have r11 : w10.cell? ⟨B, 11, none⟩ = some (.slice none 0 0) := h10.cell 11
      have r12 : w10.cell? ⟨B, 12, none⟩ = some (.bool false) := h10.cell 12
      have r13 : w10.cell? ⟨B, 13, none⟩ = some (.slice qa k qc) := h10.cell 13
      have r14 : w10.cell? ⟨B, 14, none⟩ = some (.slice none 0 0) := h10.cell 14
      have frA : Fr noB w w10 := fr.trans f10.out (fun _ _ q => q) (fun i hi q => by unfold onlyB at q; omega)
      have owA := ownsRow_fr hown.out f10.out (fun g hg q => by
        unfold onlyB at q
        subst q
        exact row_not hown.out hb0.out (by decide) hg)
      have hrp : RdPsD w10 (fun g => B ≤ g ∧ g < w10.heap.size) (.slice qa k qc) ps := RdPsD.of_own owA (fun q hq => (hPr.out q hq).frN frA) (by rw [hPf.out, hfull.out]) hPl.out (by omega) (fun g h1 h2 => ⟨h1, h2⟩) hcr.out
      clear h10 f10 t1a hsz hon d0 d1 d2 owA
      replace hrp := Lib.hid hrp
      try go_wp2_with fail
      refine bodyPost_ret (by simp [results, Try.results12, go_sem, r0, r1, r2, r3, r4, r5, r6, r7, r8, r9, r10, r11, r12, r13, r14]; try rfl) rfl ?_
      exact ⟨qa, qc, rfl, hrp.out, frA⟩

/-- the message of a chunk's call has the call's own slice -/
theorem message6 (m : OpA) (w : World) (h6 : m.k = 6) : Calls Try.prog 9 #[.agg (opaC m).toArray] w fun e w' => e = .returned (mChunk m.a m.t m.j m.i m.n (.slice m.sa m.sp.length m.sc)) ∧ Fr noB w w' := by
  have hmk := make_6 m.a m.t m.j m.i m.n none 0 0 m.lo m.sa m.sp.length m.sc (w.alloc (.cells (opaC m).toArray 39))
  have ek : (m.k != 7) = true := by rw [h6]; rfl
  have f1 : Fr noB w (w.alloc (.cells (opaC m).toArray 39)) := (Fr.refl _ _).alloc _
  have b1 := Blk.new w 39 (opaC m)
  obtain ⟨ob, hob⟩ : ∃ ob, w.heap.size = ob := ⟨_, rfl⟩
  rw [hob] at b1
  have y0 : (w.alloc (.cells (opaC m).toArray 39)).cell? ⟨ob, 0, none⟩ = some (.int .i64 m.k) := b1.cell 0
  have y1 : (w.alloc (.cells (opaC m).toArray 39)).cell? ⟨ob, 1, none⟩ = some (.int .i64 m.a) := b1.cell 1
  have y2 : (w.alloc (.cells (opaC m).toArray 39)).cell? ⟨ob, 2, none⟩ = some (.int .i64 m.t) := b1.cell 2
  have y3 : (w.alloc (.cells (opaC m).toArray 39)).cell? ⟨ob, 3, none⟩ = some (.int .i64 m.j) := b1.cell 3
  have y4 : (w.alloc (.cells (opaC m).toArray 39)).cell? ⟨ob, 4, none⟩ = some (.int .i64 m.i) := b1.cell 4
  have y5 : (w.alloc (.cells (opaC m).toArray 39)).cell? ⟨ob, 5, none⟩ = some (.int .i64 m.n) := b1.cell 5
  have y6 : (w.alloc (.cells (opaC m).toArray 39)).cell? ⟨ob, 6, none⟩ = some (.slice m.sa m.sp.length m.sc) := b1.cell 6
  have y8 : (w.alloc (.cells (opaC m).toArray 39)).cell? ⟨ob, 8, none⟩ = some (.bool m.lo) := b1.cell 8
  replace f1 := Lib.hid f1
  clear b1
  rw [← h6] at hmk
  unfold opaC at hmk y0 y1 y2 y3 y4 y5 y6 y8 ⊢
  replace hmk := Lib.hid hmk
  replace h6 := Lib.hid h6
  go_enter Try.func9, Try.ntmps9
  go_wp2_with fail
  try rw [hob]
  go_fit hmk.out
  rintro e w1 ⟨rfl, f2⟩
  have fz := Lib.hid (f1.out.seqN f2)
  clear hmk f2
  go_wp2_with fail
  go_ret
  exact ⟨rfl, fz.out⟩
/-- where the spans of a call's message lie -/
def Own6 (m : OpA) (v : Value) : Prop := m.k = 6 → v = mChunk m.a m.t m.j m.i m.n (.slice m.sa m.sp.length m.sc)
theorem messageB_any (m : OpA) (w : World) (hs : RdSp w (.slice m.sa m.sp.length m.sc) m.sp) (hx : RdI w (.slice m.ua m.xs.length m.uc) m.xs) (h20 : m.xs.length ≤ 20) :
    Calls Try.prog 9 #[.agg (opaC m).toArray] w fun e w' => ∃ v, e = .returned v ∧ MsO w' v m.ms ∧ Own6 m v ∧ Fr noB w w' := by
  by_cases h6 : m.k = 6
  · refine (message6 m w h6).mono ?_
    rintro e w' ⟨rfl, f⟩
    refine ⟨_, rfl, ?_, fun _ => rfl, f⟩
    have : m.ms = some (.chunk m.a m.t m.j m.i m.n m.sp) := by unfold OpA.ms; rw [h6]; rfl
    rw [this]
    exact ⟨_, rfl, hs.frN f⟩
  · refine (messageA_any m w hs hx h20).mono ?_
    rintro e w' ⟨v, rfl, h1, f⟩
    exact ⟨v, rfl, h1, fun q => absurd q h6, f⟩
/-- what the reference keeps of a call's message -/
def RfB (w : World) (B : Nat) (u : Value) (m : OpA) : Prop :=
  (m.k = 6 → u = mrV { k := 6, a := m.a, t := m.t, j := m.j, i := m.i, n := m.n, sa := m.sa, sn := m.sp.length, sc := m.sc }) ∧
  (m.k = 7 → ∃ a c, u = mrV { k := 7, t := m.t, j := m.j, c := m.i, qa := a, qn := (partsK m m.xs.length).length, qc := c } ∧ RdPsD w (fun g => B ≤ g ∧ g < w.heap.size) (.slice a (partsK m m.xs.length).length c) (partsK m m.xs.length))
theorem parts_cr (m : OpA) (k : Nat) : ∀ p ∈ partsK m k, p.cr = [] := by
  intro p hp
  unfold partsK at hp
  obtain ⟨i, _, hi⟩ := List.mem_filterMap.1 hp
  split at hi
  · injection hi with hi; subst hi; rfl
  · cases hi
theorem ms6 {m : OpA} (h : m.k = 6) : m.ms = some (.chunk m.a m.t m.j m.i m.n m.sp) := by unfold OpA.ms; rw [h]; rfl
theorem ms7 {m : OpA} (h : m.k = 7) : m.ms = some (.manifest m.t m.j m.i (partsK m m.xs.length)) := by unfold OpA.ms; rw [h]; rfl
theorem likeB_any (m : OpA) (v : Value) (w : World) (h20 : m.xs.length ≤ 20) (hs : RdSp w (.slice m.sa m.sp.length m.sc) m.sp) (hv : MsO w v m.ms) (h6 : Own6 m v) :
    Calls Try.prog 12 #[v] w fun e w' => ∃ u, e = .returned u ∧ RfO w' u m.ms ∧ RfB w' w.heap.size u m ∧ Fr noB w w' := by
  by_cases k6 : m.k = 6
  · rw [h6 k6, ms6 k6]
    refine (like_Chunk m.a m.t m.j m.i m.n m.sa _ m.sc w).mono ?_
    rintro e w' ⟨rfl, f⟩
    exact ⟨_, rfl, ⟨m.sa, m.sc, rfl, hs.frN f⟩, ⟨fun _ => rfl, fun q => by omega⟩, f⟩
  · by_cases k7 : m.k = 7
    · rw [ms7 k7] at hv ⊢
      obtain ⟨x, rfl, hx⟩ := hv
      have hl : (partsK m m.xs.length).length ≤ 100 := by have := partsK_len m m.xs.length; omega
      refine (like_Manifest2 m.t m.j m.i x _ w hx hl (parts_cr m _)).mono ?_
      rintro e w' ⟨a, c, rfl, h1, f⟩
      exact ⟨_, rfl, ⟨a, c, rfl, h1.ps⟩, ⟨fun q => absurd q k6, fun _ => ⟨a, c, rfl, h1⟩⟩, f⟩
    · refine (likeA_any m v w h20 hv).mono ?_
      rintro e w' ⟨u, rfl, h1, f⟩
      exact ⟨u, rfl, h1, ⟨fun q => absurd q k6, fun q => absurd q k7⟩, f⟩
end Go.Proofs.Ytdfkjigkpcgngaa
