/-
  The reference's record, with its manifest there.
-/
import Derived.Test.YtdfkjigkpcgngaaAsmRefR
set_option linter.unusedVariables false
set_option linter.unusedSimpArgs false
set_option maxRecDepth 100000
namespace Go.Proofs.Ytdfkjigkpcgngaa
open Go.RowKit Go Go.Maps Go.Lib

set_option maxHeartbeats 16000000 in
theorem rrecord_some (q : Nat) (E : Nat → Prop) (M0 : Nat) (r : RS) (Mm : MR) (ca : Option Addr) (cc : Nat) (C : CH) (c : Int) (ps : List Pn) (w : World) (h : AR w q E M0 r Mm ca cc) (hck : CK C (r.K.map Kq.kp)) (h2 : ∀ k ∈ r.K, k.sp.length ≤ 2 ∧ k.n ≤ 500) (hman : r.man = some (c, ps)) :
    Calls Try.prog 17 #[.pointer (some ⟨q, 0, none⟩)] w fun e w' => RecRd e w w' r.tr r.jb ((recL r.tr C ps).map fun L => (c, L)) := by
  have hmis := fun w' (f : Fr noB w w') => rmissing_any q E M0 r Mm ca cc C w' (h.frN f) hck h2
  have e0 : r.miss C = missL r.tr C ps := by unfold RS.miss; rw [hman]
  rw [e0] at hmis
  have hrec := recL_eq r.tr C ps
  obtain ⟨m1, m2, m3, G, m4, m5, m6⟩ := h.man c ps hman
  obtain ⟨N, hN⟩ : ∃ N, ps.length = N := ⟨_, rfl⟩
  have hcell : ∀ w', Fr noB w w' → w'.cell? ⟨q, 17, none⟩ = some (.bool true) ∧ w'.cell? ⟨q, 15, none⟩ = some (.slice Mm.qa N Mm.qc) ∧ w'.cell? ⟨q, 0, none⟩ = some (.int .i64 r.tr) ∧ w'.cell? ⟨q, 1, none⟩ = some (.int .i64 r.jb) ∧ w'.cell? ⟨q, 6, none⟩ = some (.int .i64 c) := fun w' f => by
    have h1 : w'.cell? ⟨q, 17, none⟩ = some (.bool r.man.isSome) := (h.frN f).blk.cell 17
    have h2 : w'.cell? ⟨q, 15, none⟩ = some (.slice Mm.qa Mm.qn Mm.qc) := (h.frN f).blk.cell 15
    have h3 : w'.cell? ⟨q, 6, none⟩ = some (.int .i64 Mm.c) := (h.frN f).blk.cell 6
    rw [hman] at h1
    rw [m2, hN] at h2
    rw [m1] at h3
    exact ⟨h1, h2, (h.frN f).blk.cell 0, (h.frN f).blk.cell 1, h3⟩
  rw [hN] at m3
  rw [m2, hN] at m4
  have hget : ∀ k, k < N → ∃ m, ps[k]? = some m := fun k hk => ⟨ps[k]'(by omega), List.getElem?_eq_getElem (by omega)⟩
  have b0 := Blk.new w 50 [.int .i64 0, .int .i64 0, .int .i64 0, .bool false, .slice none 0 0]
  have f0 : Fr noB w (w.alloc (.cells #[.int .i64 0, .int .i64 0, .int .i64 0, .bool false, .slice none 0 0] 50)) := (Fr.refl _ _).alloc _
  obtain ⟨cb, hcb⟩ : ∃ cb, w.heap.size = cb := ⟨_, rfl⟩
  have hs0 : (w.alloc (.cells #[.int .i64 0, .int .i64 0, .int .i64 0, .bool false, .slice none 0 0] 50)).heap.size = cb + 1 := by rw [size_alloc, hcb]
  rw [hcb] at b0
  obtain ⟨i0, hi0, hz0, hz1, hz2⟩ := info_parts infoPart
  obtain ⟨e17, _⟩ := hcell _ f0
  have hm0 := hmis _ f0
  obtain ⟨mL, hmL⟩ : ∃ mL, missL r.tr C ps = mL := ⟨_, rfl⟩
  rw [hmL] at hm0 hrec
  replace hN := Lib.hid hN
  replace hget := Lib.hid hget
  replace h := Lib.hid h
  replace hck := Lib.hid hck
  replace h2 := Lib.hid h2
  replace hcell := Lib.hid hcell
  replace m4 := Lib.hid m4
  replace hm0 := Lib.hid hm0
  replace hmL := Lib.hid hmL
  clear hmis e0 hman m1 m2 m5 m6
  go_enter Try.func17, Try.ntmps17
  go_wp2_with fail
  try rw [hcb]
  replace hcb := Lib.hid hcb
  go_fit hm0.out
  generalize (w.alloc (.cells #[.int .i64 0, .int .i64 0, .int .i64 0, .bool false, .slice none 0 0] 50)) = w0 at *
  rintro e wm ⟨vm, rfl, om, fm⟩
  have b0m := fm.blk b0 (fun q => q)
  have fwm := f0.seqN fm
  have hsm : cb < wm.heap.size := b0m.lt
  obtain ⟨va, vc, rfl⟩ := ownsRow_slice om
  clear hm0 e17 b0 f0 fm om hs0
  cases hml : mL with
  | cons y t =>
    subst hml
    have hnone : recL r.tr C ps = none := by rw [hrec, if_neg (by simp)]
    have hlt : (0 : Int) < ((y :: t).length : Int) := by rw [List.length_cons]; omega
    have k0 := b0m.cell 0
    have k1 := b0m.cell 1
    have k2 := b0m.cell 2
    have k3 := b0m.cell 3
    have k4 := b0m.cell 4
    have z0 := b0m.frozen 0
    have z1 := b0m.frozen 1
    have z2 := b0m.frozen 2
    have z3 := b0m.frozen 3
    have z4 := b0m.frozen 4
    replace hnone := Lib.hid hnone
    replace b0m := Lib.hid b0m
    replace fwm := Lib.hid fwm
    obtain ⟨ln, hln⟩ : ∃ ln, (y :: t).length = ln := ⟨_, rfl⟩
    rw [hln] at hlt ⊢
    have hlt2 : decide ((0 : Int) < (ln : Int)) = true := decide_eq_true hlt
    replace hln := Lib.hid hln
    clear hrec
    go_wp2_with fail
    obtain ⟨hb', hf', _⟩ := rec_set b0m.out fwm.out (by have := hcb.out; omega) (.int .i64 0) (.int .i64 0) (.int .i64 0) (.bool false) (.slice none 0 0)
    refine bodyPost_ret (rec_ret rfl _ _ (g := cb) (by rfl) hb' rfl) rfl ?_
    exact ⟨hf', fun _ => rfl, fun c L e => (by rw [hnone.out] at e; cases e)⟩
  | nil =>
    subst hml
    rw [if_pos rfl] at hrec
    have hz : ([] : List Int).length = 0 := rfl
    rw [hz]
    have hS : ∀ w', Fr noB wm w' → w'.cell? ⟨q, 0, none⟩ = some (.int .i64 r.tr) ∧ w'.cell? ⟨q, 1, none⟩ = some (.int .i64 r.jb) ∧ w'.cell? ⟨q, 6, none⟩ = some (.int .i64 c) := fun w' f => (hcell.out _ (fwm.seqN f)).2.2
    obtain ⟨sm, hsmz⟩ : ∃ sm, wm.heap.size = sm := ⟨_, rfl⟩
    rw [hsmz] at hsm
    replace hS := Lib.hid hS
    replace b0m := Lib.hid b0m
    replace fwm := Lib.hid fwm
    replace hrec := Lib.hid hrec
    replace hsmz := Lib.hid hsmz
    go_wp2_with fail
    go_region_held3 (fun w' => w'.cell? ⟨q, 0, none⟩ = some (.int .i64 r.tr) ∧ w'.cell? ⟨q, 1, none⟩ = some (.int .i64 r.jb) ∧ w'.cell? ⟨q, 6, none⟩ = some (.int .i64 c))
      (first | exact hS.out _ ((Fr.refl noB _).drewN 1) | exact hS.out _ (((Fr.refl noB _).drewN 1).alloc _) | fail)
      (fail)
    have f1 : Fr noB wm (wm.alloc (.cells #[.int .i64 r.tr, .int .i64 r.jb, .int .i64 c, .bool true, .slice none 0 0] 50)).drew := ((Fr.refl _ _).alloc _).drew
    have b1 : Blk (wm.alloc (.cells #[.int .i64 r.tr, .int .i64 r.jb, .int .i64 c, .bool true, .slice none 0 0] 50)).drew sm 50 [.int .i64 r.tr, .int .i64 r.jb, .int .i64 c, .bool true, .slice none 0 0] := by
      have := Blk.new wm 50 [.int .i64 r.tr, .int .i64 r.jb, .int .i64 c, .bool true, .slice none 0 0]
      rw [hsmz.out] at this
      exact this.drew
    rw [hsmz.out]
    generalize (wm.alloc (.cells #[.int .i64 r.tr, .int .i64 r.jb, .int .i64 c, .bool true, .slice none 0 0] 50)).drew = w1 at *
    have b01 := f1.blk b0m.out (fun q => q)
    have f01 := fwm.out.seqN f1
    have hI : Hid (RecJ w w1 r.tr r.jb c C ps cb sm 0 true none 0 []) := Lib.hid ⟨rfl, rfl, rfl, b01, b1, World.ownsRow_nil _ _ _ _, fun u hu => (by cases hu), fun u hu => (by cases hu), f01⟩
    have d15 := (hcell.out w1 f01).2.1
    clear b1 b01 f1 hS f01
    go_wp2_with fail
    go_loopg [5] N (fun gk i wr => ∃ (k : Nat) (wh : Bool) (pa : Option Addr) (pc : Nat) (U : List RU), k + gk = N ∧ i = .int .i64 k ∧ Hid (RecJ w wr r.tr r.jb c C ps cb sm k wh pa pc U))
    case atStart => exact ⟨0, true, none, 0, [], Nat.zero_add _, rfl, hI⟩
    case round =>
      clear d15 hI
      obtain ⟨k, wh, pa, pc, U, hk, rfl, hI⟩ := hrel
      have fr := hI.out.fr
      have d15 := (hcell.out wr fr).2.1
      by_cases hlt : k < N
      · obtain ⟨p, hs⟩ := hget.out k hlt
        obtain ⟨g, ua, uc, hqa, x0, x1, x2, x3, x4, x5, hri⟩ := partsD m4.out hs
        have c0 := fr.cell x0 (fun q => q)
        have c1 := fr.cell x1 (fun q => q)
        have c2 := fr.cell x2 (fun q => q)
        have c3 := fr.cell x3 (fun q => q)
        have c4 := fr.cell x4 (fun q => q)
        have c5 := fr.cell x5 (fun q => q)
        rw [hqa] at d15
        have hwr : Hid (w.heap.size ≤ wr.heap.size ∧ sm < wr.heap.size) := Lib.hid ⟨fr.size, hI.out.b1.lt⟩
        have hb1 : (k : Int) < N := by omega
        have hmeas : N - (k + 1) < gk := by omega
        have hkn2 : k + 1 + (N - (k + 1)) = N := by omega
        have hpmiss : partOf r.tr C p ≠ none := fun e => by
          have h1 : p.a ∈ missL r.tr C ps := by
            unfold missL
            exact List.mem_map.2 ⟨p, List.mem_filter.2 ⟨List.mem_of_getElem? hs, by rw [e]; rfl⟩, rfl⟩
          rw [hmL.out] at h1
          cases h1
        obtain ⟨S, hR⟩ : ∃ S, partOf r.tr C p = some S := by
          cases hq : partOf r.tr C p with
          | none => exact absurd hq hpmiss
          | some S => exact ⟨S, rfl⟩
        have fA : Fr noB wr (wr.alloc (.cells #[.int .i64 p.a, .int .i64 p.t, .int .i64 p.j, .int .i64 p.n, .slice ua p.cr.length uc, .bool p.lo] 30)) := (Fr.refl _ _).alloc _
        have bA := Blk.new wr 30 [.int .i64 p.a, .int .i64 p.t, .int .i64 p.j, .int .i64 p.n, .slice ua p.cr.length uc, .bool p.lo]
        have hsp := gpart_any q E M0 r Mm ca cc C p ua p.cr.length uc _ ((h.out.frN fr).frN fA) hck.out h2.out
        rw [hR] at hsp
        obtain ⟨cl, hcl⟩ : ∃ cl, p.cr.length = cl := ⟨_, rfl⟩
        obtain ⟨qa, hqa2⟩ : ∃ x, p.a = x := ⟨_, rfl⟩
        obtain ⟨qt, hqt⟩ : ∃ x, p.t = x := ⟨_, rfl⟩
        obtain ⟨qj, hqj⟩ : ∃ x, p.j = x := ⟨_, rfl⟩
        obtain ⟨qn, hqn⟩ : ∃ x, p.n = x := ⟨_, rfl⟩
        obtain ⟨ql, hql⟩ : ∃ x, p.lo = x := ⟨_, rfl⟩
        rw [hcl, hqa2, hqt, hqj, hqn, hql] at hsp
        rw [hcl, hqa2, hqt, hqj, hqn, hql] at fA bA
        rw [hcl] at c4
        rw [hqa2] at c0
        rw [hqt] at c1
        rw [hqj] at c2
        rw [hqn] at c3
        rw [hql] at c5
        replace hsp := Lib.hid hsp
        replace hs := Lib.hid hs
        replace hR := Lib.hid hR
        replace hmeas := Lib.hid hmeas
        replace hkn2 := Lib.hid hkn2
        replace fA := Lib.hid fA
        replace bA := Lib.hid bA
        replace hcl := Lib.hid hcl
        replace hqa2 := Lib.hid hqa2
        replace hql := Lib.hid hql
        replace hri := Lib.hid hri
        replace hqa := Lib.hid hqa
        clear hk hqt hqj hqn fr x0 x1 x2 x3 x4 x5 hpmiss
        go_wp2_with fail
        go_fit hsp.out
        rintro e w1 ⟨v1, rfl, o1, _, f1⟩
        have o1' := o1 S rfl
        obtain ⟨sa, sc, rfl⟩ := ownsRow_slice o1'
        have g1 := fA.out.seqN f1
        have hI1 := hI.out.frN g1
        have bA1 := f1.blk bA.out (fun q => q)
        obtain ⟨pb, hpb⟩ : ∃ pb, wr.heap.size = pb := ⟨_, rfl⟩
        rw [hpb] at bA1
        try rw [hpb]
        replace hpb := Lib.hid hpb
        have o1w : w1.ownsRow w.heap.size 63 3 (.slice sa S.length sc) S.length (S.flatMap spC) := ownsRow_mono o1' (by have := hwr.out.1; simp; omega)
        obtain ⟨sn, hsn⟩ : ∃ sn, S.length = sn := ⟨_, rfl⟩
        have f2 : Fr noB w1 (w1.alloc (.cells #[.int .i64 qa, .slice sa sn sc, .slice ua cl uc, .bool ql] 69)) := (Fr.refl _ _).alloc _
        have cn := news_at w1 69 [.int .i64 qa, .slice sa sn sc, .slice ua cl uc, .bool ql]
        have I2 := hI1.frN f2
        have bA2 := f2.blk bA1 (fun q => q)
        have ka : w1.cell? ⟨sm, 4, none⟩ = some (.slice pa k pc) := hI1.b1.cell 4
        have kb0 : w1.cell? ⟨pb, 0, none⟩ = some (.int .i64 qa) := bA1.cell 0
        have kb4 : w1.cell? ⟨pb, 4, none⟩ = some (.slice ua cl uc) := bA1.cell 4
        have kb5 : w1.cell? ⟨pb, 5, none⟩ = some (.bool ql) := bA1.cell 5
        have hk4 : k < 100 := by omega
        have hw2 : w.heap.size ≤ (w1.alloc (.cells #[.int .i64 qa, .slice sa sn sc, .slice ua cl uc, .bool ql] 69)).heap.size := I2.fr.size
        have hrp : sm ≠ pb := by have := hpb.out; have := hwr.out.2; omega
        rw [hsn]
        have hu : (RU.mk p S sa sc ua uc).cs = [.int .i64 qa, .slice sa sn sc, .slice ua cl uc, .bool ql] := by
          unfold RU.cs
          show [Value.int .i64 p.a, .slice sa S.length sc, .slice ua p.cr.length uc, .bool p.lo] = _
          rw [hqa2.out, hsn, hcl.out, hql.out]
        have hou : (w1.alloc (.cells #[.int .i64 qa, .slice sa sn sc, .slice ua cl uc, .bool ql] 69)).ownsRow w.heap.size 63 3 (.slice sa S.length sc) S.length (S.flatMap spC) := ownsRow_fr o1w f2 (fun _ _ q => q)
        have ow2 := I2.ow
        replace hsn := Lib.hid hsn
        replace hu := Lib.hid hu
        replace hou := Lib.hid hou
        replace bA2 := Lib.hid bA2
        replace I2 := Lib.hid I2
        replace hk4 := Lib.hid hk4
        replace hrp := Lib.hid hrp
        clear o1 o1' g1 f2 o1w hI1 bA1 hsp fA bA f1 hI c0 c1 c2 c3 c4 c5 d15
        go_wp2_with (first
          | (at_builtin; go_must (refine wpList_append_at _ rfl (.tmp 60) (.tmp 69) 48 rfl w.heap.size 69 i0 _ 4 64 Try.underlying48 hi0 hz0 hz1 hz2 rfl (by decide) _ k (U.flatMap RU.cs) rfl ow2 ⟨w1.heap.size, 0, none⟩ 1 1 [.int .i64 qa, .slice sa sn sc, .slice ua cl uc, .bool ql] rfl rfl cn (by intro x hx; simp only [List.mem_cons, List.not_mem_nil, or_false] at hx; rcases hx with rfl | rfl | rfl | rfl <;> rfl) ?_ ?_ hw2 ?_))
          | fail)
        · have := hk4.out; unfold maxLen; omega
        · have := hk4.out; omega
        intro v9 w9 o9 gr9 _
        obtain ⟨a9, c9, rfl⟩ := ownsRow_slice o9
        have f9 : Fr (rowB (.slice pa k pc)) (w1.alloc (.cells #[.int .i64 qa, .slice sa sn sc, .slice ua cl uc, .bool ql] 69)) w9 := (Fr.refl _ _).grown gr9 (fun k hk _ => hk)
        rw [← hu.out] at o9
        obtain ⟨bR, hfin⟩ := recj_next I2.out (RU.mk p S sa sc ua uc) hs.out hR.out hou.out hri.out o9 f9 (by have := hcb.out; omega) (by have := hcb.out; omega)
        have b19 := f9.blk I2.out.b1 (fun q => row_not I2.out.ow I2.out.b1 (by decide) q)
        have bp9 := f9.blk bA2.out (fun q => row_not I2.out.ow bA2.out (by decide) q)
        have s10 : Fr (onlyB sm) w9 (w9.setCell ⟨sm, 4, none⟩ (.slice a9 (k + 1) c9)) := (Fr.refl _ _).store (onlyB_self _)
        have bp10 := s10.blk bp9 (fun q => hrp.out q.symm)
        have k9 : w9.cell? ⟨sm, 4, none⟩ = some (.slice pa k pc) := b19.cell 4
        have z9 := b19.frozen 4
        clear o9 gr9 f9 s10 bp9 b19 ow2 cn hw2 ka kb0 kb4 kb5
        replace bp10 := Lib.hid bp10
        replace bR := Lib.hid bR
        replace hfin := Lib.hid hfin
        go_upto_region 10 with fail
        generalize (w9.setCell ⟨sm, 4, none⟩ (.slice a9 (k + 1) c9)) = w10 at *
        have q3 : w10.cell? ⟨sm, 3, none⟩ = some (.bool wh) := bR.out.cell 3
        have qz3 := bR.out.frozen 3
        have q5 : w10.cell? ⟨pb, 5, none⟩ = some (.bool ql) := bp10.out.cell 5
        cases wh with
        | true =>
          go_wp2_with fail
          go_roundg (N - (k + 1))
          case rel => exact ⟨k + 1, !ql, a9, c9, U ++ [RU.mk p S sa sc ua uc], hkn2.out, by go_num, Lib.hid (hfin.out _ (by show _ = (true && !p.lo); rw [hql.out]; rfl))⟩
          case measure => exact hmeas.out
        | false =>
          go_wp2_with fail
          go_roundg (N - (k + 1))
          case rel => exact ⟨k + 1, false, a9, c9, U ++ [RU.mk p S sa sc ua uc], hkn2.out, by go_num, Lib.hid (hfin.out _ rfl)⟩
          case measure => exact hmeas.out
      · obtain rfl : k = N := by omega
        have k0 := hI.out.b0.cell 0
        have k1 := hI.out.b0.cell 1
        have k2 := hI.out.b0.cell 2
        have k3 := hI.out.b0.cell 3
        have k4 := hI.out.b0.cell 4
        have z0 := hI.out.b0.frozen 0
        have z1 := hI.out.b0.frozen 1
        have z2 := hI.out.b0.frozen 2
        have z3 := hI.out.b0.frozen 3
        have z4 := hI.out.b0.frozen 4
        have r0 : wr.cell? ⟨sm, 0, none⟩ = some (.int .i64 r.tr) := hI.out.b1.cell 0
        have r1 : wr.cell? ⟨sm, 1, none⟩ = some (.int .i64 r.jb) := hI.out.b1.cell 1
        have r2 : wr.cell? ⟨sm, 2, none⟩ = some (.int .i64 c) := hI.out.b1.cell 2
        have r3 : wr.cell? ⟨sm, 3, none⟩ = some (.bool wh) := hI.out.b1.cell 3
        have r4 : wr.cell? ⟨sm, 4, none⟩ = some (.slice pa k pc) := hI.out.b1.cell 4
        replace fr := Lib.hid fr
        go_wp2_with fail
        obtain ⟨hb', hf', hs'⟩ := rec_set hI.out.b0 hI.out.fr (by have := hcb.out; omega) (.int .i64 r.tr) (.int .i64 r.jb) (.int .i64 c) (.bool wh) (.slice pa k pc)
        refine bodyPost_ret (rec_ret rfl _ _ (g := cb) (by rfl) hb' rfl) rfl ?_
        have htk : ps.take k = ps := List.take_of_length_le (by rw [hN.out]; exact Nat.le_refl _)
        have hwh := hI.out.hw
        have hup := hI.out.up
        rw [htk] at hwh hup
        refine ⟨hf', fun e => (by rw [hrec.out] at e; cases e), fun c' L e => ?_⟩
        rw [hrec.out] at e
        injection e with e
        injection e with e1 e2
        subst e1 e2
        refine ⟨.slice pa k pc, by rw [← hwh]; rfl, ?_⟩
        have hnb : ∀ {B e' z n : Nat} {v : Value} {xs : List Value}, wr.ownsRow B e' z v n xs → 50 ≠ e' → ∀ g, v.ownBlock = some g → ¬ onlyB cb g := fun ho hne g hg q => row_not ho hI.out.b0 hne (by unfold onlyB at q; subst q; exact hg)
        rw [← hup]
        have hul := hI.out.ul
        refine RdRP.of_own (B := w.heap.size) ?_ (fun u hu => ⟨RdSp.of_own (ownsRow_fr (hI.out.ou u hu) hs' (hnb (hI.out.ou u hu) (by decide))) rfl, (hI.out.oc u hu).frN hf'⟩) (by omega)
        rw [hul]
        exact ownsRow_fr hI.out.ow hs' (hnb hI.out.ow (by decide))
end Go.Proofs.Ytdfkjigkpcgngaa
