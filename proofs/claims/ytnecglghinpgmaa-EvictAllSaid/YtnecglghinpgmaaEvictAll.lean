/-
  What the law EvictAll walks.
-/
import Derived.Test.YtnecglghinpgmaaAllL
import Derived.Deep.DeepCutAuto
import Derived.Deep.LoopGhost
set_option linter.unusedVariables false
set_option linter.unusedSimpArgs false
namespace Go.Proofs.Ytnecglghinpgmaa
open Go.RowKit Go Go.Maps Go.Lib

theorem Rg.sub {w : World} {b r n : Nat} {L td : List (Int × SV)} (h : Rg Try.prog 3 klI mkS w b r n L td) {p : Int × SV} (hp : p ∈ td) : p ∈ L := by
  obtain ⟨es, left, cnt, _, _, _, _, hs, _⟩ := h
  exact hs p hp
/-- a span's three cells, new -/
theorem cell_new3 (w : World) (a b c : Value) (t : TypeId) : ∀ j u, [a, b, c][j]? = some u → (w.alloc (.cells #[a, b, c] t)).cell? ((⟨w.heap.size, 0, none⟩ : Addr).add j) = some u := by
  intro j u hj
  have hb := Blk.new w t [a, b, c]
  rw [Addr.add_mid, Nat.zero_add]
  have := hb.cell j
  rw [hj] at this
  exact this
/-- The state amid the law. -/
structure AI (w wr : World) (k g bp bl B N wc bm D j : Nat) (wa : Option Addr) (K : KS) (Y : Int → List Sp) (M : List (Int × SV)) : Prop where
  kp : Kp wr k g bp bl B N wa wc K
  wm : Wm wr bm D j Y M
  al : Al K Y
  off : ∀ q, kpS k g bp bl wa q → ¬ wmB bm M q
  lowk : ∀ q, kpS k g bp bl wa q → w.heap.size ≤ q
  lowm : w.heap.size ≤ bm
  p : K.pins.length ≤ j
  l : K.loss.length ≤ j
  o : K.gone.length ≤ j
  yl : ∀ t, (Y t).length ≤ j
  fr : Fr (fun q => w.heap.size ≤ q) w wr

set_option maxHeartbeats 16000000 in
set_option maxRecDepth 10000 in
theorem all_any (n0 sd : Int) (v : Value) (xs : List OpE) (w : World) (hn0 : (Lit.int .i64 n0).wf = true) (hs0 : (Lit.int .u64 sd).wf = true) (hv : SlR w v 3 IsOpE xs) :
    Calls Try.prog 5 #[.int .i64 n0, .int .u64 sd, v] w fun e w' => e = .returned (.bool true) ∧ Fr noB w w' := by
  obtain ⟨i0, hi0, hz0, hz1, hz2⟩ : ∃ i0, Try.prog.info? 35 = some i0 ∧ i0.zero = some (.agg #[.int .i64 0, .int .i64 0, .string (ByteArray.mk #[])]) ∧ i0.size = 3 ∧ i0.bytes = 32 := by
    have hI := infoSpan
    cases hq : Try.prog.info? 35 with
    | none => rw [hq] at hI; cases hI
    | some k => rw [hq] at hI; simp at hI; exact ⟨k, rfl, hI⟩
  obtain ⟨a, ha, ha0, ha1⟩ := umod n0 16 (by omega) (by omega)
  have hsd : U64 sd := wf_u64 hs0
  obtain ⟨N, hN⟩ : ∃ N : Nat, 1 + a = (N : Int) := ⟨(1 + a).toNat, by omega⟩
  have hN1 : 1 ≤ N := by omega
  have hN16 : N ≤ 16 := by omega
  have haw := fun w' => awake_any w'
  have hfw := fun w' (f : Fr noB w w') => few_any v xs w' (hv.frame f (fun _ _ q => q))
  obtain ⟨a9, c9, rfl, hx1, hx2, hx3⟩ := hv
  replace hfw := Lib.hid hfw
  replace hx3 := Lib.hid hx3
  have hmm := @run_makeMap Try.prog
  clear hn0 hs0
  cases hF : fewE xs with
  | false =>
    rw [hF] at hfw
    replace hF := Lib.hid hF
    go_enter Try.func5, Try.ntmps5
    go_wp2_with fail
    refine (haw _).mono ?_
    rintro e w1 ⟨rfl, f1⟩
    go_wp2_with fail
    refine (hfw.out _ f1).mono ?_
    rintro e w2 ⟨rfl, f2⟩
    go_wp2_with fail
    refine (haw _).mono ?_
    rintro e w3 ⟨rfl, f3⟩
    go_wp2_with fail
    go_ret
    exact ⟨rfl, (f1.seqN f2).seqN f3⟩
  | true =>
    rw [hF] at hfw
    have hlen : xs.length ≤ 200 := by
      unfold fewE at hF
      simp only [Bool.and_eq_true, decide_eq_true_eq] at hF
      exact hF.2
    replace hF := Lib.hid hF
    have hget : ∀ k, k < xs.length → ∃ m, xs[k]? = some m := fun k hk => ⟨xs[k], List.getElem?_eq_getElem hk⟩
    generalize hn : xs.length = n at *
    replace hn := Lib.hid hn
    replace hget := Lib.hid hget
    obtain ⟨hx1, _⟩ := hx1
    go_enter Try.func5, Try.ntmps5
    go_wp2_with fail
    refine (haw _).mono ?_
    rintro e w1 ⟨rfl, f1⟩
    go_wp2_with fail
    refine (hfw.out _ f1).mono ?_
    rintro e w2 ⟨rfl, f2⟩
    have g2 := f1.seqN f2
    have hnw := knew_any N sd w2 hN1 hN16 hsd
    clear haw hfw f1 f2
    go_wp2_with fail
    refine hnw.mono ?_
    rintro e w3 ⟨k, g, bp, bl, B, rfl, h3, f3, hk, hg, hp, hl⟩
    clear hnw
    have g3 := g2.seqN f3
    have fM := (Fr.refl noB w3).alloc (.map #[] 0)
    have m4 : Mp Try.prog 3 klI mkS (w3.alloc (.map #[] 0)) w3.heap.size 0 [] := Mp.made w3
    have sM : (w3.alloc (.map #[] 0)).heap.size = w3.heap.size + 1 := by simp
    have h4 := h3.frN fM
    have hw23 := g2.size
    have hw3s := g3.size
    have hoff0 : ∀ q, kpS k g bp bl none q → ¬ wmB w3.heap.size [] q := by
      intro q hq e
      have := h3.low hq
      rcases e with e | ⟨p, hp, _⟩
      · omega
      · cases hp
    have hlow0 : ∀ q, kpS k g bp bl none q → w.heap.size ≤ q := by
      intro q hq
      rcases hq with e | e | e | e | ⟨o, e⟩
      · omega
      · omega
      · omega
      · omega
      · cases e
    have wm0 : Wm (w3.alloc (.map #[] 0)) w3.heap.size (w3.heap.size + 1) 0 (fun _ => []) [] :=
      ⟨m4, (fun p hp => by cases hp), (fun _ _ => rfl), (fun p hp => by cases hp), by omega, by omega⟩
    have st0 : AI w (w3.alloc (.map #[] 0)) k g bp bl B N 0 w3.heap.size (w3.heap.size + 1) 0 none ⟨sd, [], [], [], []⟩ (fun _ => []) [] :=
      ⟨h4, wm0, al_new sd, hoff0, hlow0, by omega, Nat.le_refl _, Nat.le_refl _, Nat.le_refl _, (fun t => Nat.le_refl _), (g3.seqN fM).mono (fun _ _ q => False.elim q)⟩
    obtain ⟨bm, hbm⟩ : ∃ bm, w3.heap.size = bm := ⟨_, rfl⟩
    rw [hbm] at st0
    replace st0 := Lib.hid st0
    clear h3 f3 g2 g3 fM m4 sM h4 hw23 hw3s hk hg hp hl wm0 hoff0 hlow0
    go_wp2_with fail
    (try rw [hbm])
    replace hbm := Lib.hid hbm
    go_loopg [41] n (fun gk i wr => ∃ (q wc : Nat) (wa : Option Addr) (K : KS) (Y : Int → List Sp) (M : List (Int × SV)), q + gk = n ∧ i = .int .i64 q ∧ Hid (AI w wr k g bp bl B N wc bm (bm + 1) q wa K Y M))
    case atStart => exact ⟨0, 0, none, ⟨sd, [], [], [], []⟩, fun _ => [], [], by omega, rfl, st0⟩
    case round =>
      clear st0
      obtain ⟨q, wc, wa, K, Y, M, hgk, rfl, st⟩ := hrel
      by_cases hq : q < n
      · obtain ⟨m, hm⟩ := hget.out q hq
        obtain ⟨g9, o9, cs, rfl, _, hR, hcell⟩ := hx3.out q m hm
        have st' := st.out
        have hkl := hR.2.1
        have okt := hR.2.2.1
        have hc9 : ∀ j u, cs[j]? = some u → wr.cell? ⟨g9, o9 + (q * 3 + j), none⟩ = some u := fun j u hu => st'.fr.cell (hcell j u hu) (fun z => by have := lt_of_cell (hcell j u hu); omega)
        have c0 : wr.cell? ⟨g9, o9 + q * 3, none⟩ = some (.int .i64 m.k) := hc9 0 _ (by rw [hR.1]; rfl)
        have c1 : wr.cell? ⟨g9, o9 + q * 3 + 1, none⟩ = some (.int .i64 m.t) := hc9 1 _ (by rw [hR.1]; rfl)
        have c2 : wr.cell? ⟨g9, o9 + q * 3 + 2, none⟩ = some (.string m.s) := hc9 2 _ (by rw [hR.1]; rfl)
        have hb0 : (0 : Int) ≤ q := by omega
        have hb1 : (q : Int) < n := by omega
        have fA := (Fr.refl noB wr).alloc (.cells #[.int .i64 m.k, .int .i64 m.t, .string m.s] 33)
        have bA := Blk.new wr 33 [.int .i64 m.k, .int .i64 m.t, .string m.s]
        have hA := st'.kp.frN fA
        have hlo := klost_any k g bp bl B N wc wa K m.t _ hA okt
        clear hcell hc9 hR
        replace hm := Lib.hid hm
        go_wp2_with fail
        refine hlo.mono ?_
        rintro e w5 ⟨rfl, f5⟩
        have h5 := hA.frN f5
        have b5 := f5.blk bA (fun z => z)
        have wm5 := (st'.wm.frN fA).frN f5
        have fr5 := (st'.fr.seqN fA).seqN f5
        have hob := bA.lt
        have d0 : w5.cell? ⟨wr.heap.size, 0, none⟩ = some (.int .i64 m.k) := b5.cell 0
        have d1 : w5.cell? ⟨wr.heap.size, 1, none⟩ = some (.int .i64 m.t) := b5.cell 1
        have d2 : w5.cell? ⟨wr.heap.size, 2, none⟩ = some (.string m.s) := b5.cell 2
        have hdo := dk_any k g bp bl B N wc wa K m w5 h5 okt (by have := st'.p; omega) (by have := st'.l; omega) (by have := st'.o; omega)
        unfold spV at hdo
        have hwr := st'.fr.size
        have hmlow := fun z (hz : wmB bm M z) => st'.wm.low hz
        have hs5 := f5.size
        replace h5 := Lib.hid h5
        replace b5 := Lib.hid b5
        replace wm5 := Lib.hid wm5
        replace fr5 := Lib.hid fr5
        replace hmlow := Lib.hid hmlow
        generalize hob' : wr.heap.size = ob at *
        clear hlo c0 c1 c2 f5 hA fA bA st'
        replace hob' := Lib.hid hob'
        go_wp2_with fail
        refine hdo.mono ?_
        rintro e w6 ⟨rfl, kt⟩
        clear hdo d0 d1 d2
        obtain ⟨wa6, wc6, h6, hS6, f6⟩ := kstep (S := fun z => w.heap.size ≤ z ∧ ¬ wmB bm M z ∧ z ≠ ob) kt (fun z hz => ⟨st.out.lowk z hz, st.out.off z hz, by have := (st.out.kp.low hz); have := hob'.out; omega⟩) (fun z hz => ⟨by omega, fun e => by have := hmlow.out z e; omega, by omega⟩)
        have b6 := f6.blk b5.out (fun z => z.2.2 rfl)
        have wm6 := wm5.out.fr f6 (fun z hz e => e.2.1 hz)
        have fr6 : Fr (fun z => w.heap.size ≤ z) w w6 := fr5.out.trans f6 (fun _ _ z => z) (fun _ _ z => z.1)
        have al6 := al_op (N := N) (m := m) st.out.al st.out.kp.po.ris
        have ol := op_len N K m
        obtain ⟨sp, hsp⟩ : ∃ sp, K.os N m = sp := ⟨_, rfl⟩
        rw [hsp]
        replace hsp := Lib.hid hsp
        clear kt b5 wm5 fr5 h5
        by_cases hk1 : m.k = 1
        · by_cases he : K.we N m.t m.s = 0
          · have hoe : K.oe N m = 0 := (if_pos hk1).trans he
            have hos : K.ws N m.t m.s = sp := (show K.os N m = K.ws N m.t m.s from if_pos hk1).symm.trans hsp.out
            have hnl : m.t ∉ K.loss := fun z => we_lost z he
            have eY : nextY N K Y m = updY Y m.t (Y m.t ++ [sp]) := by rw [← hos]; exact if_pos ⟨hk1, he⟩
            rw [hoe, decide_eq_false hnl]
            rw [eY] at al6
            have e1 : (m.k == 1) = true := beq_iff_eq.2 hk1
            have e4 : (m.k == 4) = false := beq_eq_false_iff_ne.2 (by omega)
            go_upto_region 13 with fail
            have fS := (Fr.refl noB w6).alloc (.cells #[.int .i64 sp.t, .int .i64 sp.q, .string sp.x] 35)
            have bS := Blk.new w6 35 [.int .i64 sp.t, .int .i64 sp.q, .string sp.x]
            have h7 := h6.frN fS
            have b7 := fS.blk b6 (fun z => z)
            have wm7 := wm6.frN fS
            have fr7 := fr6.seqN fS
            have hlow7 := fun z (hz : wmB bm M z) => wm6.low hz
            have hlowk7 := fun z (hz : kpS k g bp bl wa6 z) => h6.low hz
            have hob7 := b6.lt
            have hs67 := bS.lt
            generalize hsb : w6.heap.size = sb at *
            generalize w6.alloc (.cells #[.int .i64 sp.t, .int .i64 sp.q, .string sp.x] 35) = w7 at *
            have d0 : w7.cell? ⟨ob, 0, none⟩ = some (.int .i64 m.k) := b7.cell 0
            have d1 : w7.cell? ⟨ob, 1, none⟩ = some (.int .i64 m.t) := b7.cell 1
            replace hsb := Lib.hid hsb
            replace h7 := Lib.hid h7
            replace wm7 := Lib.hid wm7
            replace fr7 := Lib.hid fr7
            replace al6 := Lib.hid al6
            replace b7 := Lib.hid b7
            replace bS := Lib.hid bS
            replace hS6 := Lib.hid hS6
            replace hlow7 := Lib.hid hlow7
            replace hlowk7 := Lib.hid hlowk7
            clear h6 f6 b6 wm6 fr6 fS
            obtain ⟨ya, yc, hyl0, hyo, hyb⟩ := wm7.out.at_key m.t
            have s0 : w7.cell? ⟨sb, 0, none⟩ = some (.int .i64 sp.t) := bS.out.cell 0
            have s1 : w7.cell? ⟨sb, 1, none⟩ = some (.int .i64 sp.q) := bS.out.cell 1
            have s2 : w7.cell? ⟨sb, 2, none⟩ = some (.string sp.x) := bS.out.cell 2
            have hyq := st.out.yl m.t
            have hMl : M.length ≤ q := wm7.out.mp.length
            replace eY := Lib.hid eY
            replace hk1 := Lib.hid hk1
            replace he := Lib.hid he
            replace hoe := Lib.hid hoe
            replace hos := Lib.hid hos
            replace hnl := Lib.hid hnl
            go_upto_region 16 with fail
            have eyl : ∀ u, (updY Y m.t (Y m.t ++ [sp]) u).length ≤ q + 1 := by
              intro u
              unfold updY
              split
              · simp; exact hyq
              · have := st.out.yl u; omega
            replace eyl := Lib.hid eyl
            go_cut [] (fun wx => ∃ M' : List (Int × SV), Kp wx k g bp bl B N wa6 wc6 (K.op N m) ∧ Wm wx bm (bm + 1) (q + 1) (updY Y m.t (Y m.t ++ [sp])) M' ∧ (∀ z, kpS k g bp bl wa6 z → w.heap.size ≤ z ∧ ¬ wmB bm M' z) ∧ Fr (fun z => w.heap.size ≤ z) w wx ∧ wx.cell? ⟨ob, 0, none⟩ = some (.int .i64 m.k) ∧ wx.cell? ⟨ob, 1, none⟩ = some (.int .i64 m.t))
            case first =>
              have hK7 := wm7.out.mp
              have r7 : (Instr.lookup 58 (.map (some bm)) (.int .i64 m.t) false).run Try.prog w7 = .ok (.slice ya (Y m.t).length yc) w7 := by
                have := hK7.run_look KI Try.underlying58 (zeroSp w7) mkS_inj m.t okt
                rw [hyl0] at this
                exact this
              have fB := (Fr.refl noB w7).alloc (.cells #[.int .i64 sp.t, .int .i64 sp.q, .string sp.x] 35)
              have rA : (Instr.lookup 58 (.map (some bm)) (.int .i64 m.t) false).run Try.prog (w7.alloc (.cells #[.int .i64 sp.t, .int .i64 sp.q, .string sp.x] 35)) = .ok (.slice ya (Y m.t).length yc) (w7.alloc (.cells #[.int .i64 sp.t, .int .i64 sp.q, .string sp.x] 35)) := by
                have := (hK7.fr fB (fun z => z)).run_look KI Try.underlying58 (zeroSp _) mkS_inj m.t okt
                rw [hyl0] at this
                exact this
              have rB : (Instr.lookup 58 (.map (some bm)) (.int .i64 m.t) false).run Try.prog (w7.alloc (.cells #[.int .i64 sp.t, .int .i64 sp.q, .string sp.x] 35)).drew = .ok (.slice ya (Y m.t).length yc) (w7.alloc (.cells #[.int .i64 sp.t, .int .i64 sp.q, .string sp.x] 35)).drew := by
                have := (hK7.fr fB.drew (fun z => z)).run_look KI Try.underlying58 (zeroSp _) mkS_inj m.t okt
                rw [hyl0] at this
                exact this
              have rD : (Instr.lookup 58 (.map (some bm)) (.int .i64 m.t) false).run Try.prog w7.drew = .ok (.slice ya (Y m.t).length yc) w7.drew := by
                have := (hK7.fr (Fr.refl noB w7).drew (fun z => z)).run_look KI Try.underlying58 (zeroSp _) mkS_inj m.t okt
                rw [hyl0] at this
                exact this
              have a1 := fB.cell d1 (fun z => z)
              have a3 := fB.cell s0 (fun z => z)
              have a4 := fB.cell s1 (fun z => z)
              have a5 := fB.cell s2 (fun z => z)
              have oB : (w7.alloc (.cells #[.int .i64 sp.t, .int .i64 sp.q, .string sp.x] 35)).drew.ownsRow (bm + 1) 35 3 (.slice ya (Y m.t).length yc) (Y m.t).length ((Y m.t).flatMap spC) := ownsRow_fr hyo fB.drew (fun _ _ z => z)
              have hN3 : ∀ j u, [Value.int .i64 sp.t, .int .i64 sp.q, .string sp.x][j]? = some u → (w7.alloc (.cells #[.int .i64 sp.t, .int .i64 sp.q, .string sp.x] 35)).drew.cell? ((⟨w7.heap.size, 0, none⟩ : Addr).add j) = some u := cell_new3 w7 _ _ _ 35
              have hDw := wm7.out.Dw
              have hmB := wm7.out.mB
              have hyB : ∀ b, (Value.slice ya (Y m.t).length yc).ownBlock = some b → b ≠ ob ∧ b ≠ bm ∧ wmB bm M b := fun b hb => by
                have h1 := (hyo.lt b hb).1
                have h2 := hlow7.out b (hyb b hb).1
                have h3 := (hyb b hb).1
                refine ⟨?_, by omega, h3⟩
                rcases h3 with e | e
                · omega
                · have := (hmlow.out b (Or.inr e)).1
                  omega
              have hmbl := (hmlow.out bm (Or.inl rfl)).1
              have fBr : Fr noB w7 (w7.alloc (.cells #[.int .i64 sp.t, .int .i64 sp.q, .string sp.x] 35)).drew := fB.drew
              have h1c : ∀ u ∈ [Value.int .i64 sp.t, .int .i64 sp.q, .string sp.x], u.oneCell' = true := spC_one sp
              generalize hyn : (Y m.t).length = yn at *
              replace hyn := Lib.hid hyn
              replace hyB := Lib.hid hyB
              replace hK7 := Lib.hid hK7
              replace fB := Lib.hid fB
              go_region_law (first
                | (refine step_append_at rfl (.tmp 78) (.tmp 80) 48 rfl (bm + 1) 35 i0 _ 3 32 Try.underlying48 hi0 hz0 hz1 hz2 rfl (by omega) (.slice ya yn yc) yn ((Y m.t).flatMap spC) (by simp [Act.eval, Act.put]) oB ⟨w7.heap.size, 0, none⟩ 1 1 [.int .i64 sp.t, .int .i64 sp.q, .string sp.x] (by simp [Act.eval, Act.put]) rfl hN3 h1c (by unfold maxLen; omega) (by omega) (by simp; omega) ?_; intro v8 w8 o8 gr8 mv8; obtain ⟨ya', yc', rfl⟩ := ownsRow_slice o8; have f8 : Fr (fun z => (Value.slice ya yn yc).ownBlock = some z) w7 w8 := (fBr.mono (fun _ _ z => False.elim z)).grown gr8 (fun z hz _ => hz); obtain ⟨w9, hput, mp9, f9⟩ := (hK7.out.fr f8 (fun z => (hyB.out _ z).2.1 rfl)).run_put KI Try.underlying58 mkS_inj (by unfold maxLen; omega) m.t (ya', yn + 1, yc') okt; have e81 : w8.cell? ⟨ob, 1, none⟩ = some (.int .i64 m.t) := f8.cell d1 (fun z => (hyB.out _ z).1 rfl); unfold mkS kvI at hput)
                | fail)
              all_goals (
                have yh := hyn.out
                subst yh
                obtain ⟨W9, hB9⟩ := wm7.out.put (w6 := w8) (w7 := w9) (wX := (w7.alloc (.cells #[.int .i64 sp.t, .int .i64 sp.q, .string sp.x] 35)).drew) m.t sp hyl0 fBr.size f8 o8 mv8 mp9 f9
                have hK9 := (h7.out.fr f8 (fun z hz e => (hS6.out z hz).2.1 (hyB.out z e).2.2)).fr f9 (fun z hz e => (hS6.out z hz).2.1 (Or.inl e))
                have hoff9 : ∀ z, kpS k g bp bl wa6 z → w.heap.size ≤ z ∧ ¬ wmB bm (withKey M m.t (ya', (Y m.t).length + 1, yc')) z := fun z hz => ⟨(hS6.out z hz).1, fun e => (hS6.out z hz).2.1 (hB9 z (by have := hlowk7.out z hz; omega) e)⟩
                have fr9 : Fr (fun z => w.heap.size ≤ z) w w9 := (fr7.out.trans f8 (fun _ _ z => z) (fun z hz e => by have := (hlow7.out z (hyB.out z e).2.2).2; have := st.out.lowm; omega)).trans f9 (fun _ _ z => z) (fun z hz e => by have := st.out.lowm; unfold onlyB at e; omega)
                have e90 : w9.cell? ⟨ob, 0, none⟩ = some (.int .i64 m.k) := f9.cell (f8.cell d0 (fun z => (hyB.out _ z).1 rfl)) (fun e => by unfold onlyB at e; omega)
                have e91 : w9.cell? ⟨ob, 1, none⟩ = some (.int .i64 m.t) := f9.cell e81 (fun e => by unfold onlyB at e; omega)
                go_wp2_with fail
                go_meet
                exact ⟨_, hK9, W9, hoff9, fr9, e90, e91⟩)
            case rest =>
              obtain ⟨M', hK, hW, hoff, frM, e90, e91⟩ := hcut
              clear d0 d1 s0 s1 s2 hyl0 hyo hyb h7 wm7 fr7
              obtain ⟨wM, hwm⟩ : ∃ x, x = wc := ⟨_, rfl⟩
              rw [← hwm] at hK hW frM e90 e91 ⊢
              clear hwm
              have hwM := Lib.hid frM.size
              replace hK := Lib.hid hK
              replace hW := Lib.hid hW
              replace hoff := Lib.hid hoff
              replace frM := Lib.hid frM
              have alM := al6
              have hyl := eyl
              generalize updY Y m.t (Y m.t ++ [sp]) = Y' at *
              have mpM := hW.out.mp
              have hr0 : ∀ z, kpS k g bp bl wa6 z → z < wM.heap.size := fun z hz => hK.out.low hz
              have hr1 : ∀ z, wmB bm M' z → z < wM.heap.size := fun z hz => (hW.out.low hz).1
              have hbmr : bm < wM.heap.size := hr1 bm (Or.inl rfl)
              replace hr0 := Lib.hid hr0
              replace hr1 := Lib.hid hr1
              go_wp2_with (first
                | (at_range; refine wpList_range_mp _ rfl _ 58 rfl KI Try.underlying58 mpM rfl ?_; intro wR rR fR sR)
                | fail)
              (try go_frame)
              generalize hr : wM.heap.size = r at *
              have fR2 : Fr (fun z => r ≤ z) wM wR := fR.mono (fun _ _ z => False.elim z)
              go_loopg [] (wR.rangeLeft bm r) (fun gq w8 => (∃ td, Rg Try.prog 3 klI mkS w8 bm r (q + 1) M' td) ∧ w8.rangeLeft bm r ≤ gq ∧ Fr (fun z => r ≤ z) wM w8)
              case atStart => exact ⟨⟨_, rR⟩, Nat.le_refl _, fR2⟩
              case round =>
                clear rR fR sR fR2 mpM
                obtain ⟨⟨td, rg⟩, hgq, fr8⟩ := hrel
                go_wp2_with (first
                  | (at_next; refine wpList_next_rg _ rfl rfl rfl _ rfl KI Try.underlying3 mkS_inj rg rfl ?_ ?_)
                  | fail)
                · intro htd
                  have stN : Hid (AI w _ k g bp bl B N wc6 bm (bm + 1) (q + 1) wa6 (K.op N m) Y' M') := Lib.hid ⟨hK.out.fr fr8 (fun z hz e => by have := hr0.out z hz; omega), hW.out.fr fr8 (fun z hz e => by have := hr1.out z hz; omega), alM.out, fun z hz => (hoff.out z hz).2, fun z hz => (hoff.out z hz).1, st.out.lowm, by have := ol.1; have := st.out.p; omega, by have := ol.2.1; have := st.out.l; omega, by have := ol.2.2; have := st.out.o; omega, hyl.out, frM.out.trans fr8 (fun _ _ z => z) (fun z hz e => by have := hwM.out; omega)⟩
                  clear rg fr8 htd hgq
                  go_wp2_with fail
                  go_roundg (n - q - 1)
                  case rel => exact ⟨q + 1, wc6, wa6, K.op N m, Y', M', by omega, by go_num, stN⟩
                  case measure => omega
                · intro x ce1 ce2 ce3 wb hwx hmx rb hltb fb sb2 hen
                  have hmem := rg.sub hmx
                  have fr9 : Fr (fun z => r ≤ z) wM wb := fr8.trans fb (fun _ _ z => z) (fun z hz e => by unfold onlyB at e; omega)
                  have hKb := hK.out.fr fr9 (fun z hz e => by have := hr0.out z hz; omega)
                  have hWb := hW.out.fr fr9 (fun z hz e => by have := hr1.out z hz; omega)
                  have okx : okI x := hwx
                  have hlo := klost_any k g bp bl B N wc6 wa6 (K.op N m) x wb hKb okx
                  have hsz9 := rb.lt
                  unfold mkS at hen
                  replace hKb := Lib.hid hKb
                  replace hWb := Lib.hid hWb
                  replace hmem := Lib.hid hmem
                  clear rg fr8 fb hmx
                  by_cases hxl : x ∈ (K.op N m).loss
                  · rw [decide_eq_true hxl] at hlo
                    replace hxl := Lib.hid hxl
                    go_wp2_with fail
                    refine hlo.mono ?_
                    rintro e w9 ⟨rfl, f9⟩
                    obtain ⟨rg9, rl9⟩ := rb.fr f9 (fun z => z) (fun z => z)
                    have fr10 := fr9.seqN f9
                    clear hlo hen rb
                    go_wp2_with fail
                    go_roundg (w9.rangeLeft bm r)
                    case rel => exact ⟨⟨_, rg9⟩, Nat.le_refl _, fr10⟩
                    case measure => omega
                  · rw [decide_eq_false hxl] at hlo
                    have hy : Y' x = spansOf x (txt (K.op N m).P x) := alM.out x hxl
                    replace hxl := Lib.hid hxl
                    go_wp2_with fail
                    refine hlo.mono ?_
                    rintro e w9 ⟨rfl, f9⟩
                    obtain ⟨rg9, rl9⟩ := rb.fr f9 (fun z => z) (fun z => z)
                    have fr10 := fr9.seqN f9
                    have hK9 := hKb.out.frN f9
                    have hsp9 := kspans_any k g bp bl B N wc6 wa6 (K.op N m) x w9 hK9
                    have hW9 := hWb.out.frN f9
                    have hrow9 := hW9.row _ hmem.out
                    simp only at hrow9
                    have hl9 := hK9.po.len x
                    replace hmem := Lib.hid hmem
                    clear hlo hen rb f9
                    go_wp2_with fail
                    refine hsp9.mono ?_
                    rintro e w10 ⟨u10, rfl, o10, f10⟩
                    obtain ⟨rg10, rl10⟩ := rg9.fr f10 (fun z => z) (fun z => z)
                    have fr11 := fr10.seqN f10
                    have hrd1 : RdSp w10 u10 (Y' x) := by
                      rw [hy]
                      exact RdSp.of_own o10 (by rw [spansOf_len]; omega) (spansOf_len _ _)
                    have hrd2 : RdSp w10 (.slice ce1 ce2 ce3) (Y' x) := (RdSp.of_own (ownsRow_fr hrow9.1 f10 (fun _ _ z => z)) (by rw [hy, spansOf_len]; omega) rfl)
                    have hsm := same_any u10 _ (Y' x) w10 hrd1 hrd2
                    clear hsp9 rg9 fr10 hK9 hW9 hrow9 f10 o10 hrd1 hrd2
                    replace hy := Lib.hid hy
                    go_wp2_with fail
                    refine hsm.mono ?_
                    rintro e w11 ⟨rfl, f11⟩
                    obtain ⟨rg11, rl11⟩ := rg10.fr f11 (fun z => z) (fun z => z)
                    have fr12 := fr11.seqN f11
                    clear hsm rg10 fr11 f11
                    go_wp2_with fail
                    go_roundg (w11.rangeLeft bm r)
                    case rel => exact ⟨⟨_, rg11⟩, Nat.le_refl _, fr12⟩
                    case measure => omega
          · have hl0 : K.oe N m = K.we N m.t m.s := if_pos hk1
            have hoe : K.oe N m ≠ 0 := hl0 ▸ he
            have eY : nextY N K Y m = Y := (if_neg (fun z => he z.2)).trans (if_neg (by omega))
            rw [eY] at al6
            have e1 : (m.k == 1) = true := beq_iff_eq.2 hk1
            have e4 : (m.k == 4) = false := beq_eq_false_iff_ne.2 (by omega)
            have hyl0 := st.out.yl
            generalize K.oe N m = er at *
            have e5 : (er == 0) = false := beq_eq_false_iff_ne.2 hoe
            generalize decide (m.t ∈ K.loss) = bo
            replace eY := Lib.hid eY
            replace hk1 := Lib.hid hk1
            replace he := Lib.hid he
            replace hl0 := Lib.hid hl0
            replace hoe := Lib.hid hoe
            cases bo
            all_goals (
              go_upto_region 13 with fail
              have fS := (Fr.refl noB w6).alloc (.cells #[.int .i64 sp.t, .int .i64 sp.q, .string sp.x] 35)
              have bS := Blk.new w6 35 [.int .i64 sp.t, .int .i64 sp.q, .string sp.x]
              have h7 := h6.frN fS
              have b7 := fS.blk b6 (fun z => z)
              have wm7 := wm6.frN fS
              have fr7 := fr6.seqN fS
              have hlow7 := fun z (hz : wmB bm M z) => wm6.low hz
              have hlowk7 := fun z (hz : kpS k g bp bl wa6 z) => h6.low hz
              have hob7 := b6.lt
              have hs67 := bS.lt
              generalize hsb : w6.heap.size = sb at *
              generalize w6.alloc (.cells #[.int .i64 sp.t, .int .i64 sp.q, .string sp.x] 35) = w7 at *
              have d0 : w7.cell? ⟨ob, 0, none⟩ = some (.int .i64 m.k) := b7.cell 0
              have d1 : w7.cell? ⟨ob, 1, none⟩ = some (.int .i64 m.t) := b7.cell 1
              replace hsb := Lib.hid hsb
              replace h7 := Lib.hid h7
              replace wm7 := Lib.hid wm7
              replace fr7 := Lib.hid fr7
              replace al6 := Lib.hid al6
              replace b7 := Lib.hid b7
              replace bS := Lib.hid bS
              replace hS6 := Lib.hid hS6
              replace hlow7 := Lib.hid hlow7
              replace hlowk7 := Lib.hid hlowk7
              clear h6 f6 b6 wm6 fr6 fS
              have hK := h7
              have wq := wm7.out
              have W9 : Wm w7 bm (bm + 1) (q + 1) Y M := ⟨wq.mp.mono (by omega), wq.row, wq.non, wq.apart, wq.mB, wq.Dw⟩
              have hW := Lib.hid W9
              have hoff : Hid (∀ z, kpS k g bp bl wa6 z → w.heap.size ≤ z ∧ ¬ wmB bm M z) := Lib.hid (fun z hz => ⟨(hS6.out z hz).1, (hS6.out z hz).2.1⟩)
              have hyl : Hid (∀ u, (Y u).length ≤ q + 1) := Lib.hid (fun u => by have := hyl0 u; omega)
              have alM := al6
              have frM := fr7
              have hwM : Hid (w.heap.size ≤ w7.heap.size) := Lib.hid fr7.out.size
              clear W9 wq hyl0
              have mpM := hW.out.mp
              have hr0 : ∀ z, kpS k g bp bl wa6 z → z < w7.heap.size := fun z hz => hK.out.low hz
              have hr1 : ∀ z, wmB bm M z → z < w7.heap.size := fun z hz => (hW.out.low hz).1
              have hbmr : bm < w7.heap.size := hr1 bm (Or.inl rfl)
              replace hr0 := Lib.hid hr0
              replace hr1 := Lib.hid hr1
              go_wp2_with (first
                | (at_range; refine wpList_range_mp _ rfl _ 58 rfl KI Try.underlying58 mpM rfl ?_; intro wR rR fR sR)
                | fail)
              (try go_frame)
              generalize hr : w7.heap.size = r at *
              have fR2 : Fr (fun z => r ≤ z) w7 wR := fR.mono (fun _ _ z => False.elim z)
              go_loopg [] (wR.rangeLeft bm r) (fun gq w8 => (∃ td, Rg Try.prog 3 klI mkS w8 bm r (q + 1) M td) ∧ w8.rangeLeft bm r ≤ gq ∧ Fr (fun z => r ≤ z) w7 w8)
              case atStart => exact ⟨⟨_, rR⟩, Nat.le_refl _, fR2⟩
              case round =>
                clear rR fR sR fR2 mpM
                obtain ⟨⟨td, rg⟩, hgq, fr8⟩ := hrel
                go_wp2_with (first
                  | (at_next; refine wpList_next_rg _ rfl rfl rfl _ rfl KI Try.underlying3 mkS_inj rg rfl ?_ ?_)
                  | fail)
                · intro htd
                  have stN : Hid (AI w _ k g bp bl B N wc6 bm (bm + 1) (q + 1) wa6 (K.op N m) Y M) := Lib.hid ⟨hK.out.fr fr8 (fun z hz e => by have := hr0.out z hz; omega), hW.out.fr fr8 (fun z hz e => by have := hr1.out z hz; omega), alM.out, fun z hz => (hoff.out z hz).2, fun z hz => (hoff.out z hz).1, st.out.lowm, by have := ol.1; have := st.out.p; omega, by have := ol.2.1; have := st.out.l; omega, by have := ol.2.2; have := st.out.o; omega, hyl.out, frM.out.trans fr8 (fun _ _ z => z) (fun z hz e => by have := hwM.out; omega)⟩
                  clear rg fr8 htd hgq
                  go_wp2_with fail
                  go_roundg (n - q - 1)
                  case rel => exact ⟨q + 1, wc6, wa6, K.op N m, Y, M, by omega, by go_num, stN⟩
                  case measure => omega
                · intro x ce1 ce2 ce3 wb hwx hmx rb hltb fb sb2 hen
                  have hmem := rg.sub hmx
                  have fr9 : Fr (fun z => r ≤ z) w7 wb := fr8.trans fb (fun _ _ z => z) (fun z hz e => by unfold onlyB at e; omega)
                  have hKb := hK.out.fr fr9 (fun z hz e => by have := hr0.out z hz; omega)
                  have hWb := hW.out.fr fr9 (fun z hz e => by have := hr1.out z hz; omega)
                  have okx : okI x := hwx
                  have hlo := klost_any k g bp bl B N wc6 wa6 (K.op N m) x wb hKb okx
                  have hsz9 := rb.lt
                  unfold mkS at hen
                  replace hKb := Lib.hid hKb
                  replace hWb := Lib.hid hWb
                  replace hmem := Lib.hid hmem
                  clear rg fr8 fb hmx
                  by_cases hxl : x ∈ (K.op N m).loss
                  · rw [decide_eq_true hxl] at hlo
                    replace hxl := Lib.hid hxl
                    go_wp2_with fail
                    refine hlo.mono ?_
                    rintro e w9 ⟨rfl, f9⟩
                    obtain ⟨rg9, rl9⟩ := rb.fr f9 (fun z => z) (fun z => z)
                    have fr10 := fr9.seqN f9
                    clear hlo hen rb
                    go_wp2_with fail
                    go_roundg (w9.rangeLeft bm r)
                    case rel => exact ⟨⟨_, rg9⟩, Nat.le_refl _, fr10⟩
                    case measure => omega
                  · rw [decide_eq_false hxl] at hlo
                    have hy : Y x = spansOf x (txt (K.op N m).P x) := alM.out x hxl
                    replace hxl := Lib.hid hxl
                    go_wp2_with fail
                    refine hlo.mono ?_
                    rintro e w9 ⟨rfl, f9⟩
                    obtain ⟨rg9, rl9⟩ := rb.fr f9 (fun z => z) (fun z => z)
                    have fr10 := fr9.seqN f9
                    have hK9 := hKb.out.frN f9
                    have hsp9 := kspans_any k g bp bl B N wc6 wa6 (K.op N m) x w9 hK9
                    have hW9 := hWb.out.frN f9
                    have hrow9 := hW9.row _ hmem.out
                    simp only at hrow9
                    have hl9 := hK9.po.len x
                    replace hmem := Lib.hid hmem
                    clear hlo hen rb f9
                    go_wp2_with fail
                    refine hsp9.mono ?_
                    rintro e w10 ⟨u10, rfl, o10, f10⟩
                    obtain ⟨rg10, rl10⟩ := rg9.fr f10 (fun z => z) (fun z => z)
                    have fr11 := fr10.seqN f10
                    have hrd1 : RdSp w10 u10 (Y x) := by
                      rw [hy]
                      exact RdSp.of_own o10 (by rw [spansOf_len]; omega) (spansOf_len _ _)
                    have hrd2 : RdSp w10 (.slice ce1 ce2 ce3) (Y x) := (RdSp.of_own (ownsRow_fr hrow9.1 f10 (fun _ _ z => z)) (by rw [hy, spansOf_len]; omega) rfl)
                    have hsm := same_any u10 _ (Y x) w10 hrd1 hrd2
                    clear hsp9 rg9 fr10 hK9 hW9 hrow9 f10 o10 hrd1 hrd2
                    replace hy := Lib.hid hy
                    go_wp2_with fail
                    refine hsm.mono ?_
                    rintro e w11 ⟨rfl, f11⟩
                    obtain ⟨rg11, rl11⟩ := rg10.fr f11 (fun z => z) (fun z => z)
                    have fr12 := fr11.seqN f11
                    clear hsm rg10 fr11 f11
                    go_wp2_with fail
                    go_roundg (w11.rangeLeft bm r)
                    case rel => exact ⟨⟨_, rg11⟩, Nat.le_refl _, fr12⟩
                    case measure => omega)
        · by_cases hk4 : m.k = 4
          · have eY : nextY N K Y m = updY Y m.t [] := (if_neg (fun z => hk1 z.1)).trans (if_pos hk4)
            rw [eY] at al6
            have e1 : (m.k == 1) = false := beq_eq_false_iff_ne.2 hk1
            have e4 : (m.k == 4) = true := beq_iff_eq.2 hk4
            have hyl0 := st.out.yl
            generalize K.oe N m = er
            generalize decide (m.t ∈ K.loss) = bo
            replace eY := Lib.hid eY
            replace hk1 := Lib.hid hk1
            replace hk4 := Lib.hid hk4
            go_upto_region 13 with fail
            have fS := (Fr.refl noB w6).alloc (.cells #[.int .i64 sp.t, .int .i64 sp.q, .string sp.x] 35)
            have bS := Blk.new w6 35 [.int .i64 sp.t, .int .i64 sp.q, .string sp.x]
            have h7 := h6.frN fS
            have b7 := fS.blk b6 (fun z => z)
            have wm7 := wm6.frN fS
            have fr7 := fr6.seqN fS
            have hlow7 := fun z (hz : wmB bm M z) => wm6.low hz
            have hlowk7 := fun z (hz : kpS k g bp bl wa6 z) => h6.low hz
            have hob7 := b6.lt
            have hs67 := bS.lt
            generalize hsb : w6.heap.size = sb at *
            generalize w6.alloc (.cells #[.int .i64 sp.t, .int .i64 sp.q, .string sp.x] 35) = w7 at *
            have d0 : w7.cell? ⟨ob, 0, none⟩ = some (.int .i64 m.k) := b7.cell 0
            have d1 : w7.cell? ⟨ob, 1, none⟩ = some (.int .i64 m.t) := b7.cell 1
            replace hsb := Lib.hid hsb
            replace h7 := Lib.hid h7
            replace wm7 := Lib.hid wm7
            replace fr7 := Lib.hid fr7
            replace al6 := Lib.hid al6
            replace b7 := Lib.hid b7
            replace bS := Lib.hid bS
            replace hS6 := Lib.hid hS6
            replace hlow7 := Lib.hid hlow7
            replace hlowk7 := Lib.hid hlowk7
            clear h6 f6 b6 wm6 fr6 fS
            have mp7 := wm7.out.mp
            go_upto_region 19 with (first
              | (at_delete; refine wpList_del_mp _ rfl _ _ 58 3 rfl KI Try.underlying58 mp7 m.t okt rfl rfl ?_; intro wM m9 f9)
              | fail)
            have e91 : wM.cell? ⟨ob, 1, none⟩ = some (.int .i64 m.t) := f9.cell d1 (fun e => by have := (hmlow.out bm (Or.inl rfl)).1; unfold onlyB at e; omega)
            obtain ⟨W9, hB9⟩ := wm7.out.del m.t m9 f9
            have wq := W9
            have W10 : Wm wM bm (bm + 1) (q + 1) (updY Y m.t []) (without M m.t) := ⟨wq.mp.mono (by omega), wq.row, wq.non, wq.apart, wq.mB, wq.Dw⟩
            have hK := Lib.hid (h7.out.fr f9 (fun z hz e => (hS6.out z hz).2.1 (Or.inl e)))
            have hoff : Hid (∀ z, kpS k g bp bl wa6 z → w.heap.size ≤ z ∧ ¬ wmB bm (without M m.t) z) := Lib.hid (fun z hz => ⟨(hS6.out z hz).1, fun e => (hS6.out z hz).2.1 (hB9 z e)⟩)
            have fr9 : Fr (fun z => w.heap.size ≤ z) w wM := fr7.out.trans f9 (fun _ _ z => z) (fun z hz e => by have := st.out.lowm; unfold onlyB at e; omega)
            have hyl : Hid (∀ u, (updY Y m.t [] u).length ≤ q + 1) := Lib.hid (fun u => by
              unfold updY
              split
              · simp
              · have := hyl0 u; omega)
            have hW := Lib.hid W10
            have alM := al6
            have hwM := Lib.hid fr9.size
            have frM := Lib.hid fr9
            clear W9 W10 wq hB9 m9 f9 fr9 hyl0 h7 wm7 fr7 d0 d1
            generalize updY Y m.t [] = Y' at *
            generalize without M m.t = M' at *
            have mpM := hW.out.mp
            have hr0 : ∀ z, kpS k g bp bl wa6 z → z < wM.heap.size := fun z hz => hK.out.low hz
            have hr1 : ∀ z, wmB bm M' z → z < wM.heap.size := fun z hz => (hW.out.low hz).1
            have hbmr : bm < wM.heap.size := hr1 bm (Or.inl rfl)
            replace hr0 := Lib.hid hr0
            replace hr1 := Lib.hid hr1
            go_wp2_with (first
              | (at_range; refine wpList_range_mp _ rfl _ 58 rfl KI Try.underlying58 mpM rfl ?_; intro wR rR fR sR)
              | fail)
            (try go_frame)
            generalize hr : wM.heap.size = r at *
            have fR2 : Fr (fun z => r ≤ z) wM wR := fR.mono (fun _ _ z => False.elim z)
            go_loopg [] (wR.rangeLeft bm r) (fun gq w8 => (∃ td, Rg Try.prog 3 klI mkS w8 bm r (q + 1) M' td) ∧ w8.rangeLeft bm r ≤ gq ∧ Fr (fun z => r ≤ z) wM w8)
            case atStart => exact ⟨⟨_, rR⟩, Nat.le_refl _, fR2⟩
            case round =>
              clear rR fR sR fR2 mpM
              obtain ⟨⟨td, rg⟩, hgq, fr8⟩ := hrel
              go_wp2_with (first
                | (at_next; refine wpList_next_rg _ rfl rfl rfl _ rfl KI Try.underlying3 mkS_inj rg rfl ?_ ?_)
                | fail)
              · intro htd
                have stN : Hid (AI w _ k g bp bl B N wc6 bm (bm + 1) (q + 1) wa6 (K.op N m) Y' M') := Lib.hid ⟨hK.out.fr fr8 (fun z hz e => by have := hr0.out z hz; omega), hW.out.fr fr8 (fun z hz e => by have := hr1.out z hz; omega), alM.out, fun z hz => (hoff.out z hz).2, fun z hz => (hoff.out z hz).1, st.out.lowm, by have := ol.1; have := st.out.p; omega, by have := ol.2.1; have := st.out.l; omega, by have := ol.2.2; have := st.out.o; omega, hyl.out, frM.out.trans fr8 (fun _ _ z => z) (fun z hz e => by have := hwM.out; omega)⟩
                clear rg fr8 htd hgq
                go_wp2_with fail
                go_roundg (n - q - 1)
                case rel => exact ⟨q + 1, wc6, wa6, K.op N m, Y', M', by omega, by go_num, stN⟩
                case measure => omega
              · intro x ce1 ce2 ce3 wb hwx hmx rb hltb fb sb2 hen
                have hmem := rg.sub hmx
                have fr9 : Fr (fun z => r ≤ z) wM wb := fr8.trans fb (fun _ _ z => z) (fun z hz e => by unfold onlyB at e; omega)
                have hKb := hK.out.fr fr9 (fun z hz e => by have := hr0.out z hz; omega)
                have hWb := hW.out.fr fr9 (fun z hz e => by have := hr1.out z hz; omega)
                have okx : okI x := hwx
                have hlo := klost_any k g bp bl B N wc6 wa6 (K.op N m) x wb hKb okx
                have hsz9 := rb.lt
                unfold mkS at hen
                replace hKb := Lib.hid hKb
                replace hWb := Lib.hid hWb
                replace hmem := Lib.hid hmem
                clear rg fr8 fb hmx
                by_cases hxl : x ∈ (K.op N m).loss
                · rw [decide_eq_true hxl] at hlo
                  replace hxl := Lib.hid hxl
                  go_wp2_with fail
                  refine hlo.mono ?_
                  rintro e w9 ⟨rfl, f9⟩
                  obtain ⟨rg9, rl9⟩ := rb.fr f9 (fun z => z) (fun z => z)
                  have fr10 := fr9.seqN f9
                  clear hlo hen rb
                  go_wp2_with fail
                  go_roundg (w9.rangeLeft bm r)
                  case rel => exact ⟨⟨_, rg9⟩, Nat.le_refl _, fr10⟩
                  case measure => omega
                · rw [decide_eq_false hxl] at hlo
                  have hy : Y' x = spansOf x (txt (K.op N m).P x) := alM.out x hxl
                  replace hxl := Lib.hid hxl
                  go_wp2_with fail
                  refine hlo.mono ?_
                  rintro e w9 ⟨rfl, f9⟩
                  obtain ⟨rg9, rl9⟩ := rb.fr f9 (fun z => z) (fun z => z)
                  have fr10 := fr9.seqN f9
                  have hK9 := hKb.out.frN f9
                  have hsp9 := kspans_any k g bp bl B N wc6 wa6 (K.op N m) x w9 hK9
                  have hW9 := hWb.out.frN f9
                  have hrow9 := hW9.row _ hmem.out
                  simp only at hrow9
                  have hl9 := hK9.po.len x
                  replace hmem := Lib.hid hmem
                  clear hlo hen rb f9
                  go_wp2_with fail
                  refine hsp9.mono ?_
                  rintro e w10 ⟨u10, rfl, o10, f10⟩
                  obtain ⟨rg10, rl10⟩ := rg9.fr f10 (fun z => z) (fun z => z)
                  have fr11 := fr10.seqN f10
                  have hrd1 : RdSp w10 u10 (Y' x) := by
                    rw [hy]
                    exact RdSp.of_own o10 (by rw [spansOf_len]; omega) (spansOf_len _ _)
                  have hrd2 : RdSp w10 (.slice ce1 ce2 ce3) (Y' x) := (RdSp.of_own (ownsRow_fr hrow9.1 f10 (fun _ _ z => z)) (by rw [hy, spansOf_len]; omega) rfl)
                  have hsm := same_any u10 _ (Y' x) w10 hrd1 hrd2
                  clear hsp9 rg9 fr10 hK9 hW9 hrow9 f10 o10 hrd1 hrd2
                  replace hy := Lib.hid hy
                  go_wp2_with fail
                  refine hsm.mono ?_
                  rintro e w11 ⟨rfl, f11⟩
                  obtain ⟨rg11, rl11⟩ := rg10.fr f11 (fun z => z) (fun z => z)
                  have fr12 := fr11.seqN f11
                  clear hsm rg10 fr11 f11
                  go_wp2_with fail
                  go_roundg (w11.rangeLeft bm r)
                  case rel => exact ⟨⟨_, rg11⟩, Nat.le_refl _, fr12⟩
                  case measure => omega
          · have eY : nextY N K Y m = Y := (if_neg (fun z => hk1 z.1)).trans (if_neg hk4)
            rw [eY] at al6
            have e1 : (m.k == 1) = false := beq_eq_false_iff_ne.2 hk1
            have e4 : (m.k == 4) = false := beq_eq_false_iff_ne.2 hk4
            have hyl0 := st.out.yl
            generalize K.oe N m = er
            generalize decide (m.t ∈ K.loss) = bo
            replace eY := Lib.hid eY
            replace hk1 := Lib.hid hk1
            replace hk4 := Lib.hid hk4
            go_upto_region 13 with fail
            have fS := (Fr.refl noB w6).alloc (.cells #[.int .i64 sp.t, .int .i64 sp.q, .string sp.x] 35)
            have bS := Blk.new w6 35 [.int .i64 sp.t, .int .i64 sp.q, .string sp.x]
            have h7 := h6.frN fS
            have b7 := fS.blk b6 (fun z => z)
            have wm7 := wm6.frN fS
            have fr7 := fr6.seqN fS
            have hlow7 := fun z (hz : wmB bm M z) => wm6.low hz
            have hlowk7 := fun z (hz : kpS k g bp bl wa6 z) => h6.low hz
            have hob7 := b6.lt
            have hs67 := bS.lt
            generalize hsb : w6.heap.size = sb at *
            generalize w6.alloc (.cells #[.int .i64 sp.t, .int .i64 sp.q, .string sp.x] 35) = w7 at *
            have d0 : w7.cell? ⟨ob, 0, none⟩ = some (.int .i64 m.k) := b7.cell 0
            have d1 : w7.cell? ⟨ob, 1, none⟩ = some (.int .i64 m.t) := b7.cell 1
            replace hsb := Lib.hid hsb
            replace h7 := Lib.hid h7
            replace wm7 := Lib.hid wm7
            replace fr7 := Lib.hid fr7
            replace al6 := Lib.hid al6
            replace b7 := Lib.hid b7
            replace bS := Lib.hid bS
            replace hS6 := Lib.hid hS6
            replace hlow7 := Lib.hid hlow7
            replace hlowk7 := Lib.hid hlowk7
            clear h6 f6 b6 wm6 fr6 fS
            have hK := h7
            have wq := wm7.out
            have W9 : Wm w7 bm (bm + 1) (q + 1) Y M := ⟨wq.mp.mono (by omega), wq.row, wq.non, wq.apart, wq.mB, wq.Dw⟩
            have hW := Lib.hid W9
            have hoff : Hid (∀ z, kpS k g bp bl wa6 z → w.heap.size ≤ z ∧ ¬ wmB bm M z) := Lib.hid (fun z hz => ⟨(hS6.out z hz).1, (hS6.out z hz).2.1⟩)
            have hyl : Hid (∀ u, (Y u).length ≤ q + 1) := Lib.hid (fun u => by have := hyl0 u; omega)
            have alM := al6
            have frM := fr7
            have hwM : Hid (w.heap.size ≤ w7.heap.size) := Lib.hid fr7.out.size
            clear W9 wq hyl0
            have mpM := hW.out.mp
            have hr0 : ∀ z, kpS k g bp bl wa6 z → z < w7.heap.size := fun z hz => hK.out.low hz
            have hr1 : ∀ z, wmB bm M z → z < w7.heap.size := fun z hz => (hW.out.low hz).1
            have hbmr : bm < w7.heap.size := hr1 bm (Or.inl rfl)
            replace hr0 := Lib.hid hr0
            replace hr1 := Lib.hid hr1
            go_wp2_with (first
              | (at_range; refine wpList_range_mp _ rfl _ 58 rfl KI Try.underlying58 mpM rfl ?_; intro wR rR fR sR)
              | fail)
            (try go_frame)
            generalize hr : w7.heap.size = r at *
            have fR2 : Fr (fun z => r ≤ z) w7 wR := fR.mono (fun _ _ z => False.elim z)
            go_loopg [] (wR.rangeLeft bm r) (fun gq w8 => (∃ td, Rg Try.prog 3 klI mkS w8 bm r (q + 1) M td) ∧ w8.rangeLeft bm r ≤ gq ∧ Fr (fun z => r ≤ z) w7 w8)
            case atStart => exact ⟨⟨_, rR⟩, Nat.le_refl _, fR2⟩
            case round =>
              clear rR fR sR fR2 mpM
              obtain ⟨⟨td, rg⟩, hgq, fr8⟩ := hrel
              go_wp2_with (first
                | (at_next; refine wpList_next_rg _ rfl rfl rfl _ rfl KI Try.underlying3 mkS_inj rg rfl ?_ ?_)
                | fail)
              · intro htd
                have stN : Hid (AI w _ k g bp bl B N wc6 bm (bm + 1) (q + 1) wa6 (K.op N m) Y M) := Lib.hid ⟨hK.out.fr fr8 (fun z hz e => by have := hr0.out z hz; omega), hW.out.fr fr8 (fun z hz e => by have := hr1.out z hz; omega), alM.out, fun z hz => (hoff.out z hz).2, fun z hz => (hoff.out z hz).1, st.out.lowm, by have := ol.1; have := st.out.p; omega, by have := ol.2.1; have := st.out.l; omega, by have := ol.2.2; have := st.out.o; omega, hyl.out, frM.out.trans fr8 (fun _ _ z => z) (fun z hz e => by have := hwM.out; omega)⟩
                clear rg fr8 htd hgq
                go_wp2_with fail
                go_roundg (n - q - 1)
                case rel => exact ⟨q + 1, wc6, wa6, K.op N m, Y, M, by omega, by go_num, stN⟩
                case measure => omega
              · intro x ce1 ce2 ce3 wb hwx hmx rb hltb fb sb2 hen
                have hmem := rg.sub hmx
                have fr9 : Fr (fun z => r ≤ z) w7 wb := fr8.trans fb (fun _ _ z => z) (fun z hz e => by unfold onlyB at e; omega)
                have hKb := hK.out.fr fr9 (fun z hz e => by have := hr0.out z hz; omega)
                have hWb := hW.out.fr fr9 (fun z hz e => by have := hr1.out z hz; omega)
                have okx : okI x := hwx
                have hlo := klost_any k g bp bl B N wc6 wa6 (K.op N m) x wb hKb okx
                have hsz9 := rb.lt
                unfold mkS at hen
                replace hKb := Lib.hid hKb
                replace hWb := Lib.hid hWb
                replace hmem := Lib.hid hmem
                clear rg fr8 fb hmx
                by_cases hxl : x ∈ (K.op N m).loss
                · rw [decide_eq_true hxl] at hlo
                  replace hxl := Lib.hid hxl
                  go_wp2_with fail
                  refine hlo.mono ?_
                  rintro e w9 ⟨rfl, f9⟩
                  obtain ⟨rg9, rl9⟩ := rb.fr f9 (fun z => z) (fun z => z)
                  have fr10 := fr9.seqN f9
                  clear hlo hen rb
                  go_wp2_with fail
                  go_roundg (w9.rangeLeft bm r)
                  case rel => exact ⟨⟨_, rg9⟩, Nat.le_refl _, fr10⟩
                  case measure => omega
                · rw [decide_eq_false hxl] at hlo
                  have hy : Y x = spansOf x (txt (K.op N m).P x) := alM.out x hxl
                  replace hxl := Lib.hid hxl
                  go_wp2_with fail
                  refine hlo.mono ?_
                  rintro e w9 ⟨rfl, f9⟩
                  obtain ⟨rg9, rl9⟩ := rb.fr f9 (fun z => z) (fun z => z)
                  have fr10 := fr9.seqN f9
                  have hK9 := hKb.out.frN f9
                  have hsp9 := kspans_any k g bp bl B N wc6 wa6 (K.op N m) x w9 hK9
                  have hW9 := hWb.out.frN f9
                  have hrow9 := hW9.row _ hmem.out
                  simp only at hrow9
                  have hl9 := hK9.po.len x
                  replace hmem := Lib.hid hmem
                  clear hlo hen rb f9
                  go_wp2_with fail
                  refine hsp9.mono ?_
                  rintro e w10 ⟨u10, rfl, o10, f10⟩
                  obtain ⟨rg10, rl10⟩ := rg9.fr f10 (fun z => z) (fun z => z)
                  have fr11 := fr10.seqN f10
                  have hrd1 : RdSp w10 u10 (Y x) := by
                    rw [hy]
                    exact RdSp.of_own o10 (by rw [spansOf_len]; omega) (spansOf_len _ _)
                  have hrd2 : RdSp w10 (.slice ce1 ce2 ce3) (Y x) := (RdSp.of_own (ownsRow_fr hrow9.1 f10 (fun _ _ z => z)) (by rw [hy, spansOf_len]; omega) rfl)
                  have hsm := same_any u10 _ (Y x) w10 hrd1 hrd2
                  clear hsp9 rg9 fr10 hK9 hW9 hrow9 f10 o10 hrd1 hrd2
                  replace hy := Lib.hid hy
                  go_wp2_with fail
                  refine hsm.mono ?_
                  rintro e w11 ⟨rfl, f11⟩
                  obtain ⟨rg11, rl11⟩ := rg10.fr f11 (fun z => z) (fun z => z)
                  have fr12 := fr11.seqN f11
                  clear hsm rg10 fr11 f11
                  go_wp2_with fail
                  go_roundg (w11.rangeLeft bm r)
                  case rel => exact ⟨⟨_, rg11⟩, Nat.le_refl _, fr12⟩
                  case measure => omega
      · obtain ⟨wo, rfl⟩ : ∃ wo : World, wo = wr := ⟨_, rfl⟩
        obtain rfl : q = n := by omega
        have st' := st.out
        go_wp2_with fail
        go_ret
        exact ⟨rfl, st'.fr.mono (fun i hi e => by unfold noB; omega)⟩
end Go.Proofs.Ytnecglghinpgmaa
