/-
  What the law EvictCoherent walks.
-/
import Derived.Test.YtnecglghinpgmaaCohW
import Derived.Deep.DeepCutAuto
import Derived.Deep.LoopGhost
set_option linter.unusedVariables false
set_option linter.unusedSimpArgs false
namespace Go.Proofs.Ytnecglghinpgmaa
open Go.RowKit Go Go.Maps Go.Lib

/-- The state amid the law. -/
structure CI (w wr : World) (k g bp bl B N wc j : Nat) (wa : Option Addr) (K : KS) (sd : Int) : Prop where
  s : K.sd = sd
  kp : Kp wr k g bp bl B N wa wc K
  lowk : ∀ q, kpS k g bp bl wa q → w.heap.size ≤ q
  p : K.pins.length ≤ j
  l : K.loss.length ≤ j
  o : K.gone.length ≤ j
  fr : Fr (fun q => w.heap.size ≤ q) w wr

set_option maxHeartbeats 16000000 in
set_option maxRecDepth 10000 in
theorem coherent_any (n0 sd : Int) (v : Value) (xs : List OpE) (w : World) (hn0 : (Lit.int .i64 n0).wf = true) (hs0 : (Lit.int .u64 sd).wf = true) (hv : SlR w v 3 IsOpE xs) :
    Calls Try.prog 4 #[.int .i64 n0, .int .u64 sd, v] w fun e w' => e = .returned (.bool true) ∧ Fr noB w w' := by
  obtain ⟨i0, hi0, hz0, hz1, hz2⟩ : ∃ i0, Try.prog.info? 35 = some i0 ∧ i0.zero = some (.agg #[.int .i64 0, .int .i64 0, .string (ByteArray.mk #[])]) ∧ i0.size = 3 ∧ i0.bytes = 32 := by
    have hI := infoSpan
    cases hq : Try.prog.info? 35 with
    | none => rw [hq] at hI; cases hI
    | some k => rw [hq] at hI; simp at hI; exact ⟨k, rfl, hI⟩
  obtain ⟨a, ha, ha0, ha1⟩ := umod n0 16 (by omega) (by omega)
  have hsd : U64 sd := wf_u64 hs0
  obtain ⟨N, hN⟩ : ∃ N : Nat, 1 + a = (N : Int) := ⟨(1 + a).toNat, by omega⟩
  have hN1 : 1 ≤ N := by omega
  have hN16 : N ≤ 16 := by omega
  have haw := fun w' => awake_any w'
  have hfw := fun w' (f : Fr noB w w') => few_any v xs w' (hv.frame f (fun _ _ q => q))
  obtain ⟨a9, c9, rfl, hx1, hx2, hx3⟩ := hv
  replace hfw := Lib.hid hfw
  replace hx3 := Lib.hid hx3
  have hmm := @run_makeMap Try.prog
  clear hn0 hs0
  cases hF : fewE xs with
  | false =>
    rw [hF] at hfw
    replace hF := Lib.hid hF
    go_enter Try.func4, Try.ntmps4
    go_wp2_with fail
    refine (haw _).mono ?_
    rintro e w1 ⟨rfl, f1⟩
    go_wp2_with fail
    refine (hfw.out _ f1).mono ?_
    rintro e w2 ⟨rfl, f2⟩
    go_wp2_with fail
    refine (haw _).mono ?_
    rintro e w3 ⟨rfl, f3⟩
    go_wp2_with fail
    go_ret
    exact ⟨rfl, (f1.seqN f2).seqN f3⟩
  | true =>
    rw [hF] at hfw
    have hlen : xs.length ≤ 200 := by
      unfold fewE at hF
      simp only [Bool.and_eq_true, decide_eq_true_eq] at hF
      exact hF.2
    replace hF := Lib.hid hF
    have hget : ∀ k, k < xs.length → ∃ m, xs[k]? = some m := fun k hk => ⟨xs[k], List.getElem?_eq_getElem hk⟩
    generalize hn : xs.length = n at *
    replace hn := Lib.hid hn
    replace hget := Lib.hid hget
    obtain ⟨hx1, _⟩ := hx1
    go_enter Try.func4, Try.ntmps4
    go_wp2_with fail
    refine (haw _).mono ?_
    rintro e w1 ⟨rfl, f1⟩
    go_wp2_with fail
    refine (hfw.out _ f1).mono ?_
    rintro e w2 ⟨rfl, f2⟩
    have g2 := f1.seqN f2
    have hnw := knew_any N sd w2 hN1 hN16 hsd
    clear haw hfw f1 f2
    go_wp2_with fail
    refine hnw.mono ?_
    rintro e w3 ⟨k, g, bp, bl, B, rfl, h3, f3, hk, hg, hp, hl⟩
    clear hnw
    have g3 := g2.seqN f3
    have hlow0 : ∀ q, kpS k g bp bl none q → w.heap.size ≤ q := by
      have hw23 := g2.size
      intro q hq
      rcases hq with e | e | e | e | ⟨o, e⟩
      · omega
      · omega
      · omega
      · omega
      · cases e
    have st0 : CI w w3 k g bp bl B N 0 0 none ⟨sd, [], [], [], []⟩ sd :=
      ⟨rfl, h3, hlow0, Nat.le_refl _, Nat.le_refl _, Nat.le_refl _, g3.mono (fun _ _ q => False.elim q)⟩
    replace st0 := Lib.hid st0
    clear h3 f3 g2 g3 hk hg hp hl hlow0
    go_wp2_with fail
    go_loopg [49] n (fun gk i wr => ∃ (q wc : Nat) (wa : Option Addr) (K : KS), q + gk = n ∧ i = .int .i64 q ∧ Hid (CI w wr k g bp bl B N wc q wa K sd))
    case atStart => exact ⟨0, 0, none, ⟨sd, [], [], [], []⟩, by omega, rfl, st0⟩
    case round =>
      clear st0
      obtain ⟨q, wc, wa, K, hgk, rfl, st⟩ := hrel
      by_cases hq : q < n
      · obtain ⟨m, hm⟩ := hget.out q hq
        obtain ⟨g9, o9, cs, rfl, _, hR, hcell⟩ := hx3.out q m hm
        have st' := st.out
        have hkl := hR.2.1
        have okt := hR.2.2.1
        have hc9 : ∀ j u, cs[j]? = some u → wr.cell? ⟨g9, o9 + (q * 3 + j), none⟩ = some u := fun j u hu => st'.fr.cell (hcell j u hu) (fun z => by have := lt_of_cell (hcell j u hu); omega)
        have c0 : wr.cell? ⟨g9, o9 + q * 3, none⟩ = some (.int .i64 m.k) := hc9 0 _ (by rw [hR.1]; rfl)
        have c1 : wr.cell? ⟨g9, o9 + q * 3 + 1, none⟩ = some (.int .i64 m.t) := hc9 1 _ (by rw [hR.1]; rfl)
        have c2 : wr.cell? ⟨g9, o9 + q * 3 + 2, none⟩ = some (.string m.s) := hc9 2 _ (by rw [hR.1]; rfl)
        have hb0 : (0 : Int) ≤ q := by omega
        have hb1 : (q : Int) < n := by omega
        have fA := (Fr.refl noB wr).alloc (.cells #[.int .i64 m.k, .int .i64 m.t, .string m.s] 33)
        have bA := Blk.new wr 33 [.int .i64 m.k, .int .i64 m.t, .string m.s]
        have hA := st'.kp.frN fA
        have hev := kevicted_any k g bp bl B N wc wa K _ hA (by have := st'.o; omega)
        clear hcell hc9 hR
        replace hm := Lib.hid hm
        go_wp2_with fail
        refine hev.mono ?_
        rintro e w5 ⟨u11, rfl, o5, f5⟩
        obtain ⟨a5, c5, rfl⟩ := ownsRow_slice o5
        have h5 := hA.frN f5
        have b5 := f5.blk bA (fun z => z)
        have fr5 := (st'.fr.seqN fA).seqN f5
        have hob := bA.lt
        have hs5 := f5.size
        have hwr := st'.fr.size
        clear hev o5 f5 hA fA bA c0 c1 c2
        have fM := (Fr.refl noB w5).alloc (.map #[] 0)
        have m6 : Mp Try.prog 3 klI mkS (w5.alloc (.map #[] 0)) w5.heap.size 0 [] := Mp.made w5
        have sM : (w5.alloc (.map #[] 0)).heap.size = w5.heap.size + 1 := by simp
        have h6 := h5.frN fM
        have b6 := fM.blk b5 (fun z => z)
        have fr6 := fr5.seqN fM
        have htr := ktraces_any k g bp bl B N wc wa K _ h6
        have hoff6 : ∀ z, kpS k g bp bl wa z → z < w5.heap.size := fun z hz => h5.low hz
        obtain ⟨bm, hbm⟩ : ∃ bm, w5.heap.size = bm := ⟨_, rfl⟩
        generalize hob' : wr.heap.size = ob at *
        rw [hbm] at m6 sM hoff6
        replace hob' := Lib.hid hob'
        replace h6 := Lib.hid h6
        replace b6 := Lib.hid b6
        replace fr6 := Lib.hid fr6
        replace m6 := Lib.hid m6
        replace sM := Lib.hid sM
        replace hoff6 := Lib.hid hoff6
        have hbl : ob < bm := by omega
        have hbw : w.heap.size ≤ bm := by omega
        clear h5 b5 fr5 fM st'
        go_wp2_with fail
        (try rw [hbm])
        refine htr.mono ?_
        rintro e w7 ⟨u58, rfl, o7, f7⟩
        have h7 := h6.out.frN f7
        have b7 := f7.blk b6.out (fun z => z)
        have fr7 := fr6.out.seqN f7
        have wm7 : Wm w7 bm (bm + 1) 0 (PY K []) [] := by
          rw [PY_nil]
          exact ⟨m6.out.fr f7 (fun z => z), (fun p hp => by cases hp), (fun _ _ => rfl), (fun p hp => by cases hp), by omega, by have := sM.out; have := f7.size; omega⟩
        have rd7 : RdI w7 u58 (K.P.map (·.1)) := RdI.of_own o7
        have hnA : (K.P.map (·.1)).length ≤ 16 := by rw [List.length_map]; exact h7.po.pl
        have hA7 := fun z hz => (o7.lt z hz).1
        have hrngA : ∀ t ∈ K.P.map (·.1), okI t := fun t ht => by
          obtain ⟨p, hp, rfl⟩ := List.mem_map.1 ht
          have := h7.po.rng p hp
          exact okI_of (by omega) (by omega)
        have hneA : ∀ t ∈ K.P.map (·.1), txt K.P t ≠ [] := fun t ht => by
          obtain ⟨p, hp, rfl⟩ := List.mem_map.1 ht
          rw [txt_of_mem h7.po.ris hp]
          exact h7.po.ne p hp
        have hA7b : ∀ g' o', (∃ n' c', u58 = .slice (some ⟨g', o', none⟩) n' c') → g' ≠ bm := fun g' o' ⟨n', c', e⟩ => by
          have := (o7.lt g' (by rw [e]; rfl)).1
          have := sM.out
          omega
        obtain ⟨aA, cA, rfl, _, hl2, hrd⟩ := rd7
        have hrdA : ∀ i, i < (K.P.map (·.1)).length → ∃ g' o', aA = some ⟨g', o', none⟩ ∧ g' ≠ bm ∧ w7.cell? ⟨g', o' + i, none⟩ = some (.int .i64 ((K.P.map (·.1)).getD i 0)) := fun i hi => by
          obtain ⟨g', o', e, hc⟩ := hrd i hi
          exact ⟨g', o', e, hA7b g' o' ⟨_, _, by rw [e]⟩, hc⟩
        have hget7 : ∀ i, i < (K.P.map (·.1)).length → (K.P.map (·.1)).getD i 0 ∈ K.P.map (·.1) ∧ (K.P.map (·.1)).take (i + 1) = (K.P.map (·.1)).take i ++ [(K.P.map (·.1)).getD i 0] := fun i hi => by
          have h1 : (K.P.map (·.1)).getD i 0 = (K.P.map (·.1))[i] := by rw [List.getD_eq_getElem?_getD, List.getElem?_eq_getElem hi]; rfl
          rw [h1]
          exact ⟨List.getElem_mem hi, by rw [List.take_add_one, List.getElem?_eq_getElem hi]; rfl⟩
        generalize hAe : K.P.map (·.1) = A at *
        generalize hnAe : A.length = nA at *
        replace hAe := Lib.hid hAe
        replace hnAe := Lib.hid hnAe
        replace h7 := Lib.hid h7
        replace b7 := Lib.hid b7
        replace fr7 := Lib.hid fr7
        replace hrdA := Lib.hid hrdA
        replace hget7 := Lib.hid hget7
        replace hrngA := Lib.hid hrngA
        replace hneA := Lib.hid hneA
        have sx0 : Hid (Wm w7 bm (bm + 1) 0 (PY K (A.take 0)) [] ∧ Fr (onlyB bm) w7 w7) := Lib.hid ⟨wm7, Fr.refl _ _⟩
        clear htr wm7 hrd hA7b hA7 o7 f7 m6 sM b6 fr6 h6 hl2
        go_wp2_with fail
        go_loopg [60] nA (fun gi i wx => ∃ (p : Nat) (M : List (Int × SV)), p + gi = nA ∧ i = .int .i64 p ∧ Hid (Wm wx bm (bm + 1) p (PY K (A.take p)) M ∧ Fr (onlyB bm) w7 wx))
        case atStart => exact ⟨0, [], by omega, rfl, sx0⟩
        case round =>
          clear sx0
          obtain ⟨p, M, hgp, rfl, sx⟩ := hrel
          by_cases hp : p < nA
          · obtain ⟨gA, oA, rfl, hne, hcA⟩ := hrdA.out p hp
            have hcx := sx.out.2.cell hcA hne
            obtain ⟨htA, htk⟩ := hget7.out p hp
            have okT := hrngA.out _ htA
            have hnT := hneA.out _ htA
            obtain ⟨tt, htt⟩ : ∃ tt, A.getD p 0 = tt := ⟨_, rfl⟩
            rw [htt] at hcx htA htk okT hnT
            have hKx := h7.out.fr sx.out.2 (fun z hz e => by have := hoff6.out z hz; unfold onlyB at e; omega)
            have hpi := kpinned_any k g bp bl B N wc wa K tt _ hKx okT
            have hp0 : (0 : Int) ≤ p := by omega
            have hp1 : (p : Int) < nA := by omega
            replace htt := Lib.hid htt
            replace htk := Lib.hid htk
            replace hnT := Lib.hid hnT
            clear hcA
            by_cases htp : tt ∈ K.pins
            · rw [decide_eq_true htp] at hpi
              replace htp := Lib.hid htp
              go_wp2_with fail
              refine hpi.mono ?_
              rintro e w8 ⟨rfl, f8⟩
              have hsp := kspans_any k g bp bl B N wc wa K tt w8 (hKx.frN f8)
              have wm8 := sx.out.1.frN f8
              clear hpi hcx
              replace hKx := Lib.hid hKx
              go_wp2_with fail
              refine hsp.mono ?_
              rintro e w9 ⟨u9, rfl, o10, f9⟩
              obtain ⟨a10, c10, rfl⟩ := ownsRow_slice o10
              have mp9 := (wm8.frN f9).mp
              clear hsp
              replace o10 := Lib.hid o10
              go_wp2_with (first
                | (at_mapUpdate; refine wpList_put_mp _ rfl _ _ _ 58 rfl KI Try.underlying58 mkS_inj mp9 (by unfold maxLen; omega) tt (a10, (txt K.P tt).length, c10) okT rfl rfl rfl ?_; intro wy my fy)
                | fail)
              have key := wm8.set tt (spansOf tt (txt K.P tt)) (by intro e; have := congrArg List.length e; rw [spansOf_len] at this; exact hnT.out (List.eq_nil_of_length_eq_zero this)) (s := (a10, (txt K.P tt).length, c10)) f9 (by rw [spansOf_len]; exact o10.out) my fy
              rw [PY_in htp.out, ← htk.out] at key
              have sy : Hid (Wm wy bm (bm + 1) (p + 1) (PY K (A.take (p + 1))) _ ∧ Fr (onlyB bm) w7 wy) := Lib.hid ⟨key.1, ((sx.out.2.seqN f8).seqN f9).trans fy (fun _ _ z => z) (fun _ _ z => z)⟩
              clear key wm8 mp9 my fy f8 f9
              go_wp2_with fail
              go_roundg (nA - p - 1)
              case rel => exact ⟨p + 1, _, by omega, by go_num, sy⟩
              case measure => omega
            · rw [decide_eq_false htp] at hpi
              have ePY : PY K (A.take (p + 1)) = PY K (A.take p) := by rw [htk.out]; exact PY_out htp
              replace htp := Lib.hid htp
              go_wp2_with fail
              refine hpi.mono ?_
              rintro e w8 ⟨rfl, f8⟩
              have wm8 := sx.out.1.frN f8
              have sy : Hid (Wm w8 bm (bm + 1) (p + 1) (PY K (A.take (p + 1))) M ∧ Fr (onlyB bm) w7 w8) := Lib.hid ⟨by rw [ePY]; exact ⟨wm8.mp.mono (by omega), wm8.row, wm8.non, wm8.apart, wm8.mB, wm8.Dw⟩, sx.out.2.seqN f8⟩
              clear hpi hcx wm8 f8 ePY
              go_wp2_with fail
              go_roundg (nA - p - 1)
              case rel => exact ⟨p + 1, _, by omega, by go_num, sy⟩
              case measure => omega
          · obtain rfl : p = nA := by omega
            have wmx : Wm wr bm (bm + 1) p (PY K A) M := by
              have := sx.out.1
              rw [show A.take p = A from List.take_of_length_le (by have := hnAe.out; omega)] at this
              exact this
            have hx := h7.out.fr sx.out.2 (fun z hz e => by have := hoff6.out z hz; unfold onlyB at e; omega)
            have bx := sx.out.2.blk b7.out (fun e => by unfold onlyB at e; omega)
            have frx := fr7.out.trans sx.out.2 (fun _ _ z => z) (fun z _ e => by unfold onlyB at e; omega)
            have d0 : wr.cell? ⟨ob, 0, none⟩ = some (.int .i64 m.k) := bx.cell 0
            have d1 : wr.cell? ⟨ob, 1, none⟩ = some (.int .i64 m.t) := bx.cell 1
            have d2 : wr.cell? ⟨ob, 2, none⟩ = some (.string m.s) := bx.cell 2
            have hdo := dk_any k g bp bl B N wc wa K m _ hx okt (by have := st.out.p; omega) (by have := st.out.l; omega) (by have := st.out.o; omega)
            unfold spV at hdo
            have hkz : ∀ z, kpS k g bp bl wa z → z < ob := fun z hz => by have := st.out.kp.low hz; have := hob'.out; omega
            have hobx := bx.lt
            have hwx := frx.size
            replace hkz := Lib.hid hkz
            replace hx := Lib.hid hx
            replace bx := Lib.hid bx
            replace frx := Lib.hid frx
            replace wmx := Lib.hid wmx
            clear sx hrdA hget7 h7 b7 fr7
            go_wp2_with fail
            refine hdo.mono ?_
            rintro e w8 ⟨rfl, kt⟩
            obtain ⟨wa6, wc6, h8, hS8, f8⟩ := kstep (S := fun z => w.heap.size ≤ z ∧ ¬ wmB bm M z ∧ z ≠ ob) kt (fun z hz => ⟨st.out.lowk z hz, (fun e => by have := (wmx.out.low e).2; have := hkz.out z hz; omega), by have := hkz.out z hz; omega⟩) (fun z hz => ⟨by omega, fun e => by have := (wmx.out.low e).1; omega, by omega⟩)
            have wm8 := wmx.out.fr f8 (fun z hz e => e.2.1 hz)
            have b8 := f8.blk bx.out (fun e => e.2.2 rfl)
            have fr8 : Fr (fun z => w.heap.size ≤ z) w w8 := frx.out.trans f8 (fun _ _ z => z) (fun _ _ z => z.1)
            have ol := op_len N K m
            have coh := coh_op N K m
            have hG1 := nowGone_len N K m
            have hev := kevicted_any k g bp bl B N wc6 wa6 (K.op N m) w8 h8 (by have := st.out.o; have := ol.2.2; omega)
            generalize nowGone N K m = G at *
            have hGl : (K.op N m).gone.length = K.gone.length + G.length := by rw [coh.gone, List.length_append]
            rw [hGl] at hev
            replace coh := Lib.hid coh
            replace wm8 := Lib.hid wm8
            replace b8 := Lib.hid b8
            replace fr8 := Lib.hid fr8
            replace h8 := Lib.hid h8
            replace hS8 := Lib.hid hS8
            clear kt hdo d0 d1 d2 f8 hGl hx bx
            generalize hg0 : K.gone.length = ng at *
            replace hg0 := Lib.hid hg0
            go_upto_region 19 with fail
            go_cut [15] (fun v15 wx => (∃ a c, v15 = .slice a G.length c ∧ ∀ i, i < G.length → ∃ g' o', a = some ⟨g', o', none⟩ ∧ wx.cell? ⟨g', o' + i, none⟩ = some (.int .i64 (G.getD i 0))) ∧ Fr noB w8 wx)
            case first =>
              go_wp2_with fail
              refine hev.mono ?_
              rintro e w9 ⟨u77, rfl, o9', f9⟩
              have hrd9 := RdI.of_own o9'
              rcases o9'.2 with ⟨hu, hn0⟩ | ⟨gg, cap, cur, rfl, _, _, hnc, hcm, _, _⟩
              · obtain rfl : ng = 0 := by omega
                obtain rfl : G = [] := List.eq_nil_of_length_eq_zero (by omega)
                subst hu
                clear hev hrd9 o9'
                go_wp2_with fail
                go_meet
                exact ⟨⟨none, 0, rfl, fun i hi => by simp at hi⟩, f9⟩
              · have hc : ∀ i, i < G.length → w9.cell? ⟨gg, ng + i, none⟩ = some (.int .i64 (G.getD i 0)) := fun i hi => by
                  obtain ⟨a', c', e1, _, _, h3⟩ := hrd9
                  have hl : (K.op N m).gone.length = ng + G.length := by rw [coh.out.gone, List.length_append, hg0.out]
                  obtain ⟨g', o', e2, h4⟩ := h3 (ng + i) (by omega)
                  simp only [Value.slice.injEq] at e1
                  rw [← e1.1] at e2
                  simp only [Option.some.injEq, Addr.mk.injEq] at e2
                  obtain ⟨rfl, rfl, _⟩ := e2
                  rw [Nat.zero_add, coh.out.gone, List.getD_eq_getElem?_getD, List.getElem?_append_right (by have := hg0.out; omega), show ng + i - K.gone.length = i from by have := hg0.out; omega, ← List.getD_eq_getElem?_getD] at h4
                  exact h4
                replace hc := Lib.hid hc
                clear hev hrd9 o9'
                go_wp2_with fail
                all_goals (
                  go_meet
                  refine ⟨⟨_, _, rfl, fun i hi => ?_⟩, f9⟩
                  first
                    | (rw [if_neg (by omega)]; exact ⟨gg, ng, rfl, hc.out i hi⟩)
                    | exact ⟨gg, ng, rfl, hc.out i hi⟩
                    | (exfalso; omega))
            case rest =>
              obtain ⟨⟨a15, c15, rfl, hrd⟩, f9⟩ := hcut
              obtain ⟨w9, hw9⟩ : ∃ x, x = wc := ⟨_, rfl⟩
              rw [← hw9] at hrd f9 ⊢
              clear hw9 hev
              replace hrd := Lib.hid hrd
              generalize hGl : G.length = nG at *
              replace hGl := Lib.hid hGl
              replace f9 := Lib.hid f9
              have f90 : Hid (Fr noB w9 w9) := Lib.hid (Fr.refl _ _)
              go_wp2_with fail
              go_loopg [82] nG (fun gi i wx => ∃ p3 : Nat, p3 + gi = nG ∧ i = .int .i64 p3 ∧ Hid (Fr noB w9 wx))
              case atStart => exact ⟨0, by omega, rfl, f90⟩
              case round =>
                clear f90
                obtain ⟨p3, hgp, rfl, fx⟩ := hrel
                by_cases hp3 : p3 < nG
                · obtain ⟨gG, oG, rfl, hcG⟩ := hrd.out p3 hp3
                  have hcg := fx.out.cell hcG (fun z => z)
                  have f9x := f9.out.seqN fx.out
                  have hgG : G.getD p3 0 ∈ G := by
                    have h1 : p3 < G.length := by have := hGl.out; omega
                    rw [List.getD_eq_getElem?_getD, List.getElem?_eq_getElem h1]
                    exact List.getElem_mem h1
                  obtain ⟨gv, hgv⟩ : ∃ gv, G.getD p3 0 = gv := ⟨_, rfl⟩
                  rw [hgv] at hcg hgG
                  have hwx9 := wm8.out.frN f9x
                  have hlk : look M gv = none := by
                    cases hl : look M gv with
                    | none => rfl
                    | some s => exact absurd (show PY K A gv = [] from if_neg (fun z => coh.out.free gv hgG z.2)) (hwx9.row _ (look_some hl)).2
                  have hgl := coh.out.lost gv hgG
                  have hK9 := h8.out.frN f9x
                  have hgr := (hK9.lost gv hgl).2
                  have okg : okI gv := okI_of (by omega) (by omega)
                  have hrun := hwx9.mp.run_look_ok KI Try.underlying58 (zeroSp _) mkS_inj gv okg
                  rw [hlk] at hrun
                  unfold kvI mkS at hrun
                  simp only [Option.getD, Option.isSome] at hrun
                  have hlo := klost_any k g bp bl B N wc6 wa6 (K.op N m) gv _ hK9 okg
                  rw [decide_eq_true hgl] at hlo
                  have hp0 : (0 : Int) ≤ p3 := by omega
                  have hp1 : (p3 : Int) < nG := by omega
                  replace hgv := Lib.hid hgv
                  replace hgG := Lib.hid hgG
                  replace hgl := Lib.hid hgl
                  replace hlk := Lib.hid hlk
                  replace hwx9 := Lib.hid hwx9
                  replace hK9 := Lib.hid hK9
                  clear hcG f9x
                  go_wp2_with fail
                  refine hlo.mono ?_
                  rintro e wA ⟨rfl, fA⟩
                  have hKA := hK9.out.frN fA
                  have htr := ktraces_any k g bp bl B N wc6 wa6 (K.op N m) _ hKA
                  clear hlo hrun hcg
                  go_wp2_with fail
                  refine htr.mono ?_
                  rintro e wB ⟨u100, rfl, oB, fB⟩
                  have hKB := hKA.frN fB
                  have wmB1 := (hwx9.out.frN fA).frN fB
                  have fxB := (fx.out.seqN fA).seqN fB
                  have rdB : RdI wB u100 ((K.op N m).P.map (·.1)) := RdI.of_own oB
                  have hnB : ((K.op N m).P.map (·.1)).length ≤ 16 := by rw [List.length_map]; exact hKB.po.pl
                  have hrngB : ∀ t ∈ (K.op N m).P.map (·.1), 1 ≤ t ∧ t ≤ 65535 := fun t ht => by
                    obtain ⟨z, hz, rfl⟩ := List.mem_map.1 ht
                    exact hKB.po.rng z hz
                  have hless : ∀ t ∈ (K.op N m).P.map (·.1), look M t = none → lessB sd t gv = false := fun t ht hl => by
                    have hq := coh.out.least gv hgG.out t ht (fun z => by
                      have h1 : PY K A t = [] := hwx9.out.non t hl
                      have h2 : t ∈ A := by rw [← hAe.out]; exact z.1
                      unfold PY at h1
                      rw [if_pos ⟨h2, z.2⟩] at h1
                      have h3 := congrArg List.length h1
                      rw [spansOf_len] at h3
                      exact hneA.out t h2 (List.eq_nil_of_length_eq_zero h3))
                    rw [st.out.s] at hq
                    exact hq
                  obtain ⟨aB, cB, rfl, _, hl4, hrdB⟩ := rdB
                  have hgetB : ∀ i, i < ((K.op N m).P.map (·.1)).length → ((K.op N m).P.map (·.1)).getD i 0 ∈ (K.op N m).P.map (·.1) := fun i hi => by
                    rw [List.getD_eq_getElem?_getD, List.getElem?_eq_getElem hi]
                    exact List.getElem_mem hi
                  generalize (K.op N m).P.map (·.1) = A4 at *
                  generalize hn4 : A4.length = n4 at *
                  have okgI : I64 gv := ⟨by omega, by omega⟩
                  replace hn4 := Lib.hid hn4
                  replace hrdB := Lib.hid hrdB
                  replace hgetB := Lib.hid hgetB
                  replace hless := Lib.hid hless
                  replace hrngB := Lib.hid hrngB
                  replace wmB1 := Lib.hid wmB1
                  replace fxB := Lib.hid fxB
                  have f40 : Hid (Fr noB wB wB) := Lib.hid (Fr.refl _ _)
                  clear htr oB fB fA hKA hKB hl4
                  go_wp2_with fail
                  go_loopg [102] n4 (fun gi i wx => ∃ p4 : Nat, p4 + gi = n4 ∧ i = .int .i64 p4 ∧ Hid (Fr noB wB wx))
                  case atStart => exact ⟨0, by omega, rfl, f40⟩
                  case round =>
                    clear f40
                    obtain ⟨p4, hgp4, rfl, fy⟩ := hrel
                    by_cases hp4 : p4 < n4
                    · obtain ⟨g4, o4, rfl, hc4⟩ := hrdB.out p4 hp4
                      have hct := fy.out.cell hc4 (fun z => z)
                      have htm := hgetB.out p4 hp4
                      obtain ⟨tv, htv⟩ : ∃ tv, A4.getD p4 0 = tv := ⟨_, rfl⟩
                      rw [htv] at hct htm
                      have hrt := hrngB.out tv htm
                      have okt4 : okI tv := okI_of (by omega) (by omega)
                      have wm4 := wmB1.out.frN fy.out
                      have hrun := wm4.mp.run_look_ok KI Try.underlying58 (zeroSp _) mkS_inj tv okt4
                      have hp0' : (0 : Int) ≤ p4 := by omega
                      have hp1' : (p4 : Int) < n4 := by omega
                      have hlt := hless.out tv htm
                      replace htv := Lib.hid htv
                      clear hc4
                      cases hl : look M tv with
                      | some s4 =>
                        rw [hl] at hrun
                        unfold kvI mkS at hrun
                        simp only [Option.getD, Option.isSome] at hrun
                        replace hl := Lib.hid hl
                        clear hlt
                        go_wp2_with fail
                        go_roundg (n4 - p4 - 1)
                        case rel => exact ⟨p4 + 1, by omega, by go_num, fy⟩
                        case measure => omega
                      | none =>
                        have hlb := hlt hl
                        rw [hl] at hrun
                        unfold kvI mkS at hrun
                        simp only [Option.getD, Option.isSome] at hrun
                        replace hl := Lib.hid hl
                        have hrl := fun w' => rless_any sd tv gv w' hsd ⟨by omega, by omega⟩ okgI
                        rw [hlb] at hrl
                        clear hlt
                        go_wp2_with fail
                        refine (hrl _).mono ?_
                        rintro e wC ⟨rfl, fC⟩
                        have fz := Lib.hid (fy.out.seqN fC)
                        clear hrl hrun
                        go_wp2_with fail
                        go_roundg (n4 - p4 - 1)
                        case rel => exact ⟨p4 + 1, by omega, by go_num, fz⟩
                        case measure => omega
                    · obtain rfl : p4 = n4 := by omega
                      have fz := Lib.hid (fxB.out.seqN fy.out)
                      go_wp2_with fail
                      go_roundg (nG - p3 - 1)
                      case rel => exact ⟨p3 + 1, by omega, by go_num, fz⟩
                      case measure => omega
                · obtain rfl : p3 = nG := by omega
                  have f5x := f9.out.seqN fx.out
                  have hK5 := h8.out.frN f5x
                  have hW5 := wm8.out.frN f5x
                  have b5x := f5x.blk b8.out (fun z => z)
                  have d0 : wr.cell? ⟨ob, 0, none⟩ = some (.int .i64 m.k) := b5x.cell 0
                  have fr5 := fr8.out.seqN f5x
                  have hbm5 := (hW5.low (Or.inl rfl)).1
                  have mp5 := hW5.mp
                  have hob5 := b5x.lt
                  have hlowK := fun z hz => hK5.low (q := z) hz
                  have hwm5 : w.heap.size ≤ wr.heap.size := fr5.size
                  replace hK5 := Lib.hid hK5
                  replace hW5 := Lib.hid hW5
                  replace b5x := Lib.hid b5x
                  replace fr5 := Lib.hid fr5
                  replace hlowK := Lib.hid hlowK
                  clear f5x fx
                  go_wp2_with (first
                    | (at_range; refine wpList_range_mp _ rfl _ 58 rfl KI Try.underlying58 mp5 rfl ?_; intro wR rR fR sR)
                    | fail)
                  (try go_frame)
                  generalize hr : wr.heap.size = r at *
                  have fR2 : Fr (fun z => r ≤ z) wr wR := fR.mono (fun _ _ z => False.elim z)
                  go_loopg [] (wR.rangeLeft bm r) (fun gq w8' => (∃ td, Rg Try.prog 3 klI mkS w8' bm r p M td) ∧ w8'.rangeLeft bm r ≤ gq ∧ Fr (fun z => r ≤ z) wr w8')
                  case atStart => exact ⟨⟨_, rR⟩, Nat.le_refl _, fR2⟩
                  case round =>
                    clear rR fR sR fR2 mp5
                    obtain ⟨⟨td, rg⟩, hgq, fr8'⟩ := hrel
                    go_wp2_with (first
                      | (at_next; refine wpList_next_rg _ rfl rfl rfl _ rfl KI Try.underlying3 mkS_inj rg rfl ?_ ?_)
                      | fail)
                    · intro htd
                      have hKr := hK5.out.fr fr8' (fun z hz e => by have := hlowK.out z hz; omega)
                      have hku := kused_any k g bp bl B N wc6 wa6 (K.op N m) _ hKr
                      have hle := hKr.po.le
                      have hd : decide ((N : Int) < (used (K.op N m).P : Int)) = false := by simp; omega
                      obtain ⟨us, hus⟩ : ∃ us, used (K.op N m).P = us := ⟨_, rfl⟩
                      rw [hus] at hku hle hd
                      replace hus := Lib.hid hus
                      have hd2 : ¬ (N : Int) < (us : Int) := by omega
                      have hsd6 : (K.op N m).sd = sd := by rw [← st.out.s]; unfold KS.op; repeat' split
                                                           all_goals first | rfl | (unfold KS.wr; repeat' split) <;> rfl
                      have frr := fr5.out.trans fr8' (fun _ _ z => z) (fun z hz e => by omega)
                      replace hKr := Lib.hid hKr
                      clear rg htd hgq fr8'
                      go_wp2_with fail
                      refine hku.mono ?_
                      rintro e wU ⟨rfl, fU⟩
                      have stN : Hid (CI w wU k g bp bl B N wc6 (q + 1) wa6 (K.op N m) sd) := Lib.hid ⟨hsd6, hKr.out.frN fU, fun z hz => (hS8.out z hz).1, by have := ol.1; have := st.out.p; omega, by have := ol.2.1; have := st.out.l; omega, by have := ol.2.2; have := st.out.o; have := hg0.out; omega, frr.seqN fU⟩
                      clear hku hle
                      go_wp2_with fail
                      go_roundg (n - q - 1)
                      case rel => exact ⟨q + 1, wc6, wa6, K.op N m, by omega, by go_num, stN⟩
                      case measure => omega
                    · intro x ce1 ce2 ce3 wb hwx hmx rb hltb fb sb2 hen
                      have hmem := rg.mp
                      have hin : (x, (ce1, ce2, ce3)) ∈ M := by
                        obtain ⟨es, left, cnt, _, _, _, _, hs, _⟩ := rg
                        exact hs _ hmx
                      have fr9 := Fr.trans (U := fun z => r ≤ z) fr8' fb (fun _ _ z => z) (fun z hz e => by unfold onlyB at e; omega)
                      have hKb := hK5.out.fr fr9 (fun z hz e => by have := hlowK.out z hz; omega)
                      have hWb := hW5.out.fr fr9 (fun z hz e => by have := (hW5.out.low hz).1; omega)
                      have d0b : wb.cell? ⟨ob, 0, none⟩ = some (.int .i64 m.k) := (fr9.blk b5x.out (fun e => by omega)).cell 0
                      have hrow := hWb.row _ hin
                      have hxl := hKb.po.len x
                      have hxA : x ∈ A ∧ x ∈ K.pins := by
                        have h1 := hrow.2
                        unfold PY at h1
                        by_cases hc : x ∈ A ∧ x ∈ K.pins
                        · exact hc
                        · rw [if_neg hc] at h1; exact absurd rfl h1
                      have hy0 : PY K A x = spansOf x (txt K.P x) := if_pos hxA
                      unfold mkS at hen
                      replace hmem := Lib.hid hmem
                      clear rg fr8' fb hmx
                      by_cases hk4 : m.k = 4
                      · have e4 : (m.k == 4) = true := beq_iff_eq.2 hk4
                        replace hk4 := Lib.hid hk4
                        replace hy0 := Lib.hid hy0
                        clear hrow hxl hxA hKb hWb
                        go_wp2_with fail
                        go_roundg (wb.rangeLeft bm r)
                        case rel => exact ⟨⟨_, rb⟩, Nat.le_refl _, fr9⟩
                        case measure => omega
                      · have e4 : (m.k == 4) = false := beq_eq_false_iff_ne.2 hk4
                        have hy : PY K A x = spansOf x (txt (K.op N m).P x) := by rw [coh.out.stay hk4 x hxA.2]; exact hy0
                        have hsp9 := kspans_any k g bp bl B N wc6 wa6 (K.op N m) x wb hKb
                        replace hk4 := Lib.hid hk4
                        replace hy0 := Lib.hid hy0
                        replace hy := Lib.hid hy
                        replace hrow := Lib.hid hrow
                        replace hxA := Lib.hid hxA
                        clear hKb hWb
                        go_wp2_with fail
                        refine hsp9.mono ?_
                        rintro e w10 ⟨u10, rfl, o10, f10⟩
                        obtain ⟨rg10, rl10⟩ := rb.fr f10 (fun z => z) (fun z => z)
                        have fr11 := fr9.seqN f10
                        have hrd1 : RdSp w10 u10 (PY K A x) := by
                          rw [hy.out]
                          exact RdSp.of_own o10 (by rw [spansOf_len]; omega) (spansOf_len _ _)
                        have hrd2 : RdSp w10 (.slice ce1 ce2 ce3) (PY K A x) := RdSp.of_own (ownsRow_fr hrow.out.1 f10 (fun _ _ z => z)) (by show (PY K A x).length ≤ _; rw [hy.out, spansOf_len]; omega) rfl
                        have hsm := same_any u10 _ (PY K A x) w10 hrd1 hrd2
                        clear hsp9 o10 hrd1 hrd2 f10 hen d0b rb
                        go_wp2_with fail
                        refine hsm.mono ?_
                        rintro e w11 ⟨rfl, f11⟩
                        obtain ⟨rg11, rl11⟩ := rg10.fr f11 (fun z => z) (fun z => z)
                        have fr12 := fr11.seqN f11
                        clear hsm rg10 fr11 f11
                        go_wp2_with fail
                        go_roundg (w11.rangeLeft bm r)
                        case rel => exact ⟨⟨_, rg11⟩, Nat.le_refl _, fr12⟩
                        case measure => omega
      · obtain ⟨wo, rfl⟩ : ∃ wo : World, wo = wr := ⟨_, rfl⟩
        obtain rfl : q = n := by omega
        have st' := st.out
        go_wp2_with fail
        go_ret
        exact ⟨rfl, st'.fr.mono (fun i hi e => by unfold noB; omega)⟩
end Go.Proofs.Ytnecglghinpgmaa
