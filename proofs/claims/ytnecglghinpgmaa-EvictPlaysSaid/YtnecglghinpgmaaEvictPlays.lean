/-
  What the law EvictPlays walks.
-/
import Derived.Test.YtnecglghinpgmaaRefKW
import Derived.Test.YtnecglghinpgmaaEvictNil
import Derived.Deep.CutBlock
set_option linter.unusedVariables false
set_option linter.unusedSimpArgs false
namespace Go.Proofs.Ytnecglghinpgmaa
open Go.RowKit Go Go.Maps Go.Lib

theorem rkwrite_any (k g B N : Nat) (K : KS) (t : Int) (x : ByteArray) (T : Nat → Prop) (w : World) (h : Rx w k g B N K T) (hTl : ∀ q, T q → q < w.heap.size)
    (hz : K.pins.length < 1000000) (hzl : K.loss.length < 1000000) (hzg : K.gone.length < 1000000) (hsd : U64 K.sd) (hrng : ∀ y ∈ K.P.map (·.1), 1 ≤ y ∧ y ≤ 65535) (hra : noRoom N K.P t → mayL K ≠ [] → goes K t ≠ t → ¬ noRoom N (without K.P (goes K t)) t) :
    Calls Try.prog 13 #[.pointer (some ⟨k, 0, none⟩), .int .i64 t, .string x] w fun e w' => e = .returned (.tuple #[spV (K.ws N t x), .int .i64 (K.we N t x)]) ∧ Rx w' k g B N (K.wr N t x) (nx T w w') ∧ Fr T w w' := by
  have same : ∀ w', Fr noB w w' → Rx w' k g B N K (nx T w w') ∧ Fr T w w' := fun w' f => ⟨(h.frN f).mono (fun q _ e => Or.inl e), f.mono (fun _ _ q => False.elim q)⟩
  by_cases hb : mayB t x = false
  · have e1 : K.we N t x = 1 := by unfold KS.we; rw [if_pos hb]
    have e2 : K.wr N t x = K := by unfold KS.wr; rw [if_pos hb]
    have e3 : K.ws N t x = sp0 := by unfold KS.ws; rw [if_neg (by rw [e1]; decide)]
    rw [e1, e2, e3]
    exact (rkw_bad k t x w hb).mono fun e w' ⟨he, f⟩ => ⟨he, same w' f⟩
  · have hb' : mayB t x = true := by simpa using hb
    by_cases hl : t ∈ K.loss
    · have e1 : K.we N t x = 10 := by unfold KS.we; rw [if_neg hb, if_pos hl]
      have e2 : K.wr N t x = K := by unfold KS.wr; rw [if_neg hb, if_pos hl]
      have e3 : K.ws N t x = sp0 := by unfold KS.ws; rw [if_neg (by rw [e1]; decide)]
      rw [e1, e2, e3]
      obtain ⟨vp, vl, vg, S, h1, _⟩ := h
      exact (rkw_lost k g B N K vp vl vg S t x w h1 hb' hl).mono fun e w' ⟨he, f⟩ => ⟨he, same w' f⟩
    · by_cases hp : t ∈ K.pins
      · have e1 : K.we N t x = 12 := by unfold KS.we; rw [if_neg hb, if_neg hl, if_pos hp]
        have e2 : K.wr N t x = K := by unfold KS.wr; rw [if_neg hb, if_neg hl, if_pos hp]
        have e3 : K.ws N t x = sp0 := by unfold KS.ws; rw [if_neg (by rw [e1]; decide)]
        rw [e1, e2, e3]
        obtain ⟨vp, vl, vg, S, h1, _⟩ := h
        exact (rkw_pin k g B N K vp vl vg S t x w h1 hb' hl hp).mono fun e w' ⟨he, f⟩ => ⟨he, same w' f⟩
      · exact rkw_go k g B N K t x T w h hTl hb' hl hp hz hzl hzg hsd hrng hra

/-- Of: a row that reads as the trace's spans -/
theorem rof_rd (g B N : Nat) (P : TP) (vt vs : Value) (V : List Value) (t : Int) (w : World) (h : Rq w g B N P vt vs V) :
    Calls Try.prog 22 #[.pointer (some ⟨g, 0, none⟩), .int .i64 t] w fun e w' => ∃ v, e = .returned v ∧ RdSp w v (spansOf t (txt P t)) ∧ w' = w := by
  obtain ⟨r, hr⟩ := AtT.ex P t
  rcases hr with ⟨j, p, hj, hp, _⟩ | ⟨hn, _⟩
  · subst hp
    have hjl := (List.getElem?_eq_some_iff.1 hj).1
    have hv : V[j]? = some (V[j]'(by rw [h.rd.1]; exact hjl)) := List.getElem?_eq_getElem _
    have h48 := h.xl (List.mem_of_getElem? hj)
    refine (rof_at g B N P vt vs V j p _ w h hj hv).mono ?_
    rintro e w' ⟨rfl, hw⟩
    rw [txt_at h.ris hj]
    exact ⟨_, rfl, RdSp.of_own (h.rd.2 j p _ hj hv) (by rw [spansOf_len]; omega) (spansOf_len _ _), hw⟩
  · refine (rof_no g B N P vt vs V t w h hn).mono ?_
    rintro e w' ⟨rfl, hw⟩
    rw [txt_no hn]
    exact ⟨_, rfl, ⟨none, 0, rfl, by simp [spansOf], fun i s hi => by simp [spansOf] at hi⟩, hw⟩
theorem sameInts_same (v u : Value) (xs : List Int) (w : World) (hv : RdI w v xs) (hu : RdI w u xs) :
    Calls Try.prog 25 #[v, u] w fun e w' => e = .returned (.bool true) ∧ Fr noB w w' := by
  refine (sameInts_any v u xs xs w hv hu).mono ?_
  rintro e w' ⟨rfl, q, hw⟩
  exact ⟨by simp, by rw [hw]; exact (Fr.refl noB w).drewN q⟩

theorem wrapS (z : Int) (h0 : 0 ≤ z) (h1 : z ≤ 1000) : IntKind.i64.wrap z = z := by rw [IntKind.wrap_i64]; omega
theorem wrapS6 (z : Int) (h0 : 0 ≤ z) (h1 : z ≤ 1000) : wrap64 z = z := IntWalk.wrap64_in _ (by omega)
/-- the state amid the law -/
structure AP (w wr : World) (k g bp bl B N wc kr gr Br q : Nat) (wa : Option Addr) (K : KS) (T : Nat → Prop) : Prop where
  kp : Kp wr k g bp bl B N wa wc K
  rx : Rx wr kr gr Br N K T
  sep : ∀ z, kpS k g bp bl wa z → ¬ T z
  lowk : ∀ z, kpS k g bp bl wa z → w.heap.size ≤ z
  lowT : ∀ z, T z → w.heap.size ≤ z ∧ z < wr.heap.size
  p : K.pins.length ≤ q
  l : K.loss.length ≤ q
  o : K.gone.length ≤ q
  sd : U64 K.sd
  fr : Fr (fun z => w.heap.size ≤ z) w wr
theorem op_sd (N : Nat) (K : KS) (m : OpE) : (K.op N m).sd = K.sd := by
  unfold KS.op
  by_cases h1 : m.k = 1
  · rw [if_pos h1]
    unfold KS.wr
    repeat' split
    all_goals rfl
  rw [if_neg h1]
  repeat' split
  all_goals rfl

set_option maxHeartbeats 8000000 in
set_option maxRecDepth 10000 in
theorem plays_no (n0 sd : Int) (v : Value) (xs : List OpE) (w : World) (hn0 : n0 < 1 ∨ 16 < n0) (hv : SlR w v 3 IsOpE xs) :
    Calls Try.prog 3 #[.int .i64 n0, .int .u64 sd, v] w fun e w' => e = .returned (.bool true) ∧ Fr noB w w' := by
  have haw := fun w' => awake_any w'
  have hfw := fun w' (f : Fr noB w w') => few_any v xs w' (hv.frame f (fun _ _ q => q))
  have hnw := fun w' => knew_no n0 sd w' hn0
  clear hv
  replace hfw := Lib.hid hfw
  obtain ⟨b1, b2, hd1, hd2, hor⟩ : ∃ b1 b2, decide (n0 < 1) = b1 ∧ decide ((16 : Int) < n0) = b2 ∧ (b1 || b2) = true := ⟨_, _, rfl, rfl, by simpa using hn0⟩
  clear hn0
  cases hF : fewE xs with
  | false =>
    rw [hF] at hfw
    replace hF := Lib.hid hF
    go_enter Try.func3, Try.ntmps3
    go_wp2_with fail
    refine (haw _).mono ?_
    rintro e w1 ⟨rfl, f1⟩
    go_wp2_with fail
    refine (hfw.out _ f1).mono ?_
    rintro e w2 ⟨rfl, f2⟩
    go_wp2_with fail
    refine (haw _).mono ?_
    rintro e w3 ⟨rfl, f3⟩
    go_wp2_with fail
    go_ret
    exact ⟨rfl, (f1.seqN f2).seqN f3⟩
  | true =>
    rw [hF] at hfw
    replace hF := Lib.hid hF
    rcases b1 with _ | _ <;> rcases b2 with _ | _ <;> first | (exact absurd hor (by decide)) | (
      clear hor
      go_enter Try.func3, Try.ntmps3
      go_wp2_with fail
      refine (haw _).mono ?_
      rintro e w1 ⟨rfl, f1⟩
      go_wp2_with fail
      refine (hfw.out _ f1).mono ?_
      rintro e w2 ⟨rfl, f2⟩
      go_wp2_with fail
      refine (hnw _).mono ?_
      rintro e w3 ⟨rfl, hw3⟩
      obtain rfl := hw3.symm
      clear hw3
      go_wp2_with fail
      go_ret
      exact ⟨rfl, f1.seqN f2⟩)

set_option maxHeartbeats 16000000 in
set_option maxRecDepth 10000 in
theorem plays_yes (N : Nat) (sd : Int) (v : Value) (xs : List OpE) (w : World) (hN1 : 1 ≤ N) (hN16 : N ≤ 16) (hs0 : (Lit.int .u64 sd).wf = true) (hv : SlR w v 3 IsOpE xs) :
    Calls Try.prog 3 #[.int .i64 N, .int .u64 sd, v] w fun e w' => e = .returned (.bool true) ∧ Fr noB w w' := by
  have hsd : U64 sd := wf_u64 hs0
  have haw := fun w' => awake_any w'
  have hfw := fun w' (f : Fr noB w w') => few_any v xs w' (hv.frame f (fun _ _ q => q))
  obtain ⟨a9, c9, rfl, hx1, hx2, hx3⟩ := hv
  replace hfw := Lib.hid hfw
  replace hx3 := Lib.hid hx3
  have hd1 : decide ((N : Int) < 1) = false := by simp; omega
  have hd2 : decide ((16 : Int) < (N : Int)) = false := by simp; omega
  clear hs0
  cases hF : fewE xs with
  | false =>
    rw [hF] at hfw
    replace hF := Lib.hid hF
    go_enter Try.func3, Try.ntmps3
    go_wp2_with fail
    refine (haw _).mono ?_
    rintro e w1 ⟨rfl, f1⟩
    go_wp2_with fail
    refine (hfw.out _ f1).mono ?_
    rintro e w2 ⟨rfl, f2⟩
    go_wp2_with fail
    refine (haw _).mono ?_
    rintro e w3 ⟨rfl, f3⟩
    go_wp2_with fail
    go_ret
    exact ⟨rfl, (f1.seqN f2).seqN f3⟩
  | true =>
    rw [hF] at hfw
    have hlen : xs.length ≤ 200 := by
      unfold fewE at hF
      simp only [Bool.and_eq_true, decide_eq_true_eq] at hF
      exact hF.2
    replace hF := Lib.hid hF
    have hget : ∀ k, k < xs.length → ∃ m, xs[k]? = some m := fun k hk => ⟨xs[k], List.getElem?_eq_getElem hk⟩
    generalize hn : xs.length = n at *
    replace hn := Lib.hid hn
    replace hget := Lib.hid hget
    obtain ⟨hx1, _⟩ := hx1
    go_enter Try.func3, Try.ntmps3
    go_wp2_with fail
    refine (haw _).mono ?_
    rintro e w1 ⟨rfl, f1⟩
    go_wp2_with fail
    refine (hfw.out _ f1).mono ?_
    rintro e w2 ⟨rfl, f2⟩
    have g2 := f1.seqN f2
    have hnw := knew_any N sd w2 hN1 hN16 hsd
    clear haw hfw f1 f2
    go_wp2_with fail
    refine hnw.mono ?_
    rintro e w3 ⟨k, g, bp, bl, B, rfl, h3, f3, hk, hg, hp, hl⟩
    clear hnw
    have g3 := g2.seqN f3
    have hrn := rknew_any N sd w3 hN16
    go_wp2_with fail
    refine hrn.mono ?_
    rintro e w4 ⟨kr, gr, Br, rfl, x4, f4⟩
    clear hrn
    have hw2 := g2.size
    have hw3 := g3.size
    have st0 : AP w w4 k g bp bl B N 0 kr gr Br 0 none ⟨sd, [], [], [], []⟩ (fun q => w3.heap.size ≤ q ∧ q < w4.heap.size) :=
      ⟨h3.frN f4, x4, fun z hz e => by have := h3.low hz; omega, (fun z hz => by
        rcases hz with e | e | e | e | ⟨o, e⟩
        · omega
        · omega
        · omega
        · omega
        · cases e), fun z hz => ⟨by omega, hz.2⟩, Nat.le_refl _, Nat.le_refl _, Nat.le_refl _, hsd, (g3.seqN f4).mono (fun _ _ q => False.elim q)⟩
    replace st0 := Lib.hid st0
    clear h3 f3 g2 g3 x4 f4 hw2 hw3 hk hg hp hl hd1 hd2
    go_wp2_with fail
    go_loopg [47] n (fun gk i wr => ∃ (q wc : Nat) (wa : Option Addr) (K : KS) (T : Nat → Prop), q + gk = n ∧ i = .int .i64 q ∧ Hid (AP w wr k g bp bl B N wc kr gr Br q wa K T))
    case atStart => exact ⟨0, 0, none, ⟨sd, [], [], [], []⟩, _, by omega, rfl, st0⟩
    case round =>
      clear st0
      obtain ⟨q, wc, wa, K, T, hgk, rfl, st⟩ := hrel
      by_cases hq : q < n
      · obtain ⟨m, hm⟩ := hget.out q hq
        obtain ⟨g9, o9, cs, rfl, _, hR, hcell⟩ := hx3.out q m hm
        have st' := st.out
        have hkl := hR.2.1
        have okt := hR.2.2.1
        have hc9 : ∀ j u, cs[j]? = some u → wr.cell? ⟨g9, o9 + (q * 3 + j), none⟩ = some u := fun j u hu => st'.fr.cell (hcell j u hu) (fun z => by have := lt_of_cell (hcell j u hu); omega)
        have c0 : wr.cell? ⟨g9, o9 + q * 3, none⟩ = some (.int .i64 m.k) := hc9 0 _ (by rw [hR.1]; rfl)
        have c1 : wr.cell? ⟨g9, o9 + q * 3 + 1, none⟩ = some (.int .i64 m.t) := hc9 1 _ (by rw [hR.1]; rfl)
        have c2 : wr.cell? ⟨g9, o9 + q * 3 + 2, none⟩ = some (.string m.s) := hc9 2 _ (by rw [hR.1]; rfl)
        have hb0 : (0 : Int) ≤ q := by omega
        have hb1 : (q : Int) < n := by omega
        have fA := (Fr.refl noB wr).alloc (.cells #[.int .i64 m.k, .int .i64 m.t, .string m.s] 33)
        have bA := Blk.new wr 33 [.int .i64 m.k, .int .i64 m.t, .string m.s]
        have hA := st'.kp.frN fA
        have xA := st'.rx.frN fA
        have frA := st'.fr.seqN fA
        have hob := bA.lt
        have d0 : (wr.alloc (.cells #[.int .i64 m.k, .int .i64 m.t, .string m.s] 33)).cell? ⟨wr.heap.size, 0, none⟩ = some (.int .i64 m.k) := bA.cell 0
        have hdo := dk_any k g bp bl B N wc wa K m _ hA okt (by have := st'.p; omega) (by have := st'.l; omega) (by have := st'.o; omega)
        unfold spV at hdo
        have hwr := st'.fr.size
        have hsA : (wr.alloc (.cells #[.int .i64 m.k, .int .i64 m.t, .string m.s] 33)).heap.size = wr.heap.size + 1 := by simp
        have hkl1 := fun z (hz : kpS k g bp bl wa z) => st'.kp.low hz
        have hlT := st'.lowT
        replace hm := Lib.hid hm
        replace hA := Lib.hid hA
        replace xA := Lib.hid xA
        replace frA := Lib.hid frA
        replace bA := Lib.hid bA
        replace hsA := Lib.hid hsA
        replace hlT := Lib.hid hlT
        replace hkl1 := Lib.hid hkl1
        generalize hob' : wr.heap.size = ob at *
        replace hob' := Lib.hid hob'
        clear hcell hc9 hR st' fA
        go_wp2_with fail
        (try rw [hob'.out])
        refine hdo.mono ?_
        rintro e w6 ⟨rfl, kt⟩
        clear hdo d0 c0 c1 c2
        have hsA' := hsA.out
        obtain ⟨wa6, wc6, h6, hS6, f6⟩ := kstep (S := fun z => w.heap.size ≤ z ∧ ¬ T z ∧ z ≠ ob) kt (fun z hz => ⟨st.out.lowk z hz, st.out.sep z hz, by have := hkl1.out z hz; omega⟩) (fun z hz => ⟨by omega, fun e => by have := hlT.out z e; omega, by omega⟩)
        have b6 := f6.blk bA.out (fun z => z.2.2 rfl)
        have x6 := xA.out.fr f6 (fun z hz e => e.2.1 hz)
        have fr6 : Fr (fun z => w.heap.size ≤ z) w w6 := frA.out.trans f6 (fun _ _ z => z) (fun _ _ z => z.1)
        have hs6 := f6.size
        have ol := op_len N K m
        obtain ⟨sp, hsp⟩ : ∃ sp, K.os N m = sp := ⟨_, rfl⟩
        obtain ⟨er, her⟩ : ∃ er, K.oe N m = er := ⟨_, rfl⟩
        rw [hsp, her]
        replace hsp := Lib.hid hsp
        replace her := Lib.hid her
        clear kt xA frA bA hA f6
        go_upto_region 12 with fail
        have fS := ((Fr.refl noB w6).alloc (.cells #[.int .i64 sp.t, .int .i64 sp.q, .string sp.x] 35)).alloc (.cells #[.int .i64 0, .int .i64 0, .string (ByteArray.mk #[])] 35)
        have bS1 := ((Fr.refl noB (w6.alloc (.cells #[.int .i64 sp.t, .int .i64 sp.q, .string sp.x] 35))).alloc (.cells #[.int .i64 0, .int .i64 0, .string (ByteArray.mk #[])] 35)).blk (Blk.new w6 35 [.int .i64 sp.t, .int .i64 sp.q, .string sp.x]) (fun z => z)
        have bS2 := Blk.new (w6.alloc (.cells #[.int .i64 sp.t, .int .i64 sp.q, .string sp.x] 35)) 35 [.int .i64 0, .int .i64 0, .string (ByteArray.mk #[])]
        have sz1 : (w6.alloc (.cells #[.int .i64 sp.t, .int .i64 sp.q, .string sp.x] 35)).heap.size = w6.heap.size + 1 := by simp
        rw [sz1] at bS2
        have h7 := h6.frN fS
        have x7 := x6.frN fS
        have b7 := fS.blk b6 (fun z => z)
        have fr7 := fr6.seqN fS
        have hs7 := fS.size
        generalize hsb : w6.heap.size = sb at *
        generalize ((w6.alloc (.cells #[.int .i64 sp.t, .int .i64 sp.q, .string sp.x] 35)).alloc (.cells #[.int .i64 0, .int .i64 0, .string (ByteArray.mk #[])] 35)) = w7 at *
        have d0 : w7.cell? ⟨ob, 0, none⟩ = some (.int .i64 m.k) := b7.cell 0
        have d1 : w7.cell? ⟨ob, 1, none⟩ = some (.int .i64 m.t) := b7.cell 1
        have d2 : w7.cell? ⟨ob, 2, none⟩ = some (.string m.s) := b7.cell 2
        have hlt2 := bS2.lt
        have hkl6 : Hid (∀ z, kpS k g bp bl wa6 z → z < sb) := Lib.hid (fun z hz => by have := h6.low hz; omega)
        clear fS sz1 h6 x6 b6 fr6
        have hTs : Hid (∀ z, T z → z < ob) := Lib.hid (fun z hz => by have := hlT.out z hz; omega)
        replace hsb := Lib.hid hsb
        replace h7 := Lib.hid h7
        replace x7 := Lib.hid x7
        replace b7 := Lib.hid b7
        replace bS1 := Lib.hid bS1
        replace bS2 := Lib.hid bS2
        replace fr7 := Lib.hid fr7
        replace hS6 := Lib.hid hS6
        replace ol := Lib.hid ol
        have hobs : ob < sb := by omega
        have hsb7 : sb + 1 < w7.heap.size := by omega
        go_upto_block 2 with fail
        go_cut [15] from 48 (fun v15 wx => v15 = .int .i64 er ∧ Rx wx kr gr Br N (K.op N m) (nx T w7 wx) ∧ Blk wx (sb + 1) 35 [.int .i64 sp.t, .int .i64 sp.q, .string sp.x] ∧ Fr (fun z => T z ∨ z = sb + 1) w7 wx)
        case first => as_aux_lemma =>
          have x70 := x7.out
          have hTl7 : ∀ z, T z → z < w7.heap.size := fun z hz => by have := hTs.out z hz; omega
          have hp7 := st.out.p
          have hl7 := st.out.l
          have ho7 := st.out.o
          have hT2 : ¬ T (sb + 1) := fun e => by have := hTs.out _ e; omega
          by_cases hk1 : m.k = 1
          · have e1 : (m.k == 1) = true := beq_iff_eq.2 hk1
            have hop : K.op N m = K.wr N m.t m.s := if_pos hk1
            have hoe : K.we N m.t m.s = er := (show K.oe N m = K.we N m.t m.s from if_pos hk1).symm.trans her.out
            have hos : K.ws N m.t m.s = sp := (show K.os N m = K.ws N m.t m.s from if_pos hk1).symm.trans hsp.out
            have hw := rkwrite_any kr gr Br N K m.t m.s T w7 x70 hTl7 (by omega) (by omega) (by omega) st.out.sd (fun y hy => key_rng st.out.kp.po hy) (fun h1 h2 h3 => room_after st.out.kp.po h1 h2 h3)
            rw [hoe, hos] at hw
            unfold spV at hw
            replace hop := Lib.hid hop
            replace hk1 := Lib.hid hk1
            replace hoe := Lib.hid hoe
            replace hos := Lib.hid hos
            replace hTl7 := Lib.hid hTl7
            clear x70 hp7 hl7 ho7
            go_wp2_with fail
            refine hw.mono ?_
            rintro e w8 ⟨rfl, x8, f8⟩
            clear hw
            have bR := Lib.hid (f8.blk bS2.out hT2)
            have tR := Lib.hid (thereN (i := 0) (n := 3) bR.out (by simp))
            replace x8 := Lib.hid x8
            replace f8 := Lib.hid f8
            replace hT2 := Lib.hid hT2
            go_wp2_with (first
              | (refine wpList_store_mid rfl 35 (.tmp 14) (.tmp 69) rfl (sb + 1) 0 #[.int .i64 sp.t, .int .i64 sp.q, .string sp.x] rfl rfl tR.out size_span (one_span _ _ _) ?_; obtain ⟨w9, hw9, f9, h9⟩ := store3 w8 (sb + 1) 0 (.int .i64 sp.t) (.int .i64 sp.q) (.string sp.x); rw [← hw9]; clear hw9; have h9 := Lib.hid (h9 _ _ bR.out); replace f9 := Lib.hid f9)
              | fail)
            go_meet
            refine ⟨rfl, ?_, h9.out, f8.out.trans f9.out (fun z _ e => Or.inl e) (fun z _ e => Or.inr e)⟩
            have hs8 := f8.out.size
            have hs9 := f9.out.size
            rw [hop.out]
            refine (x8.out.fr f9.out (fun z hz e => ?_)).mono (fun z _ hz => ?_)
            · unfold onlyB at e
              rcases hz with q1 | q1
              · exact hT2.out (e ▸ q1)
              · omega
            · rcases hz with q1 | q1
              · exact Or.inl q1
              · exact Or.inr ⟨q1.1, by omega⟩
          have e1 : (m.k == 1) = false := beq_eq_false_iff_ne.2 hk1
          have hoe : er = 0 := her.out.symm.trans (if_neg hk1)
          have hos : sp = sp0 := hsp.out.symm.trans (if_neg hk1)
          subst hoe
          subst hos
          by_cases hk2 : m.k = 2
          · have e2 : (m.k == 2) = true := beq_iff_eq.2 hk2
            have hop : K.op N m = { K with pins := outL K.pins m.t ++ [m.t] } := (if_neg hk1).trans (if_pos hk2)
            have hw := rkpin_any kr gr Br N K m.t T w7 x70 (by omega)
            replace hop := Lib.hid hop
            replace hk1 := Lib.hid hk1
            replace hk2 := Lib.hid hk2
            replace hTl7 := Lib.hid hTl7
            clear x70 hp7 hl7 ho7
            go_wp2_with fail
            refine hw.mono ?_
            rintro e w8 ⟨rfl, x8, f8⟩
            clear hw
            have bR := f8.blk bS2.out hT2
            replace x8 := Lib.hid x8
            replace f8 := Lib.hid f8
            replace bR := Lib.hid bR
            go_wp2_with fail
            go_meet
            exact ⟨rfl, by rw [hop.out]; exact x8.out, bR.out, f8.out.mono (fun z _ e => Or.inl e)⟩
          have e2 : (m.k == 2) = false := beq_eq_false_iff_ne.2 hk2
          by_cases hk3 : m.k = 3
          · have e3 : (m.k == 3) = true := beq_iff_eq.2 hk3
            have hop : K.op N m = { K with pins := outL K.pins m.t } := (if_neg hk1).trans ((if_neg hk2).trans (if_pos hk3))
            have hw := rkunpin_any kr gr Br N K m.t T w7 x70 (by omega)
            replace hop := Lib.hid hop
            replace hk1 := Lib.hid hk1
            replace hk2 := Lib.hid hk2
            replace hk3 := Lib.hid hk3
            replace hTl7 := Lib.hid hTl7
            clear x70 hp7 hl7 ho7
            go_wp2_with fail
            refine hw.mono ?_
            rintro e w8 ⟨rfl, x8, f8⟩
            clear hw
            have bR := f8.blk bS2.out hT2
            replace x8 := Lib.hid x8
            replace f8 := Lib.hid f8
            replace bR := Lib.hid bR
            go_wp2_with fail
            go_meet
            exact ⟨rfl, by rw [hop.out]; exact x8.out, bR.out, f8.out.mono (fun z _ e => Or.inl e)⟩
          have e3 : (m.k == 3) = false := beq_eq_false_iff_ne.2 hk3
          by_cases hk4 : m.k = 4
          · have e4 : (m.k == 4) = true := beq_iff_eq.2 hk4
            have hop : K.op N m = { K with P := without K.P m.t, pins := outL K.pins m.t, loss := outL K.loss m.t } := (if_neg hk1).trans ((if_neg hk2).trans ((if_neg hk3).trans (if_pos hk4)))
            have hw := rkforget_any kr gr Br N K m.t T w7 x70 (by omega) (by omega)
            replace hop := Lib.hid hop
            replace hk1 := Lib.hid hk1
            replace hk2 := Lib.hid hk2
            replace hk3 := Lib.hid hk3
            replace hk4 := Lib.hid hk4
            replace hTl7 := Lib.hid hTl7
            clear x70 hp7 hl7 ho7
            go_wp2_with fail
            refine hw.mono ?_
            rintro e w8 ⟨rfl, x8, f8⟩
            clear hw
            have bR := f8.blk bS2.out hT2
            replace x8 := Lib.hid x8
            replace f8 := Lib.hid f8
            replace bR := Lib.hid bR
            go_wp2_with fail
            go_meet
            exact ⟨rfl, by rw [hop.out]; exact x8.out, bR.out, f8.out.mono (fun z _ e => Or.inl e)⟩
          have e4 : (m.k == 4) = false := beq_eq_false_iff_ne.2 hk4
          have hop : K.op N m = K := (if_neg hk1).trans ((if_neg hk2).trans ((if_neg hk3).trans (if_neg hk4)))
          have x8 : Rx w7 kr gr Br N K (nx T w7 w7) := x70.mono (fun z _ e => Or.inl e)
          replace hop := Lib.hid hop
          replace hk1 := Lib.hid hk1
          replace hk2 := Lib.hid hk2
          replace hk3 := Lib.hid hk3
          replace hk4 := Lib.hid hk4
          replace hTl7 := Lib.hid hTl7
          replace x8 := Lib.hid x8
          clear x70 hp7 hl7 ho7
          go_wp2_with fail
          go_meet
          exact ⟨rfl, by rw [hop.out]; exact x8.out, bS2.out, Fr.refl _ _⟩
        case rest => as_aux_lemma =>
          obtain ⟨rfl, x8, b8s, f8⟩ := hcut
          obtain ⟨w8, hw8⟩ : ∃ x, x = wc := ⟨_, rfl⟩
          rw [← hw8] at x8 b8s f8 ⊢
          clear hw8 d0 d1 d2
          have hs8 := f8.size
          have hkn : ∀ z, kpS k g bp bl wa6 z → ¬ (T z ∨ z = sb + 1) := fun z hz e => by
            have h1 := hS6.out z hz
            have h2 := hkl6.out z hz
            rcases e with e | e
            · exact h1.2.1 e
            · omega
          have hK := h7.out.fr f8 hkn
          have b8o := f8.blk b7.out (fun e => by
            rcases e with e | e
            · have := hTs.out _ e; omega
            · omega)
          have b8t := f8.blk bS1.out (fun e => by
            rcases e with e | e
            · have := hTs.out _ e; omega
            · omega)
          have fr8 : Fr (fun z => w.heap.size ≤ z) w w8 := fr7.out.trans f8 (fun _ _ z => z) (fun z _ e => by
            rcases e with e | e
            · exact (hlT.out z e).1
            · have := fr7.out.size; have := hob'.out; omega)
          obtain ⟨vp, vl, vg, S, hR, hRT⟩ := x8
          obtain ⟨vt, vs, V, hq9, hqS⟩ := hR.pool
          have olo := ol.out
          have hstp := st.out.p
          have hstl := st.out.l
          have hsto := st.out.o
          have hsdn := st.out.sd
          have hsd9 : U64 (K.op N m).sd := by rw [op_sd]; exact hsdn
          have stn : Hid (AP w w8 k g bp bl B N wc6 kr gr Br (q + 1) wa6 (K.op N m) (nx T w7 w8)) := Lib.hid ⟨hK, ⟨vp, vl, vg, S, hR, hRT⟩, fun z hz e => by
              have h1 := hS6.out z hz
              have h2 := hkl6.out z hz
              rcases e with e | e
              · exact h1.2.1 e
              · omega, fun z hz => (hS6.out z hz).1, fun z hz => by
              rcases hz with e | e
              · have := hlT.out z e; exact ⟨this.1, by omega⟩
              · exact ⟨by have := fr7.out.size; omega, e.2⟩, by omega, by omega, by omega, hsd9, fr8⟩
          generalize hK2 : K.op N m = K2 at *
          have hgo : K2.gone.length < 1000000 := by omega
          have hPk := fun (w' : World) (f : Fr noB w8 w') => kpinned_any k g bp bl B N wc6 wa6 K2 m.t w' (hK.frN f) okt
          have hLk := fun (w' : World) (f : Fr noB w8 w') => klost_any k g bp bl B N wc6 wa6 K2 m.t w' (hK.frN f) okt
          have hSk := fun (w' : World) (f : Fr noB w8 w') => kspans_any k g bp bl B N wc6 wa6 K2 m.t w' (hK.frN f)
          have hUk := fun (w' : World) (f : Fr noB w8 w') => kused_any k g bp bl B N wc6 wa6 K2 w' (hK.frN f)
          have hTk := fun (w' : World) (f : Fr noB w8 w') => ktraces_any k g bp bl B N wc6 wa6 K2 w' (hK.frN f)
          have hEk := fun (w' : World) (f : Fr noB w8 w') => kevicted_any k g bp bl B N wc6 wa6 K2 w' (hK.frN f) hgo
          have hPr := fun (w' : World) (f : Fr noB w8 w') => rin_any vp K2.pins m.t w' (hR.frN f).pin
          have hLr := fun (w' : World) (f : Fr noB w8 w') => rin_any vl K2.loss m.t w' (hR.frN f).los
          have hOr := fun (w' : World) (f : Fr noB w8 w') => rof_rd gr Br N K2.P vt vs V m.t w' (hq9.frN f)
          have hFr := fun (w' : World) (f : Fr noB w8 w') => rfree_any gr Br N K2.P vt vs V w' (hq9.frN f)
          have hTr : ∀ w', Fr noB w8 w' → RdI w' vt (K2.P.map (·.1)) := fun w' f => RdI.of_own (hq9.frN f).rt
          have hGr : ∀ w', Fr noB w8 w' → RdI w' vg K2.gone := fun w' f => (hR.frN f).gon
          have hUle := hq9.le
          have hN16' : N ≤ 16 := hN16
          have h48 := txt_len48 hq9 m.t
          have hfacts : ∀ w', Fr noB w8 w' → w'.cell? ⟨ob, 1, none⟩ = some (.int .i64 m.t) ∧ w'.cell? ⟨kr, 0, none⟩ = some (.pointer (some ⟨gr, 0, none⟩)) ∧ w'.cell? ⟨kr, 2, none⟩ = some vp ∧ w'.cell? ⟨kr, 3, none⟩ = some vl ∧ w'.cell? ⟨kr, 4, none⟩ = some vg ∧ w'.cell? ⟨gr, 1, none⟩ = some vt ∧ w'.cell? ⟨sb, 0, none⟩ = some (.int .i64 sp.t) ∧ w'.cell? ⟨sb, 1, none⟩ = some (.int .i64 sp.q) ∧ w'.cell? ⟨sb, 2, none⟩ = some (.string sp.x) ∧ w'.cell? ⟨sb + 1, 0, none⟩ = some (.int .i64 sp.t) ∧ w'.cell? ⟨sb + 1, 1, none⟩ = some (.int .i64 sp.q) ∧ w'.cell? ⟨sb + 1, 2, none⟩ = some (.string sp.x) := fun w' f =>
            ⟨(f.blk b8o (fun z => z)).cell 1, (hR.frN f).blk.cell 0, (hR.frN f).blk.cell 2, (hR.frN f).blk.cell 3, (hR.frN f).blk.cell 4, (hq9.frN f).blk.cell 1, (f.blk b8t (fun z => z)).cell 0, (f.blk b8t (fun z => z)).cell 1, (f.blk b8t (fun z => z)).cell 2, (f.blk b8s (fun z => z)).cell 0, (f.blk b8s (fun z => z)).cell 1, (f.blk b8s (fun z => z)).cell 2⟩
          have hspl : (spansOf m.t (txt K2.P m.t)).length ≤ 1000000 := by rw [spansOf_len]; omega
          have hspe := spansOf_len m.t (txt K2.P m.t)
          obtain ⟨U, hU⟩ : ∃ U, U = used K2.P := ⟨_, rfl⟩
          rw [← hU] at hUk hFr hUle
          obtain ⟨F, hF9⟩ : ∃ F, F = N - U := ⟨_, rfl⟩
          rw [← hF9] at hFr
          have hsub2 : (N : Int) - (F : Int) = (U : Int) := by omega
          have hU16 : (0 : Int) ≤ (U : Int) ∧ (U : Int) ≤ 1000 := by omega
          have hsub : IntKind.i64.wrap ((N : Int) - (F : Int)) = (U : Int) := by rw [hsub2]; exact wrapS _ hU16.1 hU16.2
          have hw1 : wrap64 ((N : Int) - (F : Int)) = (U : Int) := by rw [hsub2]; exact wrapS6 _ hU16.1 hU16.2
          have hw2 : wrap64 (U : Int) = (U : Int) := wrapS6 _ hU16.1 hU16.2
          have hw3 : IntKind.i64.wrap (U : Int) = (U : Int) := wrapS _ hU16.1 hU16.2
          have hUU : ((U : Int) != (U : Int)) = false := by simp
          replace hPk := Lib.hid hPk
          replace hLk := Lib.hid hLk
          replace hSk := Lib.hid hSk
          replace hUk := Lib.hid hUk
          replace hTk := Lib.hid hTk
          replace hEk := Lib.hid hEk
          replace hPr := Lib.hid hPr
          replace hLr := Lib.hid hLr
          replace hOr := Lib.hid hOr
          replace hFr := Lib.hid hFr
          replace hTr := Lib.hid hTr
          replace hGr := Lib.hid hGr
          replace hfacts := Lib.hid hfacts
          replace hspl := Lib.hid hspl
          replace hspe := Lib.hid hspe
          replace hU := Lib.hid hU
          replace hF9 := Lib.hid hF9
          replace hK2 := Lib.hid hK2
          have hs89 : Hid (w.heap.size ≤ w8.heap.size) := Lib.hid fr8.size
          clear hK hR hq9 hRT hqS b8o b8t b8s f8 fr8 x7 h7 b7 bS1 bS2 fr7 hkn olo hstp hstl hsto hs8
          go_wp2_with fail
          go_region_held3 (fun w' => w'.cell? ⟨ob, 1, none⟩ = some (.int .i64 m.t) ∧ w'.cell? ⟨kr, 0, none⟩ = some (.pointer (some ⟨gr, 0, none⟩)) ∧ w'.cell? ⟨kr, 2, none⟩ = some vp ∧ w'.cell? ⟨kr, 3, none⟩ = some vl ∧ w'.cell? ⟨kr, 4, none⟩ = some vg ∧ w'.cell? ⟨gr, 1, none⟩ = some vt ∧ w'.cell? ⟨sb, 0, none⟩ = some (.int .i64 sp.t) ∧ w'.cell? ⟨sb, 1, none⟩ = some (.int .i64 sp.q) ∧ w'.cell? ⟨sb, 2, none⟩ = some (.string sp.x) ∧ w'.cell? ⟨sb + 1, 0, none⟩ = some (.int .i64 sp.t) ∧ w'.cell? ⟨sb + 1, 1, none⟩ = some (.int .i64 sp.q) ∧ w'.cell? ⟨sb + 1, 2, none⟩ = some (.string sp.x))
            (first | exact hfacts.out _ fZ | exact hfacts.out _ fY | exact hfacts.out _ fX | exact hfacts.out _ fW | exact hfacts.out _ fV | exact hfacts.out _ fU | exact hfacts.out _ fT | exact hfacts.out _ fL | exact hfacts.out _ fP | exact hfacts.out _ ((Fr.refl noB _).drewN 1) | fail)
            (first
             | (go_at_call 25; have _q := fY; refine (sameInts_same vY vg _ _ rY (hGr.out _ fY)).mono ?_; rintro e wZ ⟨rfl, fZ0⟩; have fZ := fY.seqN fZ0)
             | (go_at_call 27; refine (hEk.out _ fX).mono ?_; rintro e wY ⟨vY, rfl, oY, fY0⟩; have fY := fX.seqN fY0; have rY : RdI wY vY K2.gone := RdI.of_own oY)
             | (go_at_call 25; refine (sameInts_same vW vt _ _ rW (hTr.out _ fW)).mono ?_; rintro e wX ⟨rfl, fX0⟩; have fX := fW.seqN fX0)
             | (go_at_call 26; refine (hTk.out _ fV).mono ?_; rintro e wW ⟨vW, rfl, oW, fW0⟩; have fW := fV.seqN fW0; have rW : RdI wW vW (K2.P.map (·.1)) := RdI.of_own oW)
             | (go_at_call 24; refine (hFr.out _ fV).mono ?_; rintro e wf ⟨rfl, hwf⟩; obtain rfl := hwf.symm; clear hwf)
             | (go_at_call 23; refine (hUk.out _ fU).mono ?_; rintro e wV ⟨rfl, fV0⟩; have fV := fU.seqN fV0)
             | (go_at_call 20; refine (same_any vT vO _ _ rT rO).mono ?_; rintro e wU ⟨rfl, fU0⟩; have fU := fT.seqN fU0)
             | (go_at_call 22; refine (hOr.out _ fT).mono ?_; rintro e wo ⟨vO, rfl, rO, hwo⟩; obtain rfl := hwo.symm; clear hwo)
             | (go_at_call 21; refine (hSk.out _ fL).mono ?_; rintro e wT ⟨vT, rfl, oT, fT0⟩; have fT := fL.seqN fT0; have rT := RdSp.of_own oT hspl.out hspe.out)
             | (go_at_call 18; have _q := fL; refine (hLr.out _ fL).mono ?_; rintro e wi ⟨rfl, hwi⟩; obtain rfl := hwi.symm; clear hwi)
             | (go_at_call 19; refine (hLk.out _ fP).mono ?_; rintro e wL ⟨rfl, fL0⟩; have fL := fP.seqN fL0)
             | (go_at_call 18; refine (hPr.out _ fP).mono ?_; rintro e wi ⟨rfl, hwi⟩; obtain rfl := hwi.symm; clear hwi)
             | (go_at_call 17; refine (hPk.out _ ((Fr.refl noB _).drewN 1)).mono ?_; rintro e wP ⟨rfl, fP0⟩; have fP : Fr noB w8 wP := ((Fr.refl noB w8).drewN 1).seqN fP0)
             | fail)
          all_goals (
            have sZ : Hid (AP w wZ k g bp bl B N wc6 kr gr Br (q + 1) wa6 K2 (nx T w7 w8)) := Lib.hid ⟨stn.out.kp.frN fZ, stn.out.rx.frN fZ, stn.out.sep, stn.out.lowk, fun z hz => ⟨(stn.out.lowT z hz).1, Nat.lt_of_lt_of_le (stn.out.lowT z hz).2 fZ.size⟩, stn.out.p, stn.out.l, stn.out.o, stn.out.sd, stn.out.fr.seqN fZ⟩
            go_wp2_with fail
            go_roundg (n - q - 1)
            case rel => exact ⟨q + 1, wc6, wa6, K2, _, by omega, by go_num, sZ⟩
            case measure => omega)
      · obtain ⟨wo, rfl⟩ : ∃ wo : World, wo = wr := ⟨_, rfl⟩
        obtain rfl : q = n := by omega
        have st' := st.out
        go_wp2_with fail
        go_ret
        exact ⟨rfl, st'.fr.mono (fun i hi e => by unfold noB; omega)⟩
theorem plays_any (n0 sd : Int) (v : Value) (xs : List OpE) (w : World) (hn0 : (Lit.int .i64 n0).wf = true) (hs0 : (Lit.int .u64 sd).wf = true) (hv : SlR w v 3 IsOpE xs) :
    Calls Try.prog 3 #[.int .i64 n0, .int .u64 sd, v] w fun e w' => e = .returned (.bool true) ∧ Fr noB w w' := by
  by_cases h : n0 < 1 ∨ 16 < n0
  · exact plays_no n0 sd v xs w h hv
  · obtain ⟨N, rfl⟩ : ∃ N : Nat, n0 = (N : Int) := ⟨n0.toNat, by omega⟩
    exact plays_yes N sd v xs w (by omega) (by omega) hs0 hv
end Go.Proofs.Ytnecglghinpgmaa
