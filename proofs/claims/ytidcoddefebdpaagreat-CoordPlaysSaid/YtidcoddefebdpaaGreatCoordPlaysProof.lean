/-
  In every order of messages and ticks what is said, and which jobs there are, is the document's: the law walked.
  Proved here: for every input the law spoorlaw14.CoordPlays returns true, and its arguments read behind the call as they read before; no condition.
-/
import Derived.Test.YtidcoddefebdpaaGreatCoF
import Derived.Test.YtidcoddefebdpaaGreatCoB
import Derived.Deep.LoopGhost
import Derived.Deep.DeepCutAuto
import Derived.Test.YtidcoddefebdpaaGreatArgs
import Derived.SizedLaws
section
set_option linter.unusedVariables false
set_option linter.unusedSimpArgs false
set_option maxRecDepth 100000
namespace Go.Proofs.YtidcoddefebdpaaGreat
open Go.RowKit Go Go.Maps Go.Lib

theorem rdi_oldC {w : World} {ua : Option Addr} {un uc : Nat} {xs : List Int} (h : RdI w (.slice ua un uc) xs) : xs ≠ [] → ∀ g o, ua = some ⟨g, o, none⟩ → g < w.heap.size := by
  intro hne g o e
  obtain ⟨a, c, e1, _, _, h3⟩ := h
  injection e1 with e1 _ _
  subst e1
  have hl : 0 < xs.length := List.length_pos_iff.2 hne
  obtain ⟨g', o', e2, hc⟩ := h3 0 hl
  rw [e] at e2
  injection e2 with e2
  injection e2 with e2 _ _
  subst e2
  exact lt_of_cell hc
set_option maxHeartbeats 16000000 in
theorem playsC_any (ag mo : Int) (v : Value) (xs : List OpJ) (w : World) (hv : SlR w v 6 (IsOpJ w) xs) :
    Calls Tryz.prog 3 #[.int .i64 ag, .int .i64 mo, v] w fun e w' => e = .returned (.bool true) ∧ Fr noB w w' := by
  have hfew := fun w' (f : Fr noB w w') => few_any v xs w w' (hv.frame f (fun _ _ q => q))
  obtain ⟨va, vc, rfl, hx1, hx2, hx3⟩ := hv
  unfold maxLen at hx2
  obtain ⟨n, hn⟩ : ∃ n, xs.length = n := ⟨_, rfl⟩
  rw [hn] at hx1 ⊢
  simp only [hn] at hfew
  have hnb : n ≤ 9223372036854775807 := by have := hx1.1; omega
  have hget : ∀ k, k < n → ∃ m, xs[k]? = some m := fun k hk => ⟨xs[k]'(by rw [hn]; exact hk), List.getElem?_eq_getElem _⟩
  have hok : fewB xs = true → n ≤ 200 := fun h => by
    unfold fewB at h
    simp only [Bool.and_eq_true, decide_eq_true_eq] at h
    omega
  replace hn := Lib.hid hn
  replace hx3 := Lib.hid hx3
  replace hfew := Lib.hid hfew
  replace hget := Lib.hid hget
  go_enter Tryz.func3, Tryz.ntmps3
  go_wp2_with fail
  go_fit (awake_any w)
  rintro e w2 ⟨rfl, g2⟩
  have hf2 := hfew.out w2 g2
  generalize fewB xs = fw at *
  cases fw
  · clear hok
    go_wp2_with fail
    go_fit hf2
    rintro e w3 ⟨rfl, f3⟩
    have g3 := g2.seqN f3
    clear f3 hf2 g2
    go_wp2_with fail
    go_fit (awake_any w3)
    rintro e w4 ⟨rfl, f4⟩
    have g4 := g3.seqN f4
    clear f4 g3
    go_wp2_with fail
    go_ret
    exact ⟨rfl, g4⟩
  have hn200 := hok rfl
  clear hok
  go_wp2_with fail
  go_fit hf2
  rintro e w3 ⟨rfl, f3⟩
  have g3 := g2.seqN f3
  clear f3 hf2 g2 hfew
  cases hmc : mayCo ag mo
  · have hN := new_co_no ag mo (.int .i64 0) (.int .i64 0) (.int .u64 0) (.int .i64 0) (.int .i64 0) w3 hmc
    unfold cfC at hN
    replace hN := Lib.hid hN
    have key : (decide (ag < 1) = true) ∨ (decide (ag < 1) = false ∧ decide (4 < ag) = true) ∨ (decide (ag < 1) = false ∧ decide (4 < ag) = false ∧ decide (mo < 1) = true) ∨ (decide (ag < 1) = false ∧ decide (4 < ag) = false ∧ decide (mo < 1) = false ∧ decide (8 < mo) = true) := by
      unfold mayCo at hmc
      simp only [decide_eq_true_eq, decide_eq_false_iff_not]
      by_cases h1 : ag < 1
      · exact Or.inl h1
      by_cases h2 : 4 < ag
      · exact Or.inr (Or.inl ⟨h1, h2⟩)
      by_cases h3 : mo < 1
      · exact Or.inr (Or.inr (Or.inl ⟨h1, h2, h3⟩))
      by_cases h4 : 8 < mo
      · exact Or.inr (Or.inr (Or.inr ⟨h1, h2, h3, h4⟩))
      exfalso
      rw [decide_eq_true (show 1 ≤ ag by omega), decide_eq_true (show ag ≤ 4 by omega), decide_eq_true (show 1 ≤ mo by omega), decide_eq_true (show mo ≤ 8 by omega)] at hmc
      simp at hmc
    clear hmc
    go_wp2_with fail
    go_fit hN.out
    rintro e w4 ⟨rfl, f4⟩
    have g4 := g3.seqN f4
    clear f4 hN g3
    rcases key with k1 | ⟨k1, k2⟩ | ⟨k1, k2, k3⟩ | ⟨k1, k2, k3, k4⟩
    all_goals (
      go_wp2_with fail
      go_ret
      exact ⟨rfl, g4⟩)
  have hN := new_cv ag mo (.int .i64 0) (.int .i64 0) (.int .u64 0) (.int .i64 0) (.int .i64 0) w3 hmc
  have hwf := new_wf hmc
  unfold cfC at hN
  unfold mayCo at hmc
  simp only [Bool.and_eq_true, decide_eq_true_eq] at hmc
  have k1 : decide (ag < 1) = false := by simp; omega
  have k2 : decide (4 < ag) = false := by simp; omega
  have k3 : decide (mo < 1) = false := by simp; omega
  have k4 : decide (8 < mo) = false := by simp; omega
  replace hN := Lib.hid hN
  clear hmc
  go_wp2_with fail
  go_fit hN.out
  rintro e w4 ⟨c, bm, D0, rfl, hA⟩
  have hA4 := hA.base g3
  have g4 := hA4.fr0
  obtain ⟨z, hqz⟩ : ∃ z, w4.heap.size = z := ⟨_, rfl⟩
  have fQ : Fr noB w4 (w4.alloc (.cells #[.int .i64 ag, .int .i64 mo, .slice none 0 0, .int .i64 0, .int .i64 0] 35)) := (Fr.refl _ _).alloc _
  have bQ := Blk.new w4 35 [.int .i64 ag, .int .i64 mo, .slice none 0 0, .int .i64 0, .int .i64 0]
  have hsQ : (w4.alloc (.cells #[.int .i64 ag, .int .i64 mo, .slice none 0 0, .int .i64 0, .int .i64 0] 35)).heap.size = z + 1 := by rw [size_alloc, hqz]
  rw [hqz] at bQ
  have hlt4 := hA4.lt
  rw [hqz] at hlt4
  have hwq : w.heap.size ≤ z := by rw [← hqz]; exact g4.size
  have I0 : CI w (w4.alloc (.cells #[.int .i64 ag, .int .i64 mo, .slice none 0 0, .int .i64 0, .int .i64 0] 35)) c bm z 0 D0 (fun g => g = z) (CS.new ag mo) :=
    ⟨hA4.frN fQ, ⟨none, 0, [], ⟨bQ, World.ownsRow_nil _ _ _ _, (fun x hx => by cases hx), List.Pairwise.nil, (fun x hx => by cases hx), (fun q => by cases q), ⟨rfl, (fun g q => by cases q), (fun x hx => by cases hx)⟩, (fun g hg => by subst hg; rw [hsQ]; omega)⟩, ⟨rfl, (fun i e x h1 h2 => by cases h1)⟩⟩, (fun g hg e => by have := hlt4 g hg; omega), ⟨hwf, Int.le_refl _, ⟨Int.le_refl _, Int.le_refl _⟩, (fun e he => by cases he)⟩⟩
  have g5 := g4.seqN fQ
  replace I0 := Lib.hid I0
  replace g5 := Lib.hid g5
  clear hA hA4 g4 fQ bQ hsQ hlt4 g3 hN hwf
  go_wp2_with fail
  try rw [hqz]
  replace hqz := Lib.hid hqz
  generalize (w4.alloc (.cells #[.int .i64 ag, .int .i64 mo, .slice none 0 0, .int .i64 0, .int .i64 0] 35)) = w5 at *
  replace hwq := Lib.hid hwq
  go_loopg [60] n (fun gk i wr => ∃ (k : Nat) (D E : Nat → Prop) (C : CS), k + gk = n ∧ i = .int .i64 k ∧ Hid (CI w wr c bm z k D E C) ∧ Hid (Fr noB w wr))
  case atStart => exact ⟨0, _, _, _, Nat.zero_add _, rfl, I0, g5⟩
  case round =>
    clear I0 g5
    obtain ⟨k, D, E, C, hk, rfl, hI, fr⟩ := hrel
    by_cases hlt : k < n
    · obtain ⟨x, hx⟩ := hget.out k hlt
      obtain ⟨g', o', cs', rfl, _, ⟨rfl, hri, _⟩, hc⟩ := hx3.out k x hx
      have c0 := fr.out.cell (hc 0 _ rfl) (fun q => q)
      have c1 := fr.out.cell (hc 1 _ rfl) (fun q => q)
      have c2 := fr.out.cell (hc 2 _ rfl) (fun q => q)
      have c3 := fr.out.cell (hc 3 _ rfl) (fun q => q)
      have c4 := fr.out.cell (hc 4 _ rfl) (fun q => q)
      have c5 := fr.out.cell (hc 5 _ rfl) (fun q => q)
      rw [Nat.add_zero] at c0
      simp only [← Nat.add_assoc] at c1 c2 c3 c4 c5
      have hol := rdi_oldC hri
      have hb1 : (k : Int) < n := by omega
      have hmeas : n - (k + 1) < gk := by omega
      have hkn2 : k + 1 + (n - (k + 1)) = n := by omega
      have hk200 : k < 200 := by omega
      have fA : Fr noB wr (wr.alloc (.cells (opC x).toArray 38)) := (Fr.refl _ _).alloc _
      replace hmeas := Lib.hid hmeas
      replace hkn2 := Lib.hid hkn2
      replace hk200 := Lib.hid hk200
      replace hol := Lib.hid hol
      replace hx := Lib.hid hx
      clear hc hk
      by_cases hk0 : x.k = 0
      · have hd0 : (x.k == 0) = true := by simp [hk0]
        unfold opC at fA
        have IA := hI.out.frN fA
        have frA := Lib.hid (fr.out.seqN fA)
        replace hk0 := Lib.hid hk0
        replace IA := Lib.hid IA
        clear hri fA hI fr
        go_upto_region 11 with fail
        generalize (wr.alloc (.cells #[.int .i64 x.k, .int .i64 x.a, .int .i64 x.t, .int .i64 x.j, .slice x.ua x.un x.uc, .bool x.lo] 38)) = w6 at *
        obtain ⟨ja, jc, R, hR, hL⟩ := IA.out.pr
        have hn8 : R.length ≤ 8 := by rw [← hL.len]; have := IA.out.lw.wf.len; have := IA.out.lw.wf.m8; omega
        have hT := tick_r hR hL hn8 IA.out.pa.fr0.size
        replace hT := Lib.hid hT
        clear hR hL hn8 c0 c1 c2 c3 c4 c5
        go_wp2_with fail
        go_fit hT.out
        rintro e w7 ⟨ut, uo, rfl, hsr, f7⟩
        have I7 := IA.out.frN f7
        have fr7 := Lib.hid (frA.out.seqN f7)
        obtain ⟨⟨ta, tn, tc, rfl⟩, oa, on, oc, rfl⟩ := hsr.slices
        have hP := tick_cv I7.pa
        replace hP := Lib.hid hP
        replace I7 := Lib.hid I7
        replace hsr := Lib.hid hsr
        clear hT IA frA f7
        go_wp2_with fail
        go_fit hP.out
        rintro e w8 hpost
        obtain ⟨u, rfl, hsp, f8⟩ := SaidP.tick hpost
        obtain ⟨a8, n8, cc8, rfl⟩ := hsp.sl
        have I8 := I7.out.frN f8
        have fr8 := Lib.hid (fr7.out.seqN f8)
        have hsm := sameNow hsp (hsr.out.fr f8 (fun g q => q.elim)) I8.lw.wf.inv (by have := I8.lw.wf.len; have := I8.lw.wf.m8; omega) w8 (Fr.refl _ _)
        replace I8 := Lib.hid I8
        replace hsm := Lib.hid hsm
        clear hP hpost hsp f8 I7 fr7 hsr
        go_wp2_with fail
        go_fit hsm.out
        rintro e w9 ⟨rfl, f9⟩
        have I9 := Lib.hid (I8.out.frN f9).up
        have fr9 := Lib.hid (fr8.out.seqN f9)
        clear hsm f9 I8 fr8
        go_wp2_with fail
        go_roundg (n - (k + 1))
        case rel => exact ⟨k + 1, _, _, _, hkn2.out, by go_num, I9, fr9⟩
        case measure => exact hmeas.out
      · have hd0 : (x.k == 0) = false := by simp [hk0]
        unfold opC at fA
        have hmsg := messageB_any x (wr.alloc (.cells #[.int .i64 x.k, .int .i64 x.a, .int .i64 x.t, .int .i64 x.j, .slice x.ua x.un x.uc, .bool x.lo] 38))
        have hEA : ∀ g, E g → g < (wr.alloc (.cells #[.int .i64 x.k, .int .i64 x.a, .int .i64 x.t, .int .i64 x.j, .slice x.ua x.un x.uc, .bool x.lo] 38)).heap.size := fun g hg => Nat.lt_of_lt_of_le (hI.out.pr.lo g hg).2 fA.size
        have hrA := hri.frN (fr.out.seqN fA)
        have IA := hI.out.frN fA
        have frA := Lib.hid (fr.out.seqN fA)
        replace hk0 := Lib.hid hk0
        replace IA := Lib.hid IA
        replace hmsg := Lib.hid hmsg
        replace hEA := Lib.hid hEA
        replace hrA := Lib.hid hrA
        clear hri fA hI fr
        go_wp2_with fail
        go_fit hmsg.out
        rintro e w7 ⟨mv, rfl, hmv, f7⟩
        have I7 := IA.out.frN f7
        have fr7 := Lib.hid (frA.out.seqN f7)
        have hr7 := hrA.out.frN f7
        have hlk := like_any x mv w7 hmv.v hr7
        replace hlk := Lib.hid hlk
        replace I7 := Lib.hid I7
        replace hr7 := Lib.hid hr7
        replace hmv := Lib.hid hmv
        clear hmsg f7 IA frA hrA c0 c1 c2 c3 c4 c5
        go_wp2_with fail
        go_fit hlk.out
        rintro e w8 ⟨u, rfl, hu, f8⟩
        have I8 := I7.out.frN f8
        have fr8 := Lib.hid (fr7.out.seqN f8)
        have hr8 := hr7.out.frN f8
        have hmv8 := hmv.out.frN f8
        have hla := I8.lw.la
        have hrf := I8.lw.rf
        have hk2 := hk200.out
        have hH := rhear_co I8.pr I8.lw.wf x u hu hr8 hol.out (Nat.le_refl _) (by omega) (by omega)
        replace hH := Lib.hid hH
        replace I8 := Lib.hid I8
        replace hr8 := Lib.hid hr8
        replace hmv8 := Lib.hid hmv8
        clear hlk f8 I7 fr7 hr7 hmv hla hrf hk2 hu
        go_wp2_with fail
        go_fit hH.out
        rintro e w9 hpost
        obtain ⟨ta, tn, tc, oa, on, oc, ja, nJ, jc, la, rf, rfl, hC9, fr9, hP⟩ := both_hear I8.out hk200.out hmv8.out hEA.out hr8.out hol.out hpost
        replace hC9 := Lib.hid hC9
        replace fr9 := Lib.hid fr9
        replace hP := Lib.hid hP
        clear hH hpost I8 fr8 hr8 hmv8 hEA
        have hnn : ((nJ : Int) != nJ) = false := by simp
        have hll : (la != la) = false := by simp
        have hff : (rf != rf) = false := by simp
        go_upto_region 16 with fail
        go_cut [121] from 87 to 121 (fun b wy => b = .bool false ∧ Fr noB w wy ∧ ∃ (D' E' : Nat → Prop) (C' : CS), CI w wy c bm z (k + 1) D' E' C')
        case first =>
          have hS9 : ∀ w', Fr noB w9 w' → (w'.cell? ⟨z, 2, none⟩ = some (.slice ja nJ jc) ∧ w'.cell? ⟨z, 3, none⟩ = some (.int .i64 la) ∧ w'.cell? ⟨z, 4, none⟩ = some (.int .i64 rf)) := fun w' f => ⟨f.cell hC9.out.1 (fun q => q), f.cell hC9.out.2.1 (fun q => q), f.cell hC9.out.2.2 (fun q => q)⟩
          replace hS9 := Lib.hid hS9
          clear hC9
          go_region_held3 (fun w' => w'.cell? ⟨z, 2, none⟩ = some (.slice ja nJ jc) ∧ w'.cell? ⟨z, 3, none⟩ = some (.int .i64 la) ∧ w'.cell? ⟨z, 4, none⟩ = some (.int .i64 rf))
            (first | exact hS11.out | exact hS10.out | exact hS9.out _ (Fr.refl _ _) | exact hS9.out _ ((Fr.refl noB _).drewN 1) | fail)
            (first
              | (go_at_call 16; refine (hN11.out _ (Fr.refl _ _)).2.2.mono ?_; rintro e w14 ⟨rfl, hw14⟩; obtain rfl := hw14.symm; clear hw14)
              | (go_at_call 15; refine (hN11.out _ (Fr.refl _ _)).2.1.mono ?_; rintro e w13 ⟨rfl, hw13⟩; obtain rfl := hw13.symm; clear hw13)
              | (go_at_call 14; refine (hN11.out _ (Fr.refl _ _)).1.mono ?_; rintro e w12 ⟨rfl, hw12⟩; obtain rfl := hw12.symm; clear hw12)
              | (go_at_call 8; refine (hsm10.out _ (Fr.refl _ _)).mono ?_; rintro e w11 ⟨rfl, f11⟩; have I11 := Lib.hid (I10.out.frN f11); have hN11 : Hid (Nums w11 c nJ la rf) := Lib.hid (fun w' f => hN10.out w' (f11.seqN f)); have hS11 : Hid (w11.cell? ⟨z, 2, none⟩ = some (.slice ja nJ jc) ∧ w11.cell? ⟨z, 3, none⟩ = some (.int .i64 la) ∧ w11.cell? ⟨z, 4, none⟩ = some (.int .i64 rf)) := Lib.hid ⟨f11.cell hS10.out.1 (fun q => q), f11.cell hS10.out.2.1 (fun q => q), f11.cell hS10.out.2.2 (fun q => q)⟩; clear f11)
              | (go_at_call 13; refine (hP.out _ (by first | exact Fr.refl _ _ | exact (Fr.refl noB _).drewN 1)).mono ?_; rintro e w10 ⟨a10, n10, cc10, C10, D10, E10, rfl, I10, hN10, hsm10, hS10⟩; replace I10 := Lib.hid I10; replace hN10 := Lib.hid hN10; replace hsm10 := Lib.hid hsm10; replace hS10 : Hid (w10.cell? ⟨z, 2, none⟩ = some (.slice ja nJ jc) ∧ w10.cell? ⟨z, 3, none⟩ = some (.int .i64 la) ∧ w10.cell? ⟨z, 4, none⟩ = some (.int .i64 rf)) := Lib.hid hS10)
              | fail)
          all_goals (
            go_wp2_with fail
            go_meet
            exact ⟨rfl, I11.out.pa.fr0, _, _, _, I11.out⟩)
        case rest =>
          obtain ⟨rfl, _, D1, E1, C1, I1⟩ := hcut
          clear hC9 hP hnn hll hff fr9
          obtain ⟨jb, jd, hcl, hjob⟩ := I1.pr.cells
          have hn8 : C1.Q.length ≤ 8 := by have := I1.lw.wf.len; have := I1.lw.wf.m8; omega
          have hO : ∀ (e : JE), e ∈ C1.Q → ∀ w', Fr noB wc w' → (Calls Tryz.prog 17 #[.pointer (some ⟨c, 0, none⟩), .int .i64 e.j.tr] w' fun x w'' => x = .returned (.pointer (some ⟨e.p, 0, none⟩)) ∧ w'' = w') ∧ (Calls Tryz.prog 18 #[.pointer (some ⟨e.p, 0, none⟩)] w' fun x w'' => x = .returned (.int .i64 e.j.ph) ∧ w'' = w') := fun e he w' f => by
            have h1 := of_cv (I1.pa.frN f) e.j.tr (I1.lw.tk e he)
            rw [at_unique I1.lw.wf he] at h1
            exact ⟨h1, phase_cv (I1.pa.frN f) he⟩
          obtain ⟨nI, hnI⟩ : ∃ nI, C1.Q.length = nI := ⟨_, rfl⟩
          rw [hnI] at hcl hjob hn8
          have y2 : wc.cell? ⟨z, 2, none⟩ = some (.slice jb nI jd) := hcl.1
          replace hjob := Lib.hid hjob
          replace hO := Lib.hid hO
          replace I1 := Lib.hid I1
          clear hcl hnI
          go_wp2_with fail
          go_loopg [127] nI (fun gk2 i wr2 => ∃ k2 : Nat, k2 + gk2 = nI ∧ i = .int .i64 k2 ∧ Hid (Fr noB wc wr2))
          case atStart => exact ⟨0, Nat.zero_add _, rfl, Lib.hid (Fr.refl _ _)⟩
          case round =>
            obtain ⟨k2, hk2, rfl, fI⟩ := hrel
            obtain ⟨wr2, rfl⟩ : ∃ wr2 : World, wr2 = wr := ⟨_, rfl⟩
            obtain ⟨gk2, rfl⟩ : ∃ gk2 : Nat, gk2 = gk := ⟨_, rfl⟩
            by_cases hlt2 : k2 < nI
            · obtain ⟨e, g, r, he, rfl, c0, c1, c3⟩ := hjob.out k2 hlt2
              have hem := List.mem_of_getElem? he
              have hO2 := fun w' (f : Fr noB wr2 w') => hO.out e hem w' (fI.out.seqN f)
              have c0 := fI.out.cell c0 (fun q => q)
              have hSr : ∀ w', Fr noB wr2 w' → (w'.cell? ⟨r, 1, none⟩ = some (.int .i64 e.j.tr) ∧ w'.cell? ⟨r, 3, none⟩ = some (.int .i64 e.j.ph)) := fun w' f => ⟨(fI.out.seqN f).cell c1 (fun q => q), (fI.out.seqN f).cell c3 (fun q => q)⟩
              have hm2 : nI - (k2 + 1) < gk2 := by omega
              have hk22 : k2 + 1 + (nI - (k2 + 1)) = nI := by omega
              have hb2 : (k2 : Int) < nI := by omega
              have hpp : (e.j.ph != e.j.ph) = false := by simp
              replace hO2 := Lib.hid hO2
              replace hSr := Lib.hid hSr
              replace hm2 := Lib.hid hm2
              replace hk22 := Lib.hid hk22
              clear c1 c3 he hem
              go_upto_region 21 with fail
              go_cut [142] from 131 to 142 (fun b wy => b = .bool false ∧ Fr noB wr2 wy)
              case first =>
                go_region_held3 (fun w' => w'.cell? ⟨r, 1, none⟩ = some (.int .i64 e.j.tr) ∧ w'.cell? ⟨r, 3, none⟩ = some (.int .i64 e.j.ph))
                  (first | exact hSr.out _ (Fr.refl _ _) | exact hSr.out _ ((Fr.refl noB _).drewN 1) | fail)
                  (first
                    | (go_at_call 18; refine (hO2.out _ (by first | exact Fr.refl _ _ | exact (Fr.refl noB _).drewN 1)).2.mono ?_; rintro x17 w17 ⟨rfl, hw17⟩; obtain rfl := hw17.symm; clear hw17)
                    | (go_at_call 17; refine (hO2.out _ (by first | exact Fr.refl _ _ | exact (Fr.refl noB _).drewN 1)).1.mono ?_; rintro x16 w16 ⟨rfl, hw16⟩; obtain rfl := hw16.symm; clear hw16)
                    | fail)
                all_goals (
                  go_wp2_with fail
                  go_meet
                  exact ⟨rfl, by first | exact Fr.refl _ _ | exact (Fr.refl noB _).drewN 1⟩)
              case rest =>
                obtain ⟨rfl, fY⟩ := hcut
                have fI2 := Lib.hid (fI.out.seqN fY)
                clear fY
                go_wp2_with fail
                go_roundg (nI - (k2 + 1))
                case rel => exact ⟨k2 + 1, hk22.out, by go_num, fI2⟩
                case measure => exact hm2.out
            · obtain rfl : k2 = nI := by omega
              have I2 := Lib.hid (I1.out.frN fI.out)
              have fr2 := Lib.hid I2.out.pa.fr0
              go_wp2_with fail
              go_roundg (n - (k + 1))
              case rel => exact ⟨k + 1, _, _, _, hkn2.out, by go_num, I2, fr2⟩
              case measure => exact hmeas.out
    · obtain rfl : k = n := by omega
      go_wp2_with fail
      go_ret
      exact ⟨rfl, fr.out⟩
theorem playsC_cs (ag mo : Int) (v : Value) (xs : List OpJ) (w : World) (_ : (Lit.int .i64 ag).wf = true) (_ : (Lit.int .i64 mo).wf = true) (hv : SlR w v 6 (IsOpJ w) xs) :
    Calls Tryz.prog 3 #[.int .i64 ag, .int .i64 mo, v] w fun e w' => e = .returned (.bool true) ∧ Fr noB w w' := playsC_any ag mo v xs w hv
end Go.Proofs.YtidcoddefebdpaaGreat
end

section
set_option linter.unusedVariables false
set_option linter.unusedSimpArgs false
namespace Go.Proofs.YtidcoddefebdpaaGreat.coordPlays
open Go.ChangeShapes Go.WideShapes Go.ChangeAt Go.RowKit
open Go.ChangeMaps (open_string shut_string)

theorem own : ownKnob Tryz.prog.godebug = none := by kernel_rfl
theorem laidOut : laidOutB Tryz.prog = true := by kernel_rfl

set_option maxRecDepth 100000 in
theorem lifted (os : Os) (started : os.Started) (H : Type) (enc : TypeId × Value → H) :
    ReturnsInHanded {} Tryz.checked os 3 .any (Rows.coordPlaysSpec.pre6 enc Tryz.prog Tryz.f3 Rows.coordPlaysRow.domain false) (Rows.coordPlaysSpec.post enc Tryz.prog Tryz.f3 false true false false) := by
  refine returnsInHanded_of_change (C := Tryz.checked) own started (by kernel_rfl) Tryz.func3
    (ChangeSpec.witness6 (enc := enc) (C := Tryz.checked) false ⟨#[], #[.int .i64 0, .int .i64 0, .slice none 0 0], []⟩ 8 (by kernel_rfl) (by kernel_rfl) (by kernel_rfl) (by kernel_rfl)) ?_
  intro W base args ds gs before hval0 hW hcnd _
  have hval : ∀ (j : Nat) t v, Tryz.f3.params[j]? = some t → args[j]? = some v → Value.okWide Tryz.prog W .any base t v := hval0
  have hW' := hW
  obtain ⟨p, q, hA0, hV, rfl, hfz, hnd⟩ := hW
  have hA : DataW.TrodAll enc Tryz.prog W 0 (fun _ => true) true Tryz.f3.params.toList args.toList ds p := hA0
  rw [Tryz.params3] at hA hval
  obtain ⟨v0, vs0, d0, ds0, p0, q0, hargs, rfl, rfl, h0, r0⟩ := trodAll_cons hA
  obtain ⟨v1, vs1, d1, ds1, p1, q1, rfl, rfl, rfl, h1, r1⟩ := trodAll_cons r0
  obtain ⟨v2, vs2, d2, ds2, p2, q2, rfl, rfl, rfl, h2, r2⟩ := trodAll_cons r1
  obtain ⟨rfl, rfl, rfl⟩ := trodAll_nil r2
  obtain rfl : args = #[v0, v1, v2] := by cases args; simp_all
  obtain ⟨rfl, rfl⟩ := trodVars_none hV
  obtain ⟨a0, rfl, rfl, rfl, w0⟩ := open_int Tryz.underlying3 (hval 0 3 v0 rfl rfl) h0
  obtain ⟨a1, rfl, rfl, rfl, w1⟩ := open_int Tryz.underlying3 (hval 1 3 v1 rfl rfl) h1
  have k2 := h2
  have lt2 : ∀ x ∈ p2, x.block < W.heap.size := by obtain ⟨m, hm⟩ := k2; exact DataW.trod_lt m _ _ _ hm
  obtain ⟨xs2, w2⟩ : ∃ xs, SlR W v2 6 (IsOpJ W) xs := by
    obtain ⟨fuel, hf⟩ := h2
    exact slr_of_trod _ Tryz.underlying22 (by kernel_rfl) (by omega) (okWide_slice Tryz.underlying22 (hval 2 22 v2 rfl rfl)) hf (opj_open)
  clear hA0 hval0
  refine (playsC_cs a0 a1 v2 xs2 W w0 w1 w2).mono fun e W' ⟨he, fr⟩ => ?_
  have bel := Fr.below fr
  subst he
  exact ⟨_, rfl, _, _, _, [], _, [], hW', trodAll_mk1 (shut_bool Tryz.underlying4 _), (trodAll_cons_mk (shut_int Tryz.underlying3 w0) (trodAll_cons_mk (shut_int Tryz.underlying3 w1) (trodAll_cons_mk (Below.trod laidOut (by kernel_rfl) (of_decide_eq_true (by kernel_rfl)) k2 bel lt2) trodAll_mk0))), rfl, bel.frame _, fun h => by cases h⟩

theorem over : Rows.coordPlaysRow.holds Tryz.pinned (OpenSpec.ofChange Rows.coordPlaysSpec) :=
  OpenClaim.holds_of_wide 3 Tryz.f3 rfl rfl rfl rfl rfl rfl rfl ⟨rfl, rfl, rfl, rfl, rfl⟩ rfl rfl rfl rfl rfl (by kernel_rfl) Tryz.func3 (by kernel_rfl)
    (of_decide_eq_true (by kernel_rfl)) (by unfold Func.isWrapper; first | (rw [if_pos (by decide +kernel)]; kernel_rfl) | (rw [if_neg (by decide +kernel)]; exact ⟨rfl, rfl⟩))
    (fun os started H enc _ => lifted os started H enc)

theorem proved : Rows.CoordPlaysSaid := over
#print axioms proved
end Go.Proofs.YtidcoddefebdpaaGreat.coordPlays
end
