/-
  No two jobs are of one trace, there are never too many, and numbers rise by one: the law walked.
-/
import Derived.Test.YtidcoddefebdpaaCoordOneB
import Derived.Deep.LoopGhost
import Derived.Deep.DeepCutAuto
set_option linter.unusedVariables false
set_option linter.unusedSimpArgs false
set_option maxRecDepth 100000
namespace Go.Proofs.Ytidcoddefebdpaa
open Go.RowKit Go Go.Maps Go.Lib

theorem rdi_oldC {w : World} {ua : Option Addr} {un uc : Nat} {xs : List Int} (h : RdI w (.slice ua un uc) xs) : xs ≠ [] → ∀ g o, ua = some ⟨g, o, none⟩ → g < w.heap.size := by
  intro hne g o e
  obtain ⟨a, c, e1, _, _, h3⟩ := h
  injection e1 with e1 _ _
  subst e1
  have hl : 0 < xs.length := List.length_pos_iff.2 hne
  obtain ⟨g', o', e2, hc⟩ := h3 0 hl
  rw [e] at e2
  injection e2 with e2
  injection e2 with e2 _ _
  subst e2
  exact lt_of_cell hc
theorem CoV.base {w0 w1 w : World} {c bm : Nat} {D : Nat → Prop} {C : CS} (h : CoV w1 w c bm D C) (f : Fr noB w0 w1) : CoV w0 w c bm D C :=
  ⟨h.is, fun g hg => Nat.le_trans f.size (h.ge g hg), h.lt, f.seqN h.fr0⟩
theorem CoV.up {w0 w w' : World} {c bm b : Nat} {D : Nat → Prop} {C : CS} (h : CoV w0 w c bm D C) (f : Fr (onlyB b) w w') (hb : ∀ g, D g → g < b) (hw : w0.heap.size ≤ b) : CoV w0 w' c bm D C := h.fr f (fun g hg e => by unfold onlyB at e; have := hb g hg; omega) (fun g e => by unfold onlyB at e; omega)
/-- amid the law's loop -/
structure OI (w wr : World) (c bm k : Nat) (D : Nat → Prop) (C : CS) (N : Int) : Prop where
  pa : CoV w wr c bm D C
  lw : C.lw k
  mo : C.mo = N
theorem OI.frN {w wr w' : World} {c bm k : Nat} {D : Nat → Prop} {C : CS} {N : Int} (h : OI w wr c bm k D C N) (f : Fr noB wr w') : OI w w' c bm k D C N := ⟨h.pa.frN f, h.lw, h.mo⟩
/-- the numbers that it tells -/
def Nums (w9 : World) (c nJ : Nat) (la : Int) : Prop := ∀ w', Fr noB w9 w' → (Calls Try.prog 8 #[.pointer (some ⟨c, 0, none⟩)] w' fun e w'' => e = .returned (.int .i64 nJ) ∧ w'' = w') ∧ (Calls Try.prog 7 #[.pointer (some ⟨c, 0, none⟩)] w' fun e w'' => e = .returned (.int .i64 la) ∧ w'' = w')
theorem OI.nums {w wr : World} {c bm k : Nat} {D : Nat → Prop} {C : CS} {N : Int} (h : OI w wr c bm k D C N) : Nums wr c C.Q.length C.la := fun w' f => ⟨jobs_cv (h.pa.frN f), last_cv (h.pa.frN f)⟩
set_option maxHeartbeats 16000000 in
theorem oneC_any (jb : Int) (v : Value) (xs : List OpJ) (w : World) (hv : SlR w v 6 (IsOpJ w) xs) :
    Calls Try.prog 3 #[.int .i64 jb, v] w fun e w' => e = .returned (.bool true) ∧ Fr noB w w' := by
  have hfew := fun w' (f : Fr noB w w') => few_any v xs w w' (hv.frame f (fun _ _ q => q))
  obtain ⟨va, vc, rfl, hx1, hx2, hx3⟩ := hv
  unfold maxLen at hx2
  obtain ⟨n, hn⟩ : ∃ n, xs.length = n := ⟨_, rfl⟩
  rw [hn] at hx1 ⊢
  simp only [hn] at hfew
  have hnb : n ≤ 9223372036854775807 := by have := hx1.1; omega
  have hget : ∀ k, k < n → ∃ m, xs[k]? = some m := fun k hk => ⟨xs[k]'(by rw [hn]; exact hk), List.getElem?_eq_getElem _⟩
  have hok : fewB xs = true → n ≤ 200 := fun h => by
    unfold fewB at h
    simp only [Bool.and_eq_true, decide_eq_true_eq] at h
    omega
  obtain ⟨q8, N8, hq8, hN8, hN1, hN2⟩ := umod8 jb
  have hmm := @run_makeMap Try.prog
  replace hn := Lib.hid hn
  replace hx3 := Lib.hid hx3
  replace hfew := Lib.hid hfew
  replace hget := Lib.hid hget
  go_enter Try.func3, Try.ntmps3
  go_wp2_with fail
  go_fit (awake_any w)
  rintro e w2 ⟨rfl, g2⟩
  have hf2 := hfew.out w2 g2
  generalize fewB xs = fw at *
  cases fw
  · clear hok
    go_wp2_with fail
    go_fit hf2
    rintro e w3 ⟨rfl, f3⟩
    have g3 := g2.seqN f3
    clear f3 hf2 g2
    go_wp2_with fail
    go_fit (awake_any w3)
    rintro e w4 ⟨rfl, f4⟩
    have g4 := g3.seqN f4
    clear f4 g3
    go_wp2_with fail
    go_ret
    exact ⟨rfl, g4⟩
  have hn200 := hok rfl
  clear hok
  go_wp2_with fail
  go_fit hf2
  rintro e w3 ⟨rfl, f3⟩
  have g3 := g2.seqN f3
  clear f3 hf2 g2 hfew
  have hmc : mayCo 3 N8 = true := by
    unfold mayCo
    rw [decide_eq_true hN1, decide_eq_true hN2]
    rfl
  have hN := new_cv 3 N8 (.int .i64 0) (.int .i64 0) (.int .u64 0) (.int .i64 0) (.int .i64 0) w3 hmc
  have hwf := new_wf hmc
  unfold cfC at hN
  replace hN := Lib.hid hN
  replace hN1 := Lib.hid hN1
  replace hN2 := Lib.hid hN2
  clear hmc hq8 hN8
  go_wp2_with fail
  go_fit hN.out
  rintro e w4 ⟨c, bm, D0, rfl, hA⟩
  have I0 : OI w w4 c bm 0 D0 (CS.new 3 N8) N8 := ⟨hA.base g3, ⟨hwf, Int.le_refl _, ⟨Int.le_refl _, Int.le_refl _⟩, fun e he => by cases he⟩, rfl⟩
  replace I0 := Lib.hid I0
  clear hA g3 hN hwf
  go_wp2_with fail
  go_loopg [42] n (fun gk i wr => ∃ (k : Nat) (D : Nat → Prop) (C : CS), k + gk = n ∧ i = .int .i64 k ∧ Hid (OI w wr c bm k D C N8))
  case atStart => exact ⟨0, _, _, Nat.zero_add _, rfl, I0⟩
  case round =>
    clear I0
    obtain ⟨k, D, C, hk, rfl, hI⟩ := hrel
    by_cases hlt : k < n
    · obtain ⟨x, hx⟩ := hget.out k hlt
      obtain ⟨g', o', cs', rfl, _, ⟨rfl, hri, _, _, hwt, _⟩, hc⟩ := hx3.out k x hx
      have fr := hI.out.pa.fr0
      have c0 := fr.cell (hc 0 _ rfl) (fun q => q)
      have c1 := fr.cell (hc 1 _ rfl) (fun q => q)
      have c2 := fr.cell (hc 2 _ rfl) (fun q => q)
      have c3 := fr.cell (hc 3 _ rfl) (fun q => q)
      have c4 := fr.cell (hc 4 _ rfl) (fun q => q)
      have c5 := fr.cell (hc 5 _ rfl) (fun q => q)
      rw [Nat.add_zero] at c0
      simp only [← Nat.add_assoc] at c1 c2 c3 c4 c5
      have hol := rdi_oldC hri
      have hb1 : (k : Int) < n := by omega
      have hmeas : n - (k + 1) < gk := by omega
      have hkn2 : k + 1 + (n - (k + 1)) = n := by omega
      have hk200 : k < 200 := by omega
      have fA : Fr noB wr (wr.alloc (.cells (opC x).toArray 35)) := (Fr.refl _ _).alloc _
      have bA := Blk.new wr 35 (opC x)
      unfold opC at fA bA
      have IA := hI.out.frN fA
      have hboD : ¬ D wr.heap.size := fun q => by have := hI.out.pa.lt _ q; omega
      have hrA := hri.frN (fr.seqN fA)
      obtain ⟨bo, hbo⟩ : ∃ bo, wr.heap.size = bo := ⟨_, rfl⟩
      rw [hbo] at bA hboD
      have hoc := of_cv IA.pa x.t hwt
      have hnm := IA.nums
      have hn8 : C.Q.length ≤ 8 := by have := IA.lw.wf.len; have := IA.lw.wf.m8; omega
      have hla := IA.lw.la
      have hl0 := IA.lw.wf.l0
      obtain ⟨n0, hn0⟩ : ∃ n0, C.Q.length = n0 := ⟨_, rfl⟩
      obtain ⟨l0, hl⟩ : ∃ l0, C.la = l0 := ⟨_, rfl⟩
      rw [hn0] at hnm hn8
      rw [hl] at hnm hla hl0
      obtain ⟨th, hth⟩ : ∃ th, (C.at x.t).isSome = th := ⟨_, rfl⟩
      have hpt : (th = false ∧ ptJ (C.at x.t) = .pointer none) ∨ (th = true ∧ ∃ p, ptJ (C.at x.t) = .pointer (some p)) := by
        subst hth
        cases C.at x.t with
        | none => exact Or.inl ⟨rfl, rfl⟩
        | some e => exact Or.inr ⟨rfl, ⟨e.p, 0, none⟩, rfl⟩
      replace hmeas := Lib.hid hmeas
      replace hkn2 := Lib.hid hkn2
      replace hk200 := Lib.hid hk200
      replace hol := Lib.hid hol
      replace hx := Lib.hid hx
      replace IA := Lib.hid IA
      replace hrA := Lib.hid hrA
      replace hoc := Lib.hid hoc
      replace hnm := Lib.hid hnm
      replace hn0 := Lib.hid hn0
      replace hl := Lib.hid hl
      replace hth := Lib.hid hth
      replace bA := Lib.hid bA
      clear hc hk hri fA hI hwt
      go_upto_region 10 with fail
      try rw [hbo]
      replace hbo := Lib.hid hbo
      generalize (wr.alloc (.cells #[.int .i64 x.k, .int .i64 x.a, .int .i64 x.t, .int .i64 x.j, .slice x.ua x.un x.uc, .bool x.lo] 35)) = w6 at *
      clear c0 c1 c2 c3 c4 c5 fr
      have a0 : w6.cell? ⟨bo, 0, none⟩ = some (.int .i64 x.k) := bA.out.cell 0
      have a1 : w6.cell? ⟨bo, 1, none⟩ = some (.int .i64 x.a) := bA.out.cell 1
      have a2 : w6.cell? ⟨bo, 2, none⟩ = some (.int .i64 x.t) := bA.out.cell 2
      have a3 : w6.cell? ⟨bo, 3, none⟩ = some (.int .i64 x.j) := bA.out.cell 3
      have a4 : w6.cell? ⟨bo, 4, none⟩ = some (.slice x.ua x.un x.uc) := bA.out.cell 4
      have a5 : w6.cell? ⟨bo, 5, none⟩ = some (.bool x.lo) := bA.out.cell 5
      go_wp2_with fail
      go_fit (hnm.out w6 (Fr.refl _ _)).2
      rintro e w7 ⟨rfl, hw7⟩
      obtain rfl := hw7.symm
      clear hw7
      go_wp2_with fail
      go_fit (hnm.out w6 (Fr.refl _ _)).1
      rintro e w7 ⟨rfl, hw7⟩
      obtain rfl := hw7.symm
      clear hw7
      go_upto_region 11 with fail
      go_cut [11] from 50 to 54 (fun b wy => b = .bool th ∧ wy = w6)
      case first =>
        rcases hpt with ⟨rfl, hp⟩ | ⟨rfl, p, hp⟩
        all_goals (
          rw [hp] at hoc
          clear hp
          go_wp2_with fail
          go_fit hoc.out
          rintro e w7 ⟨rfl, hw7⟩
          obtain rfl := hw7.symm
          clear hw7
          go_wp2_with fail
          go_meet
          exact ⟨rfl, rfl⟩)
      case rest =>
        obtain ⟨rfl, hwc⟩ := hcut
        obtain rfl := hwc.symm
        clear hwc hoc hpt
        have hmsg := message_any x w6
        replace hmsg := Lib.hid hmsg
        go_wp2_with fail
        go_fit hmsg.out
        rintro e w7 ⟨mv, rfl, hmv, f7⟩
        have I7 := IA.out.frN f7
        have b7 := f7.blk bA.out (fun q => q)
        have hr7 := hrA.out.frN f7
        have hlo := fun g (hg : D g) => I7.pa.ge g hg
        have hk2 := hk200.out
        have hrf := I7.lw.rf
        have hla7 := I7.lw.la
        have hH := hearO_cv w c bm D C x mv w7 I7.pa hmv hr7 (fun hne g o e hD => by have := hol.out hne g o e; have := hlo g hD; omega) (by omega) (by omega)
        replace I7 := Lib.hid I7
        replace hH := Lib.hid hH
        replace b7 := Lib.hid b7
        clear hmsg hmv f7 IA hrA bA hr7 a0 a1 a2 a3 a4 a5 hlo hk2 hrf hla7 hnm
        go_wp2_with fail
        go_fit hH.out
        rintro e w8 ⟨u, pn, D1, rfl, ho, hpn, A8, hD1, f8⟩
        have hone := hearO_one C x pn
        have hlw := (hearO_lw I7.out.lw x pn A8.wf).1
        obtain ⟨C1, hC1⟩ : ∃ C1, (C.hearO x.ms pn).1 = C1 := ⟨_, rfl⟩
        rw [hC1] at A8 hone hlw
        obtain ⟨m1, m2, m3, m4⟩ := hone
        have I8 : OI w w8 c bm (k + 1) D1 C1 N8 := ⟨A8, hlw, by rw [m1]; exact I7.out.mo⟩
        have b8 := f8.blk b7.out hboD
        have a0 : w8.cell? ⟨bo, 0, none⟩ = some (.int .i64 x.k) := b8.cell 0
        have hnm := I8.nums
        have hQ1 := hlw.wf.len
        rw [I8.mo] at hQ1
        have hl1 := hlw.wf.l0
        have hla1 := hlw.la
        have hk2 := hk200.out
        rw [hl.out] at m2 m3
        have key : th = false ∨ (th = true ∧ (x.k == 1) = true ∧ (C1.la != l0) = false ∧ (((C1.Q.length : Nat) : Int) != n0) = false) ∨ (th = true ∧ (x.k == 1) = false) := by
          cases hq : th with
          | false => exact Or.inl rfl
          | true =>
            by_cases h1 : x.k = 1
            · have e := m4 (by rw [hth.out]; exact hq) h1
              refine Or.inr (Or.inl ⟨rfl, by simp [h1], ?_, ?_⟩)
              · rw [e, hl.out]; simp
              · rw [e, hn0.out]; simp
            · exact Or.inr (Or.inr ⟨rfl, by simp [h1]⟩)
        obtain ⟨n1, hn1⟩ : ∃ n1, C1.Q.length = n1 := ⟨_, rfl⟩
        obtain ⟨l1, hl1'⟩ : ∃ l1, C1.la = l1 := ⟨_, rfl⟩
        rw [hn1] at hnm hQ1 key
        rw [hl1'] at hnm m2 m3 key hl1 hla1
        have hd1 : decide (N8 < (n1 : Int)) = false := by simp; omega
        have hd2 : decide (l1 < l0) = false := by simp; omega
        have hd3 : decide (l0 + 1 < l1) = false := by simp; omega
        have hw1 : wrap64 (l0 + 1) = l0 + 1 := IntWalk.wrap64_in _ (by omega)
        have hT := tick_cv I8.pa
        have hn18 : n1 ≤ 8 := by have := hN2.out; omega
        replace hT := Lib.hid hT
        replace I8 := Lib.hid I8
        replace hnm := Lib.hid hnm
        replace hn1 := Lib.hid hn1
        replace hl1' := Lib.hid hl1'
        replace hQ1 := Lib.hid hQ1
        replace hla1 := Lib.hid hla1
        clear hH ho hpn A8 hD1 f8 b7 b8 I7 m1 m2 m3 m4 hC1 hlw hth hn0 hl hol hk2 hboD
        go_upto_region 13 with fail
        go_cut [95] from 59 to 95 (fun b wy => b = .bool false ∧ wy = w8)
        case first =>
          rcases key with rfl | ⟨rfl, e1, e2, e3⟩ | ⟨rfl, e1⟩
          all_goals (
            repeat' (first
              | (go_at_call 8; refine (hnm.out _ (Fr.refl _ _)).1.mono ?_; rintro e wx ⟨rfl, hwx⟩; obtain rfl := hwx.symm; clear hwx)
              | (go_at_call 7; refine (hnm.out _ (Fr.refl _ _)).2.mono ?_; rintro e wx ⟨rfl, hwx⟩; obtain rfl := hwx.symm; clear hwx)
              | (go_meet; exact ⟨rfl, rfl⟩; done)
              | go_wp2_with fail))
        case rest =>
          obtain ⟨rfl, hwc⟩ := hcut
          obtain rfl := hwc.symm
          clear hwc key hd1 hd2 hd3 hw1 a0 hnm
          have fM : Fr noB w8 (w8.alloc (.map #[] 0)) := (Fr.refl _ _).alloc _
          have hTM := tick_cv (I8.out.frN fM).pa
          have hS0 := Sn.new w8 C1
          have hDM : ∀ g, D1 g → g < w8.heap.size := I8.out.pa.lt
          have hwM : w.heap.size ≤ w8.heap.size := I8.out.pa.fr0.size
          have IM := I8.out.frN fM
          have hsM : (w8.alloc (.map #[] 0)).heap.size = w8.heap.size + 1 := size_alloc ..
          obtain ⟨bs, hbs⟩ : ∃ bs, w8.heap.size = bs := ⟨_, rfl⟩
          rw [hbs] at hS0 hDM hwM hsM
          replace hTM := Lib.hid hTM
          replace hS0 := Lib.hid hS0
          replace hDM := Lib.hid hDM
          replace hwM := Lib.hid hwM
          replace IM := Lib.hid IM
          replace hsM := Lib.hid hsM
          clear hT I8 fM
          go_upto_region 16 with fail
          try rw [hbs]
          replace hbs := Lib.hid hbs
          generalize (w8.alloc (.map #[] 0)) = w9 at *
          go_wp2_with fail
          go_fit hTM.out
          rintro e w16 ⟨u16, P, rfl, hPl, o16, hP16, f16⟩
          have hof := tick_of C1.Q P hPl hP16
          have hgl := tickG_len C1.Q P
          rw [hn1.out] at hgl
          generalize tickG C1.Q P = G at *
          obtain ⟨nG, hnG⟩ : ∃ nG, G.length = nG := ⟨_, rfl⟩
          rw [hnG] at o16 hgl
          have hg16 : ∀ i, i < nG → ∃ (x : Int) (T : TypeId) (m : Value) (g : Nat) (cg : Nat) (e : JE), u16 = .slice (some ⟨g, 0, none⟩) nG cg ∧ bs < g ∧ w16.cell? ⟨g, i * 2, none⟩ = some (.int .i64 x) ∧ w16.cell? ⟨g, i * 2 + 1, none⟩ = some (.iface T m) ∧ e ∈ C1.Q ∧ OfNow (.iface T m) e.j.tr e.j.id := fun i hi => by
            obtain ⟨⟨x, m⟩, hy⟩ : ∃ y, G[i]? = some y := ⟨_, List.getElem?_eq_getElem (by rw [hnG]; exact hi)⟩
            obtain ⟨e, he, ho, T, m', rfl⟩ := hof _ (List.mem_of_getElem? hy)
            obtain ⟨g, ⟨cg, hu⟩, q0, q1⟩ := zg_get o16 hy
            have hlt := (o16.lt g (by rw [hu]; rfl)).1
            rw [hsM.out] at hlt
            exact ⟨x, T, m', g, cg, e, hu, by omega, q0, q1, he, ho⟩
          obtain ⟨ua16, uc16, rfl⟩ := ownsRow_slice o16
          have I16 := IM.out.frN f16
          have S16 := hS0.out.fr f16 (fun q => q)
          have hcon := fun w' (f : Fr (onlyB bs) w16 w') => (show OI w w' c bm (k + 1) D1 C1 N8 from ⟨I16.pa.up f hDM.out hwM.out, I16.lw, I16.mo⟩)
          replace hg16 := Lib.hid hg16
          replace I16 := Lib.hid I16
          replace S16 := Lib.hid S16
          replace hcon := Lib.hid hcon
          clear hTM hPl o16 hP16 f16 hof hnG hS0 IM hDM hwM hsM
          have hgl2 : nG ≤ 40 := by omega
          replace hgl := Lib.hid hgl
          go_wp2_with fail
          go_loopg [100] nG (fun gk2 i wr2 => ∃ k2 : Nat, k2 + gk2 = nG ∧ i = .int .i64 k2 ∧ Hid (Fr (onlyB bs) w16 wr2) ∧ Hid (Sn wr2 bs C1))
          case atStart => exact ⟨0, Nat.zero_add _, rfl, Lib.hid (Fr.refl _ _), S16⟩
          case round =>
            clear S16
            obtain ⟨k2, hk2, rfl, fI, sI⟩ := hrel
            obtain ⟨wr2, rfl⟩ : ∃ wr2 : World, wr2 = wr := ⟨_, rfl⟩
            obtain ⟨gk2, rfl⟩ : ∃ gk2 : Nat, gk2 = gk := ⟨_, rfl⟩
            by_cases hlt2 : k2 < nG
            · obtain ⟨x2, T2, m2, g2, cg2, e2, hu2, hbg, q0, q1, he2, ho2⟩ := hg16.out k2 hlt2
              injection hu2 with hu2 _ hcg
              subst hu2 hcg
              have q0 := fI.out.cell q0 (fun e => by unfold onlyB at e; omega)
              have q1 := fI.out.cell q1 (fun e => by unfold onlyB at e; omega)
              have fX := (Fr.refl noB wr2).alloc (.cells #[.int .i64 x2, .iface T2 m2] 47)
              have bX := Blk.new wr2 47 [.int .i64 x2, .iface T2 m2]
              have I2 := (hcon.out wr2 fI.out).frN fX
              have fI2 := fI.out.trans fX (fun _ _ q => q) (fun _ _ q => q.elim)
              have s2 := sI.out.fr fX (fun q => q)
              have hm2 : nG - (k2 + 1) < gk2 := by omega
              have hk22 : k2 + 1 + (nG - (k2 + 1)) = nG := by omega
              have hb2 : (k2 : Int) < nG := by omega
              replace hm2 := Lib.hid hm2
              replace hk22 := Lib.hid hk22
              replace I2 := Lib.hid I2
              replace fI2 := Lib.hid fI2
              replace s2 := Lib.hid s2
              replace ho2 := Lib.hid ho2
              replace he2 := Lib.hid he2
              obtain ⟨b2, hb2'⟩ : ∃ b2, wr2.heap.size = b2 := ⟨_, rfl⟩
              rw [hb2'] at bX
              clear fX fI sI hk2
              go_upto_region 19 with fail
              try rw [hb2']
              replace hb2' := Lib.hid hb2'
              generalize (wr2.alloc (.cells #[.int .i64 x2, .iface T2 m2] 47)) = w20 at *
              have q2 : w20.cell? ⟨b2, 1, none⟩ = some (.iface T2 m2) := bX.cell 1
              clear q0 q1 bX
              go_wp2_with fail
              go_fit (ho2.out w20)
              rintro e w21 ⟨rfl, f21⟩
              have I21 := I2.out.frN f21
              have s21 := s2.out.fr f21 (fun q => q)
              have fI21 := fI2.out.trans f21 (fun _ _ q => q) (fun _ _ q => q.elim)
              have hO21 := of_cv I21.pa e2.j.tr (I21.lw.tk e2 he2.out)
              rw [at_unique I21.lw.wf he2.out] at hO21
              replace hO21 : Calls Try.prog 9 #[.pointer (some ⟨c, 0, none⟩), .int .i64 e2.j.tr] w21 fun e w' => e = .returned (.pointer (some ⟨e2.p, 0, none⟩)) ∧ w' = w21 := hO21
              have hT21 : Calls Try.prog 14 #[.pointer (some ⟨e2.p, 0, none⟩)] w21 fun e w' => e = .returned (.int .i64 e2.j.tr) ∧ w' = w21 := by
                obtain ⟨U, H, _⟩ := I21.pa.is
                exact trace_jg e2.p _ _ _ w21 (H.jobs e2 he2.out)
              have hL21 := (I21.nums w21 (Fr.refl _ _)).2
              rw [hl1'.out] at hL21
              obtain ⟨i1, i2, i3⟩ := I21.lw.wf.nl e2 he2.out
              rw [hl1'.out] at i2
              have hd1 : decide (e2.j.id < 1) = false := by simp; omega
              have hd2 : decide (l1 < e2.j.id) = false := by simp; omega
              have hd3 : (e2.j.tr != e2.j.tr) = false := by simp
              obtain ⟨w22, hput, s22, f22⟩ := s21.put I21.lw.wf he2.out (I21.lw.tk e2 he2.out)
              have fI22 := fI21.trans f22 (fun _ _ q => q) (fun _ _ q => q)
              replace hO21 := Lib.hid hO21
              replace hT21 := Lib.hid hT21
              replace hL21 := Lib.hid hL21
              replace s22 := Lib.hid s22
              replace fI22 := Lib.hid fI22
              clear I21 s21 fI21 i1 i2 i3 f21 f22 I2 fI2 s2 ho2 he2 q2
              repeat' (first
                | (go_at_call 7; refine hL21.out.mono ?_; rintro e wx ⟨rfl, hwx⟩; obtain rfl := hwx.symm; clear hwx)
                | (go_at_call 9; refine hO21.out.mono ?_; rintro e wx ⟨rfl, hwx⟩; obtain rfl := hwx.symm; clear hwx)
                | (go_at_call 14; refine hT21.out.mono ?_; rintro e wx ⟨rfl, hwx⟩; obtain rfl := hwx.symm; clear hwx)
                | (go_roundg (nG - (k2 + 1)); (case rel => exact ⟨k2 + 1, hk22.out, by go_num, fI22, s22⟩); (case measure => exact hm2.out); done)
                | go_wp2_with fail)
            · obtain rfl : k2 = nG := by omega
              obtain ⟨n2, hn2, hlen⟩ := sI.out.len
              have I3 := hcon.out wr2 fI.out
              have hnj := (I3.nums wr2 (Fr.refl _ _)).1
              rw [hn1.out] at hnj hn2
              have hd : decide ((n1 : Int) < n2) = false := by simp; omega
              have hd' : decide (n1 < n2) = false := by simp; omega
              replace hnj := Lib.hid hnj
              replace I3 := Lib.hid I3
              replace hn2 := Lib.hid hn2
              clear fI sI
              go_wp2_with fail
              go_fit hnj.out
              rintro e w23 ⟨rfl, hw23⟩
              obtain rfl := hw23.symm
              clear hw23
              go_wp2_with fail
              go_roundg (n - (k + 1))
              case rel => exact ⟨k + 1, _, _, hkn2.out, by go_num, I3⟩
              case measure => exact hmeas.out
    · obtain rfl : k = n := by omega
      have fr := Lib.hid hI.out.pa.fr0
      clear hI
      repeat' (first
        | (go_at_call 10; refine (none_hear _ _).mono ?_; rintro e wx ⟨rfl, hwx⟩; obtain rfl := hwx.symm; clear hwx)
        | (go_at_call 12; refine (none_tick _).mono ?_; rintro e wx ⟨rfl, hwx⟩; obtain rfl := hwx.symm; clear hwx)
        | (go_at_call 8; refine (none_jobs _).mono ?_; rintro e wx ⟨rfl, hwx⟩; obtain rfl := hwx.symm; clear hwx)
        | (go_at_call 9; refine (none_of _ _).mono ?_; rintro e wx ⟨rfl, hwx⟩; obtain rfl := hwx.symm; clear hwx)
        | (go_at_call 7; refine (none_last _).mono ?_; rintro e wx ⟨rfl, hwx⟩; obtain rfl := hwx.symm; clear hwx)
        | (go_at_call 15; refine (none_refused _).mono ?_; rintro e wx ⟨rfl, hwx⟩; obtain rfl := hwx.symm; clear hwx)
        | (go_ret; exact ⟨rfl, fr.out⟩; done)
        | go_wp2_with fail)
theorem oneC_cs (jb : Int) (v : Value) (xs : List OpJ) (w : World) (_ : (Lit.int .i64 jb).wf = true) (hv : SlR w v 6 (IsOpJ w) xs) :
    Calls Try.prog 3 #[.int .i64 jb, v] w fun e w' => e = .returned (.bool true) ∧ Fr noB w w' := oneC_any jb v xs w hv
end Go.Proofs.Ytidcoddefebdpaa
