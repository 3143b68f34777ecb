/-
  What the law JobEnds walks.
-/
import Derived.Test.YtppgachfobpgbaaEnds
set_option linter.unusedVariables false
set_option linter.unusedSimpArgs false
namespace Go.Proofs.Ytppgachfobpgbaa
open Go.RowKit Go Go.Lib

/-- what is said to each of L, as it lies in a row -/
def OutAt (w : World) (g : Nat) (L : List Int) (m : Value) : Prop := ∀ i, i < L.length → w.cell? ⟨g, i * 2, none⟩ = some (.int .i64 (L.getD i 0)) ∧ w.cell? ⟨g, i * 2 + 1, none⟩ = some m
theorem OutAt.fr {w w' : World} {g : Nat} {L : List Int} {m : Value} {S : Nat → Prop} (h : OutAt w g L m) (f : Fr S w w') (hg : ¬ S g) : OutAt w' g L m := fun i hi => ⟨f.cell (h i hi).1 hg, f.cell (h i hi).2 hg⟩
theorem out_own {w : World} {B : Nat} {u : Value} {L : List Int} {m : Value} (h : w.ownsRow B 58 2 u L.length (outC L m)) (hl : 0 < L.length) : ∃ g cap, u = .slice (some ⟨g, 0, none⟩) L.length cap ∧ B ≤ g ∧ OutAt w g L m := by
  obtain ⟨g, cap, rfl, hg⟩ := ownsRow_some h hl
  refine ⟨g, cap, rfl, hg, fun i hi => ?_⟩
  obtain ⟨h1, h2⟩ := outC_get L m i hi
  have k1 := h.cells (g := g) rfl _ _ h1
  have k2 := h.cells (g := g) rfl _ _ h2
  rw [Addr.add_lit, Nat.zero_add] at k1 k2
  exact ⟨k1, k2⟩
theorem pinB_yes {b : Nat} {t : Int} {xs : List Int} (hb : b < 4) (ht : inB 1 65535 t = true) (hx : risB (-1) xs = true) : pinB b t 1 0 xs = true := by
  unfold pinB
  rw [ht, hx]
  have : inB 0 3 (b : Int) = true := by unfold inB; rw [decide_eq_true (by omega), decide_eq_true (by omega)]; rfl
  rw [this]; rfl
theorem bStored_yes {t : Int} (ht : inB 1 65535 t = true) : bStored t 1 = true := by unfold bStored; rw [ht]; rfl
theorem bUnp_yes {b : Nat} {t : Int} (hb : b < 4) (ht : inB 1 65535 t = true) : bUnpinned b t 1 = true := by
  unfold bUnpinned
  have : inB 0 3 (b : Int) = true := by unfold inB; rw [decide_eq_true (by omega), decide_eq_true (by omega)]; rfl
  rw [this, ht]; rfl
theorem bTr_t {a t c : Int} (h : bTrigger a t c = true) : inB 1 65535 t = true := by
  unfold bTrigger at h
  simp only [Bool.and_eq_true] at h
  exact h.2.1
theorem last_own {w : World} {B e n g cap : Nat} {T : List Int} (h : w.ownsRow B e 1 (.slice (some ⟨g, 0, none⟩) n cap) n (rowV T)) {i : Nat} (hi : i < T.length) : w.cell? ⟨g, i, none⟩ = some (.int .i64 (T.getD i 0)) := ownsRow_int h hi
theorem new_two (t c : Int) (n A : Nat) : (JS.new 1 t c n A).two = (t, 1) := by unfold JS.new; rw [upd_two]; rfl

set_option maxHeartbeats 8000000 in
set_option maxRecDepth 10000 in
theorem ends_any (n0 a t c : Int) (v : Value) (G : List (List Int)) (w : World) (hv : SlR w v 1 (IsNmJ w) G) :
    Calls Try.prog 6 #[.int .i64 n0, .agg #[.int .i64 a, .int .i64 t, .int .i64 c], v] w fun e w' => e = .returned (.bool true) ∧ Fr noB w w' := by
  obtain ⟨va, vc, rfl, hx1, hx2, hx3⟩ := hv
  obtain ⟨z, hz, z0, z1⟩ := umod n0 4 (by omega) (by omega)
  obtain ⟨y, hy, y0, y1⟩ := umodv a (1 + z) (by omega) (by omega) (1 + z) rfl
  obtain ⟨T, hT⟩ : ∃ T : Nat, 1 + z = T := ⟨(1 + z).toNat, by omega⟩
  obtain ⟨A, rfl⟩ : ∃ A : Nat, y = A := ⟨y.toNat, by omega⟩
  have hu : IntKind.u64.wrap (1 + z) = 1 + z := by rw [IntKind.wrap_u64]; omega
  rw [hu] at hy
  have hnz : ¬ (1 + z = 0) := by omega
  have hnz2 : ((1 : Int) + z == 0) = false := by simp; omega
  generalize hn : G.length = n at *
  unfold maxLen at hx2
  have hnb : n ≤ 9223372036854775807 := by omega
  replace hn := Lib.hid hn
  replace hx3 := Lib.hid hx3
  replace hT := Lib.hid hT
  have fX := (Fr.refl noB w).alloc (.cells #[.int .i64 A, .int .i64 t, .int .i64 c] 23)
  have bX := Blk.new w 23 [.int .i64 A, .int .i64 t, .int .i64 c]
  go_enter Try.func6, Try.ntmps6
  go_wp2_with fail
  have hT2 := hT.out
  rw [hT2] at hy
  clear hz hu hnz hnz2 hT y0
  rw [hT2, hy]
  clear hy
  have hAT : A < T := by have := hT2.symm; omega
  have hT4 : T ≤ 4 := by omega
  clear hT2 y1 z0 z1
  cases hbT : bTrigger A t c with
  | false =>
    refine (new_no 1 T A t c _ hbT).mono ?_
    rintro e w1 ⟨rfl, f1⟩
    have g1 := fX.seqN f1
    clear hbT bX fX f1 hx3
    go_wp2_with fail
    refine (awake_any _).mono ?_
    rintro e w2 ⟨rfl, f2⟩
    have g2 := g1.seqN f2
    clear g1 f2
    go_wp2_with fail
    refine (awake_any _).mono ?_
    rintro e w3 ⟨rfl, f3⟩
    have g3 := g2.seqN f3
    go_wp2_with fail
    go_ret
    exact ⟨rfl, g3⟩
  | true =>
    have htt := bTr_t hbT
    refine (new_any 1 t c T A _ hbT (by omega) (by omega) hAT hT4).mono ?_
    rintro e w1 ⟨p, rfl, hpp, ja, f1⟩
    have g1 := fX.seqN f1
    have b1 := f1.blk bX (fun q => q)
    have hfar := far_new t c T A hAT hT4
    have htwo := new_two t c T A
    have hbp : w.heap.size < p := by simp at hpp; omega
    have hp1 : p < w1.heap.size := (ja 0).lt
    generalize JS.new 1 t c T A = j0 at *
    generalize hbt : w.heap.size = bt at *
    have hwp : ¬ p < w.heap.size := by omega
    replace hwp := Lib.hid hwp
    clear hbT bX fX f1 hpp hbt
    go_wp2_with fail
    refine (awake_any _).mono ?_
    rintro e w2 ⟨rfl, f2⟩
    have g2 := g1.seqN f2
    have b2 := f2.blk b1 (fun q => q)
    have j2 := (ja w2.heap.size).frN f2
    have hp2 : p < w2.heap.size := by have := f2.size; omega
    obtain ⟨X0, hX0⟩ : ∃ X0, JG w2 p w2.heap.size j0 X0 := ⟨_, j2⟩
    clear g1 b1 f2 ja j2 hp1
    by_cases hnT : n < T
    · have hd : decide ((n : Int) < (T : Int)) = true := by simpa using hnT
      have hd2 : decide (n < T) = true := by simpa using hnT
      clear hx3 hfar htwo b2 hX0
      go_wp2_with fail
      refine (awake_any _).mono ?_
      rintro e w3 ⟨rfl, f3⟩
      have g3 := g2.seqN f3
      go_wp2_with fail
      go_ret
      exact ⟨rfl, g3⟩
    have hd : decide ((n : Int) < (T : Int)) = false := by simpa using hnT
    have hd2 : decide (n < T) = false := by simpa using hnT
    obtain ⟨L, hLL⟩ : ∃ L, L = w2.heap.size := ⟨_, rfl⟩
    rw [← hLL] at hX0 hp2
    replace hfar := Lib.hid hfar
    replace htwo := Lib.hid htwo
    replace g2 := Lib.hid g2
    replace b2 := Lib.hid b2
    have hz2 : L ≤ w2.heap.size := by omega
    clear hLL
    have hw3 : wrap64 ((T : Int) + 3) = (T : Int) + 3 := IntWalk.wrap64_in _ (by omega)
    obtain ⟨R, hR⟩ : ∃ R : Nat, (T : Int) + 3 = R := ⟨T + 3, by omega⟩
    have hRT : R = T + 3 := by omega
    have hRb : R ≤ 7 := by omega
    replace hRT := Lib.hid hRT
    go_wp2_with fail
    try rw [hR]
    clear hw3 hR
    go_loopg [45] R (fun gk i wr => ∃ (r : Nat) (j : JS) (X : Nat → List Int), r + gk = R ∧ i = .int .i64 r ∧ JG wr p L j X ∧ Hid (Far T r j) ∧ Hid (j.two = (t, 1)) ∧ Hid (Blk wr bt 23 [.int .i64 A, .int .i64 t, .int .i64 c]) ∧ Hid (Fr noB w wr) ∧ L ≤ wr.heap.size)
    case atStart => exact ⟨0, j0, X0, Nat.zero_add _, rfl, hX0, hfar, htwo, b2, g2, hz2⟩
    case round =>
      clear hfar htwo b2 g2 hz2 hX0
      obtain ⟨r, j, X, hk, rfl, hJ, hfar, htwo, bB, fr, hL⟩ := hrel
      by_cases hlt : r < R
      · rcases hfar.out with ⟨e, ph, nn, rc⟩ | ⟨e, ph, nn, rc⟩ | ⟨ph, st, ne, rc⟩ | ⟨ph, st⟩
        · go_wp2_with fail
          refine (outs1_jg p L j X _ hJ ph).mono ?_
          rintro e2 w3 ⟨u, rfl, o3, f3⟩
          have hJ3 := hJ.frN f3
          have bB3 := f3.blk bB.out (fun q => q)
          have fr3 := fr.out.seqN f3
          have hp3 : p < wr.heap.size := hJ.lt
          have hL3 : L ≤ w3.heap.size := by have := f3.size; omega
          have htj : t = j.tr ∧ 1 = j.id := by have := htwo.out; unfold JS.two at this; simp only [Prod.mk.injEq] at this; exact ⟨this.1.symm, this.2.symm⟩
          have hi1 := I1.start e ph nn
          have hV0 : 0 < (whichL (fun v => !v.p) j 4).length := by
            rcases Nat.eq_zero_or_pos (whichL (fun v => !v.p) j 4).length with q | q
            · exfalso
              unfold noneL at nn
              rw [q] at nn
              cases nn
            · exact q
          obtain ⟨g, cap, rfl, hg, hoc⟩ := out_own o3 hV0
          have hgp : g ≠ p := by omega
          obtain ⟨V, hV⟩ : ∃ V, V = whichL (fun v => !v.p) j 4 := ⟨_, rfl⟩
          have hVn : V.Nodup := by rw [hV]; exact which_nodup _ _
          have hN4 : V.length ≤ 4 := by rw [hV]; exact whichL_len _ _ _
          have hVm : ∀ x ∈ V, ∃ b : Nat, b < 4 ∧ x = (b : Int) ∧ b < T := fun x hx => by
            rw [hV] at hx
            obtain ⟨b, hb, e1, e2, _⟩ := which_mem.1 hx
            exact ⟨b, hb, e1, e.vn b hb e2⟩
          have hle : (whichL (fun v => !v.p) j 4).length = V.length := by rw [hV]
          rw [← hV] at hi1 hoc hV0
          rw [hle]
          have htr1 : j.tr = t := htj.1.symm
          have hid1 : j.id = 1 := htj.2.symm
          rw [htr1, hid1] at hoc
          have q0 := as_Pin_Pin
          generalize hc0 : j.cnt = cc at *
          generalize hN : V.length = N at *
          replace hoc := Lib.hid hoc
          replace fr3 := Lib.hid fr3
          replace bB3 := Lib.hid bB3
          replace hVm := Lib.hid hVm
          replace hVn := Lib.hid hVn
          replace hN := Lib.hid hN
          replace hi1 := Lib.hid hi1
          have hR4 := hRT.out
          replace hR4 := Lib.hid hR4
          clear hfar hJ bB fr f3 o3 hL hle htr1 hid1 ph nn e htj hV hc0
          go_wp2_with fail
          go_loopg [50] N (fun gk2 i w4 => ∃ (k : Nat) (j4 : JS) (X4 : Nat → List Int), k + gk2 = N ∧ i = .int .i64 k ∧ JG w4 p L j4 X4 ∧ Hid (I1 T cc V k j4) ∧ Hid (j4.two = (t, 1)) ∧ Hid (Blk w4 bt 23 [.int .i64 A, .int .i64 t, .int .i64 c]) ∧ Hid (Fr noB w w4) ∧ Fr (onlyB p) w3 w4 ∧ L ≤ w4.heap.size)
          case atStart => exact ⟨0, j, X, Nat.zero_add _, rfl, hJ3, hi1, htwo, bB3, fr3, Fr.refl _ _, hL3⟩
          case round =>
            clear hJ3 bB3 fr3 hL3 hi1 htwo
            obtain ⟨k, j4, X4, hk4, rfl, hJ4, hi4, htwo4, bB4, fr4, f34, hL4⟩ := hrel
            by_cases hkn : k < N
            · obtain ⟨c0, c1⟩ := (hoc.out.fr f34 (fun q => hgp (by unfold onlyB at q; exact q))) k (by rw [hN.out]; exact hkn)
              have hkV : k < V.length := by rw [hN.out]; exact hkn
              have hxm : V.getD k 0 ∈ V := List.mem_of_getElem? (show V[k]? = some (V.getD k 0) by simp [List.getD, hkV])
              obtain ⟨b, hb4, hxb, hbT⟩ := hVm.out _ hxm
              have hstep := fun (tt : Told) (xs : List Int) (hx : ∀ x ∈ xs, 0 ≤ x ∧ x ≤ 3) => I1.step hi4.out hVn.out hkV hxb (t := tt) (xs := xs) hx
              obtain ⟨_, hvb, hpb, _⟩ := hstep told0 [] (fun x hx => by cases hx)
              have hph4 := hi4.out.go hkV
              have htj4 : t = j4.tr ∧ 1 = j4.id := by have := htwo4.out; unfold JS.two at this; simp only [Prod.mk.injEq] at this; exact ⟨this.1.symm, this.2.symm⟩
              replace htj4 := Lib.hid htj4
              obtain ⟨Gb, hGb⟩ : ∃ Gb, G[b]? = some Gb := ⟨G[b]'(by rw [hn.out]; omega), List.getElem?_eq_getElem _⟩
              obtain ⟨gn, on, csn, rfl, _, ⟨sa, sl, sc, rfl, hrd⟩, hcn⟩ := hx3.out b Gb hGb
              have hcn0 := hcn 0 _ rfl
              rw [hxb] at c0
              unfold mPin at c1
              have fA := (Fr.refl noB wr).alloc (.cells #[.int .i64 (b : Int), .iface 70 (.agg #[.int .i64 t, .int .i64 1])] 58)
              have bO := Blk.new wr 58 [.int .i64 (b : Int), .iface 70 (.agg #[.int .i64 t, .int .i64 1])]
              have hJA := hJ4.frN fA
              have frA := fr4.out.seqN fA
              have bBA := fA.blk bB4.out (fun q => q)
              have f3A := f34.seqN fA
              have hLA : L ≤ (wr.alloc (.cells #[.int .i64 (b : Int), .iface 70 (.agg #[.int .i64 t, .int .i64 1])] 58)).heap.size := by have := fA.size; omega
              have hxo : (wr.alloc (.cells #[.int .i64 (b : Int), .iface 70 (.agg #[.int .i64 t, .int .i64 1])] 58)).heap.size = wr.heap.size + 1 := by simp
              obtain ⟨wA, hwA⟩ : ∃ wA, wA = wr.alloc (.cells #[.int .i64 (b : Int), .iface 70 (.agg #[.int .i64 t, .int .i64 1])] 58) := ⟨_, rfl⟩
              have hpw : p < wr.heap.size := hJ4.lt
              have hcells : ∀ w5, Fr noB wA w5 → w5.cell? ⟨wr.heap.size, 0, none⟩ = some (.int .i64 (b : Int)) ∧ w5.cell? ⟨bt, 1, none⟩ = some (.int .i64 t) ∧ w5.cell? ⟨gn, on + b, none⟩ = some (.slice sa sl sc) ∧ RdI w5 (.slice sa sl sc) Gb := by
                intro w5 f5
                rw [hwA] at f5
                refine ⟨(f5.blk bO (fun q => q)).cell 0, (f5.blk bBA (fun q => q)).cell 1, ?_, hrd.fr (frA.seqN f5) (fun _ _ _ _ _ q => q)⟩
                have := (frA.seqN f5).cell hcn0 (fun q => q)
                rwa [Nat.mul_one, Nat.add_zero] at this
              have hslG : sl = Gb.length := by obtain ⟨_, _, e, _⟩ := hrd; injection e
              have hGl : Gb.length ≤ 9223372036854775807 := by obtain ⟨_, _, _, h, _⟩ := hrd; exact h
              have hbn1 : (b : Int) < n := by omega
              have hbn0 : (0 : Int) ≤ b := by omega
              have hbd : b < n := by omega
              go_upto_region 13 with fail
              rw [← hwA] at hJA frA bBA f3A hLA hxo ⊢
              clear hwA
              replace frA := Lib.hid frA
              replace bBA := Lib.hid bBA
              replace hcells := Lib.hid hcells
              replace hstep := Lib.hid hstep
              replace hvb := Lib.hid hvb
              replace hpb := Lib.hid hpb
              replace hph4 := Lib.hid hph4
              replace htwo4 := Lib.hid htwo4.out
              replace hxo := Lib.hid hxo
              clear hJ4 hi4 fr4 bB4 f34 c0 c1 hxm hxb hkV fA bO hcn hcn0 hrd hGb
              generalize wr.heap.size = xo at *
              obtain ⟨B, hB⟩ : ∃ B, wA.heap.size = B := ⟨_, rfl⟩
              have hpB : p < B := by have := hxo.out; omega
              replace hB := Lib.hid hB
              obtain ⟨i0, hi0, hz0, hz1, hz2⟩ : ∃ i0, Try.prog.info? 3 = some i0 ∧ i0.zero = some (.int .i64 0) ∧ i0.size = 1 ∧ i0.bytes = 8 := by
                have hI := infoIntR
                cases hq : Try.prog.info? 3 with
                | none => rw [hq] at hI; cases hI
                | some k => rw [hq] at hI; simp at hI; exact ⟨k, rfl, hI⟩
              subst hslG
              go_wp2_with fail
              go_loopg [10, 60] T (fun gk3 lv i w5 => ∃ k2 : Nat, k2 + gk3 = T ∧ i = .int .i64 k2 ∧ Hid (w5.ownsRow B 3 1 lv (lN Gb k2).length (rowV (lN Gb k2))) ∧ Fr noB wA w5)
              case atStart => exact ⟨0, Nat.zero_add _, rfl, Lib.hid (World.ownsRow_nil _ _ _ _), Fr.refl _ _⟩
              case round =>
                obtain ⟨k2, hk2, rfl, own, f5⟩ := hrel
                by_cases hk2T : k2 < T
                · obtain ⟨d0, d1, d2, d3⟩ := hcells.out _ f5
                  obtain ⟨_, _, e1, _, _, hrow⟩ := d3
                  injection e1 with e1 _ e1c
                  subst e1 e1c
                  have own0 : Hid (wr.ownsRow B 3 1 _ (l4 Gb k2 0).length (rowV (l4 Gb k2 0))) := Lib.hid (by rw [l4_zero]; exact own.out)
                  have hl4 := fun q => l4_len Gb k2 q
                  have hsucc := lN_succ Gb k2
                  have hskip := fun q h1 h2 => l4_skip (G := Gb) (k := k2) (q := q) h1 h2
                  have hadd := fun q h1 h2 h3 => l4_add (G := Gb) (k := k2) (q := q) h1 h2 h3
                  generalize hM : Gb.length = M at *
                  replace hM := Lib.hid hM
                  replace hrow := Lib.hid hrow
                  replace hsucc := Lib.hid hsucc
                  replace hskip := Lib.hid hskip
                  replace hadd := Lib.hid hadd
                  replace hl4 := Lib.hid hl4
                  have hrw5 : Hid (∀ w6, Fr noB wA w6 → ∀ q, q < M → ∀ g5 o5, sa = some ⟨g5, o5, none⟩ → w6.cell? ⟨g5, o5 + q, none⟩ = some (.int .i64 (Gb.getD q 0))) := Lib.hid (fun w6 f6 q hq g5 o5 e => by
                    obtain ⟨_, _, _, d3⟩ := hcells.out w6 f6
                    obtain ⟨_, _, e1, _, _, hr⟩ := d3
                    injection e1 with e1
                    subst e1
                    obtain ⟨g9, o9, e9, hc⟩ := hr q (by rw [hM.out]; exact hq)
                    rw [e] at e9
                    cases e9
                    exact hc)
                  clear own
                  go_wp2_with fail
                  clear d0 d1 d2
                  go_loopw [10, 69] (fun lv i w6 => ∃ q : Nat, q ≤ M ∧ i = .int .i64 q ∧ Hid (w6.ownsRow B 3 1 lv (l4 Gb k2 q).length (rowV (l4 Gb k2 q))) ∧ Fr noB wA w6) (fun _ i _ => M - (RowKit.intOf i).toNat)
                  case atStart => exact ⟨0, Nat.zero_le _, rfl, own0, f5⟩
                  case round =>
                    clear own0
                    obtain ⟨q, hq, rfl, own, f6⟩ := hrel
                    by_cases hqM : q < M
                    · obtain ⟨g5, o5, rfl, hc5⟩ := hrow.out q hqM
                      have e5 := hrw5.out _ f6 q hqM g5 o5 rfl
                      have hsk := hskip.out q hqM
                      have had := hadd.out q hqM
                      have hlq := hl4.out q
                      generalize Gb.getD q 0 = x at *
                      clear hc5
                      by_cases hxk : x = k2
                      · by_cases hmm : (k2 : Int) ∈ Gb.take q
                        · have hs := hsk (Or.inr hmm)
                          have hhas := l4_has hmm
                          have ownX := own.out
                          rw [← hs] at ownX
                          have hlen : (l4 Gb k2 q).length = (lN Gb k2).length + 1 := by rw [hhas, List.length_append]; rfl
                          have own2 := own.out
                          rw [hlen] at own2
                          obtain ⟨g7, cap7, rfl, hg7⟩ := ownsRow_some own2 (by omega)
                          have c7 := last_own own2 (i := (lN Gb k2).length) (by rw [hlen]; omega)
                          rw [hhas, show ((lN Gb k2) ++ [(k2 : Int)]).getD (lN Gb k2).length 0 = (k2 : Int) by simp [List.getD]] at c7
                          have hm7 : (lN Gb k2).length ≤ 5 := by have := lN_len Gb k2; omega
                          generalize (lN Gb k2).length = m7 at *
                          subst hxk
                          replace ownX := Lib.hid ownX
                          replace hlen := Lib.hid hlen
                          replace hmm := Lib.hid hmm
                          clear own own2 hs hhas hsk had
                          go_wp2_with fail
                          go_roundw
                          case rel => exact ⟨q + 1, by omega, by go_num, ownX, f6⟩
                          case measure => simp [RowKit.intOf]; omega
                        · obtain ⟨ha1, ha2⟩ := had hxk hmm
                          have own2 := own.out
                          rw [ha1] at own2
                          have hmk : ∀ y ∈ lN Gb k2, y ≠ (k2 : Int) := fun y hy => by have := lN_mem hy; omega
                          have hlk := lN_len Gb k2
                          generalize lN Gb k2 = O at *
                          subst hxk
                          replace hmm := Lib.hid hmm
                          replace ha2 := Lib.hid ha2
                          have hBw : B ≤ wr.heap.size := by rw [← hB.out]; exact f6.size
                          have hA := ownsRow_fr own2 ((Fr.refl noB wr).alloc (.cells #[.int .i64 (k2 : Int)] 3)) (fun _ _ q => q)
                          have hNw := cell_new wr (.int .i64 (k2 : Int)) 3
                          clear own hsk had ha1
                          rcases Nat.eq_zero_or_pos O.length with hz | hz
                          · obtain ⟨a7, c7, rfl⟩ := ownsRow_slice own2
                            rw [hz] at hA own2 ⊢
                            replace hz := Lib.hid hz
                            clear own2
                            go_wp2_with (first
                              | (at_builtin; go_must (refine wpList_append_at _ rfl (.tmp 91) (.tmp 93) 31 rfl B 3 i0 _ 1 8 Try.underlying31 hi0 hz0 hz1 hz2 rfl (by omega) _ 0 _ rfl hA ⟨wr.heap.size, 0, none⟩ 1 1 [.int .i64 k2] rfl rfl hNw (one_int _ _) ?_ ?_ ?_ ?_))
                              | fail)
                            · unfold maxLen; omega
                            · omega
                            · have := ((Fr.refl noB wr).alloc (.cells #[.int .i64 (k2 : Int)] 3)).size; omega
                            intro v' w7 o7 gr7 _
                            have o7 : w7.ownsRow B 3 1 v' (O.length + 1) (rowV O ++ [.int .i64 (k2 : Int)]) := by rw [hz.out]; exact o7
                            have hA' : (wr.alloc (.cells #[.int .i64 (k2 : Int)] 3)).ownsRow B 3 1 (.slice a7 0 c7) O.length (rowV O) := by rw [hz.out]; exact hA
                            obtain ⟨own3, fr3'⟩ := grow_int hB f6 hA' o7 gr7
                            rw [← ha2.out] at own3
                            replace own3 := Lib.hid own3
                            clear hA hA' hNw o7 gr7
                            go_wp2_with fail
                            go_roundw
                            case rel => exact ⟨q + 1, by omega, by go_num, own3, fr3'⟩
                            case measure => simp [RowKit.intOf]; omega
                          · obtain ⟨m7, hm7⟩ : ∃ m7, O.length = m7 + 1 := ⟨O.length - 1, by omega⟩
                            have own4 := own2
                            rw [hm7] at own4
                            obtain ⟨g7, cap7, rfl, hg7⟩ := ownsRow_some own4 (by omega)
                            have c7 := last_own own4 (i := m7) (by omega)
                            have hy7 : O.getD m7 0 ≠ (k2 : Int) := hmk _ (List.mem_of_getElem? (show O[m7]? = some (O.getD m7 0) by simp [List.getD, show m7 < O.length by omega]))
                            generalize O.getD m7 0 = y7 at *
                            have hyb : (y7 != (k2 : Int)) = true := by simpa using hy7
                            have hm5 : m7 ≤ 5 := by omega
                            rw [hm7] at hA
                            replace hm7 := Lib.hid hm7
                            replace hy7 := Lib.hid hy7
                            clear own2 own4 hz hlk
                            go_wp2_with (first
                              | (at_builtin; go_must (refine wpList_append_at _ rfl (.tmp 91) (.tmp 93) 31 rfl B 3 i0 _ 1 8 Try.underlying31 hi0 hz0 hz1 hz2 rfl (by omega) _ (m7 + 1) _ rfl hA ⟨wr.heap.size, 0, none⟩ 1 1 [.int .i64 k2] rfl rfl hNw (one_int _ _) ?_ ?_ ?_ ?_))
                              | fail)
                            · unfold maxLen; omega
                            · omega
                            · have := ((Fr.refl noB wr).alloc (.cells #[.int .i64 (k2 : Int)] 3)).size; omega
                            intro v' w7 o7 gr7 _
                            rw [← hm7.out] at o7 hA
                            obtain ⟨own3, fr3'⟩ := grow_int hB f6 hA o7 gr7
                            rw [← ha2.out] at own3
                            replace own3 := Lib.hid own3
                            clear hA hNw o7 gr7 c7
                            go_wp2_with fail
                            go_roundw
                            case rel => exact ⟨q + 1, by omega, by go_num, own3, fr3'⟩
                            case measure => simp [RowKit.intOf]; omega
                      · have hs := hsk (Or.inl hxk)
                        have hxb : (x == (k2 : Int)) = false := beq_eq_false_iff_ne.2 hxk
                        have ownX := own.out
                        rw [← hs] at ownX
                        replace ownX := Lib.hid ownX
                        replace hxk := Lib.hid hxk
                        clear own hs hsk had
                        go_wp2_with fail
                        go_roundw
                        case rel => exact ⟨q + 1, by omega, by go_num, ownX, f6⟩
                        case measure => simp [RowKit.intOf]; omega
                    · obtain rfl : q = M := by omega
                      have own1 := own.out
                      rw [← hsucc.out] at own1
                      replace own1 := Lib.hid own1
                      clear own hrow
                      go_wp2_with fail
                      go_roundg (T - k2 - 1)
                      case rel => exact ⟨k2 + 1, by omega, by go_num, own1, f6⟩
                      case measure => omega
                · obtain rfl : k2 = T := by omega
                  obtain ⟨d0, d1, _, _⟩ := hcells.out _ f5
                  have hJ5 := hJA.frN f5
                  have hL5 : L ≤ wr.heap.size := by have := f5.size; omega
                  have hris := lN_ris Gb k2 hT4 (-1) (by omega)
                  have hmem : ∀ x ∈ lN Gb k2, 0 ≤ x ∧ x ≤ 3 := fun x hx => by have := lN_mem hx; omega
                  have hnl : (lN Gb k2).length ≤ 4 := by have := lN_len Gb k2; omega
                  have rd : RdI wr _ (lN Gb k2) := RdI.of_own own.out
                  obtain ⟨a7, c7, rfl⟩ := ownsRow_slice own.out
                  have hne : ∀ g o, a7 = some ⟨g, o, none⟩ → g ≠ p := fun g o e => by have := addr_own own.out e; omega
                  have fr5 := frA.out.seqN f5
                  have bB5 := f5.blk bBA.out (fun q => q)
                  have f35 := f3A.seqN f5
                  generalize hXX : lN Gb k2 = XX at *
                  replace fr5 := Lib.hid fr5
                  replace bB5 := Lib.hid bB5
                  replace rd := Lib.hid rd
                  replace hmem := Lib.hid hmem
                  replace hris := Lib.hid hris
                  replace hne := Lib.hid hne
                  replace hXX := Lib.hid hXX
                  clear own hJA frA bBA f3A hLA f5 hcells
                  go_wp2_with fail
                  refine (hear_pin0 p L j4 X4 b t 0 false a7 c7 XX _ hJ5 hL5 hp2 rd.out (pinB_yes hb4 htt hris.out) hne.out htj4.out.1 htj4.out.2 hph4.out hvb.out hpb.out).mono ?_
                  rintro e8 w8 ⟨rfl, ⟨tt, X8, _, _, hJ8⟩, f8⟩
                  have hi8 := (hstep.out tt XX hmem.out).2.2.2
                  have htwo8 : (j4.pin b tt XX).two = (t, 1) := by rw [pin_two]; exact htwo4.out
                  have fr8 := Lib.hid (fr5.out.seqB f8 (fun q => absurd q hwp.out))
                  have bB8 := Lib.hid (f8.blk bB5.out (fun q => by unfold onlyB at q; omega))
                  have f38 := f35.trans f8 (U := onlyB p) (fun _ _ q => q) (fun _ _ q => q)
                  have hL8 : L ≤ w8.heap.size := by have := f8.size; omega
                  generalize j4.pin b tt XX = j8 at *
                  replace hi8 := Lib.hid hi8
                  replace htwo8 := Lib.hid htwo8
                  clear hJ5 fr5 bB5 f35 hL5 f8 rd hstep d0 d1
                  go_wp2_with fail
                  go_roundg (N - k - 1)
                  case rel => exact ⟨k + 1, j8, X8, by omega, by go_num, hJ8, hi8, htwo8, bB8, fr8, f38, hL8⟩
                  case measure => omega
            · obtain rfl : k = N := by omega
              have hfar4 : Hid (Far T (r + 1) j4) := Lib.hid (by
                have h1 := hi4.out
                rw [← hN.out] at h1 hV0
                exact I1.far h1 rc hT4 hV0)
              clear f34 hoc hi4
              go_wp2_with fail
              go_roundg (R - r - 1)
              case rel => exact ⟨r + 1, j4, X4, by omega, by go_num, hJ4, hfar4, htwo4, bB4, fr4, hL4⟩
              case measure => omega
        · go_wp2_with fail
          refine (outs2_jg p L j X _ hJ ph nn).mono ?_
          rintro e2 w3 ⟨u, mf, rfl, o3, f3⟩
          have hJ3 := hJ.frN f3
          have bB3 := f3.blk bB.out (fun q => q)
          have fr3 := fr.out.seqN f3
          have hp3 : p < wr.heap.size := hJ.lt
          have hL3 : L ≤ w3.heap.size := by have := f3.size; omega
          have htj : t = j.tr ∧ 1 = j.id := by have := htwo.out; unfold JS.two at this; simp only [Prod.mk.injEq] at this; exact ⟨this.1.symm, this.2.symm⟩
          have hsto : j.sto = { j with st := true, ph := 3 } := if_pos (Or.inl ph)
          have hst3 : j.sto.ph = 3 ∧ j.sto.st = true ∧ whichL (fun v => !v.f) j.sto 4 ≠ [] := by
            rw [hsto]
            refine ⟨rfl, rfl, fun q => ?_⟩
            obtain ⟨b, hb, hv⟩ := e.one
            have hm : (b : Int) ∈ whichL (fun v => !v.f) { j with st := true, ph := 3 } 4 := which_mem.2 ⟨b, hb, rfl, by rw [st_at]; exact hv, by rw [st_at, e.f0 b hb]; rfl⟩
            rw [q] at hm; cases hm
          have hfar3 : Hid (Far T (r + 1) j.sto) := Lib.hid (Or.inr (Or.inr (Or.inl ⟨hst3.1, hst3.2.1, hst3.2.2, by omega⟩)))
          have htwo3 : Hid (j.sto.two = (t, 1)) := Lib.hid (by rw [sto_two]; exact htwo.out)
          obtain ⟨hmx, hcx⟩ : (whichL (fun _ => true) j 4).length ≤ 4 ∧ True := ⟨whichL_len _ _ _, trivial⟩
          have hout : ∃ g cap, u = .slice (some ⟨g, 0, none⟩) ((whichL (fun _ => true) j 4).length + 1) cap ∧ wr.heap.size ≤ g ∧ (∀ w4 S, Fr S w3 w4 → ¬ S g → w4.cell? ⟨g, 0, none⟩ = some (.int .i64 (-1)) ∧ w4.cell? ⟨g, 1, none⟩ = some (.iface 62 (.agg mf)) ∧ ∀ i, i < (whichL (fun _ => true) j 4).length → w4.cell? ⟨g, (i + 1) * 2, none⟩ = some (.int .i64 ((whichL (fun _ => true) j 4).getD i 0)) ∧ w4.cell? ⟨g, (i + 1) * 2 + 1, none⟩ = some (mCollect j.tr j.id)) := by
            obtain ⟨g, cap, rfl, hg⟩ := ownsRow_some o3 (by omega)
            have hc : ∀ q x, ([.int .i64 (-1), .iface 62 (.agg mf)] ++ outC (whichL (fun _ => true) j 4) (mCollect j.tr j.id))[q]? = some x → w3.cell? ⟨g, q, none⟩ = some x := fun q x hq => by
              have := o3.cells (g := g) rfl q x hq
              rwa [Addr.add_lit, Nat.zero_add] at this
            refine ⟨g, cap, rfl, hg, fun w4 S f hS => ⟨f.cell (hc 0 _ rfl) hS, f.cell (hc 1 _ rfl) hS, fun i hi => ?_⟩⟩
            obtain ⟨h1, h2⟩ := outC_get (whichL (fun _ => true) j 4) (mCollect j.tr j.id) i hi
            refine ⟨f.cell (hc _ _ ?_) hS, f.cell (hc _ _ ?_) hS⟩
            · rw [show (i + 1) * 2 = i * 2 + 1 + 1 by omega]; simpa using h1
            · rw [show (i + 1) * 2 + 1 = i * 2 + 1 + 1 + 1 by omega]; simpa using h2
          obtain ⟨g, cap, rfl, hg, hcell⟩ := hout
          have hgp : g ≠ p := by omega
          have ht2 := htj.1
          have q0 := as_Manifest_Pin
          have q1 := as_Manifest_Manifest
          have q2 := as_Collect_Pin
          have q3 := as_Collect_Manifest
          have q4 := as_Collect_Unpin
          generalize whichL (fun _ => true) j 4 = V at *
          generalize hN : V.length = N at *
          replace hcell := Lib.hid hcell
          replace hst3 := Lib.hid hst3
          replace htj := Lib.hid htj
          replace hsto := Lib.hid hsto
          replace fr3 := Lib.hid fr3
          replace bB3 := Lib.hid bB3
          replace ph := Lib.hid ph
          replace ht2 := Lib.hid ht2
          have hR4 := hRT.out
          replace hR4 := Lib.hid hR4
          clear hfar nn hJ bB fr f3 o3 hL hN hcx
          go_wp2_with fail
          go_loopw [50] (fun i w4 => ∃ (k : Nat) (j4 : JS), k ≤ N + 1 ∧ i = .int .i64 k ∧ JG w4 p L j4 X ∧ Hid ((k = 0 ∧ j4 = j) ∨ (0 < k ∧ j4 = j.sto)) ∧ Hid (Blk w4 bt 23 [.int .i64 A, .int .i64 t, .int .i64 c]) ∧ Hid (Fr noB w w4) ∧ Fr (onlyB p) w3 w4 ∧ L ≤ w4.heap.size) (fun i _ => N + 1 - (RowKit.intOf i).toNat)
          case atStart => exact ⟨0, j, by omega, rfl, hJ3, Lib.hid (Or.inl ⟨rfl, rfl⟩), bB3, fr3, Fr.refl _ _, hL3⟩
          case round =>
            clear hJ3 bB3 fr3 hL3
            obtain ⟨k, j4, hk4, rfl, hJ4, hc4, bB4, fr4, f34, hL4⟩ := hrel
            by_cases hk0 : k = 0
            · subst hk0
              obtain rfl : j4 = j := by
                rcases hc4.out with h | h
                · exact h.2
                · omega
              obtain ⟨c0, c1, _⟩ := hcell.out _ _ f34 (fun q => hgp (by unfold onlyB at q; exact q))
              have ct1 : ((wr.alloc (.cells #[.int .i64 (-1), .iface 62 (.agg mf)] 58))).cell? ⟨bt, 1, none⟩ = some (.int .i64 t) := (((Fr.refl noB wr).alloc _).blk bB4.out (fun q => q)).cell 1
              have fA := (Fr.refl noB wr).alloc (.cells #[.int .i64 (-1), .iface 62 (.agg mf)] 58)
              have hJA := hJ4.frN fA
              have frA := fr4.out.seqN fA
              have bBA := fA.blk bB4.out (fun q => q)
              have f3A := f34.seqN fA
              have hLA : L ≤ (wr.alloc (.cells #[.int .i64 (-1), .iface 62 (.agg mf)] 58)).heap.size := by have := fA.size; omega
              replace frA := Lib.hid frA
              replace bBA := Lib.hid bBA
              clear hJ4 fr4 bB4 f34 hc4 fA
              go_wp2_with fail
              refine (hear_sto0 p L j4 X t _ hJA hp2 (bStored_yes htt) ht2.out htj.out.2).mono ?_
              rintro e5 w5 ⟨rfl, hJ5, f5⟩
              have fr5 := frA.out.seqB f5 (fun q => absurd q hwp.out)
              have bB5 := f5.blk bBA.out (fun q => by unfold onlyB at q; omega)
              have f35 := f3A.trans f5 (U := onlyB p) (fun _ _ q => q) (fun _ _ q => q)
              have hL5 : L ≤ w5.heap.size := by have := f5.size; omega
              replace fr5 := Lib.hid fr5
              replace bB5 := Lib.hid bB5
              clear hJA frA bBA f3A hLA f5 c0 c1 ct1
              go_wp2_with fail
              go_roundw
              case rel => exact ⟨1, j4.sto, by omega, by go_num, hJ5, Lib.hid (Or.inr ⟨by omega, rfl⟩), bB5, fr5, f35, hL5⟩
              case measure => first | (simp [RowKit.intOf]; done) | (simp [RowKit.intOf]; omega)
            · obtain ⟨k, rfl⟩ : ∃ k', k = k' + 1 := ⟨k - 1, by omega⟩
              obtain rfl : j4 = j.sto := by
                rcases hc4.out with h | h
                · omega
                · exact h.2
              by_cases hkn : k < N
              · obtain ⟨_, _, hci⟩ := hcell.out _ _ f34 (fun q => hgp (by unfold onlyB at q; exact q))
                obtain ⟨c0, c1⟩ := hci k hkn
                unfold mCollect at c1
                generalize V.getD k 0 = x at *
                have fA := (Fr.refl noB wr).alloc (.cells #[.int .i64 x, .iface 90 (.agg #[.int .i64 j.tr, .int .i64 j.id])] 58)
                have hJA := hJ4.frN fA
                have frA := Lib.hid (fr4.out.seqN fA)
                have bBA := Lib.hid (fA.blk bB4.out (fun q => q))
                have f3A := f34.seqN fA
                have hLA : L ≤ (wr.alloc (.cells #[.int .i64 x, .iface 90 (.agg #[.int .i64 j.tr, .int .i64 j.id])] 58)).heap.size := by have := fA.size; omega
                clear hJ4 fr4 bB4 f34 hc4 fA hci
                go_wp2_with fail
                go_roundw
                case rel => exact ⟨k + 1 + 1, j.sto, by omega, by go_num, hJA, Lib.hid (Or.inr ⟨by omega, rfl⟩), bBA, frA, f3A, hLA⟩
                case measure => simp [RowKit.intOf]; omega
              · obtain rfl : k = N := by omega
                clear f34 hcell
                go_wp2_with fail
                go_roundg (R - r - 1)
                case rel => exact ⟨r + 1, j.sto, X, by omega, by go_num, hJ4, hfar3, htwo3, bB4, fr4, hL4⟩
                case measure => omega
        · go_wp2_with fail
          refine (outs3_jg p L j X _ hJ ph).mono ?_
          rintro e2 w3 ⟨u, rfl, o3, f3⟩
          have hJ3 := hJ.frN f3
          have bB3 := f3.blk bB.out (fun q => q)
          have fr3 := fr.out.seqN f3
          have hp3 : p < wr.heap.size := hJ.lt
          have hL3 : L ≤ w3.heap.size := by have := f3.size; omega
          have htj : t = j.tr ∧ 1 = j.id := by have := htwo.out; unfold JS.two at this; simp only [Prod.mk.injEq] at this; exact ⟨this.1.symm, this.2.symm⟩
          obtain ⟨g, cap, rfl, hg, hoc⟩ := out_own o3 (List.length_pos_iff.2 ne)
          have hgp : g ≠ p := by omega
          have hwl : ∃ V, V = whichL (fun v => !v.f) j 4 := ⟨_, rfl⟩
          obtain ⟨V, hV⟩ := hwl
          have hV4 : ∀ x ∈ V, ∃ b : Nat, b < 4 ∧ x = (b : Int) := fun x hx => by rw [hV] at hx; obtain ⟨b, hb, e, _⟩ := which_mem.1 hx; exact ⟨b, hb, e⟩
          have hVl : V.length ≤ 4 := by rw [hV]; exact whichL_len _ _ _
          rw [← hV] at ne hoc
          have hV0 : 0 < V.length := List.length_pos_iff.2 ne
          have hle : (whichL (fun v => !v.f) j 4).length = V.length := by rw [hV]
          rw [hle]
          have htr1 : j.tr = t := htj.1.symm
          have hid1 : j.id = 1 := htj.2.symm
          rw [htr1, hid1] at hoc
          have q0 := as_Unpin_Pin
          have q1 := as_Unpin_Manifest
          have q2 := as_Unpin_Unpin
          generalize hN : V.length = N at *
          have hst' := Lib.hid st
          have hph' := Lib.hid ph
          replace hoc := Lib.hid hoc
          replace htj := Lib.hid htj
          replace fr3 := Lib.hid fr3
          replace bB3 := Lib.hid bB3
          replace hV := Lib.hid hV
          replace hV4 := Lib.hid hV4
          replace hN := Lib.hid hN
          have hR4 := hRT.out
          replace hR4 := Lib.hid hR4
          clear hfar hJ bB fr f3 o3 hL hle htr1 hid1 st ph ne
          go_wp2_with fail
          go_loopw [50] (fun i w4 => ∃ (k : Nat) (j4 : JS), k ≤ N ∧ i = .int .i64 k ∧ JG w4 p L j4 X ∧ Hid (j4.st = true ∧ j4.two = (t, 1) ∧ whichL (fun v => !v.f) j4 4 = V.drop k ∧ (k < N → j4.ph = 3) ∧ (k = N → j4.ph = 4)) ∧ Hid (Blk w4 bt 23 [.int .i64 A, .int .i64 t, .int .i64 c]) ∧ Hid (Fr noB w w4) ∧ Fr (onlyB p) w3 w4 ∧ L ≤ w4.heap.size) (fun i _ => N - (RowKit.intOf i).toNat)
          case atStart => exact ⟨0, j, by omega, rfl, hJ3, Lib.hid ⟨hst'.out, htwo.out, by rw [hV.out]; rfl, fun _ => hph'.out, fun q => by omega⟩, bB3, fr3, Fr.refl _ _, hL3⟩
          case round =>
            clear hJ3 bB3 fr3 hL3
            obtain ⟨k, j4, hk4, rfl, hJ4, hc4, bB4, fr4, f34, hL4⟩ := hrel
            by_cases hkn : k < N
            · obtain ⟨c0, c1⟩ := (hoc.out.fr f34 (fun q => hgp (by unfold onlyB at q; exact q))) k (by rw [hN.out]; exact hkn)
              have hkV : k < V.length := by rw [hN.out]; exact hkn
              have hxm : V.getD k 0 ∈ V := List.mem_of_getElem? (show V[k]? = some (V.getD k 0) by simp [List.getD, hkV])
              obtain ⟨b, hb4, hxb⟩ := hV4.out _ hxm
              have hdr : V.drop k = (b : Int) :: V.drop (k + 1) := by
                rw [List.drop_eq_getElem_cons hkV]
                congr 1
                rw [← hxb]; simp [List.getD, hkV]
              obtain ⟨d1, d2, d3, d4, d5⟩ := hc4.out
              rw [hdr] at d3
              obtain ⟨e1, e2, e3⟩ := unp_step hb4 d3 (d4 hkn)
              have hn1 : V.drop (k + 1) = [] ↔ k + 1 = N := by
                rw [List.drop_eq_nil_iff, hN.out]; omega
              have hc5 : Hid ((j4.unp b).st = true ∧ (j4.unp b).two = (t, 1) ∧ whichL (fun v => !v.f) (j4.unp b) 4 = V.drop (k + 1) ∧ (k + 1 < N → (j4.unp b).ph = 3) ∧ (k + 1 = N → (j4.unp b).ph = 4)) := Lib.hid ⟨by rw [e2]; exact d1, by rw [unp_two]; exact d2, e1, fun q => by rw [e3, if_neg (fun h => by have := hn1.1 h; omega)], fun q => by rw [e3, if_pos (hn1.2 q)]⟩
              have htj4 : t = j4.tr ∧ 1 = j4.id := by have := d2; unfold JS.two at this; simp only [Prod.mk.injEq] at this; exact ⟨this.1.symm, this.2.symm⟩
              rw [hxb] at c0
              unfold mUnpin at c1
              have fA := (Fr.refl noB wr).alloc (.cells #[.int .i64 (b : Int), .iface 79 (.agg #[.int .i64 t, .int .i64 1])] 58)
              have bO := Blk.new wr 58 [.int .i64 (b : Int), .iface 79 (.agg #[.int .i64 t, .int .i64 1])]
              have ct1 : ((wr.alloc (.cells #[.int .i64 (b : Int), .iface 79 (.agg #[.int .i64 t, .int .i64 1])] 58))).cell? ⟨bt, 1, none⟩ = some (.int .i64 t) := (fA.blk bB4.out (fun q => q)).cell 1
              have hJA := hJ4.frN fA
              have frA := Lib.hid (fr4.out.seqN fA)
              have bBA := Lib.hid (fA.blk bB4.out (fun q => q))
              have f3A := f34.seqN fA
              have hLA : L ≤ (wr.alloc (.cells #[.int .i64 (b : Int), .iface 79 (.agg #[.int .i64 t, .int .i64 1])] 58)).heap.size := by have := fA.size; omega
              replace htj4 := Lib.hid htj4
              clear hJ4 fr4 bB4 f34 hc4 fA bO hxm hxb hdr d1 d2 d3 d4 d5 e1 e2 e3 hn1 hkV
              go_wp2_with fail
              refine (hear_unp0 p L j4 X b t _ hJA hp2 (bUnp_yes hb4 htt) htj4.out.1 htj4.out.2).mono ?_
              rintro e5 w5 ⟨rfl, hJ5, f5⟩
              have fr5 := Lib.hid (frA.out.seqB f5 (fun q => absurd q hwp.out))
              have bB5 := Lib.hid (f5.blk bBA.out (fun q => by unfold onlyB at q; omega))
              have f35 := f3A.trans f5 (U := onlyB p) (fun _ _ q => q) (fun _ _ q => q)
              have hL5 : L ≤ w5.heap.size := by have := f5.size; omega
              generalize j4.unp b = j5 at *
              clear hJA frA bBA f3A hLA f5 c0 c1 ct1 htj4
              go_wp2_with fail
              go_roundw
              case rel => exact ⟨k + 1, j5, by omega, by go_num, hJ5, hc5, bB5, fr5, f35, hL5⟩
              case measure => simp [RowKit.intOf]; omega
            · obtain rfl : k = N := by omega
              obtain ⟨d1, d2, d3, d4, d5⟩ := hc4.out
              have hfar4 : Hid (Far T (r + 1) j4) := Lib.hid (Or.inr (Or.inr (Or.inr ⟨d5 rfl, d1⟩)))
              have htwo4 := Lib.hid d2
              clear f34 hoc d1 d2 d3 d4 d5
              go_wp2_with fail
              go_roundg (R - r - 1)
              case rel => exact ⟨r + 1, j4, X, by omega, by go_num, hJ4, hfar4, htwo4, bB4, fr4, hL4⟩
              case measure => omega
        · go_wp2_with fail
          refine (outs4_jg p L j X _ hJ ph).mono ?_
          rintro e w3 ⟨rfl, hw3⟩
          obtain rfl := hw3.symm
          have hfar' : Hid (Far T (r + 1) j) := Lib.hid (Or.inr (Or.inr (Or.inr ⟨ph, st⟩)))
          replace ph := Lib.hid ph
          replace st := Lib.hid st
          clear hfar
          go_wp2_with fail
          go_loopw [50] (fun i w4 => i = .int .i64 0 ∧ JG w4 p L j X ∧ Hid (Blk w4 bt 23 [.int .i64 A, .int .i64 t, .int .i64 c]) ∧ Hid (Fr noB w w4) ∧ L ≤ w4.heap.size) (fun _ _ => 0)
          case atStart => exact ⟨rfl, hJ, bB, fr, hL⟩
          case round =>
            clear hJ bB fr hL
            obtain ⟨rfl, hJ, bB, fr, hL⟩ := hrel
            have hR4 := hRT.out
            go_wp2_with fail
            go_roundg (R - r - 1)
            case rel => exact ⟨r + 1, j, X, by omega, by go_num, hJ, hfar', htwo, bB, fr, hL⟩
            case measure => omega
      · obtain rfl : r = R := by omega
        have hend := Far.end (by have := hfar.out; rw [hRT.out] at this; exact this) hT4
        have hph := phase_jg p L j X wr hJ
        have hst := stored_jg p L j X wr hJ
        rw [hend.1] at hph
        rw [hend.2] at hst
        replace hst := Lib.hid hst
        replace hend := Lib.hid hend
        go_wp2_with fail
        refine hph.mono ?_
        rintro e w3 ⟨rfl, hw3⟩
        obtain rfl := hw3.symm
        go_wp2_with fail
        refine hst.out.mono ?_
        rintro e w4 ⟨rfl, hw4⟩
        obtain rfl := hw4.symm
        go_wp2_with fail
        go_ret
        exact ⟨rfl, fr.out⟩
theorem ends_cs (n0 : Int) (ct : Array Value) (mt : Int × Int × Int) (v : Value) (G : List (List Int)) (w : World) (_ : (Lit.int .i64 n0).wf = true) (ht : IsTr ct.toList mt) (hv : SlR w v 1 (IsNmJ w) G) :
    Calls Try.prog 6 #[.int .i64 n0, .agg ct, v] w fun e w' => e = .returned (.bool true) ∧ Fr noB w w' := by
  have hc2 : ct = #[.int .i64 mt.1, .int .i64 mt.2.1, .int .i64 mt.2.2] := by rw [← Array.toList_inj]; exact ht.1
  rw [hc2]
  exact ends_any n0 mt.1 mt.2.1 mt.2.2 v G w hv
end Go.Proofs.Ytppgachfobpgbaa
