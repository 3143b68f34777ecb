/-
  What the law CrumbKeeps walks: who is named for a trace is so till it is dropped; other traces' names stay.
-/
import Derived.Test.YtbepkhldgfmmbaaCrumbKept
set_option linter.unusedVariables false
set_option linter.unusedSimpArgs false
namespace Go.Proofs.Ytbepkhldgfmmbaa
open Go.RowKit Go Go.Maps Go.Lib

theorem umodo (b m : Int) (h0 : 0 < m) (h1 : m ≤ 9223372036854775807) : ∃ q : Int, wrap64 ((IntKind.u64.wrap b).tmod m) = q ∧ 0 ≤ q ∧ q < m := umod b m h0 h1

theorem umod1 (b m : Int) (h0 : 0 < m) (h1 : m ≤ 1000000) : ∃ q N : Int, wrap64 ((IntKind.u64.wrap b).tmod m) = q ∧ wrap64 (1 + q) = N ∧ 1 ≤ N ∧ N ≤ m := by
  obtain ⟨q, h2, h3, h4⟩ := umod b m h0 (by omega)
  exact ⟨q, 1 + q, h2, IntWalk.wrap64_in _ (by omega), by omega, by omega⟩
/-- a row that is read, cell by cell -/
theorem own_read {w : World} {B : Nat} {e : TypeId} {v : Value} {X : List Int} (h : w.ownsRow B e 1 v X.length (rowV X)) : ∃ a c, v = .slice a X.length c ∧ ∀ i, i < X.length → ∃ b, a = some ⟨b, 0, none⟩ ∧ ∀ j, j < X.length → w.cell? ⟨b, j, none⟩ = some (.int .i64 (X.getD j 0)) := by
  rcases h.2 with ⟨rfl, h1⟩ | ⟨g, cap, cur, rfl, h1, h2, h3, h4, h5⟩
  · rw [h1]; exact ⟨none, 0, rfl, fun i hi => by omega⟩
  · exact ⟨_, cap, rfl, fun i hi => ⟨g, rfl, fun j hj => ownsRow_int h hj⟩⟩

set_option maxHeartbeats 4000000 in
set_option maxRecDepth 10000 in
theorem keeps_any (N0 : Int) (v : Value) (xs : List (Int × Int)) (D0 : Int) (w : World) (hN : (Lit.int .i64 N0).wf = true) (hxs : SlR w v 2 IsP xs) (hD : (Lit.int .i64 D0).wf = true) :
    Calls Try.prog 6 #[.int .i64 N0, v, .int .i64 D0] w fun e w' => e = .returned (.bool true) ∧ Fr noB w w' := by
  obtain ⟨a, c, rfl, hx1, hx2, hx3⟩ := hxs
  unfold maxLen at hx2
  generalize hn : xs.length = n at *
  replace hx3 := Lib.hid hx3
  obtain ⟨hx1, _⟩ := hx1
  have hnb : n ≤ 9223372036854775807 := by omega
  replace hn := Lib.hid hn
  obtain ⟨q4, N, hq4, hw1, hN1, hN4⟩ := umod1 N0 4 (by omega) (by omega)
  obtain ⟨d9, dr, hd9, hw2, hd1, hd9'⟩ := umod1 D0 9 (by omega) (by omega)
  have hokd : okI dr := okI_of (by omega) (by omega)
  have hmm := @run_makeMap Try.prog
  go_enter Try.func6, Try.ntmps6
  go_wp2_with fail
  refine (awake_any w).mono ?_
  rintro e w1 ⟨rfl, f1⟩
  by_cases hl : 200 < n
  · go_wp2_with fail
    refine (awake_any w1).mono ?_
    rintro e w2 ⟨rfl, f2⟩
    go_wp2
    go_ret
    exact ⟨rfl, f1.seqN f2⟩
  have hdl : decide (200 < (n : Int)) = false := by simp; omega
  go_wp2_with fail
  refine (cnew_any N w1 hN1 hN4).mono ?_
  rintro e w2 ⟨rfl, l2, f2⟩
  have st0 := Kt.start l2 f1.size (by omega) (by omega) (f1.seqN f2)
  clear l2 f1 f2
  go_wp2_with fail
  generalize w1.heap.size + 2 = B at *
  generalize w1.heap.size + 1 = g at *
  generalize w1.heap.size = bm at *
  generalize w2.heap.size = om at *
  go_loopw [37] (fun i wr => ∃ (k n9 m9 : Nat) (X : Int → List Int) (M : List (Int × SV)) (W : List (Int × Option Nat)), k ≤ n ∧ i = .int .i64 k ∧ Kt w wr g bm B n9 om m9 N X M W ∧ n9 ≤ k ∧ m9 ≤ k) (fun i _ => n - (RowKit.intOf i).toNat)
  case atStart => exact ⟨0, 0, 0, _, _, _, by omega, rfl, st0, by omega, by omega⟩
  case round =>
    clear st0
    obtain ⟨k, n9, m9, X, M, W, hk, rfl, st, hn9, hm9⟩ := hrel
    by_cases hlt : k < n
    · obtain ⟨⟨p0, ag⟩, hop⟩ : ∃ o, xs[k]? = some o := ⟨_, List.getElem?_eq_getElem (by rw [hn.out]; exact hlt)⟩
      obtain ⟨g0, o0, cs, ha, hcs, ⟨hcs2, hI1, hI2⟩, hcell⟩ := hx3.out k _ hop
      subst ha hcs2
      have e0 := st.fr.cell (hcell 0 _ rfl) (fun q => q)
      have e1 := st.fr.cell (hcell 1 _ rfl) (fun q => q)
      simp only at hI1 hI2
      have hoka : okI ag := okI_of hI2.1 hI2.2
      obtain ⟨t9, tr, ht9, hw3, ht1, ht2'⟩ := umod1 p0 9 (by omega) (by omega)
      have ht2 : tr ≤ 65535 := by omega
      have hokt : okI tr := okI_of (by omega) (by omega)
      clear hop hcell hI1 hI2
      simp only [← Nat.add_assoc, Nat.add_zero] at e0 e1
      have fP := (Fr.refl noB wr).alloc (.cells #[.int .i64 p0, .int .i64 ag] 48)
      have st1 := st.frN fP
      have bo1 := Blk.new wr 48 [.int .i64 p0, .int .i64 ag]
      clear st
      obtain ⟨wa, hwa⟩ : ∃ wa, wa = wr.alloc (.cells #[.int .i64 p0, .int .i64 ag] 48) := ⟨_, rfl⟩
      go_upto_region 9 with fail
      rw [← hwa] at st1 ⊢
      replace bo1 : Blk wa wr.heap.size 48 [.int .i64 p0, .int .i64 ag] := by rw [hwa]; exact bo1
      clear e0 e1 fP
      generalize wr.heap.size = ob at *
      clear hwa
      have c0 : wa.cell? ⟨ob, 0, none⟩ = some (.int .i64 p0) := bo1.cell 0
      have c1 : wa.cell? ⟨ob, 1, none⟩ = some (.int .i64 ag) := bo1.cell 1
      replace st1 := Lib.hid st1
      clear bo1
      go_quiet (fail)
      rw [hw3]
      have hst2 := Lib.hid (st1.out.frN ((Fr.refl noB wa).drewN nq))
      generalize wa.drewN nq = wb at *
      clear st1 c0 c1 hq4 hd9 hw1 ht9 hw3
      by_cases hc : ag < 0 ∨ N ≤ ag
      focus
        go_wp2_with fail
        refine (cadd_range g bm B n9 N tr ag X M wb hst2.out.cm ht1 ht2 hc).mono ?_
        rintro e w4 ⟨rfl, hw4⟩
        obtain rfl := hw4.symm
        rcases hc with hc | hc
        · have hc1 : decide (0 ≤ ag) = false := by simp; omega
          go_wp2_with fail
          go_roundw
          case rel => exact ⟨k + 1, n9, m9, X, M, W, by omega, by go_num, hst2.out, by omega, by omega⟩
          case measure => simp [RowKit.intOf]; omega
        · have hc1 : decide (0 ≤ ag) = true := by simp; omega
          have hc2 : decide (ag < N) = false := by simp; omega
          go_wp2_with fail
          go_roundw
          case rel => exact ⟨k + 1, n9, m9, X, M, W, by omega, by go_num, hst2.out, by omega, by omega⟩
          case measure => simp [RowKit.intOf]; omega
      have ha1 : 0 ≤ ag := by omega
      have ha2 : ag < N := by omega
      have hc1 : decide (0 ≤ ag) = true := by simpa using ha1
      have hc2 : decide (ag < N) = true := by simpa using ha2
      clear hc
      by_cases hm : ag ∈ X tr
      focus
        go_wp2_with fail
        refine (cadd_once g bm B n9 N tr ag X M wb hst2.out.cm ht1 ht2 ha1 ha2 hm).mono ?_
        rintro e w4 ⟨rfl, f4⟩
        have st4 := hst2.out.frN f4
        have hr1 := st4.run_look tr hokt
        rcases st4.at_key tr with ⟨hx, _⟩ | ⟨b, hb, hin, _⟩
        · rw [hx] at hm; cases hm
        rw [hb] at hr1
        simp only [Option.getD_some] at hr1
        have hr2 := hin.run_look ag hoka
        rw [decide_eq_true hm] at hr2
        replace st4 := Lib.hid st4
        clear hin hb hm
        go_wp2_with fail
        go_roundw
        case rel => exact ⟨k + 1, n9, m9, X, M, W, by omega, by go_num, st4.out, by omega, by omega⟩
        case measure => simp [RowKit.intOf]; omega
      go_wp2_with fail
      refine (cadd_ok g bm B n9 N tr ag X M wb hst2.out.cm ht1 ht2 ha1 ha2 hm (by omega)).mono ?_
      rintro e w4 ⟨rfl, ⟨s4, l4, hs4⟩, f4⟩
      have wm4 := hst2.out.wm.fr f4 (fun q => (hst2.out.off om q).1 rfl)
      have hr1 : (Instr.lookup 47 (.map (some om)) (.int .i64 tr) false).run Try.prog w4 = .ok (.map ((look W tr).getD none)) w4 :=
        wm4.run_look KI Try.underlying47 (zeroM w4) mkO_inj tr hokt
      replace l4 := Lib.hid l4
      replace hs4 := Lib.hid hs4
      replace f4 := Lib.hid f4
      replace hm := Lib.hid hm
      rcases hst2.out.at_key tr with ⟨hx, hb⟩ | ⟨b, hb, hin, hne, hbo, hb0⟩
      · rw [hb] at hr1
        simp only [Option.getD_none] at hr1
        have hr2 := look_nil ag w4
        have fA := (Fr.refl noB w4).alloc (.map #[] 0)
        obtain ⟨w5, hput, mp5, f5⟩ := (wm4.fr fA (fun q => q)).run_put KI Try.underlying47 mkO_inj (by unfold maxLen; omega) tr (some w4.heap.size) hokt
        have hr5 : (Instr.lookup 47 (.map (some om)) (.int .i64 tr) false).run Try.prog w5 = .ok (.map (some w4.heap.size)) w5 := by
          have := mp5.run_look KI Try.underlying47 (zeroM w5) mkO_inj tr hokt
          rw [look_withKey_same] at this
          exact this
        have hom : om < w4.heap.size := wm4.lt
        have mi5 : Mp Try.prog 3 klI mkT w5 w4.heap.size 0 [] := (Mp.made w4).fr f5 (fun q => by unfold onlyB at q; omega)
        obtain ⟨w6, hput6, mp6, f6⟩ := mi5.run_put KI Try.underlying42 mkT_inj (by unfold maxLen; omega) ag true hoka
        have st6 := Lib.hid (hst2.out.add_new l4.out hs4.out f4.out hb mp5 f5 mp6 f6)
        unfold kvI mkO at hput
        unfold kvI mkT at hput6
        clear mp5 f5 mp6 f6 mi5 wm4 fA hom hx hb
        go_wp2_with fail
        rename_i K9 hK9
        refine hK9 _ _ ?_
        simp only [Option.isNone_none]
        go_wp2_with fail
        go_roundw
        case rel => exact ⟨k + 1, n9 + 1, m9 + 1, _, _, _, by omega, by go_num, st6.out, by omega, by omega⟩
        case measure => simp [RowKit.intOf]; omega
      · rw [hb] at hr1
        simp only [Option.getD_some] at hr1
        obtain ⟨L, hL1, hL2, hL3⟩ := hin
        have hcb : ¬ cmB wb g bm B M b := fun q => (hst2.out.off b q).2 _ (look_some hb) rfl
        have hL4 := hL1.fr f4.out hcb
        have hin4 : In w4 b (X tr) := ⟨L, hL4, hL2, hL3⟩
        have hr2 := hin4.run_look ag hoka
        rw [decide_eq_false hm.out] at hr2
        obtain ⟨w6, hput6, mp6, f6⟩ := hL4.run_put KI Try.underlying42 mkT_inj (by unfold maxLen; omega) ag true hoka
        have st6 := Lib.hid (hst2.out.add_old hm.out l4.out hs4.out f4.out hb hL2 hL3 mp6 f6)
        unfold kvI mkT at hput6
        clear mp6 f6 hin4 wm4 hL1 hL4 hL2 hL3 hcb hb hne
        go_wp2_with fail
        rename_i K9 hK9
        refine hK9 _ _ ?_
        go_wp2_with fail
        go_roundw
        case rel => exact ⟨k + 1, n9 + 1, m9, _, _, _, by omega, by go_num, st6.out, by omega, by omega⟩
        case measure => simp [RowKit.intOf]; omega
    · obtain rfl : k = n := by omega
      clear hq4 hw1
      go_wp2_with fail
      refine (cdrop_any g bm B n9 N dr X M wr st.cm hokd).mono ?_
      rintro e w4 ⟨rfl, l4, f4⟩
      have wm4 := st.wm.fr f4 (fun q => (st.off bm (Or.inr (Or.inl rfl))).1 q.symm)
      replace l4 := Lib.hid l4
      have hstd := fun (w5 : World) (m5 : Mp Try.prog 3 klI mkO w5 om m9 (without W dr)) (f5 : Fr (onlyB om) w4 w5) => st.drop l4.out f4 m5 f5
      replace hstd := Lib.hid hstd
      clear st f4
      go_wp2_with (first
        | (at_delete; refine wpList_del_mp _ rfl _ _ 47 3 rfl KI Try.underlying47 wm4 dr hokd rfl rfl ?_; intro w5 m5 f5)
        | fail)
      have st5 := hstd.out w5 m5 f5
      clear hstd m5 f5 wm4 l4
      generalize (fun k => if k = dr then [] else X k) = Y at *
      generalize without M dr = M5 at *
      generalize without W dr = W5 at *
      replace st5 := Lib.hid st5
      go_wp2_with fail
      go_loopw [15] (fun i wx => ∃ j : Nat, 1 ≤ j ∧ j ≤ 10 ∧ i = .int .i64 j ∧ Kt w wx g bm B n9 om m9 N Y M5 W5) (fun i _ => 10 - (RowKit.intOf i).toNat)
      case atStart => exact ⟨1, by omega, by omega, rfl, st5.out⟩
      case round =>
        clear st5
        obtain ⟨j, hj1, hj2, rfl, st⟩ := hrel
        by_cases hlt9 : j < 10
        · have hlt9d : decide ((j : Int) ≤ 9) = true := by simp; omega
          have hokj : okI (j : Int) := okI_of (by omega) (by omega)
          go_wp2_with fail
          refine (cof_any g bm B n9 N j Y M5 wr st.cm hokj).mono ?_
          rintro e w6 ⟨v6, rfl, o6, f6⟩
          have st6 := st.frN f6
          obtain ⟨a6, c6, rfl, h6⟩ := own_read o6
          have hr1 := st6.run_look j hokj
          have hsort := st6.cm.sorted j
          have hrng := st6.cm.range j
          have hYl := st6.cm.lenX j
          clear st f6 o6
          rcases st6.at_key j with ⟨hx, hb⟩ | ⟨b, hb, hin, hne, _, _⟩
          · rw [hb] at hr1
            simp only [Option.getD_none] at hr1
            have hl0 : (Y j).length = 0 := by rw [hx]; rfl
            rw [hl0]
            replace st6 := Lib.hid st6
            clear h6 hsort hrng hYl hl0 hx hb
            go_wp2_with fail
            go_loopw [119] (fun i wx => i = .int .i64 0 ∧ wx = w6) (fun i _ => 0)
            case atStart => exact ⟨rfl, rfl⟩
            case round =>
              obtain ⟨rfl, rfl⟩ := hrel
              go_wp2_with fail
              go_roundw
              case rel => exact ⟨j + 1, by omega, by omega, by go_num, st6.out⟩
              case measure => simp [RowKit.intOf]; omega
          · rw [hb] at hr1
            simp only [Option.getD_some] at hr1
            have hr2 := hin.run_len
            have hr3 := fun q (hq : q < (Y j).length) => hin.run_look ((Y j).getD q 0) (by
              have := hrng ((Y j).getD q 0) (List.mem_of_getElem? (show (Y j)[q]? = some ((Y j).getD q 0) by simp [List.getD, hq]))
              exact okI_of (by omega) (by omega))
            have hr4 : ∀ q, q < (Y j).length → decide ((Y j).getD q 0 ∈ Y j) = true := fun q hq => decide_eq_true (List.mem_of_getElem? (show (Y j)[q]? = some ((Y j).getD q 0) by simp [List.getD, hq]))
            have hr5 : ∀ q, q + 1 < (Y j).length → (Y j).getD q 0 < (Y j).getD (q + 1) 0 := fun q hq => by
              have := List.pairwise_iff_getElem.1 hsort q (q + 1) (by omega) hq (by omega)
              simpa [List.getD, hq, show q < (Y j).length by omega] using this
            generalize hL : (Y j).length = len at *
            replace hL := Lib.hid hL
            replace st6 := Lib.hid st6
            replace h6 := Lib.hid h6
            replace hr3 := Lib.hid hr3
            replace hr4 := Lib.hid hr4
            replace hr5 := Lib.hid hr5
            have hlen64 : len ≤ 9223372036854775807 := by omega
            clear hsort hrng hYl hb hne hin
            go_wp2_with fail
            go_loopw [119] (fun i wx => ∃ q : Nat, q ≤ len ∧ i = .int .i64 q ∧ wx = w6) (fun i _ => len - (RowKit.intOf i).toNat)
            case atStart => exact ⟨0, by omega, rfl, rfl⟩
            case round =>
              obtain ⟨q, hq, rfl, hwr⟩ := hrel
              obtain rfl := hwr.symm
              by_cases hql : q < len
              · obtain ⟨b6, rfl, hcells⟩ := h6.out q hql
                have hc6 := hcells q hql
                have hr6 := hr3.out q hql
                rw [hr4.out q hql] at hr6
                by_cases hq0 : q = 0
                · subst hq0
                  generalize (Y j).getD 0 0 = x at *
                  clear hcells
                  go_wp2_with fail
                  go_roundw
                  case rel => exact ⟨1, by omega, by go_num, trivial⟩
                  case measure => simp [RowKit.intOf]; omega
                · obtain ⟨q', rfl⟩ : ∃ q', q = q' + 1 := ⟨q - 1, by omega⟩
                  have hc7 := hcells q' (by omega)
                  have hlt7 := hr5.out q' hql
                  have hd7 : decide ((Y j).getD (q' + 1) 0 ≤ (Y j).getD q' 0) = false := by simp only [decide_eq_false_iff_not]; omega
                  generalize (Y j).getD (q' + 1) 0 = x at *
                  generalize (Y j).getD q' 0 = y at *
                  have hd8 : decide (0 < ((q' + 1 : Nat) : Int)) = true := decide_eq_true (by omega)
                  have hw7 : wrap64 (((q' + 1 : Nat) : Int) - 1) = (q' : Int) := (IntWalk.wrap64_in _ (by omega)).trans (by omega)
                  clear hcells hlt7
                  go_wp2_with fail
                  go_roundw
                  case rel => exact ⟨q' + 1 + 1, by omega, by go_num, trivial⟩
                  case measure => simp [RowKit.intOf]; omega
              · obtain rfl : q = len := by omega
                go_wp2_with fail
                go_roundw
                case rel => exact ⟨j + 1, by omega, by omega, by go_num, st6.out⟩
                case measure => simp [RowKit.intOf]; omega
        · obtain rfl : j = 10 := by omega
          have hTr := ctraces_any g bm B n9 N Y M5 wr st.cm (by have := st.cm.mp.length; omega)
          have hl9 := st.len
          have hml := st.wm.run_len Try.underlying47
          go_wp2_with fail
          refine hTr.mono ?_
          rintro e w6 ⟨v6, rfl, o6, f6⟩
          have st6 := st.frN f6
          have hm6 := st6.wm.run_len Try.underlying47
          obtain ⟨a6, c6, rfl⟩ := ownsRow_slice o6
          rw [hl9]
          clear st hTr hml o6
          go_wp2_with fail
          go_ret
          exact ⟨rfl, st6.fr⟩
end Go.Proofs.Ytbepkhldgfmmbaa
