/-
  What the law CrumbPlays walks: in every order of calls who is named, and what is refused, is the document's.
-/
import Derived.Test.YtbepkhldgfmmbaaCrumbSteps
import Derived.Deep.DeepCutAuto
import Derived.Deep.LoopGhost
set_option linter.unusedVariables false
set_option linter.unusedSimpArgs false
namespace Go.Proofs.Ytbepkhldgfmmbaa
open Go.RowKit Go Go.Maps Go.Lib

def I64 (n : Int) : Prop := -9223372036854775808 ≤ n ∧ n ≤ 9223372036854775807
def IsOp (cs : List Value) (o : Int × Int × Int) : Prop := cs = [.int .i64 o.1, .int .i64 o.2.1, .int .i64 o.2.2] ∧ I64 o.1 ∧ I64 o.2.1 ∧ I64 o.2.2
theorem op_open {H : Type} {enc : TypeId × Value → H} {w : World} {base : Nat} {held : Bool} (n : Nat) (cs : List Value) (y : DataW H × List MemPlace) (hl : cs.length = 3)
    (h : DataW.trod enc Try.prog w base (fun _ => true) held n 32 cs = some y) : ∃ o, IsOp cs o := by
  obtain ⟨a, ha, wa⟩ := fld_int (i := 0) (off := 0) Try.underlying32 h rfl (by kernel_rfl) (by omega) Try.underlying3
  obtain ⟨b, hb, wb⟩ := fld_int (i := 1) (off := 1) Try.underlying32 h rfl (by kernel_rfl) (by omega) Try.underlying3
  obtain ⟨c, hc, wc⟩ := fld_int (i := 2) (off := 2) Try.underlying32 h rfl (by kernel_rfl) (by omega) Try.underlying3
  exact ⟨(a, b, c), by rw [list3 hl, ha, hb, hc], wf_i64 wa, wf_i64 wb, wf_i64 wc⟩

/-- the loop's element stands beside the crumbs -/
theorem op_c {w w' : World} {g bm B n ob : Nat} {N : Int} {X : Int → List Int} {M : List (Int × SV)} {cs : List Value} {C : Nat → Prop} (h : Blk w ob 32 cs) (hf : Fr C w w') (hC : ¬ C ob) : Blk w' ob 32 cs := hf.blk h hC

/-- a slice of ints of the call's own, whose cells may be overwritten -/
theorem own_open {w : World} {B : Nat} {e : TypeId} {v : Value} {n : Nat} {xs : List Value} (h : w.ownsRow B e 1 v n xs) : ∃ a c, v = .slice a n c ∧ (0 < n → ∃ b, a = some ⟨b, 0, none⟩) ∧ ∀ b o, a = some ⟨b, o, none⟩ → B ≤ b ∧ ∃ cs, Blk w b e cs ∧ n ≤ cs.length := by
  rcases h.2 with ⟨rfl, rfl⟩ | ⟨g, cap, cur, rfl, h1, h2, h3, h4, h5, _⟩
  · exact ⟨none, 0, rfl, fun q => by omega, fun b o q => by cases q⟩
  · refine ⟨_, cap, rfl, fun _ => ⟨g, rfl⟩, fun b o q => ?_⟩
    cases q
    exact ⟨h1, cur.toList, by unfold Blk; simpa using h2, by simp; omega⟩

/-- both calls: who is named more -/
theorem Ct.adds {w0 w : World} {g bm B r n : Nat} {N : Int} {X : Int → List Int} {M : List (Int × SV)} {E : List (Int × List Int)} (st : Ct w0 w g bm B r n N X M E) (t a : Int) (hn : n < 1000000) :
    ∃ z, Calls Try.prog 9 #[.pointer (some ⟨g, 0, none⟩), .int .i64 t, .int .i64 a] w fun e w' => e = .returned (.int .i64 z) ∧ Fr (cmB w g bm B M) w w' ∧
      Calls Try.prog 10 #[.pointer (some ⟨r, 0, none⟩), .int .i64 t, .int .i64 a] w' fun e w'' => e = .returned (.int .i64 z) ∧ Fr (onlyB r) w' w'' ∧
        ∃ (m9 : Nat) (X9 : Int → List Int) (M9 : List (Int × SV)) (E9 : List (Int × List Int)), Ct w0 w'' g bm B r m9 N X9 M9 E9 ∧ m9 ≤ n + 1 := by
  obtain ⟨D1, aT1, cT1, aA1, cA1, VA1, hR1, hO1⟩ := st.rc
  have hEl : E.length ≤ 1000000 := by have := st.lenE; omega
  have hXt := st.of t
  by_cases hc : t < 1 ∨ 65535 < t
  · refine ⟨1, (cadd_arg g bm B n N t a X M w st.cm hc).mono ?_⟩
    rintro e w4 ⟨rfl, rfl⟩
    refine ⟨rfl, Fr.refl _ _, (radd_arg r t a w4 hc).mono ?_⟩
    rintro e w5 ⟨rfl, rfl⟩
    exact ⟨rfl, Fr.refl _ _, _, _, _, _, st, by omega⟩
  have ht1 : 1 ≤ t := by omega
  have ht2 : t ≤ 65535 := by omega
  clear hc
  by_cases hc : a < 0 ∨ N ≤ a
  · refine ⟨2, (cadd_range g bm B n N t a X M w st.cm ht1 ht2 hc).mono ?_⟩
    rintro e w4 ⟨rfl, rfl⟩
    refine ⟨rfl, Fr.refl _ _, (radd_range r D1 N t a E aT1 cT1 aA1 cA1 VA1 w4 hR1 ht1 ht2 hc).mono ?_⟩
    rintro e w5 ⟨rfl, rfl⟩
    exact ⟨rfl, Fr.refl _ _, _, _, _, _, st, by omega⟩
  have ha1 : 0 ≤ a := by omega
  have ha2 : a < N := by omega
  clear hc
  by_cases hc : a ∈ X t
  · refine ⟨8, (cadd_once g bm B n N t a X M w st.cm ht1 ht2 ha1 ha2 hc).mono ?_⟩
    rintro e w4 ⟨rfl, f4⟩
    refine ⟨rfl, f4.mono (fun _ _ q => False.elim q), (radd_once r D1 N t a E aT1 cT1 aA1 cA1 VA1 w4 (hR1.frN f4) hEl ht1 ht2 ha1 ha2 (by rw [hXt]; exact hc)).mono ?_⟩
    rintro e w5 ⟨rfl, f5⟩
    exact ⟨rfl, f5.mono (fun _ _ q => False.elim q), _, _, _, _, (st.frN f4).frN f5, by omega⟩
  have hX4 : (X t).length ≤ 1000000 := by have := st.cm.lenX t; omega
  refine ⟨0, (cadd_ok g bm B n N t a X M w st.cm ht1 ht2 ha1 ha2 hc hn).mono ?_⟩
  rintro e w4 ⟨rfl, ⟨s4, l4, hs4⟩, f4⟩
  refine ⟨rfl, f4, (radd_ok r D1 N t a E aT1 cT1 aA1 cA1 VA1 w4 (hR1.fr f4 hO1) hEl ht1 ht2 ha1 ha2 (by rw [hXt]; exact hc) (by rw [hXt]; exact hX4)).mono ?_⟩
  rintro e w5 ⟨rfl, hR5, f5⟩
  exact ⟨rfl, f5, _, _, _, _, st.add hc l4 hs4 f4 hR1 hO1 hR5 f5, by omega⟩
theorem Ct.drops {w0 w : World} {g bm B r n : Nat} {N : Int} {X : Int → List Int} {M : List (Int × SV)} {E : List (Int × List Int)} (st : Ct w0 w g bm B r n N X M E) (t : Int) (hn : n < 1000000) (ht : okI t) :
    Calls Try.prog 11 #[.pointer (some ⟨g, 0, none⟩), .int .i64 t] w fun e w' => e = .returned (.tuple #[]) ∧ Fr (cmB w g bm B M) w w' ∧
      Calls Try.prog 12 #[.pointer (some ⟨r, 0, none⟩), .int .i64 t] w' fun e w'' => e = .returned (.tuple #[]) ∧ Fr (onlyB r) w' w'' ∧
        ∃ (m9 : Nat) (X9 : Int → List Int) (M9 : List (Int × SV)) (E9 : List (Int × List Int)), Ct w0 w'' g bm B r m9 N X9 M9 E9 ∧ m9 ≤ n + 1 := by
  obtain ⟨D1, aT1, cT1, aA1, cA1, VA1, hR1, hO1⟩ := st.rc
  have hEl : E.length ≤ 1000000 := by have := st.lenE; omega
  refine (cdrop_any g bm B n N t X M w st.cm ht).mono ?_
  rintro e w4 ⟨rfl, l4, f4⟩
  refine ⟨rfl, f4.mono (fun k _ q => Or.inr (Or.inl q)), (rdrop_any r D1 N t E aT1 cT1 aA1 cA1 VA1 w4 (hR1.fr f4 (hO1.mono (fun k q => Or.inr (Or.inl q)))) hEl).mono ?_⟩
  rintro e w5 ⟨rfl, hR5, f5⟩
  exact ⟨rfl, f5, _, _, _, _, st.drop l4 f4 hO1 hR5 f5, by omega⟩

set_option maxHeartbeats 4000000 in
set_option maxRecDepth 10000 in
theorem plays_any (N : Int) (v : Value) (xs : List (Int × Int × Int)) (w : World) (hN : (Lit.int .i64 N).wf = true) (hxs : SlR w v 3 IsOp xs) :
    Calls Try.prog 3 #[.int .i64 N, v] w fun e w' => e = .returned (.bool true) ∧ Fr noB w w' := by
  obtain ⟨a, c, rfl, hx1, hx2, hx3⟩ := hxs
  unfold maxLen at hx2
  generalize hn : xs.length = n at *
  replace hx3 := Lib.hid hx3
  obtain ⟨hx1, _⟩ := hx1
  have hnb : n ≤ 9223372036854775807 := by omega
  replace hn := Lib.hid hn
  go_enter Try.func3, Try.ntmps3
  go_wp2_with fail
  refine (awake_any w).mono ?_
  rintro e w1 ⟨rfl, f1⟩
  by_cases hl : 200 < n
  · go_wp2_with fail
    refine (awake_any w1).mono ?_
    rintro e w2 ⟨rfl, f2⟩
    go_wp2
    go_ret
    exact ⟨rfl, f1.seqN f2⟩
  have hd1 : decide (200 < (n : Int)) = false := by simp; omega
  by_cases hNb : N < 1 ∨ 4 < N
  · go_wp2_with fail
    refine (cnew_no N w1 hNb).mono ?_
    rintro e w2 ⟨rfl, hw2⟩
    obtain rfl := hw2.symm
    rcases hNb with hNb | hNb
    · go_wp2_with fail
      go_ret
      exact ⟨rfl, f1⟩
    · have hNb2 : ¬ N < 1 := by omega
      go_wp2_with fail
      go_ret
      exact ⟨rfl, f1⟩
  have hN1 : 1 ≤ N := by omega
  have hN2 : N ≤ 4 := by omega
  have hNd1 : decide (N < 1) = false := by simp; omega
  have hNd2 : decide (4 < N) = false := by simp; omega
  go_wp2_with fail
  refine (cnew_any N w1 hN1 hN2).mono ?_
  rintro e w2 ⟨rfl, l2, f2⟩
  have hf := (Fr.refl noB w2).alloc (.cells #[.int .i64 N, .slice none 0 0, .slice none 0 0] 30)
  have sz : (w2.alloc (.cells #[.int .i64 N, .slice none 0 0, .slice none 0 0] 30)).heap.size = w2.heap.size + 1 := by simp
  have st0 : Ct w (w2.alloc (.cells #[.int .i64 N, .slice none 0 0, .slice none 0 0] 30)) (w1.heap.size + 1) w1.heap.size (w1.heap.size + 2) w2.heap.size 0 N (fun _ => []) [] [] :=
    ⟨l2.frN hf, ⟨w2.heap.size + 1, none, 0, none, 0, [], ⟨Blk.new w2 _ [.int .i64 N, .slice none 0 0, .slice none 0 0], World.ownsRow_nil _ _ _ _, World.ownsRow_nil _ _ _ _, fun i hi => by simp at hi, by simp, by omega, by omega⟩, fun k hk => ⟨by have := l2.blt k hk; omega, by simp, by simp, by simp⟩⟩,
     List.Pairwise.nil, fun k => by simp [look], fun k hk => by have := f1.size; have := cmB_low (L := w1.heap.size) l2 (by omega) (by omega) (by omega) k hk; omega, by have := f1.size; have := f2.size; omega, (f1.seqN f2).seqN hf⟩
  clear l2 f1 f2 hf sz
  go_wp2_with fail
  generalize w1.heap.size + 2 = B at *
  generalize w1.heap.size + 1 = g at *
  generalize w1.heap.size = bm at *
  generalize w2.heap.size = r at *
  go_loopg [34] n (fun gk i wr => ∃ (k n9 : Nat) (X : Int → List Int) (M : List (Int × SV)) (E : List (Int × List Int)), k + gk = n ∧ i = .int .i64 k ∧ Ct w wr g bm B r n9 N X M E ∧ n9 ≤ k)
  case atStart => exact ⟨0, 0, _, _, _, by omega, rfl, st0, by omega⟩
  case round =>
    clear st0
    obtain ⟨k, n9, X, M, E, hk, rfl, st, hn9⟩ := hrel
    by_cases hlt : k < n
    · obtain ⟨⟨kd, tr, ag⟩, hop⟩ : ∃ o, xs[k]? = some o := ⟨_, List.getElem?_eq_getElem (by rw [hn.out]; exact hlt)⟩
      obtain ⟨g0, o0, cs, ha, hcs, ⟨hcs2, hI1, hI2, hI3⟩, hcell⟩ := hx3.out k _ hop
      subst ha hcs2
      have e0 := st.fr.cell (hcell 0 _ rfl) (fun q => q)
      have e1 := st.fr.cell (hcell 1 _ rfl) (fun q => q)
      have e2 := st.fr.cell (hcell 2 _ rfl) (fun q => q)
      have hok : okI tr := okI_of hI2.1 hI2.2
      clear hop hcell hI1 hI2 hI3
      simp only [← Nat.add_assoc, Nat.add_zero] at e0 e1 e2
      have st1 := st.frN ((Fr.refl noB wr).alloc (.cells #[.int .i64 kd, .int .i64 tr, .int .i64 ag] 32))
      have bo1 := Blk.new wr 32 [.int .i64 kd, .int .i64 tr, .int .i64 ag]
      have hbl : ∀ q, cmB wr g bm B M q → q < wr.heap.size := st.cm.blt
      have hrl : r < wr.heap.size := by obtain ⟨_, _, _, _, _, _, hR, _⟩ := st.rc; exact Nat.lt_of_lt_of_le hR.rB hR.Bw
      clear st
      obtain ⟨wa, hwa⟩ : ∃ wa, wa = wr.alloc (.cells #[.int .i64 kd, .int .i64 tr, .int .i64 ag] 32) := ⟨_, rfl⟩
      replace hbl : ∀ q, cmB wa g bm B M q → q < wr.heap.size := hbl
      go_upto_if 40 with fail
      rw [← hwa] at st1 ⊢
      replace bo1 : Blk wa wr.heap.size 32 [.int .i64 kd, .int .i64 tr, .int .i64 ag] := by rw [hwa]; exact bo1
      clear e0 e1 e2
      generalize wr.heap.size = ob at *
      clear hwa
      go_cut [] (fun wx => ∃ (m9 : Nat) (X9 : Int → List Int) (M9 : List (Int × SV)) (E9 : List (Int × List Int)), (Ct w wx g bm B r m9 N X9 M9 E9 ∧ m9 ≤ n9 + 1) ∧ Blk wx ob 32 [.int .i64 kd, .int .i64 tr, .int .i64 ag])
      case first =>
        have c0 : wa.cell? ⟨ob, 0, none⟩ = some (.int .i64 kd) := bo1.cell 0
        have c1 : wa.cell? ⟨ob, 1, none⟩ = some (.int .i64 tr) := bo1.cell 1
        have c2 : wa.cell? ⟨ob, 2, none⟩ = some (.int .i64 ag) := bo1.cell 2
        have hob : ¬ cmB wa g bm B M ob := fun q => absurd (hbl ob q) (Nat.lt_irrefl _)
        by_cases hkd : kd = 1
        · subst hkd
          have st2 := st1.frN ((Fr.refl noB wa).drewN 1)
          have bo2 : Blk (wa.drewN 1) ob 32 [.int .i64 1, .int .i64 tr, .int .i64 ag] := bo1
          obtain ⟨z, hz⟩ := st2.adds tr ag (by omega)
          have hz2 := Lib.hid hz
          have hkb : ((1 : Int) == 1) = true := rfl
          have hfa : (wa.drewN 1).cell? ⟨ob, 1, none⟩ = some (.int .i64 tr) ∧ (wa.drewN 1).cell? ⟨ob, 2, none⟩ = some (.int .i64 ag) := ⟨c1, c2⟩
          have hf4 : ∀ w', Blk w' ob 32 [.int .i64 1, .int .i64 tr, .int .i64 ag] → w'.cell? ⟨ob, 1, none⟩ = some (.int .i64 tr) ∧ w'.cell? ⟨ob, 2, none⟩ = some (.int .i64 ag) := fun w' h => ⟨h.cell 1, h.cell 2⟩
          replace hf4 := Lib.hid hf4
          replace hfa := Lib.hid hfa
          replace hob := Lib.hid hob
          clear hz st2 st1 c0
          go_wp2_with fail
          go_region_held3 (fun w' => w'.cell? ⟨ob, 1, none⟩ = some (.int .i64 tr) ∧ w'.cell? ⟨ob, 2, none⟩ = some (.int .i64 ag))
            (first | exact hfa.out | exact hf4.out _ b4 | exact hf4.out _ b5)
            (first
             | (go_at_call 9; refine hz2.out.mono ?_; rintro e w4 ⟨rfl, f4, hz4⟩; have b4 := f4.blk bo2 hob.out)
             | (go_at_call 10; refine hz4.mono ?_; rintro e w5 ⟨rfl, f5, hz5⟩; have b5 := f5.blk b4 (fun q => by { unfold onlyB at q; omega })))
          all_goals (
            go_wp2_with fail
            go_meet
            obtain ⟨m9, X9, M9, E9, h9⟩ := hz5
            exact ⟨m9, X9, M9, E9, h9, b5⟩)
        · have hkb : (kd == 1) = false := by simpa using hkd
          have hz := st1.drops tr (by omega) hok
          replace hob := Lib.hid hob
          go_wp2_with fail
          refine hz.mono ?_
          rintro e w4 ⟨rfl, f4, hz4⟩
          have b4 := f4.blk bo1 hob.out
          have c1b : w4.cell? ⟨ob, 1, none⟩ = some (.int .i64 tr) := b4.cell 1
          clear hz c1 c2 c0
          go_wp2_with fail
          refine hz4.mono ?_
          rintro e w5 ⟨rfl, f5, hz5⟩
          have b5 := f5.blk b4 (fun q => by unfold onlyB at q; omega)
          go_wp2_with fail
          go_meet
          obtain ⟨m9, X9, M9, E9, h9⟩ := hz5
          exact ⟨m9, X9, M9, E9, h9, b5⟩
      case rest =>
        obtain ⟨m9, X9, M9, E9, ⟨st9, hm9⟩, b5⟩ := hcut
        obtain ⟨w5, hw5⟩ : ∃ w5, w5 = wc := ⟨_, rfl⟩
        rw [← hw5] at st9 b5 ⊢
        clear st1 bo1 hbl hrl hw5
        have c1 : w5.cell? ⟨ob, 1, none⟩ = some (.int .i64 tr) := b5.cell 1
        obtain ⟨D9, aT9, cT9, aA9, cA9, VA9, hR9, hO9⟩ := st9.rc
        have hrc : w5.cell? ⟨r, 1, none⟩ = some (.slice aT9 E9.length cT9) := hR9.blk.cell 1
        have hE9 : E9.length ≤ 1000000 := by have := st9.lenE; omega
        have hOf := fun (w' : World) (f : Fr noB w5 w') => cof_any g bm B m9 N tr X9 M9 w' (st9.frN f).cm hok
        have hRo := fun (w' : World) (f : Fr noB w5 w') => rof_any r D9 N tr E9 aT9 cT9 aA9 cA9 VA9 w' (hR9.frN f) hE9
        rw [st9.of tr] at hRo
        have hTr := fun (w' : World) (f : Fr noB w5 w') => ctraces_any g bm B m9 N X9 M9 w' (st9.frN f).cm (by have := st9.traces.2; omega)
        rw [st9.traces.1] at hTr
        have hTc : ∀ w', Fr noB w5 w' → RdI w' (.slice aT9 E9.length cT9) (E9.map (·.1)) := fun w' f => RdI.of_own (ownsRow_fr hR9.rT f (fun _ _ q => q))
        have hfacts : ∀ w', Fr noB w5 w' → w'.cell? ⟨ob, 1, none⟩ = some (.int .i64 tr) ∧ w'.cell? ⟨r, 1, none⟩ = some (.slice aT9 E9.length cT9) := fun w' f => ⟨f.cell c1 (fun q => q), f.cell hrc (fun q => q)⟩
        replace st9 := Lib.hid st9
        replace hOf := Lib.hid hOf
        replace hRo := Lib.hid hRo
        replace hTr := Lib.hid hTr
        replace hTc := Lib.hid hTc
        replace hfacts := Lib.hid hfacts
        generalize X9 tr = Y9 at *
        generalize E9.map (·.1) = T9 at *
        obtain ⟨nE, hnE⟩ : ∃ nE, nE = E9.length := ⟨_, rfl⟩
        rw [← hnE] at hTc hfacts hrc
        replace hnE := Lib.hid hnE
        clear hE9 hR9 hO9 b5
        go_wp2_with fail
        go_region_held3 (fun w' => w'.cell? ⟨ob, 1, none⟩ = some (.int .i64 tr) ∧ w'.cell? ⟨r, 1, none⟩ = some (.slice aT9 nE cT9))
          (first | exact hfacts.out _ fA | exact hfacts.out _ f9 | exact hfacts.out _ f8 | exact hfacts.out _ f7 | exact hfacts.out _ f6 | exact hfacts.out _ ((Fr.refl noB _).drewN 1))
          (first
           | (go_at_call 14; refine (hOf.out _ ((Fr.refl noB _).drewN 1)).mono ?_; rintro e w6 ⟨v6, rfl, o6, f60⟩; have f6 : Fr noB w5 w6 := ((Fr.refl noB w5).drewN 1).seqN f60; have r6 : RdI w6 v6 Y9 := RdI.of_own o6)
           | (go_at_call 15; refine (hRo.out _ f6).mono ?_; rintro e w7 ⟨v7, rfl, r7, q7, hw7⟩; have f67 : Fr noB w6 w7 := by { rw [hw7]; exact (Fr.refl noB w6).drewN q7 }; have f7 := f6.seqN f67; have r67 := r6.fr f67 (fun _ _ _ _ _ q => q); replace r7 : RdI w7 v7 Y9 := by { rw [hw7]; exact r7.drewN q7 }; clear hw7)
           | (have qf9 := f9; clear qf9; go_at_call 13; refine (sameInts_same v9 _ _ _ r9 (hTc.out _ f9)).mono ?_; rintro e wA ⟨rfl, f9A⟩; have fA := f9.seqN f9A)
           | (go_at_call 16; refine (hTr.out _ f8).mono ?_; rintro e w9 ⟨v9, rfl, o9, f89⟩; have f9 := f8.seqN f89; have r9 : RdI w9 v9 T9 := RdI.of_own o9)
           | (go_at_call 13; refine (sameInts_same v6 v7 _ _ r67 r7).mono ?_; rintro e w8 ⟨rfl, f78⟩; have f8 := f7.seqN f78))
        all_goals (
          have stA := st9.out.frN fA
          go_wp2_with fail
          go_roundg (n - k - 1)
          case measure => omega
          case rel => exact ⟨k + 1, m9, X9, M9, E9, by omega, by go_num, stA, by omega⟩)
    · obtain rfl : k = n := by omega
      obtain ⟨wo, rfl⟩ : ∃ wo : World, wo = wr := ⟨_, rfl⟩
      go_wp2_with fail
      refine (cof_any g bm B n9 N 1 X M wo st.cm (okI_of (by omega) (by omega))).mono ?_
      rintro e w3 ⟨v3, rfl, o3, f3⟩
      have hXl := st.cm.lenX 1
      obtain ⟨a3, c3, rfl, ha3, hb3⟩ := own_open o3
      generalize (X 1).length = m at *
      have hm64 : m ≤ 9223372036854775807 := by omega
      have hb3' := Lib.hid hb3
      clear hb3 o3
      go_wp2_with fail
      go_loopw [87] (fun i w4 => ∃ j : Nat, j ≤ m ∧ i = .int .i64 j ∧ Hid (∀ b o, a3 = some ⟨b, o, none⟩ → wo.heap.size ≤ b ∧ ∃ cs, Blk w4 b 3 cs ∧ m ≤ cs.length) ∧ Fr noB wo w4) (fun i _ => m - (RowKit.intOf i).toNat)
      case atStart => exact ⟨0, by omega, rfl, hb3', f3⟩
      case round =>
        obtain ⟨j, hj, rfl, hb4, f4⟩ := hrel
        by_cases hlt2 : j < m
        · obtain ⟨b, rfl⟩ := ha3 (by omega)
          obtain ⟨hbl, cs, b4, hcl⟩ := hb4.out b 0 rfl
          obtain ⟨x4, hx4⟩ : ∃ x4, cs[j]? = some x4 := ⟨_, List.getElem?_eq_getElem (by omega)⟩
          have d4 : wr.cell? ⟨b, j, none⟩ = some x4 := by rw [b4.cell j]; exact hx4
          have z4 := b4.frozen j
          have b5 := b4.set j (.int .i64 99)
          have f5 : Fr noB wo (wr.setCell ⟨b, j, none⟩ (.int .i64 99)) := f4.storeNew hbl
          have hb5 : Hid (∀ b' o, (some ⟨b, 0, none⟩ : Option Addr) = some ⟨b', o, none⟩ → wo.heap.size ≤ b' ∧ ∃ cs, Blk (wr.setCell ⟨b, j, none⟩ (.int .i64 99)) b' 3 cs ∧ m ≤ cs.length) := Lib.hid (fun b' o q => by
            cases q
            exact ⟨hbl, _, b5, by simpa using hcl⟩)
          clear hb4 b4 b5 hb3'
          go_wp2_with fail
          go_roundw
          case rel => exact ⟨j + 1, by omega, by go_num, hb5, f5⟩
          case measure => simp [RowKit.intOf]; omega
        · obtain rfl : j = m := by omega
          have st4 := st.frN f4
          clear st hb4 hb3' f4 f3
          obtain ⟨D9, aT9, cT9, aA9, cA9, VA9, hR9, hO9⟩ := st4.rc
          have hE9 : E.length ≤ 1000000 := by have := st4.lenE; omega
          go_wp2_with fail
          refine (cof_any g bm B n9 N 1 X M wr st4.cm (okI_of (by omega) (by omega))).mono ?_
          rintro e w5 ⟨v5, rfl, o5, f5⟩
          have r5 : RdI w5 v5 (X 1) := RdI.of_own o5
          go_wp2_with fail
          refine (rof_any r D9 N 1 E aT9 cT9 aA9 cA9 VA9 w5 (hR9.frN f5) hE9).mono ?_
          rintro e w6 ⟨v6, rfl, r6, q6, hw6⟩
          rw [st4.of 1] at r6
          have f56 : Fr noB w5 w6 := by rw [hw6]; exact (Fr.refl noB w5).drewN q6
          have r56 := r5.fr f56 (fun _ _ _ _ _ q => q)
          replace r6 : RdI w6 v6 (X 1) := by rw [hw6]; exact r6.drewN q6
          clear hw6
          go_wp2_with fail
          refine (sameInts_same v5 v6 (X 1) w6 r56 r6).mono ?_
          rintro e w7 ⟨rfl, f67⟩
          go_wp2_with fail
          go_ret
          exact ⟨rfl, ((st4.fr.seqN f5).seqN f56).seqN f67⟩
end Go.Proofs.Ytbepkhldgfmmbaa
