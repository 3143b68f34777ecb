import Derived.Test.YtomgkegjdkkhoaaLeaseTime
import Derived.Test.YtomgkegjdkkhoaaArgs
set_option linter.unusedVariables false
set_option linter.unusedSimpArgs false
namespace Go.Proofs.Ytomgkegjdkkhoaa
open Go.RowKit Go Go.Lib

/-- a number that an int can hold -/
def I64 (n : Int) : Prop := -9223372036854775808 ≤ n ∧ n ≤ 9223372036854775807
/-- an Op's cells: Kind, Trace, Job -/
def IsOp (cs : List Value) (o : Int × Int × Int) : Prop := cs = [.int .i64 o.1, .int .i64 o.2.1, .int .i64 o.2.2] ∧ I64 o.1 ∧ I64 o.2.1 ∧ I64 o.2.2
theorem op_open {H : Type} {enc : TypeId × Value → H} {w : World} {base : Nat} {held : Bool} (n : Nat) (cs : List Value) (y : DataW H × List MemPlace) (hl : cs.length = 3)
    (h : DataW.trod enc Try.prog w base (fun _ => true) held n 33 cs = some y) : ∃ o, IsOp cs o := by
  obtain ⟨a, ha, wa⟩ := fld_int (i := 0) (off := 0) Try.underlying33 h rfl (by kernel_rfl) (by omega) Try.underlying3
  obtain ⟨b, hb, wb⟩ := fld_int (i := 1) (off := 1) Try.underlying33 h rfl (by kernel_rfl) (by omega) Try.underlying3
  obtain ⟨c, hc, wc⟩ := fld_int (i := 2) (off := 2) Try.underlying33 h rfl (by kernel_rfl) (by omega) Try.underlying3
  exact ⟨(a, b, c), by rw [list3 hl, ha, hb, hc], wf_i64 wa, wf_i64 wb, wf_i64 wc⟩
theorem okI_small {k : Int} (h0 : -10 ≤ k) (h1 : k ≤ 10) : okI k := okI_of (by omega) (by omega)
theorem index0 (x y : Int) (w : World) : (Instr.index 49 (.agg #[.int .i64 x, .int .i64 y]) (.int .i64 0)).run Try.prog w = .ok (.int .i64 x) w := by kernel_rfl
theorem index1 (x y : Int) (w : World) : (Instr.index 49 (.agg #[.int .i64 x, .int .i64 y]) (.int .i64 1)).run Try.prog w = .ok (.int .i64 y) w := by kernel_rfl
theorem zeroPair (w : World) : (zeroValue 49).run Try.prog w = .ok (mkH (0, 0)) w := by kernel_rfl

/-- the law's state: leases, and its own map of what ran out -/
structure Hd (w0 w : World) (g bh bo ov : Nat) (G : List Int) (T now : Nat) (H : List (Int × (Int × Int))) (O : List (Int × Int)) (nV : Nat) (V : List (Int × Int)) : Prop where
  ls : Ls w g bh bo G T now H O
  mv : MO w ov nV V
  n1 : ¬ lsB g bh bo ov
  fr : Fr noB w0 w
  lo : ∀ k, lsB g bh bo k → w0.heap.size ≤ k
  lv : w0.heap.size ≤ ov
  hb : ∀ t x, look H t = some x → 1 ≤ t ∧ t ≤ 6 ∧ 1 ≤ x.1 ∧ x.1 ≤ 9 ∧ now < x.2 ∧ x.2 ≤ now + T
  vo : ∀ t, (look V t).getD 0 = (look O t).getD 0
theorem Hd.run {w0 w : World} {g bh bo ov : Nat} {G : List Int} {T now : Nat} {H : List (Int × (Int × Int))} {O : List (Int × Int)} {nV : Nat} {V : List (Int × Int)} (h : Hd w0 w g bh bo ov G T now H O nV V) (t : Int) (ht : okI t) :
    (Instr.lookup 47 (.map (some ov)) (.int .i64 t) false).run Try.prog w = .ok (.int .i64 ((look O t).getD 0)) w := by
  have := h.mv.run_look KI Try.underlying47 (zeroInt w) mkI_inj t ht
  rw [h.vo t] at this
  exact this
theorem Hd.frN {w0 w w' : World} {g bh bo ov : Nat} {G : List Int} {T now : Nat} {H : List (Int × (Int × Int))} {O : List (Int × Int)} {nV : Nat} {V : List (Int × Int)} (h : Hd w0 w g bh bo ov G T now H O nV V) (hf : Fr noB w w') : Hd w0 w' g bh bo ov G T now H O nV V :=
  ⟨h.ls.fr hf (fun _ _ q => q), h.mv.fr hf (fun q => q), h.n1, h.fr.seqN hf, h.lo, h.lv, h.hb, h.vo⟩
theorem Hd.call {w0 w w' : World} {g bh bo ov : Nat} {G G' : List Int} {T now : Nat} {H H' : List (Int × (Int × Int))} {O : List (Int × Int)} {nV : Nat} {V : List (Int × Int)} (h : Hd w0 w g bh bo ov G T now H O nV V) (hf : Fr (lsB g bh bo) w w') (hl : Ls w' g bh bo G' T now H' O)
    (hb : ∀ t x, look H' t = some x → 1 ≤ t ∧ t ≤ 6 ∧ 1 ≤ x.1 ∧ x.1 ≤ 9 ∧ now < x.2 ∧ x.2 ≤ now + T) : Hd w0 w' g bh bo ov G' T now H' O nV V :=
  ⟨hl, h.mv.fr hf h.n1, h.n1, h.fr.trans hf (fun _ _ q => q) (fun i hi q => by have := h.lo i q; omega), h.lo, h.lv, hb, h.vo⟩
theorem Hd.job {w0 w : World} {g bh bo ov : Nat} {G : List Int} {T now : Nat} {H : List (Int × (Int × Int))} {O : List (Int × Int)} {nV : Nat} {V : List (Int × Int)} (h : Hd w0 w g bh bo ov G T now H O nV V) (t : Int) (ht : okI t) :
    Calls Try.prog 16 #[.pointer (some ⟨g, 0, none⟩), .int .i64 t] w fun e w' => e = .returned (.int .i64 ((look H t).getD (0, 0)).1) ∧ w' = w := ljob_any g bh bo G T now t H O w h.ls ht
theorem Hd.left {w0 w : World} {g bh bo ov : Nat} {G : List Int} {T now : Nat} {H : List (Int × (Int × Int))} {O : List (Int × Int)} {nV : Nat} {V : List (Int × Int)} (h : Hd w0 w g bh bo ov G T now H O nV V) (t : Int) (ht : okI t) :
    Calls Try.prog 17 #[.pointer (some ⟨g, 0, none⟩), .int .i64 t] w fun e w' => e = .returned (.int .i64 (leftOf now (look H t))) ∧ Hd w0 w' g bh bo ov G T now H O nV V ∧ Fr noB w w' :=
  (lleft_any g bh bo G T now t H O w h.ls ht (fun x hx => by have := h.hb t x hx; have := h.ls.t1; have := h.ls.w1; omega)).mono fun _ _ ⟨he, hf⟩ => ⟨he, h.frN hf, hf⟩
/-- of the traces 1 to m so many are held -/
def cntH (H : List (Int × (Int × Int))) (m : Nat) : Nat := ((List.range m).filter fun i : Nat => (look H ((i : Int) + 1)).isSome).length
theorem cntH_succ (H : List (Int × (Int × Int))) (m : Nat) : cntH H (m + 1) = cntH H m + if (look H ((m : Int) + 1)).isSome then 1 else 0 := by
  unfold cntH
  rw [List.range_succ, List.filter_append, List.length_append]
  congr 1
  by_cases h : (look H ((m : Int) + 1)).isSome <;> simp [h]
theorem cntH_le (H : List (Int × (Int × Int))) (m : Nat) : cntH H m ≤ m := by
  unfold cntH
  have := List.length_filter_le (fun i : Nat => (look H ((i : Int) + 1)).isSome) (List.range m)
  simpa using this
theorem cntH_all {H : List (Int × (Int × Int))} (hn : (H.map (·.1)).Nodup) (hb : ∀ t x, look H t = some x → 1 ≤ t ∧ t ≤ 6) : cntH H 6 = H.length := by
  have hp : (H.map (·.1)).Perm (((List.range 6).filter fun i : Nat => (look H ((i : Int) + 1)).isSome).map fun i : Nat => (i : Int) + 1) := by
    refine (List.perm_ext_iff_of_nodup hn ?_).2 fun t => ?_
    · refine List.Pairwise.map _ ?_ ((List.nodup_range).sublist List.filter_sublist)
      intro a b h e
      exact h (by omega)
    · constructor
      · intro h
        obtain ⟨p, hp, rfl⟩ := List.mem_map.1 h
        have hl := look_mem hn (k := p.1) (x := p.2) hp
        have := hb _ _ hl
        refine List.mem_map.2 ⟨(p.1 - 1).toNat, List.mem_filter.2 ⟨List.mem_range.2 (by omega), ?_⟩, by omega⟩
        rw [show (((p.1 - 1).toNat : Int) + 1) = p.1 by omega, hl]; rfl
      · intro h
        obtain ⟨i, hi, rfl⟩ := List.mem_map.1 h
        have h1 := (List.mem_filter.1 hi).2
        obtain ⟨x, hx⟩ := Option.isSome_iff_exists.1 h1
        exact List.mem_map.2 ⟨_, look_some hx, rfl⟩
  have := hp.length_eq
  simpa [cntH] using this.symm

/-- amid the tick's round -/
structure Hr (w0 w : World) (g bh bo ov wm B : Nat) (G : List Int) (T now : Nat) (H : List (Int × (Int × Int))) (O : List (Int × Int)) (nV : Nat) (V : List (Int × Int)) (W : List (Int × (Int × Int))) (v : Value) (E : List Int) : Prop where
  ls : Ls w g bh bo G T now H O
  mv : MO w ov nV V
  mw : MH w wm 6 W
  own : w.ownsRow B 3 1 v E.length (E.map (Value.int .i64))
  n1 : ¬ lsB g bh bo ov
  n2 : wm ≠ ov
  n3 : ov < B
  fr : Fr noB w0 w
  lo : ∀ k, lsB g bh bo k → w0.heap.size ≤ k
  lv : w0.heap.size ≤ ov
theorem Hr.put {w0 w w' : World} {g bh bo ov wm B : Nat} {G : List Int} {T now : Nat} {H : List (Int × (Int × Int))} {O : List (Int × Int)} {nV m : Nat} {V V' : List (Int × Int)} {W : List (Int × (Int × Int))} {v : Value} {E : List Int} (h : Hr w0 w g bh bo ov wm B G T now H O nV V W v E) (hf : Fr (onlyB ov) w w') (hm : MO w' ov m V') : Hr w0 w' g bh bo ov wm B G T now H O m V' W v E :=
  ⟨h.ls.fr hf (fun k hk q => h.n1 (q ▸ hk)), hm, h.mw.fr hf (fun q => h.n2 q), ownsRow_fr h.own hf (fun q hq => by have := (h.own.lt q hq).1; have := h.n3; unfold onlyB; omega), h.n1, h.n2, h.n3, h.fr.seqB hf (fun q => absurd q (by have := h.lv; omega)), h.lo, h.lv⟩

theorem umodo (b m : Int) (h0 : 0 < m) (h1 : m ≤ 9223372036854775807) : ∃ q : Int, wrap64 ((IntKind.u64.wrap b).tmod m) = q ∧ 0 ≤ q ∧ q < m := umod b m h0 h1

set_option maxHeartbeats 2000000 in
set_option maxRecDepth 10000 in
theorem held_any (t : Int) (v : Value) (xs : List (Int × Int × Int)) (w : World) (ht : (Lit.int .i64 t).wf = true) (hxs : SlR w v 3 IsOp xs) :
    Calls Try.prog 5 #[.int .i64 t, v] w fun e w' => e = .returned (.bool true) ∧ Fr noB w w' := by
  obtain ⟨z, hz, z0, z1⟩ := umod t 20 (by omega) (by omega)
  obtain ⟨T, hT⟩ : ∃ T : Nat, 1 + z = T := ⟨(1 + z).toNat, by omega⟩
  obtain ⟨a, c, rfl, hx1, hx2, hx3⟩ := hxs
  unfold maxLen at hx2
  generalize hn : xs.length = n at *
  replace hx3 := Lib.hid hx3
  obtain ⟨hx1, _⟩ := hx1
  have hnb : n ≤ 9223372036854775807 := by omega
  replace hn := Lib.hid hn
  replace hT := Lib.hid hT
  have hmm := @run_makeMap Try.prog
  go_enter Try.func5, Try.ntmps5
  go_wp2_with fail
  have hT2 := hT.out
  rw [hT2]
  have hT0 : 1 ≤ T := by omega
  have hT20 : T ≤ 20 := by omega
  clear hz hT hT2 z0 z1
  refine (awake_any w).mono ?_
  rintro e w1 ⟨rfl, f1⟩
  by_cases hl : 200 < n
  · go_wp2_with fail
    refine (awake_any w1).mono ?_
    rintro e w2 ⟨rfl, f2⟩
    go_wp2
    go_ret
    exact ⟨rfl, f1.seqN f2⟩
  have hd1 : decide (200 < (n : Int)) = false := by simp; omega
  go_wp2_with fail
  refine (lnew_any T w1 (by omega) (by omega)).mono ?_
  rintro e w2 ⟨rfl, l2, f2⟩
  have hs2 : w2.heap.size ≤ w2.heap.size := Nat.le_refl _
  have hlt2 := l2.lt
  have hf := (Fr.refl noB w2).alloc (.map #[] 0)
  have st0 : Hd w (w2.alloc (.map #[] 0)) (w1.heap.size + 2) w1.heap.size (w1.heap.size + 1) w2.heap.size [] T 0 [] [] 0 [] :=
    ⟨l2.fr hf (fun _ _ q => q), Mp.made w2, fun q => by have := hlt2 _ q; omega, (f1.seqN f2).seqN hf, fun k q => by have := f1.size; rcases q with rfl | rfl | rfl <;> omega, by have := f1.size; have := f2.size; omega, fun t x h => by simp [look] at h, fun t => rfl⟩
  clear l2 f1 f2 hs2 hlt2 hf
  go_wp2_with fail
  generalize w1.heap.size + 2 = g at *
  generalize w1.heap.size + 1 = bo at *
  generalize w1.heap.size = bh at *
  generalize w2.heap.size = ov at *
  go_loopw [41] (fun i wr => ∃ (k now : Nat) (G : List Int) (H : List (Int × (Int × Int))) (O : List (Int × Int)) (nV : Nat) (V : List (Int × Int)), k ≤ n ∧ i = .int .i64 k ∧ Hd w wr g bh bo ov G T now H O nV V ∧ G.length ≤ k ∧ now ≤ k ∧ nV ≤ 200 * k) (fun i _ => n - (RowKit.intOf i).toNat)
  case atStart => exact ⟨0, 0, [], [], [], 0, [], by omega, rfl, st0, by simp, by omega, by omega⟩
  case round =>
    clear st0
    obtain ⟨k, now, G, H, O, nV, V, hk, rfl, st, hG, hnw, hnV⟩ := hrel
    by_cases hlt : k < n
    · obtain ⟨⟨kd, tr, jb⟩, hop⟩ : ∃ o, xs[k]? = some o := ⟨_, List.getElem?_eq_getElem (by rw [hn.out]; exact hlt)⟩
      obtain ⟨g0, o0, cs, ha, hcs, ⟨hcs2, hI1, hI2, hI3⟩, hcell⟩ := hx3.out k _ hop
      subst ha hcs2
      have e0 := st.fr.cell (hcell 0 _ rfl) (fun q => q)
      have e1 := st.fr.cell (hcell 1 _ rfl) (fun q => q)
      have e2 := st.fr.cell (hcell 2 _ rfl) (fun q => q)
      clear hop hcell hI1 hI2 hI3
      simp only [← Nat.add_assoc, Nat.add_zero] at e0 e1 e2
      obtain ⟨z6, hz6, z60, z61⟩ := umodo tr 6 (by omega) (by omega)
      obtain ⟨z9, hz9, z90, z91⟩ := umodo jb 9 (by omega) (by omega)
      have st1 := st.frN ((Fr.refl noB wr).alloc (.cells #[.int .i64 kd, .int .i64 tr, .int .i64 jb] 33))
      have bo1 := Blk.new wr 33 [.int .i64 kd, .int .i64 tr, .int .i64 jb]
      have hobl := st.ls.lt
      have hobv := st.mv.lt
      clear st
      obtain ⟨wa, hwa⟩ : ∃ wa, wa = wr.alloc (.cells #[.int .i64 kd, .int .i64 tr, .int .i64 jb] 33) := ⟨_, rfl⟩
      go_wp2_with fail
      rw [← hwa] at st1 ⊢
      replace bo1 : Blk wa wr.heap.size 33 [.int .i64 kd, .int .i64 tr, .int .i64 jb] := by rw [hwa]; exact bo1
      have hob : ∀ q, lsB g bh bo q → q ≠ wr.heap.size := fun q hq => by have := hobl q hq; omega
      have hob2 : ov ≠ wr.heap.size := by omega
      clear e0 e1 e2 hobl hobv
      generalize wr.heap.size = ob at *
      clear hwa
      have c0 : wa.cell? ⟨ob, 0, none⟩ = some (.int .i64 kd) := bo1.cell 0
      have c1 : wa.cell? ⟨ob, 1, none⟩ = some (.int .i64 tr) := bo1.cell 1
      have c2 : wa.cell? ⟨ob, 2, none⟩ = some (.int .i64 jb) := bo1.cell 2
      go_quiet (fail)
      replace st1 := st1.frN ((Fr.refl noB wa).drewN nq)
      replace bo1 : Blk (wa.drewN nq) ob 33 [.int .i64 kd, .int .i64 tr, .int .i64 jb] := bo1
      replace c0 : (wa.drewN nq).cell? ⟨ob, 0, none⟩ = some (.int .i64 kd) := c0
      clear c1 c2
      generalize wa.drewN nq = wb at *
      clear hz6 hz9
      obtain ⟨tt, htt⟩ : ∃ tt : Int, 1 + z6 = tt := ⟨_, rfl⟩
      obtain ⟨jj, hjj⟩ : ∃ jj : Int, 1 + z9 = jj := ⟨_, rfl⟩
      rw [htt, hjj]
      have ht1 : 1 ≤ tt := by omega
      have ht6 : tt ≤ 6 := by omega
      have hj1 : 1 ≤ jj := by omega
      have hj9 : jj ≤ 9 := by omega
      clear htt hjj z60 z61 z90 z91
      have hokt : okI tt := okI_small (by omega) (by omega)
      rcases (show kd = 1 ∨ kd = 2 ∨ kd = 3 ∨ (kd ≠ 1 ∧ kd ≠ 2 ∧ kd ≠ 3) by omega) with rfl | rfl | rfl | ⟨k1, k2, k3⟩
      focus
        go_wp2_with fail
        refine (lgrant_any g bh bo _ T now tt jj _ _ wb st1.ls hokt (by omega)).mono ?_
        rintro e w4 ⟨rfl, l4, f4⟩
        have st4 : Hd w w4 g bh bo ov (tt :: G) T now (withKey H tt (jj, (now : Int) + T)) O nV V := st1.call f4 l4 (fun t x h => by
          by_cases htt : t = tt
          · subst htt; rw [look_withKey_same] at h; cases h; simp only; omega
          · rw [look_withKey_other _ _ htt] at h; exact st1.hb t x h)
        have hlk : look (withKey H tt (jj, (now : Int) + T)) tt = some (jj, (now : Int) + T) := look_withKey_same _ _ _
        clear st1 bo1 c0 l4 f4 hob hob2
        generalize withKey H tt (jj, (now : Int) + T) = H4 at *
        replace hlk := Lib.hid hlk
        go_wp2_with fail
        refine (st4.job tt hokt).mono ?_
        rintro e w5 ⟨rfl, hw5⟩
        obtain rfl := hw5.symm
        rw [hlk.out]
        simp only [Option.getD_some]
        go_wp2_with fail
        refine (st4.left tt hokt).mono ?_
        rintro e w5 ⟨rfl, st5, f5⟩
        rw [hlk.out, show leftOf now (some (jj, (now : Int) + T)) = T by simp [leftOf]; omega]
        obtain ⟨G9, now9, H9, O9, nV9, V9, st9, hG9, hn9, hV9⟩ : ∃ G9 now9 H9 O9 nV9 V9, Hd w w5 g bh bo ov G9 T now9 H9 O9 nV9 V9 ∧ G9.length ≤ k + 1 ∧ now9 ≤ k + 1 ∧ nV9 ≤ 200 * (k + 1) := ⟨_, _, _, _, _, _, st5, by simp; omega, by omega, by omega⟩
        clear st4 st5 f5 hlk
        go_wp2_with fail
        go_loopw [16, 17] (fun cc jj wr => ∃ j : Nat, j ≤ 6 ∧ jj = .int .i64 ((j : Int) + 1) ∧ cc = .int .i64 (cntH H9 j) ∧ Hd w wr g bh bo ov G9 T now9 H9 O9 nV9 V9) (fun _ jj _ => (7 - RowKit.intOf jj).toNat)
        case atStart => exact ⟨0, by omega, rfl, rfl, st9⟩
        case round =>
          clear st9
          obtain ⟨wr2, rfl⟩ : ∃ wr2 : World, wr2 = wr := ⟨_, rfl⟩
          obtain ⟨j, hj, rfl, rfl, st⟩ := hrel
          have hcs := cntH_succ H9 j
          have hcl := cntH_le H9 j
          by_cases hlt : j < 6
          · have hd5 : decide (((j : Int) + 1) ≤ 6) = true := by simp; omega
            have hok : okI ((j : Int) + 1) := okI_small (by omega) (by omega)
            have hb9 := st.hb ((j : Int) + 1)
            have hJ := fun (w' : World) (s : Hd w w' g bh bo ov G9 T now9 H9 O9 nV9 V9) => s.job ((j : Int) + 1) hok
            have hL := fun (w' : World) (s : Hd w w' g bh bo ov G9 T now9 H9 O9 nV9 V9) => s.left ((j : Int) + 1) hok
            have hO := fun (w' : World) (s : Hd w w' g bh bo ov G9 T now9 H9 O9 nV9 V9) => lover_any g bh bo _ _ _ ((j : Int) + 1) _ _ w' s.ls hok
            have hR := fun (w' : World) (s : Hd w w' g bh bo ov G9 T now9 H9 O9 nV9 V9) => s.run ((j : Int) + 1) hok
            generalize (look O9 ((j : Int) + 1)).getD 0 = old at hO hR
            cases hlk : look H9 ((j : Int) + 1) with
            | none =>
              rw [hlk] at hJ hL hcs
              simp only [Option.getD_none, leftOf, Option.isSome_none] at hJ hL hcs
              replace hcs : Hid (cntH H9 (j + 1) = cntH H9 j) := Lib.hid (by simpa using hcs)
              replace hlk := Lib.hid hlk
              replace hJ := Lib.hid hJ
              replace hL := Lib.hid hL
              replace hO := Lib.hid hO
              replace hR := Lib.hid hR
              clear hb9
              generalize cntH H9 j = cn at *
              go_wp2_with fail
              go_region_held3 (fun w' => (Instr.lookup 47 (.map (some ov)) (.int .i64 ((j : Int) + 1)) false).run Try.prog w' = .ok (.int .i64 old) w')
                (first | exact hR.out _ (st.frN ((Fr.refl noB _).drewN 1)) | exact hR.out _ s4)
                (first
                 | (go_at_call 16; refine (hJ.out _ (st.frN ((Fr.refl noB _).drewN 1))).mono ?_; rintro e w4 ⟨rfl, rfl⟩)
                 | (go_at_call 17; refine (hL.out _ (st.frN ((Fr.refl noB _).drewN 1))).mono ?_; rintro e w4 ⟨rfl, s4, f4⟩)
                 | (go_at_call 18; refine (hO.out _ s4).mono ?_; rintro e w5 ⟨rfl, hw5⟩; obtain rfl := hw5.symm))
              all_goals (
                have s9 : Hd w w4 g bh bo ov G9 T now9 H9 O9 nV9 V9 := s4
                clear st f4 s4
                go_wp2_with fail
                refine (hJ.out _ s9).mono ?_
                rintro e w6 ⟨rfl, hw6⟩
                obtain rfl := hw6.symm
                go_wp2_with fail
                go_roundw
                case rel => exact ⟨j + 1, by omega, by go_num, by rw [hcs.out]; try first | rfl | go_num, s9⟩
                case measure => simp [RowKit.intOf]; omega)
            | some x =>
              obtain ⟨_, _, hx1, hx9, hxn, hxT⟩ := hb9 x hlk
              obtain ⟨xj, xe⟩ := x
              rw [hlk] at hJ hL hcs
              simp only [Option.getD_some, leftOf, Option.isSome_some, if_true] at hJ hL hcs hx1 hx9 hxn hxT
              have hd6 : decide ((0 : Int) < xj) = true := by simp; omega
              have hd7 : decide ((0 : Int) < xe - now9) = true := by simp; omega
              have hd8 : decide ((now9 : Int) < xe) = true := by simp; omega
              replace hcs := Lib.hid hcs
              replace hlk := Lib.hid hlk
              replace hJ := Lib.hid hJ
              replace hL := Lib.hid hL
              replace hO := Lib.hid hO
              replace hR := Lib.hid hR
              clear hb9
              generalize cntH H9 j = cn at *
              go_wp2_with fail
              go_region_held3 (fun w' => (Instr.lookup 47 (.map (some ov)) (.int .i64 ((j : Int) + 1)) false).run Try.prog w' = .ok (.int .i64 old) w')
                (first | exact hR.out _ (st.frN ((Fr.refl noB _).drewN 1)) | exact hR.out _ s4)
                (first
                 | (go_at_call 16; refine (hJ.out _ (st.frN ((Fr.refl noB _).drewN 1))).mono ?_; rintro e w4 ⟨rfl, rfl⟩)
                 | (go_at_call 17; refine (hL.out _ (st.frN ((Fr.refl noB _).drewN 1))).mono ?_; rintro e w4 ⟨rfl, s4, f4⟩)
                 | (go_at_call 18; refine (hO.out _ s4).mono ?_; rintro e w5 ⟨rfl, hw5⟩; obtain rfl := hw5.symm))
              all_goals (
                have s9 : Hd w w4 g bh bo ov G9 T now9 H9 O9 nV9 V9 := s4
                clear st f4 s4
                go_wp2_with fail
                refine (hJ.out _ s9).mono ?_
                rintro e w6 ⟨rfl, hw6⟩
                obtain rfl := hw6.symm
                go_wp2_with fail
                go_roundw
                case rel => exact ⟨j + 1, by omega, by go_num, by rw [hcs.out]; try first | rfl | go_num, s9⟩
                case measure => simp [RowKit.intOf]; omega)
          · obtain rfl : j = 6 := by omega
            have hlen := cntH_all st.ls.mh.nodup (fun t x h => by have := st.hb t x h; omega)
            rw [hlen]
            clear hlen hcs hcl
            have hd5 : decide ((((6 : Nat) : Int) + 1) ≤ 6) = false := by decide
            go_wp2_with fail
            refine (llen_any g bh bo _ _ _ _ _ _ st.ls).mono ?_
            rintro e w6 ⟨rfl, hw6⟩
            obtain rfl := hw6.symm
            go_wp2_with fail
            go_roundw
            case rel => exact ⟨k + 1, now9, G9, H9, O9, nV9, V9, by omega, by go_num, st, hG9, hn9, hV9⟩
            case measure => simp [RowKit.intOf]; omega
      focus
        go_wp2_with fail
        refine (lgrant_any g bh bo _ T now tt jj _ _ wb st1.ls hokt (by omega)).mono ?_
        rintro e w4 ⟨rfl, l4, f4⟩
        have st4 : Hd w w4 g bh bo ov (tt :: G) T now (withKey H tt (jj, (now : Int) + T)) O nV V := st1.call f4 l4 (fun t x h => by
          by_cases htt : t = tt
          · subst htt; rw [look_withKey_same] at h; cases h; simp only; omega
          · rw [look_withKey_other _ _ htt] at h; exact st1.hb t x h)
        have hlk : look (withKey H tt (jj, (now : Int) + T)) tt = some (jj, (now : Int) + T) := look_withKey_same _ _ _
        clear st1 bo1 c0 l4 f4 hob hob2
        generalize withKey H tt (jj, (now : Int) + T) = H4 at *
        replace hlk := Lib.hid hlk
        go_wp2_with fail
        refine (st4.job tt hokt).mono ?_
        rintro e w5 ⟨rfl, hw5⟩
        obtain rfl := hw5.symm
        rw [hlk.out]
        simp only [Option.getD_some]
        go_wp2_with fail
        refine (st4.left tt hokt).mono ?_
        rintro e w5 ⟨rfl, st5, f5⟩
        rw [hlk.out, show leftOf now (some (jj, (now : Int) + T)) = T by simp [leftOf]; omega]
        obtain ⟨G9, now9, H9, O9, nV9, V9, st9, hG9, hn9, hV9⟩ : ∃ G9 now9 H9 O9 nV9 V9, Hd w w5 g bh bo ov G9 T now9 H9 O9 nV9 V9 ∧ G9.length ≤ k + 1 ∧ now9 ≤ k + 1 ∧ nV9 ≤ 200 * (k + 1) := ⟨_, _, _, _, _, _, st5, by simp; omega, by omega, by omega⟩
        clear st4 st5 f5 hlk
        go_wp2_with fail
        go_loopw [16, 17] (fun cc jj wr => ∃ j : Nat, j ≤ 6 ∧ jj = .int .i64 ((j : Int) + 1) ∧ cc = .int .i64 (cntH H9 j) ∧ Hd w wr g bh bo ov G9 T now9 H9 O9 nV9 V9) (fun _ jj _ => (7 - RowKit.intOf jj).toNat)
        case atStart => exact ⟨0, by omega, rfl, rfl, st9⟩
        case round =>
          clear st9
          obtain ⟨wr2, rfl⟩ : ∃ wr2 : World, wr2 = wr := ⟨_, rfl⟩
          obtain ⟨j, hj, rfl, rfl, st⟩ := hrel
          have hcs := cntH_succ H9 j
          have hcl := cntH_le H9 j
          by_cases hlt : j < 6
          · have hd5 : decide (((j : Int) + 1) ≤ 6) = true := by simp; omega
            have hok : okI ((j : Int) + 1) := okI_small (by omega) (by omega)
            have hb9 := st.hb ((j : Int) + 1)
            have hJ := fun (w' : World) (s : Hd w w' g bh bo ov G9 T now9 H9 O9 nV9 V9) => s.job ((j : Int) + 1) hok
            have hL := fun (w' : World) (s : Hd w w' g bh bo ov G9 T now9 H9 O9 nV9 V9) => s.left ((j : Int) + 1) hok
            have hO := fun (w' : World) (s : Hd w w' g bh bo ov G9 T now9 H9 O9 nV9 V9) => lover_any g bh bo _ _ _ ((j : Int) + 1) _ _ w' s.ls hok
            have hR := fun (w' : World) (s : Hd w w' g bh bo ov G9 T now9 H9 O9 nV9 V9) => s.run ((j : Int) + 1) hok
            generalize (look O9 ((j : Int) + 1)).getD 0 = old at hO hR
            cases hlk : look H9 ((j : Int) + 1) with
            | none =>
              rw [hlk] at hJ hL hcs
              simp only [Option.getD_none, leftOf, Option.isSome_none] at hJ hL hcs
              replace hcs : Hid (cntH H9 (j + 1) = cntH H9 j) := Lib.hid (by simpa using hcs)
              replace hlk := Lib.hid hlk
              replace hJ := Lib.hid hJ
              replace hL := Lib.hid hL
              replace hO := Lib.hid hO
              replace hR := Lib.hid hR
              clear hb9
              generalize cntH H9 j = cn at *
              go_wp2_with fail
              go_region_held3 (fun w' => (Instr.lookup 47 (.map (some ov)) (.int .i64 ((j : Int) + 1)) false).run Try.prog w' = .ok (.int .i64 old) w')
                (first | exact hR.out _ (st.frN ((Fr.refl noB _).drewN 1)) | exact hR.out _ s4)
                (first
                 | (go_at_call 16; refine (hJ.out _ (st.frN ((Fr.refl noB _).drewN 1))).mono ?_; rintro e w4 ⟨rfl, rfl⟩)
                 | (go_at_call 17; refine (hL.out _ (st.frN ((Fr.refl noB _).drewN 1))).mono ?_; rintro e w4 ⟨rfl, s4, f4⟩)
                 | (go_at_call 18; refine (hO.out _ s4).mono ?_; rintro e w5 ⟨rfl, hw5⟩; obtain rfl := hw5.symm))
              all_goals (
                have s9 : Hd w w4 g bh bo ov G9 T now9 H9 O9 nV9 V9 := s4
                clear st f4 s4
                go_wp2_with fail
                refine (hJ.out _ s9).mono ?_
                rintro e w6 ⟨rfl, hw6⟩
                obtain rfl := hw6.symm
                go_wp2_with fail
                go_roundw
                case rel => exact ⟨j + 1, by omega, by go_num, by rw [hcs.out]; try first | rfl | go_num, s9⟩
                case measure => simp [RowKit.intOf]; omega)
            | some x =>
              obtain ⟨_, _, hx1, hx9, hxn, hxT⟩ := hb9 x hlk
              obtain ⟨xj, xe⟩ := x
              rw [hlk] at hJ hL hcs
              simp only [Option.getD_some, leftOf, Option.isSome_some, if_true] at hJ hL hcs hx1 hx9 hxn hxT
              have hd6 : decide ((0 : Int) < xj) = true := by simp; omega
              have hd7 : decide ((0 : Int) < xe - now9) = true := by simp; omega
              have hd8 : decide ((now9 : Int) < xe) = true := by simp; omega
              replace hcs := Lib.hid hcs
              replace hlk := Lib.hid hlk
              replace hJ := Lib.hid hJ
              replace hL := Lib.hid hL
              replace hO := Lib.hid hO
              replace hR := Lib.hid hR
              clear hb9
              generalize cntH H9 j = cn at *
              go_wp2_with fail
              go_region_held3 (fun w' => (Instr.lookup 47 (.map (some ov)) (.int .i64 ((j : Int) + 1)) false).run Try.prog w' = .ok (.int .i64 old) w')
                (first | exact hR.out _ (st.frN ((Fr.refl noB _).drewN 1)) | exact hR.out _ s4)
                (first
                 | (go_at_call 16; refine (hJ.out _ (st.frN ((Fr.refl noB _).drewN 1))).mono ?_; rintro e w4 ⟨rfl, rfl⟩)
                 | (go_at_call 17; refine (hL.out _ (st.frN ((Fr.refl noB _).drewN 1))).mono ?_; rintro e w4 ⟨rfl, s4, f4⟩)
                 | (go_at_call 18; refine (hO.out _ s4).mono ?_; rintro e w5 ⟨rfl, hw5⟩; obtain rfl := hw5.symm))
              all_goals (
                have s9 : Hd w w4 g bh bo ov G9 T now9 H9 O9 nV9 V9 := s4
                clear st f4 s4
                go_wp2_with fail
                refine (hJ.out _ s9).mono ?_
                rintro e w6 ⟨rfl, hw6⟩
                obtain rfl := hw6.symm
                go_wp2_with fail
                go_roundw
                case rel => exact ⟨j + 1, by omega, by go_num, by rw [hcs.out]; try first | rfl | go_num, s9⟩
                case measure => simp [RowKit.intOf]; omega)
          · obtain rfl : j = 6 := by omega
            have hlen := cntH_all st.ls.mh.nodup (fun t x h => by have := st.hb t x h; omega)
            rw [hlen]
            clear hlen hcs hcl
            have hd5 : decide ((((6 : Nat) : Int) + 1) ≤ 6) = false := by decide
            go_wp2_with fail
            refine (llen_any g bh bo _ _ _ _ _ _ st.ls).mono ?_
            rintro e w6 ⟨rfl, hw6⟩
            obtain rfl := hw6.symm
            go_wp2_with fail
            go_roundw
            case rel => exact ⟨k + 1, now9, G9, H9, O9, nV9, V9, by omega, by go_num, st, hG9, hn9, hV9⟩
            case measure => simp [RowKit.intOf]; omega
      focus
        go_wp2_with fail
        refine (lend_any g bh bo _ T now tt _ _ wb st1.ls hokt).mono ?_
        rintro e w4 ⟨rfl, l4, f4⟩
        have st4 : Hd w w4 g bh bo ov G T now (without H tt) O nV V := st1.call f4 l4 (fun t x h => by
          by_cases htt : t = tt
          · subst htt; rw [look_without_same] at h; cases h
          · rw [look_without_other _ htt] at h; exact st1.hb t x h)
        have hlk : look (without H tt) tt = none := look_without_same _ _
        clear st1 bo1 c0 l4 f4 hob hob2
        generalize without H tt = H4 at *
        replace hlk := Lib.hid hlk
        go_wp2_with fail
        refine (st4.job tt hokt).mono ?_
        rintro e w5 ⟨rfl, hw5⟩
        obtain rfl := hw5.symm
        rw [hlk.out]
        simp only [Option.getD_none]
        go_wp2_with fail
        refine (st4.left tt hokt).mono ?_
        rintro e w5 ⟨rfl, st5, f5⟩
        rw [hlk.out]
        simp only [leftOf]
        obtain ⟨G9, now9, H9, O9, nV9, V9, st9, hG9, hn9, hV9⟩ : ∃ G9 now9 H9 O9 nV9 V9, Hd w w5 g bh bo ov G9 T now9 H9 O9 nV9 V9 ∧ G9.length ≤ k + 1 ∧ now9 ≤ k + 1 ∧ nV9 ≤ 200 * (k + 1) := ⟨_, _, _, _, _, _, st5, by omega, by omega, by omega⟩
        clear st4 st5 f5 hlk
        go_wp2_with fail
        go_loopw [16, 17] (fun cc jj wr => ∃ j : Nat, j ≤ 6 ∧ jj = .int .i64 ((j : Int) + 1) ∧ cc = .int .i64 (cntH H9 j) ∧ Hd w wr g bh bo ov G9 T now9 H9 O9 nV9 V9) (fun _ jj _ => (7 - RowKit.intOf jj).toNat)
        case atStart => exact ⟨0, by omega, rfl, rfl, st9⟩
        case round =>
          clear st9
          obtain ⟨wr2, rfl⟩ : ∃ wr2 : World, wr2 = wr := ⟨_, rfl⟩
          obtain ⟨j, hj, rfl, rfl, st⟩ := hrel
          have hcs := cntH_succ H9 j
          have hcl := cntH_le H9 j
          by_cases hlt : j < 6
          · have hd5 : decide (((j : Int) + 1) ≤ 6) = true := by simp; omega
            have hok : okI ((j : Int) + 1) := okI_small (by omega) (by omega)
            have hb9 := st.hb ((j : Int) + 1)
            have hJ := fun (w' : World) (s : Hd w w' g bh bo ov G9 T now9 H9 O9 nV9 V9) => s.job ((j : Int) + 1) hok
            have hL := fun (w' : World) (s : Hd w w' g bh bo ov G9 T now9 H9 O9 nV9 V9) => s.left ((j : Int) + 1) hok
            have hO := fun (w' : World) (s : Hd w w' g bh bo ov G9 T now9 H9 O9 nV9 V9) => lover_any g bh bo _ _ _ ((j : Int) + 1) _ _ w' s.ls hok
            have hR := fun (w' : World) (s : Hd w w' g bh bo ov G9 T now9 H9 O9 nV9 V9) => s.run ((j : Int) + 1) hok
            generalize (look O9 ((j : Int) + 1)).getD 0 = old at hO hR
            cases hlk : look H9 ((j : Int) + 1) with
            | none =>
              rw [hlk] at hJ hL hcs
              simp only [Option.getD_none, leftOf, Option.isSome_none] at hJ hL hcs
              replace hcs : Hid (cntH H9 (j + 1) = cntH H9 j) := Lib.hid (by simpa using hcs)
              replace hlk := Lib.hid hlk
              replace hJ := Lib.hid hJ
              replace hL := Lib.hid hL
              replace hO := Lib.hid hO
              replace hR := Lib.hid hR
              clear hb9
              generalize cntH H9 j = cn at *
              go_wp2_with fail
              go_region_held3 (fun w' => (Instr.lookup 47 (.map (some ov)) (.int .i64 ((j : Int) + 1)) false).run Try.prog w' = .ok (.int .i64 old) w')
                (first | exact hR.out _ (st.frN ((Fr.refl noB _).drewN 1)) | exact hR.out _ s4)
                (first
                 | (go_at_call 16; refine (hJ.out _ (st.frN ((Fr.refl noB _).drewN 1))).mono ?_; rintro e w4 ⟨rfl, rfl⟩)
                 | (go_at_call 17; refine (hL.out _ (st.frN ((Fr.refl noB _).drewN 1))).mono ?_; rintro e w4 ⟨rfl, s4, f4⟩)
                 | (go_at_call 18; refine (hO.out _ s4).mono ?_; rintro e w5 ⟨rfl, hw5⟩; obtain rfl := hw5.symm))
              all_goals (
                have s9 : Hd w w4 g bh bo ov G9 T now9 H9 O9 nV9 V9 := s4
                clear st f4 s4
                go_wp2_with fail
                refine (hJ.out _ s9).mono ?_
                rintro e w6 ⟨rfl, hw6⟩
                obtain rfl := hw6.symm
                go_wp2_with fail
                go_roundw
                case rel => exact ⟨j + 1, by omega, by go_num, by rw [hcs.out]; try first | rfl | go_num, s9⟩
                case measure => simp [RowKit.intOf]; omega)
            | some x =>
              obtain ⟨_, _, hx1, hx9, hxn, hxT⟩ := hb9 x hlk
              obtain ⟨xj, xe⟩ := x
              rw [hlk] at hJ hL hcs
              simp only [Option.getD_some, leftOf, Option.isSome_some, if_true] at hJ hL hcs hx1 hx9 hxn hxT
              have hd6 : decide ((0 : Int) < xj) = true := by simp; omega
              have hd7 : decide ((0 : Int) < xe - now9) = true := by simp; omega
              have hd8 : decide ((now9 : Int) < xe) = true := by simp; omega
              replace hcs := Lib.hid hcs
              replace hlk := Lib.hid hlk
              replace hJ := Lib.hid hJ
              replace hL := Lib.hid hL
              replace hO := Lib.hid hO
              replace hR := Lib.hid hR
              clear hb9
              generalize cntH H9 j = cn at *
              go_wp2_with fail
              go_region_held3 (fun w' => (Instr.lookup 47 (.map (some ov)) (.int .i64 ((j : Int) + 1)) false).run Try.prog w' = .ok (.int .i64 old) w')
                (first | exact hR.out _ (st.frN ((Fr.refl noB _).drewN 1)) | exact hR.out _ s4)
                (first
                 | (go_at_call 16; refine (hJ.out _ (st.frN ((Fr.refl noB _).drewN 1))).mono ?_; rintro e w4 ⟨rfl, rfl⟩)
                 | (go_at_call 17; refine (hL.out _ (st.frN ((Fr.refl noB _).drewN 1))).mono ?_; rintro e w4 ⟨rfl, s4, f4⟩)
                 | (go_at_call 18; refine (hO.out _ s4).mono ?_; rintro e w5 ⟨rfl, hw5⟩; obtain rfl := hw5.symm))
              all_goals (
                have s9 : Hd w w4 g bh bo ov G9 T now9 H9 O9 nV9 V9 := s4
                clear st f4 s4
                go_wp2_with fail
                refine (hJ.out _ s9).mono ?_
                rintro e w6 ⟨rfl, hw6⟩
                obtain rfl := hw6.symm
                go_wp2_with fail
                go_roundw
                case rel => exact ⟨j + 1, by omega, by go_num, by rw [hcs.out]; try first | rfl | go_num, s9⟩
                case measure => simp [RowKit.intOf]; omega)
          · obtain rfl : j = 6 := by omega
            have hlen := cntH_all st.ls.mh.nodup (fun t x h => by have := st.hb t x h; omega)
            rw [hlen]
            clear hlen hcs hcl
            have hd5 : decide ((((6 : Nat) : Int) + 1) ≤ 6) = false := by decide
            go_wp2_with fail
            refine (llen_any g bh bo _ _ _ _ _ _ st.ls).mono ?_
            rintro e w6 ⟨rfl, hw6⟩
            obtain rfl := hw6.symm
            go_wp2_with fail
            go_roundw
            case rel => exact ⟨k + 1, now9, G9, H9, O9, nV9, V9, by omega, by go_num, st, hG9, hn9, hV9⟩
            case measure => simp [RowKit.intOf]; omega
      focus
        have kb1 : (kd == 1) = false := by simpa using k1
        have kb2 : (kd == 2) = false := by simpa using k2
        have kb3 : (kd == 3) = false := by simpa using k3
        clear k1 k2 k3
        go_wp2_with fail
        have st2 := st1.frN ((Fr.refl noB wb).alloc (.map #[] 0))
        have mw0 : MH (wb.alloc (.map #[] 0)) wb.heap.size 0 [] := Mp.made wb
        have hwm1 : ∀ q, lsB g bh bo q → q ≠ wb.heap.size := fun q hq => by have := st1.ls.lt q hq; omega
        have hwm2 : wb.heap.size ≠ ov := by have := st1.mv.lt; omega
        have hwm3 : w.heap.size ≤ wb.heap.size := st1.fr.size
        clear st1 bo1 c0 hob hob2
        generalize wb.alloc (.map #[] 0) = wc at *
        generalize wb.heap.size = wm at *
        go_loopw [13] (fun jj wr => ∃ (j : Nat) (W : List (Int × (Int × Int))), j ≤ 6 ∧ jj = .int .i64 ((j : Int) + 1) ∧ Hd w wr g bh bo ov G T now H O nV V ∧ MH wr wm j W ∧ Hid (∀ t : Int, 1 ≤ t → t ≤ j → look W t = some (((look H t).getD (0, 0)).1, leftOf now (look H t)))) (fun jj _ => (7 - RowKit.intOf jj).toNat)
        case atStart => exact ⟨0, [], by omega, rfl, st2, mw0, Lib.hid (fun t h1 h2 => by omega)⟩
        case round =>
          clear st2 mw0
          obtain ⟨wr2, rfl⟩ : ∃ wr2 : World, wr2 = wr := ⟨_, rfl⟩
          obtain ⟨j, W, hj, rfl, st, mw, hW⟩ := hrel
          by_cases hlt : j < 6
          · have hd5 : decide (((j : Int) + 1) ≤ 6) = true := by simp; omega
            have hok : okI ((j : Int) + 1) := okI_small (by omega) (by omega)
            go_wp2_with fail
            refine (st.job ((j : Int) + 1) hok).mono ?_
            rintro e w5 ⟨rfl, hw5⟩
            obtain rfl := hw5.symm
            obtain ⟨pj, hpj⟩ : ∃ pj, ((look H ((j : Int) + 1)).getD (0, 0)).1 = pj := ⟨_, rfl⟩
            rw [hpj]
            replace hpj := Lib.hid hpj
            go_wp2_with fail
            refine (st.left ((j : Int) + 1) hok).mono ?_
            rintro e w5 ⟨rfl, st5, f5⟩
            obtain ⟨pl, hpl⟩ : ∃ pl, leftOf now (look H ((j : Int) + 1)) = pl := ⟨_, rfl⟩
            rw [hpl]
            replace hpl := Lib.hid hpl
            have mw5 := mw.fr f5 (fun q => q)
            clear st mw f5
            go_wp2_with (first
              | (at_mapUpdate; refine wpList_put_mp _ rfl _ _ _ 48 rfl KI Try.underlying48 mkH_inj mw5 (by unfold maxLen; omega) ((j : Int) + 1) (pj, pl) hok rfl rfl rfl ?_; intro w6 mw6 f6)
              | fail)
            have st6 : Hd w w6 g bh bo ov G T now H O nV V :=
              ⟨st5.ls.fr f6 (fun q hq z => hwm1 q hq z), st5.mv.fr f6 (fun z => hwm2 z.symm), st5.n1, st5.fr.seqB f6 (fun z => absurd z (by omega)), st5.lo, st5.lv, st5.hb, st5.vo⟩
            have hW6 : Hid (∀ t : Int, 1 ≤ t → t ≤ (j + 1 : Nat) → look (withKey W ((j : Int) + 1) (pj, pl)) t = some (((look H t).getD (0, 0)).1, leftOf now (look H t))) := Lib.hid (fun t h1 h2 => by
              by_cases htj : t = (j : Int) + 1
              · subst htj; rw [look_withKey_same, hpj.out, hpl.out]
              · rw [look_withKey_other _ _ htj]; exact hW.out t h1 (by omega))
            clear st5 mw5 f6 hW hpj hpl
            go_wp2_with fail
            go_roundw
            case rel => exact ⟨j + 1, _, by omega, by go_num, st6, mw6, hW6⟩
            case measure => simp [RowKit.intOf]; omega
          · obtain rfl : j = 6 := by omega
            have hd5 : decide ((((6 : Nat) : Int) + 1) ≤ 6) = false := by decide
            go_wp2_with fail
            refine (ltick_any g bh bo G T now H O _ st.ls (by omega)).mono ?_
            rintro e w5 ⟨v5, E5, O5, rfl, o5, l5, f5, t5⟩
            have hEl : E5.length ≤ 200 := by
              have := nodup_le (κ := Int) (l := E5) (G := G) t5.en (fun q hq => by
                obtain ⟨y, hy, _⟩ := (t5.e q).1 hq
                exact st.ls.hG _ (look_some hy))
              omega
            have hr0 : Hr w w5 g bh bo ov wm wr2.heap.size G T (now + 1) (goneOf H ((now : Int) + 1)) O5 nV V W v5 E5 :=
              ⟨l5, st.mv.fr f5 st.n1, mw.fr f5 (fun q => hwm1 _ q rfl), o5, st.n1, hwm2, st.mv.lt, st.fr.trans f5 (fun _ _ q => q) (fun i hi q => by have := st.lo i q; omega), st.lo, st.lv⟩
            have hV0 : Hid (∀ q : Int, (look V q).getD 0 = if q ∈ E5.take 0 then max (jobOf H q) ((look O q).getD 0) else (look O q).getD 0) := Lib.hid (fun q => by simpa using st.vo q)
            have hE : Hid (∀ q ∈ E5, 1 ≤ q ∧ q ≤ 6 ∧ jobOf H q = jobOf H q ∧ look W q = some (jobOf H q, 1) ∧ look (goneOf H ((now : Int) + 1)) q = none) := Lib.hid (fun q hq => by
              obtain ⟨y, hy, hy2⟩ := (t5.e q).1 hq
              obtain ⟨b1, b2, b3, b4, b5, b6⟩ := st.hb q y hy
              refine ⟨b1, b2, rfl, ?_, ?_⟩
              · rw [hW.out q b1 (by simpa using b2), hy]
                simp [jobOf, hy, leftOf]; omega
              · cases hgq : look (goneOf H ((now : Int) + 1)) q with
                | none => rfl
                | some y2 =>
                  obtain ⟨c1, c2⟩ := (look_gone st.ls.mh.nodup _ _ _).1 hgq
                  rw [hy] at c1; cases c1; omega)
            have hb5 : Hid (∀ t x, look (goneOf H ((now : Int) + 1)) t = some x → 1 ≤ t ∧ t ≤ 6 ∧ 1 ≤ x.1 ∧ x.1 ≤ 9 ∧ ((now + 1 : Nat) : Int) < x.2 ∧ x.2 ≤ ((now + 1 : Nat) : Int) + T) := Lib.hid (fun t x h => by
              obtain ⟨c1, c2⟩ := (look_gone st.ls.mh.nodup _ _ _).1 h
              have := st.hb t x c1
              omega)
            have hto := Lib.hid t5.o
            have hen := Lib.hid t5.en
            obtain ⟨a5, c5, hv5⟩ := ownsRow_slice o5
            subst hv5
            clear l5 f5 t5 o5 st mw hW
            generalize goneOf H ((now : Int) + 1) = H5 at *
            generalize hEn : E5.length = nE at *
            replace hEn := Lib.hid hEn
            go_wp2_with fail
            go_loopw [76] (fun ii wr => ∃ (i : Nat) (V : List (Int × Int)), i ≤ nE ∧ ii = .int .i64 i ∧ Hr w wr g bh bo ov wm wr2.heap.size G T (now + 1) H5 O5 (nV + i) V W (.slice a5 nE c5) E5 ∧ Hid (∀ q : Int, (look V q).getD 0 = if q ∈ E5.take i then max (jobOf H q) ((look O q).getD 0) else (look O q).getD 0)) (fun ii _ => nE - (RowKit.intOf ii).toNat)
            case atStart => exact ⟨0, V, by omega, rfl, hr0, hV0⟩
            case round =>
              clear hr0 hV0
              obtain ⟨wr3, rfl⟩ : ∃ wr3 : World, wr3 = wr := ⟨_, rfl⟩
              obtain ⟨i, V, hi, rfl, st, hV⟩ := hrel
              by_cases hlt3 : i < nE
              · obtain ⟨x, hx⟩ : ∃ x, E5[i]? = some x := ⟨_, List.getElem?_eq_getElem (by rw [hEn.out]; exact hlt3)⟩
                have hxE : x ∈ E5 := List.mem_of_getElem? hx
                obtain ⟨b1, b2, _, hWx, hgx⟩ := hE.out x hxE
                have hok : okI x := okI_small (by omega) (by omega)
                have hcellx : ∃ gg oo, a5 = some ⟨gg, oo, none⟩ ∧ wr3.cell? ⟨gg, oo + i, none⟩ = some (.int .i64 x) := by
                  obtain ⟨a6, c6, q1, q2, q3, q4⟩ := RdI.of_own st.own
                  cases q1
                  obtain ⟨gg, oo, q5, q6⟩ := q4 i (by rw [hEn.out]; exact hlt3)
                  refine ⟨gg, oo, q5, ?_⟩
                  rw [q6]; simp [List.getD, hx]
                obtain ⟨gg, oo, rfl, ex⟩ := hcellx
                have hr1 := st.mw.run_look KI Try.underlying48 (zeroPair wr3) mkH_inj x hok
                rw [hWx] at hr1
                have hr2 := st.mv.run_look KI Try.underlying47 (zeroInt wr3) mkI_inj x hok
                have hnot : x ∉ E5.take i := by
                  intro hm
                  have h1 := hen.out
                  rw [← List.take_append_drop i E5, List.nodup_append] at h1
                  refine h1.2.2 x hm x ?_ rfl
                  rw [List.mem_iff_getElem?]
                  exact ⟨0, by simpa using hx⟩
                have hVx := hV.out x
                rw [if_neg hnot] at hVx
                obtain ⟨jx, hjx⟩ : ∃ jx, jobOf H x = jx := ⟨_, rfl⟩
                obtain ⟨old, hold⟩ : ∃ old, (look V x).getD 0 = old := ⟨_, rfl⟩
                rw [hjx] at hr1
                rw [hold] at hr2 hVx
                replace hr1 : (Instr.lookup 48 (.map (some wm)) (.int .i64 x) false).run Try.prog wr3 = .ok (.agg #[.int .i64 jx, .int .i64 1]) wr3 := hr1
                replace hr2 : (Instr.lookup 47 (.map (some ov)) (.int .i64 x) false).run Try.prog wr3 = .ok (.int .i64 old) wr3 := hr2
                have hi0 := index0 jx 1 wr3
                have hi1 := index1 jx 1 wr3
                have hJ := ljob_any g bh bo _ _ _ x _ _ wr3 st.ls hok
                rw [hgx] at hJ
                simp only [Option.getD_none] at hJ
                replace hJ := Lib.hid hJ
                replace hjx := Lib.hid hjx
                replace hold := Lib.hid hold
                replace hVx := Lib.hid hVx
                replace hx := Lib.hid hx
                clear hWx hgx
                go_wp2_with fail
                refine hJ.out.mono ?_
                rintro e w6 ⟨rfl, hw6⟩
                obtain rfl := hw6.symm
                go_wp2_with (first
                  | (at_mapUpdate; refine wpList_put_mp _ rfl _ _ _ 47 rfl KI Try.underlying47 mkI_inj st.mv (by unfold maxLen; omega) x (max old jx) hok rfl rfl (by first | rfl | (simp [mkI]; done)) ?_; intro w7 m7 f7)
                  | fail)
                have st7 := st.put f7 m7
                have hV7 : Hid (∀ q : Int, (look (withKey V x (max old jx)) q).getD 0 = if q ∈ E5.take (i + 1) then max (jobOf H q) ((look O q).getD 0) else (look O q).getD 0) := Lib.hid (fun q => by
                  have htk : E5.take (i + 1) = E5.take i ++ [x] := by
                    have hi2 : i < E5.length := by rw [hEn.out]; exact hlt3
                    rw [List.take_succ_eq_append_getElem hi2]
                    have := hx.out
                    rw [List.getElem?_eq_getElem hi2] at this
                    cases this; rfl
                  rw [htk]
                  by_cases hq : q = x
                  · subst hq
                    rw [look_withKey_same, if_pos (by simp), hjx.out, ← hVx.out]
                    simp only [Option.getD_some]; omega
                  · rw [look_withKey_other _ _ hq, hV.out q]
                    simp [hq])
                clear st m7 f7 hV hVx hold hjx hJ hr1 hr2 hi0 hi1 ex
                go_wp2_with fail
                go_roundw
                case rel => exact ⟨i + 1, _, by omega, by go_num, st7, hV7⟩
                case measure => simp [RowKit.intOf]; omega
              · obtain rfl : i = nE := by omega
                obtain ⟨G9, now9, H9, O9, nV9, V9, st9, hG9, hn9, hV9⟩ : ∃ G9 now9 H9 O9 nV9 V9, Hd w wr3 g bh bo ov G9 T now9 H9 O9 nV9 V9 ∧ G9.length ≤ k + 1 ∧ now9 ≤ k + 1 ∧ nV9 ≤ 200 * (k + 1) :=
                  ⟨G, now + 1, H5, O5, nV + i, V, ⟨st.ls, st.mv, st.n1, st.fr, st.lo, st.lv, hb5.out, fun q => by
                    rw [hV.out q, hto.out q, List.take_of_length_le (by have := hEn.out; omega)]⟩, by omega, by omega, by omega⟩
                clear st hV hto hb5 hE hen
                go_wp2_with fail
                go_loopw [16, 17] (fun cc jj wr => ∃ j : Nat, j ≤ 6 ∧ jj = .int .i64 ((j : Int) + 1) ∧ cc = .int .i64 (cntH H9 j) ∧ Hd w wr g bh bo ov G9 T now9 H9 O9 nV9 V9) (fun _ jj _ => (7 - RowKit.intOf jj).toNat)
                case atStart => exact ⟨0, by omega, rfl, rfl, st9⟩
                case round =>
                  clear st9
                  obtain ⟨wr2, rfl⟩ : ∃ wr2 : World, wr2 = wr := ⟨_, rfl⟩
                  obtain ⟨j, hj, rfl, rfl, st⟩ := hrel
                  have hcs := cntH_succ H9 j
                  have hcl := cntH_le H9 j
                  by_cases hlt : j < 6
                  · have hd5 : decide (((j : Int) + 1) ≤ 6) = true := by simp; omega
                    have hok : okI ((j : Int) + 1) := okI_small (by omega) (by omega)
                    have hb9 := st.hb ((j : Int) + 1)
                    have hJ := fun (w' : World) (s : Hd w w' g bh bo ov G9 T now9 H9 O9 nV9 V9) => s.job ((j : Int) + 1) hok
                    have hL := fun (w' : World) (s : Hd w w' g bh bo ov G9 T now9 H9 O9 nV9 V9) => s.left ((j : Int) + 1) hok
                    have hO := fun (w' : World) (s : Hd w w' g bh bo ov G9 T now9 H9 O9 nV9 V9) => lover_any g bh bo _ _ _ ((j : Int) + 1) _ _ w' s.ls hok
                    have hR := fun (w' : World) (s : Hd w w' g bh bo ov G9 T now9 H9 O9 nV9 V9) => s.run ((j : Int) + 1) hok
                    generalize (look O9 ((j : Int) + 1)).getD 0 = old at hO hR
                    cases hlk : look H9 ((j : Int) + 1) with
                    | none =>
                      rw [hlk] at hJ hL hcs
                      simp only [Option.getD_none, leftOf, Option.isSome_none] at hJ hL hcs
                      replace hcs : Hid (cntH H9 (j + 1) = cntH H9 j) := Lib.hid (by simpa using hcs)
                      replace hlk := Lib.hid hlk
                      replace hJ := Lib.hid hJ
                      replace hL := Lib.hid hL
                      replace hO := Lib.hid hO
                      replace hR := Lib.hid hR
                      clear hb9
                      generalize cntH H9 j = cn at *
                      go_wp2_with fail
                      go_region_held3 (fun w' => (Instr.lookup 47 (.map (some ov)) (.int .i64 ((j : Int) + 1)) false).run Try.prog w' = .ok (.int .i64 old) w')
                        (first | exact hR.out _ (st.frN ((Fr.refl noB _).drewN 1)) | exact hR.out _ s4)
                        (first
                         | (go_at_call 16; refine (hJ.out _ (st.frN ((Fr.refl noB _).drewN 1))).mono ?_; rintro e w4 ⟨rfl, rfl⟩)
                         | (go_at_call 17; refine (hL.out _ (st.frN ((Fr.refl noB _).drewN 1))).mono ?_; rintro e w4 ⟨rfl, s4, f4⟩)
                         | (go_at_call 18; refine (hO.out _ s4).mono ?_; rintro e w5 ⟨rfl, hw5⟩; obtain rfl := hw5.symm))
                      all_goals (
                        have s9 : Hd w w4 g bh bo ov G9 T now9 H9 O9 nV9 V9 := s4
                        clear st f4 s4
                        go_wp2_with fail
                        refine (hJ.out _ s9).mono ?_
                        rintro e w6 ⟨rfl, hw6⟩
                        obtain rfl := hw6.symm
                        go_wp2_with fail
                        go_roundw
                        case rel => exact ⟨j + 1, by omega, by go_num, by rw [hcs.out]; try first | rfl | go_num, s9⟩
                        case measure => simp [RowKit.intOf]; omega)
                    | some x =>
                      obtain ⟨_, _, hx1, hx9, hxn, hxT⟩ := hb9 x hlk
                      obtain ⟨xj, xe⟩ := x
                      rw [hlk] at hJ hL hcs
                      simp only [Option.getD_some, leftOf, Option.isSome_some, if_true] at hJ hL hcs hx1 hx9 hxn hxT
                      have hd6 : decide ((0 : Int) < xj) = true := by simp; omega
                      have hd7 : decide ((0 : Int) < xe - now9) = true := by simp; omega
                      have hd8 : decide ((now9 : Int) < xe) = true := by simp; omega
                      replace hcs := Lib.hid hcs
                      replace hlk := Lib.hid hlk
                      replace hJ := Lib.hid hJ
                      replace hL := Lib.hid hL
                      replace hO := Lib.hid hO
                      replace hR := Lib.hid hR
                      clear hb9
                      generalize cntH H9 j = cn at *
                      go_wp2_with fail
                      go_region_held3 (fun w' => (Instr.lookup 47 (.map (some ov)) (.int .i64 ((j : Int) + 1)) false).run Try.prog w' = .ok (.int .i64 old) w')
                        (first | exact hR.out _ (st.frN ((Fr.refl noB _).drewN 1)) | exact hR.out _ s4)
                        (first
                         | (go_at_call 16; refine (hJ.out _ (st.frN ((Fr.refl noB _).drewN 1))).mono ?_; rintro e w4 ⟨rfl, rfl⟩)
                         | (go_at_call 17; refine (hL.out _ (st.frN ((Fr.refl noB _).drewN 1))).mono ?_; rintro e w4 ⟨rfl, s4, f4⟩)
                         | (go_at_call 18; refine (hO.out _ s4).mono ?_; rintro e w5 ⟨rfl, hw5⟩; obtain rfl := hw5.symm))
                      all_goals (
                        have s9 : Hd w w4 g bh bo ov G9 T now9 H9 O9 nV9 V9 := s4
                        clear st f4 s4
                        go_wp2_with fail
                        refine (hJ.out _ s9).mono ?_
                        rintro e w6 ⟨rfl, hw6⟩
                        obtain rfl := hw6.symm
                        go_wp2_with fail
                        go_roundw
                        case rel => exact ⟨j + 1, by omega, by go_num, by rw [hcs.out]; try first | rfl | go_num, s9⟩
                        case measure => simp [RowKit.intOf]; omega)
                  · obtain rfl : j = 6 := by omega
                    have hlen := cntH_all st.ls.mh.nodup (fun t x h => by have := st.hb t x h; omega)
                    rw [hlen]
                    clear hlen hcs hcl
                    have hd5 : decide ((((6 : Nat) : Int) + 1) ≤ 6) = false := by decide
                    go_wp2_with fail
                    refine (llen_any g bh bo _ _ _ _ _ _ st.ls).mono ?_
                    rintro e w6 ⟨rfl, hw6⟩
                    obtain rfl := hw6.symm
                    go_wp2_with fail
                    go_roundw
                    case rel => exact ⟨k + 1, now9, G9, H9, O9, nV9, V9, by omega, by go_num, st, hG9, hn9, hV9⟩
                    case measure => simp [RowKit.intOf]; omega
      
    · obtain rfl : k = n := by omega
      go_wp2_with fail
      go_ret
      exact ⟨rfl, st.fr⟩
end Go.Proofs.Ytomgkegjdkkhoaa
