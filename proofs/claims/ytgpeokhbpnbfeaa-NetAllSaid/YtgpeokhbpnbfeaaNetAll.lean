import Derived.Test.YtgpeokhbpnbfeaaNetPlays
import Derived.Test.YtgpeokhbpnbfeaaMapA
set_option linter.unusedVariables false
set_option linter.unusedSimpArgs false
namespace Go.Proofs.Ytgpeokhbpnbfeaa
open Go.RowKit Go Go.Lib

theorem zeroInt (w : World) : (zeroValue 3).run Try.prog w = .ok (.int .i64 0) w := by kernel_rfl
theorem KS : KeyLit Try.prog 9 kvS klS okS := keyLit_str Try.underlying9
def mkI (x : Int) : Value := .int .i64 x
theorem mkI_inj (x y : Int) (h : mkI x = mkI y) : x = y := by cases h; rfl
/-- the map of how often each text is on the way -/
def Cnt (w : World) (b n : Nat) (ms : List (Int × ByteArray)) : Prop :=
  ∃ L, Mp Try.prog 9 klS mkI w b n L ∧ ∀ s, (look L s).getD 0 = (ms.countP (fun m => decide (m.2 = s)) : Nat)
theorem Cnt.fr {w w' : World} {b n : Nat} {ms : List (Int × ByteArray)} {S : Nat → Prop} (h : Cnt w b n ms) (hf : Fr S w w') (hn : ¬ S b) : Cnt w' b n ms := by
  obtain ⟨L, h1, h2⟩ := h; exact ⟨L, h1.fr hf hn, h2⟩
theorem Cnt.lt {w : World} {b n : Nat} {ms : List (Int × ByteArray)} (h : Cnt w b n ms) : b < w.heap.size := by obtain ⟨L, h1, _⟩ := h; exact h1.lt

/-- a net and its counts -/
structure NC (w0 w : World) (B g b n : Nat) (ms : List (Int × ByteArray)) : Prop where
  nt : Nt w g B ms
  cn : Cnt w b n ms
  ne : b ≠ g
  bB : b < B
  fr : Fr noB w0 w
  g0 : w0.heap.size ≤ g
  b0 : w0.heap.size ≤ b
  B0 : w0.heap.size ≤ B
  okm : ∀ m ∈ ms, okS m.2
theorem NC.drewN {w0 w : World} {B g b n : Nat} {ms : List (Int × ByteArray)} (h : NC w0 w B g b n ms) (q : Nat) : NC w0 (w.drewN q) B g b n ms :=
  ⟨h.nt, h.cn, h.ne, h.bB, h.fr.drewN q, h.g0, h.b0, h.B0, h.okm⟩
theorem map_not_touched {w : World} {g B b : Nat} {ms : List (Int × ByteArray)} (h : Nt w g B ms) (ne : b ≠ g) (bB : b < B) : ¬ touched w g b := by
  intro q
  rcases h.touch q with h1 | ⟨h1, _⟩ <;> omega
theorem countP_remove (ms : List (Int × ByteArray)) (i : Nat) (m : Int × ByteArray) (hm : ms[i]? = some m) (p : Int × ByteArray → Bool) :
    (ms.take i ++ ms.drop (i + 1)).countP p + (if p m then 1 else 0) = ms.countP p := by
  have hi : i < ms.length := by
    rcases Nat.lt_or_ge i ms.length with h | h
    · exact h
    · rw [List.getElem?_eq_none h] at hm; cases hm
  have he : ms = ms.take i ++ m :: ms.drop (i + 1) := by
    have h1 := List.take_append_drop i ms
    rw [List.getElem?_eq_getElem hi] at hm
    cases hm
    rw [← List.drop_eq_getElem_cons hi]
    exact h1.symm
  have h2 : ms.countP p = (ms.take i ++ m :: ms.drop (i + 1)).countP p := by rw [← he]
  rw [h2, List.countP_append, List.countP_append, List.countP_cons]
  omega

set_option maxRecDepth 10000 in
set_option maxHeartbeats 2000000 in
theorem all_any (v : Value) (xs : List ByteArray) (u : Value) (ord : List Int) (w : World) (hxs : SlR w v 1 IsS xs) (hor : SlR w u 1 (IsI .i64) ord) :
    Calls Try.prog 5 #[v, u] w fun e w' => e = .returned (.bool true) ∧ Fr noB w w' := by
  obtain ⟨a, c, rfl, hx1, hx2, hx3⟩ := hxs
  obtain ⟨a2, c2, rfl, hy1, hy2, hy3⟩ := hor
  unfold maxLen at hx2 hy2
  generalize hn : xs.length = n at *
  generalize hn2 : ord.length = n2 at *
  replace hx3 := Lib.hid hx3
  replace hy3 := Lib.hid hy3
  obtain ⟨hx1, _⟩ := hx1
  obtain ⟨hy1, _⟩ := hy1
  have hnb : n ≤ 9223372036854775807 := by omega
  have hnb2 : n2 ≤ 9223372036854775807 := by omega
  replace hn := Lib.hid hn
  replace hn2 := Lib.hid hn2
  have hmm := @run_makeMap Try.prog
  go_enter Try.func5, Try.ntmps5
  go_wp2_with fail
  refine (awake_any w).mono ?_
  rintro e w1 ⟨rfl, f1⟩
  by_cases hl : 150 < n ∨ n2 < n
  · by_cases hl2 : 150 < n
    · go_wp2_with fail
      refine (awake_any w1).mono ?_
      rintro e w2 ⟨rfl, f2⟩
      go_wp2
      go_ret
      exact ⟨rfl, f1.seqN f2⟩
    · have hd1 : decide (150 < (n : Int)) = false := by simp; omega
      have hd2 : n2 < n := by omega
      go_wp2_with fail
      refine (awake_any w1).mono ?_
      rintro e w2 ⟨rfl, f2⟩
      go_wp2
      go_ret
      exact ⟨rfl, f1.seqN f2⟩
  have hl2 : n ≤ 150 := by omega
  have hl3 : n ≤ n2 := by omega
  have hd1 : decide (150 < (n : Int)) = false := by simp; omega
  have hd2 : decide (n2 < n) = false := by simp; omega
  clear hl
  go_wp2_with fail
  refine (nnew_any w1).mono ?_
  rintro e w2 ⟨rfl, hw2⟩
  have z2 : w2.heap.size = w1.heap.size + 1 := by rw [hw2]; simp
  have b2 : Blk w2 w1.heap.size 48 [.slice none 0 0] := by rw [hw2]; exact Blk.new w1 _ _
  have f2 : Fr noB w1 w2 := by rw [hw2]; exact (Fr.refl _ _).alloc _
  clear hw2
  have hf := (Fr.refl noB w2).alloc (.map #[] 0)
  have hsz : (w2.alloc (.map #[] 0)).heap.size = w2.heap.size + 1 := by simp
  have st0 : NC w (w2.alloc (.map #[] 0)) (w2.heap.size + 1) w1.heap.size w2.heap.size 0 [] :=
    ⟨⟨none, 0, hf.keepN b2, World.ownsRow_nil _ _ _ _, by omega, by rw [hsz]; exact Nat.le_refl _, Nat.zero_le _⟩,
     ⟨[], Mp.made w2, fun s => by simp [look]⟩, by omega, by omega, (f1.seqN f2).seqN hf, f1.size, by have := f1.size; omega, by have := f1.size; omega, by simp⟩
  clear b2 f2 f1 hf hsz
  replace z2 := Lib.hid z2
  go_wp2_with fail
  generalize hG : w1.heap.size = g at *
  generalize hR : w2.heap.size = b at *
  generalize hBB : b + 1 = B at *
  clear hG z2 hBB hmm
  replace hR := Lib.hid hR
  go_loopw [39] (fun i wr => ∃ (k : Nat) (ms : List (Int × ByteArray)), k ≤ n ∧ i = .int .i64 k ∧ NC w wr B g b k ms ∧ ms.length = k) (fun i _ => n - (RowKit.intOf i).toNat)
  case atStart => exact ⟨0, [], by omega, rfl, st0, rfl⟩
  case round =>
    clear st0
    obtain ⟨k, ms, hk, rfl, st, hms⟩ := hrel
    replace hms := Lib.hid hms
    by_cases hlt : k < n
    · obtain ⟨s, hop⟩ : ∃ o, xs[k]? = some o := ⟨_, List.getElem?_eq_getElem (by rw [hn.out]; exact hlt)⟩
      obtain ⟨g0, o0, cs, ha, hcs, ⟨hcs2, hsz⟩, hcell⟩ := hx3.out k _ hop
      subst ha hcs2
      have e0 := st.fr.cell (hcell 0 _ rfl) (fun q => q)
      simp only [← Nat.add_assoc, Nat.add_zero, Nat.mul_one] at e0
      clear hop hcell
      by_cases hs2 : 300 < s.size
      · go_wp2
        go_ret
        exact ⟨rfl, st.fr⟩
      have hs3 : s.size ≤ 300 := by omega
      have hd3 : decide (300 < (s.size : Int)) = false := by simp; omega
      go_wp2_with fail
      refine (nsend_any g B ms _ s _ st.nt (by have := hms.out; omega)).mono ?_
      rintro e w4 ⟨rfl, n4, f4⟩
      have f4' := st.fr.noT f4 st.nt st.g0 st.B0
      obtain ⟨L, mL, hL⟩ := st.cn.fr f4 (map_not_touched st.nt st.ne st.bB)
      have hrun := mL.run_look KS Try.underlying44 (zeroInt w4) mkI_inj s hsz
      have hLs := hL s
      have hcn : ms.countP (fun m => decide (m.2 = s)) ≤ ms.length := List.countP_le_length
      generalize hq : ms.countP (fun m => decide (m.2 = s)) = q at *
      rw [hLs] at hrun
      have hq2 : q ≤ 150 := by have := hms.out; omega
      replace hq := Lib.hid hq
      replace hrun : (Instr.lookup 44 (.map (some b)) (.string s) false).run Try.prog w4 = .ok (.int .i64 (q : Int)) w4 := hrun
      clear hLs f4 hcn
      go_wp2_with (first
        | (at_mapUpdate; refine wpList_put_mp _ rfl _ _ _ 44 rfl KS Try.underlying44 mkI_inj mL (by unfold maxLen; omega) s ((q : Int) + 1) hsz rfl rfl rfl ?_; intro w5 m5 f5)
        | fail)
      have st5 : NC w w5 B g b (k + 1) (ms ++ [((k : Int).tmod 6, s)]) := NC.mk (n4.frame f5 (fun q => st.ne q.symm) (fun z hz _ q => by have := st.bB; unfold onlyB at q; omega)) ⟨_, m5, fun t => by
        rw [List.countP_append]
        by_cases ht : t = s
        · subst ht; rw [look_withKey_same, hq.out]; simp
        · have ht2 : ¬ s = t := fun e => ht e.symm
          rw [look_withKey_other _ _ ht, hL t]; simp [ht2]⟩ st.ne st.bB (f4'.seqB f5 (fun h => absurd h (by have := st.b0; omega))) st.g0 st.b0 st.B0 (fun m hm => by
          rcases List.mem_append.1 hm with h1 | h1
          · exact st.okm m h1
          · simp at h1; rw [h1]; exact hsz)
      clear st m5 f5 n4 f4' mL hrun
      go_wp2_with fail
      go_roundw
      case rel => exact ⟨k + 1, _, by omega, by go_num, st5, by have := hms.out; simp; omega⟩
      case measure => simp [RowKit.intOf]; omega
    · obtain rfl : k = n := by omega
      clear hx1 hx2 hx3 hn hd1 hlt hd2
      have st2 : NC w wr B g b (k + 0) ms := st
      have hms2 : Hid (ms.length = k - 0) := hms
      clear st hms
      go_wp2_with fail
      go_loopw [60] (fun i wr => ∃ (j : Nat) (ms : List (Int × ByteArray)), j ≤ k ∧ i = .int .i64 j ∧ NC w wr B g b (k + j) ms ∧ Hid (ms.length = k - j)) (fun i _ => k - (RowKit.intOf i).toNat)
      case atStart => exact ⟨0, ms, by omega, rfl, st2, hms2⟩
      case round =>
        clear st2 hms2
        clear ms
        rename_i wr2
        obtain ⟨j, ms, hj, rfl, st, hms⟩ := hrel
        by_cases hlt : j < k
        · obtain ⟨ord1, hop⟩ : ∃ o, ord[j]? = some o := ⟨_, List.getElem?_eq_getElem (by rw [hn2.out]; omega)⟩
          obtain ⟨g0, o0, cs, ha, hcs, ⟨hcs2, hsz⟩, hcell⟩ := hy3.out j _ hop
          subst ha hcs2
          have e0 := st.fr.cell (hcell 0 _ rfl) (fun q => q)
          simp only [← Nat.add_assoc, Nat.add_zero, Nat.mul_one] at e0
          have hcl := hcell 0 _ rfl
          simp only [← Nat.add_assoc, Nat.add_zero, Nat.mul_one] at hcl
          have hj2 : j < n2 := by omega
          clear hop hcell
          have hpos : 0 < ms.length := by have := hms.out; omega
          have hpl := placeN_lt ord1 ms.length hpos
          obtain ⟨m, hm⟩ : ∃ m, ms[placeN ord1 ms.length]? = some m := ⟨_, List.getElem?_eq_getElem hpl⟩
          go_wp2_with fail
          refine (nlook_any g B ms ord1 m _ st.nt hpos hm).mono ?_
          rintro e w4 ⟨rfl, q4, hw4⟩
          have st4 : NC w w4 B g b (k + j) ms := by rw [hw4]; exact st.drewN q4
          have e4 := st4.fr.cell hcl (fun q => q)
          clear hw4 st e0 hcl
          obtain ⟨l, hl5⟩ : ∃ l : Nat, ms.length = l + 1 := ⟨ms.length - 1, by omega⟩
          have hLen := nlen_any g B ms w4 st4.nt
          rw [hl5] at hLen
          have hne1 : (((l + 1 : Nat) : Int) != (k : Int) - (j : Int)) = false := by have := hms.out; simp; omega
          have hne2 : (((l : Nat) : Int) + 1 != (k : Int) - (j : Int)) = false := by have := hms.out; simp; omega
          go_wp2_with fail
          refine hLen.mono ?_
          rintro e w5 ⟨rfl, hw5⟩
          obtain rfl := hw5.symm
          go_wp2_with fail
          refine (nbring_any g B ms ord1 m _ st4.nt hpos hm).mono ?_
          rintro e w5 ⟨rfl, n5, f5⟩
          have hcp := countP_remove ms _ m hm
          have hl6 : (ms.take (placeN ord1 ms.length) ++ ms.drop (placeN ord1 ms.length + 1)).length = l := by simp; omega
          have ok5 : ∀ x ∈ ms.take (placeN ord1 ms.length) ++ ms.drop (placeN ord1 ms.length + 1), okS x.2 := fun x hx => by
            rcases List.mem_append.1 hx with h1 | h1
            · exact st4.okm x (List.mem_of_mem_take h1)
            · exact st4.okm x (List.mem_of_mem_drop h1)
          have okm : okS m.2 := st4.okm m (List.mem_of_getElem? hm)
          generalize ms.take (placeN ord1 ms.length) ++ ms.drop (placeN ord1 ms.length + 1) = ms5 at *
          have fr5 := st4.fr.noT f5 st4.nt st4.g0 st4.B0
          obtain ⟨L, mL, hL⟩ := st4.cn.fr f5 (map_not_touched st4.nt st4.ne st4.bB)
          have hLen5 := nlen_any g B ms5 w5 n5
          rw [hl6] at hLen5
          have hrun := mL.run_look KS Try.underlying44 (zeroInt w5) mkI_inj m.2 okm
          have hLs := hL m.2
          have hc2 := hcp (fun x => decide (x.2 = m.2))
          simp only [decide_true, if_true] at hc2
          rw [← hc2] at hLs
          have hcn : ms5.countP (fun x => decide (x.2 = m.2)) ≤ ms5.length := List.countP_le_length
          generalize hq : ms5.countP (fun x => decide (x.2 = m.2)) = q at *
          rw [hLs] at hrun
          replace hrun : (Instr.lookup 44 (.map (some b)) (.string m.2) false).run Try.prog w5 = .ok (.int .i64 ((q : Int) + 1)) w5 := hrun
          have hq2 : q ≤ 200 := by have := hms.out; omega
          have hd7 : decide ((q : Int) < 0) = false := by simp
          have hl7 : l ≤ 200 := by have := hms.out; omega
          replace hq := Lib.hid hq
          replace hl5 := Lib.hid hl5
          replace hl6 := Lib.hid hl6
          replace hcp := Lib.hid hcp
          replace hL := Lib.hid hL
          have hne := st4.ne
          have hbB := st4.bB
          have hg0 := st4.g0
          have hb0 := st4.b0
          have hB0 := st4.B0
          clear hLs hc2 hLen f5 e4 hm hpl st4
          have hm2 : ∀ t, t = m.2 ∨ (t ≠ m.2 ∧ ms5.countP (fun x => decide (x.2 = t)) = ms.countP (fun x => decide (x.2 = t))) := fun t => by
            by_cases ht : t = m.2
            · exact Or.inl ht
            · have := hcp.out (fun x => decide (x.2 = t))
              have ht2 : ¬ m.2 = t := fun e => ht e.symm
              simp [ht2] at this
              exact Or.inr ⟨ht, this⟩
          replace hm2 := Lib.hid hm2
          clear hcp
          generalize m.2 = s at *
          generalize m.1 = to at *
          go_wp2_with fail
          refine hLen5.mono ?_
          rintro e w6 ⟨rfl, hw6⟩
          obtain rfl := hw6.symm
          clear hLen5
          go_wp2_with (first
            | (at_mapUpdate; refine wpList_put_mp _ rfl _ _ _ 44 rfl KS Try.underlying44 mkI_inj mL (by unfold maxLen; omega) s ((q : Int)) okm rfl rfl rfl ?_; intro w6 m6 f6; have hrun6 : (Instr.lookup 44 (.map (some b)) (.string s) false).run Try.prog w6 = .ok (.int .i64 (q : Int)) w6 := (m6.run_look KS Try.underlying44 (zeroInt w6) mkI_inj s okm).trans (by rw [look_withKey_same]; rfl))
            | fail)
          have st6 : NC w w6 B g b (k + j + 1) ms5 := NC.mk (n5.frame f6 (fun q => hne q.symm) (fun z hz _ q => by unfold onlyB at q; omega)) ⟨_, m6, fun t => by
            rcases hm2.out t with rfl | ⟨ht, he⟩
            · rw [look_withKey_same, hq.out]; rfl
            · rw [look_withKey_other _ _ ht, hL.out t, he]⟩ hne hbB (fr5.seqB f6 (fun h => absurd h (by omega))) hg0 hb0 hB0 ok5
          clear m6 f6 mL hrun n5 fr5
          go_roundw
          case rel => exact ⟨j + 1, ms5, by omega, by go_num, st6, Lib.hid (by have := hms.out; have := hl5.out; have := hl6.out; omega)⟩
          case measure => simp [RowKit.intOf]; omega
        · obtain rfl : j = k := by omega
          obtain rfl : ms = [] := List.eq_nil_of_length_eq_zero (by have := hms.out; omega)
          go_wp2_with fail
          refine (nbring_none g B 0 _ st.nt).mono ?_
          rintro e w4 ⟨rfl, hw4⟩
          obtain rfl := hw4.symm
          go_wp2_with fail
          refine (nlen_any g B _ _ st.nt).mono ?_
          rintro e w4 ⟨rfl, hw4⟩
          obtain rfl := hw4.symm
          simp only [List.length_nil]
          go_wp2_with fail
          go_ret
          exact ⟨rfl, st.fr⟩
end Go.Proofs.Ytgpeokhbpnbfeaa
