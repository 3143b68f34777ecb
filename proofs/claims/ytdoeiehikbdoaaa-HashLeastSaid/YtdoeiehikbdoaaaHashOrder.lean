import Derived.Test.YtdoeiehikbdoaaaHashAwake
set_option linter.unusedVariables false
set_option linter.unusedSimpArgs false
namespace Go.Proofs.Ytdoeiehikbdoaaa
open Go.RowKit

theorem lessB_iff (seed a b : Int) : lessB seed a b = true ↔ (prio seed a < prio seed b ∨ prio seed a = prio seed b ∧ a < b) := by
  unfold lessB
  generalize prio seed a = p
  generalize prio seed b = q
  simp
theorem lessB_irrefl (seed a : Int) : lessB seed a a = false := by
  rw [Bool.eq_false_iff, Ne, lessB_iff]; omega
theorem lessB_asymm (seed a b : Int) (h : lessB seed a b = true) : lessB seed b a = false := by
  rw [lessB_iff] at h
  rw [Bool.eq_false_iff, Ne, lessB_iff]
  omega
theorem lessB_total (seed a b : Int) (h : a ≠ b) (h2 : lessB seed a b = false) : lessB seed b a = true := by
  rw [Bool.eq_false_iff, Ne, lessB_iff] at h2
  rw [lessB_iff]
  omega
theorem lessB_trans (seed a b c : Int) (h : lessB seed a b = true) (h2 : lessB seed b c = true) : lessB seed a c = true := by
  rw [lessB_iff] at *
  omega
/-- none is worth less than the least -/
theorem minP_min (seed m : Int) (l : List Int) : ∀ n, n = m ∨ n ∈ l → lessB seed n (minP (lessB seed) m l) = false := by
  induction l generalizing m with
  | nil =>
    intro n hn
    rcases hn with rfl | h
    · exact lessB_irrefl _ _
    · cases h
  | cons t r ih =>
    intro n hn
    show lessB seed n (minP (lessB seed) (if lessB seed t m then t else m) r) = false
    have h0 := ih (if lessB seed t m then t else m)
    by_cases hlt : lessB seed t m = true
    · rw [if_pos hlt] at h0 ⊢
      rcases hn with rfl | h
      · have h1 := h0 t (Or.inl rfl)
        rw [Bool.eq_false_iff, Ne, lessB_iff] at h1 ⊢
        rw [lessB_iff] at hlt
        omega
      · rcases List.mem_cons.1 h with rfl | h
        · exact h0 n (Or.inl rfl)
        · exact h0 n (Or.inr h)
    · rw [if_neg hlt] at h0 ⊢
      rcases hn with rfl | h
      · exact h0 n (Or.inl rfl)
      · rcases List.mem_cons.1 h with rfl | h
        · have h1 := h0 m (Or.inl rfl)
          rw [Bool.eq_false_iff, Ne, lessB_iff] at h1 ⊢
          rw [lessB_iff] at hlt
          omega
        · exact h0 n (Or.inr h)
theorem minP_mem (L : Int → Int → Bool) (m : Int) (l : List Int) : minP L m l = m ∨ minP L m l ∈ l := by
  induction l generalizing m with
  | nil => exact Or.inl rfl
  | cons t r ih =>
    show minP L (if L t m then t else m) r = m ∨ _
    rcases ih (if L t m then t else m) with h | h
    · by_cases hlt : L t m = true
      · rw [if_pos hlt] at h
        exact Or.inr (by show minP L (if L t m then t else m) r ∈ _; rw [if_pos hlt, h]; simp)
      · rw [if_neg hlt] at h
        exact Or.inl (by rw [if_neg hlt, h])
    · exact Or.inr (List.mem_cons_of_mem _ h)
/-- the least is worth less than all others -/
theorem least_all (seed x : Int) (l : List Int) (n : Int) (hn : n ∈ x :: l) : n = leastS seed (x :: l) ∨ lessB seed (leastS seed (x :: l)) n = true := by
  have h := minP_min seed x l n (by simpa using hn)
  by_cases he : n = leastS seed (x :: l)
  · exact Or.inl he
  · exact Or.inr (lessB_total seed n _ he h)

theorem Try.infoInt : (Try.prog.info? 3).map (fun i => (i.zero, i.size, i.bytes)) = some (some (.int .i64 0), 1, 8) := by kernel_rfl

/-- the loop's part: in a row of one's own each is the least, or worth more -/
def leastOk (seed m : Int) (ys : List Int) : Prop := ∀ n ∈ ys, n = m ∨ lessB seed m n = true

set_option maxHeartbeats 2000000 in
theorem order_any (seed a b c : Int) (v : Value) (xs : List Int) (w : World) (hsd : (Lit.int .u64 seed).wf = true) (ha : (Lit.int .i64 a).wf = true) (hb : (Lit.int .i64 b).wf = true) (hc : (Lit.int .i64 c).wf = true) (hx : Ints w v xs) :
    Calls Try.prog 4 #[.int .u64 seed, .int .i64 a, .int .i64 b, .int .i64 c, v] w fun e w' => e = .returned (.bool true) ∧ Fr noB w w' := by
  have hU : U64 seed := wf_u64 hsd
  have ha := wf_i64 ha
  have hb := wf_i64 hb
  have hc := wf_i64 hc
  clear hsd
  have hxs := hx
  obtain ⟨av, cv, rfl, h1, h2, h3, h4⟩ := hx.form
  clear hx
  unfold maxLen at h2
  obtain ⟨i0, hi, hz0, hz1, hz2⟩ := info_parts Try.infoInt
  generalize hn : xs.length = n at *
  replace h3 := Lib.hid h3
  replace hn := Lib.hid hn
  replace h4 := Lib.hid h4
  go_enter Try.func4, Try.ntmps4
  go_wp2_with fail
  refine (awake_any w).mono ?_
  rintro e w1 ⟨rfl, f1⟩
  by_cases hl2 : 100 < n
  · go_wp2_with fail
    refine (awake_any w1).mono ?_
    rintro e w2 ⟨rfl, f2⟩
    go_wp2
    go_ret
    exact ⟨rfl, f1.seqN f2⟩
  have hb2 : decide (100 < (n : Int)) = false := by simp; omega
  obtain ⟨A, hA, hAI⟩ : ∃ A, bits BinOp.and IntKind.i64 a 4294967295 = A ∧ I64 A := ⟨_, rfl, wf_i64 (wf_bits _ _ _ _)⟩
  obtain ⟨B, hB, hBI⟩ : ∃ B, bits BinOp.and IntKind.i64 b 4294967295 = B ∧ I64 B := ⟨_, rfl, wf_i64 (wf_bits _ _ _ _)⟩
  obtain ⟨C, hC, hCI⟩ : ∃ C, bits BinOp.and IntKind.i64 c 4294967295 = C ∧ I64 C := ⟨_, rfl, wf_i64 (wf_bits _ _ _ _)⟩
  go_wp2_with fail
  refine (less_any _ _ _ _ hU hAI hBI).mono ?_
  rintro e w2 ⟨rfl, f2⟩
  go_wp2_with fail
  refine (less_any _ _ _ _ hU hBI hCI).mono ?_
  rintro e w3 ⟨rfl, f3⟩
  go_wp2_with fail
  refine (less_any _ _ _ _ hU hAI hCI).mono ?_
  rintro e w4 ⟨rfl, f4⟩
  have f5 := ((f1.seqN f2).seqN f3).seqN f4
  clear f1 f2 f3 f4
  have l1 := lessB_asymm seed A B
  have l2 := lessB_irrefl seed A
  have l3 := lessB_trans seed A B C
  have l4 := lessB_total seed A B
  have l5 : lessB seed A B = true → A ≠ B := fun h q => by subst q; rw [l2] at h; cases h
  generalize hx : lessB seed A B = x at *
  generalize hy : lessB seed B C = y at *
  generalize hz : lessB seed A C = z at *
  replace l1 := Lib.hid l1
  replace l2 := Lib.hid l2
  replace l3 := Lib.hid l3
  replace l4 := Lib.hid l4
  replace l5 := Lib.hid l5
  replace hx := Lib.hid hx
  replace hy := Lib.hid hy
  replace hz := Lib.hid hz
  have hcase : x = true ∨ x = false ∧ A = B ∨ x = false ∧ A ≠ B := by
    cases x with
    | true => exact Or.inl rfl
    | false => by_cases h : A = B
               · exact Or.inr (Or.inl ⟨rfl, h⟩)
               · exact Or.inr (Or.inr ⟨rfl, h⟩)
  have hzz : x = true → y = true → z = true := fun h1 h2 => l3.out h1 h2
  rcases hcase with rfl | ⟨rfl, hAB⟩ | ⟨rfl, hAB⟩
  · have hne : (A != B) = true := by simpa using l5.out (by simp)
    go_wp2_with fail
    refine (less_any _ _ _ _ hU hBI hAI).mono ?_
    rintro e w2 ⟨rfl, f2⟩
    rw [l1.out (by simp)]
    have f6 := f5.seqN f2
    clear f2 f5
    cases y with
    | true =>
      obtain rfl := hzz (by simp) (by simp)
      clear hzz
      go_wp2_with fail
      refine (less_any _ _ _ _ hU hAI hAI).mono ?_
      rintro e w2 ⟨rfl, f2⟩
      rw [l2.out]
      have f7 := f6.seqN f2
      clear f2 f6
      have hxs1 := hxs.frame (f7.alloc (.cells #[.int .i64 A] 3)) (fun _ _ q => q)
      have hs2 := f7.size
      have o1 := ownsRow_mono (own_new w2 3 [.int .i64 A] 1 1 rfl (by unfold maxLen; decide)) (base' := w.heap.size) hs2
      go_wp2_with (first
        | (at_builtin; refine wpList_append_ints _ rfl (.tmp 84) (.tmp 85) 23 rfl w.heap.size 3 i0 (.int .i64 0) 8 Try.underlying23 hi hz0 hz1 hz2 rfl _ 1 [.int .i64 A] rfl o1 _ xs rfl hxs1 ?_ ?_ ?_ ?_)
        | fail)
      · rw [hn.out]; unfold maxLen; omega
      · rw [hn.out]; omega
      · simp; omega
      intro v' w3 o3 gr3 _
      have f8 := (f7.alloc (.cells #[.int .i64 A] 3)).grown gr3 (fun g h q => by have := (o1.lt g h).1; omega)
      rw [hn.out] at o3
      replace o3 : w3.ownsRow w.heap.size 3 1 v' (1 + n) ((A :: xs).map (Value.int .i64)) := by simpa using o3
      have hy3 : Ints w3 v' (A :: xs) := Ints.own o3 (fun t ht => by rcases List.mem_cons.1 ht with rfl | h; exact hAI; exact h3.out t h)
      clear o1 gr3 hxs1 f7
      go_wp2_with fail
      refine (least_any _ _ (A :: xs) _ hU hy3).mono ?_
      rintro e w4 ⟨rfl, f4⟩
      have f9 := f8.seqN f4
      have o4 := ownsRow_fr o3 f4 (fun _ _ q => q)
      have hla := least_all seed A xs
      have hmI : I64 (leastS seed (A :: xs)) := minP_I64 _ _ _ hAI h3.out
      generalize hM : leastS seed (A :: xs) = m at *
      replace hM := Lib.hid hM
      obtain ⟨g, cap, hv, hgb⟩ := ownsRow_some o4 (by omega)
      rw [hv] at o4 ⊢
      clear hy3 o3 f4 f8 hv
      have hlen : (A :: xs).length = 1 + n := by simp [hn.out]; omega
      have hAll : ∀ t ∈ A :: xs, I64 t := fun t ht => by rcases List.mem_cons.1 ht with rfl | h; exact hAI; exact h3.out t h
      generalize A :: xs = ys at *
      replace hlen := Lib.hid hlen
      replace hla := Lib.hid hla
      replace hAll := Lib.hid hAll
      clear l1 l3 l4 l5 hx hy hz hxs h4
      go_wp2_with fail
      go_loopw [92] (fun i wr => ∃ k : Nat, k ≤ 1 + n ∧ i = .int .i64 k ∧ wr.ownsRow w.heap.size 3 1 (.slice (some ⟨g, 0, none⟩) (1 + n) cap) (1 + n) (ys.map (Value.int .i64)) ∧ Fr noB w wr) (fun i _ => 1 + n - (intOf i).toNat)
      case atStart => exact ⟨0, by omega, rfl, o4, f9⟩
      case round =>
        clear o4 f9
        obtain ⟨k, hk, rfl, ow, hf⟩ := hrel
        by_cases hlt : k < 1 + n
        · have hc1 : wr.cell? ⟨g, k, none⟩ = some (.int .i64 (ys.getD k 0)) := ownsRow_int ow (by rw [hlen.out]; omega)
          have hc2 : wr.cell? ⟨g, n, none⟩ = some (.int .i64 (ys.getD n 0)) := ownsRow_int ow (by rw [hlen.out]; omega)
          have hfz : wr.frozen? ⟨g, k, none⟩ = false := ow.frozenAt k
          have hmem : ys.getD k 0 ∈ ys := by simp [List.getD, show k < ys.length by rw [hlen.out]; omega]
          have hok := hla.out _ hmem
          have htI : I64 (ys.getD k 0) := hAll.out _ hmem
          have ow2 := (ow.stored k (.int .i64 (ys.getD n 0))).1
          have hf2 : Fr noB w (wr.setCell ⟨g, k, none⟩ (.int .i64 (ys.getD n 0))) := hf.storeNew hgb
          have hset : ((ys.map (Value.int .i64)).set k (.int .i64 (ys.getD n 0))).set k (.int .i64 (ys.getD k 0)) = ys.map (Value.int .i64) := by
            rw [List.set_set]
            apply List.ext_getElem?
            intro j
            by_cases hj : j = k
            · subst hj; simp [List.getD, show j < ys.length by rw [hlen.out]; omega]
            · rw [List.getElem?_set_ne (Ne.symm hj)]
          replace hset := Lib.hid hset
          generalize hT : ys.getD k 0 = t at *
          generalize hN : ys.getD n 0 = q at *
          replace hT := Lib.hid hT
          replace hN := Lib.hid hN
          clear hmem
          by_cases htm : t = m
          · have htm2 : (t != m) = false := by simpa using htm
            replace htm := Lib.hid htm
            clear hok
            go_wp2_with fail
            go_roundw
            case rel =>
              have ow4 := (ow2.stored k (.int .i64 t)).1
              rw [hset.out] at ow4
              have hf4 := hf2.storeNew (v := .int .i64 t) (i := k) hgb
              exact ⟨k + 1, by omega, by go_num, ow4, hf4⟩
            case measure => simp [intOf]; omega
          · have htm2 : (t != m) = true := by simpa using htm
            have hL : lessB seed m t = true := hok.resolve_left htm
            replace htm := Lib.hid htm
            replace hL := Lib.hid hL
            clear hok
            go_wp2_with fail
            refine (less_any _ _ _ _ hU hmI htI).mono ?_
            rintro e w5 ⟨rfl, f5⟩
            rw [hL.out]
            have ow3 := ownsRow_fr ow2 f5 (fun _ _ q => q)
            have hf3 := hf2.seqN f5
            have hfz3 : w5.frozen? ⟨g, k, none⟩ = false := ow3.frozenAt k
            have hc3 : w5.cell? ⟨g, k, none⟩ = some (.int .i64 q) := by
              have := ow3.cellAt k (by omega)
              rw [this]
              simp [show k < ys.length by rw [hlen.out]; omega]
            have ow4 := (ow3.stored k (.int .i64 t)).1
            rw [hset.out] at ow4
            have hf4 : Fr noB w (w5.setCell ⟨g, k, none⟩ (.int .i64 t)) := hf3.storeNew hgb
            go_wp2_with fail
            go_roundw
            case rel => exact ⟨k + 1, by omega, by go_num, ow4, hf4⟩
            case measure => simp [intOf]; omega
        · go_wp2
          go_ret
          exact ⟨rfl, hf⟩
    | false =>
      go_wp2_with fail
      refine (less_any _ _ _ _ hU hAI hAI).mono ?_
      rintro e w2 ⟨rfl, f2⟩
      rw [l2.out]
      have f7 := f6.seqN f2
      clear f2 f6 hzz
      have hxs1 := hxs.frame (f7.alloc (.cells #[.int .i64 A] 3)) (fun _ _ q => q)
      have hs2 := f7.size
      have o1 := ownsRow_mono (own_new w2 3 [.int .i64 A] 1 1 rfl (by unfold maxLen; decide)) (base' := w.heap.size) hs2
      go_wp2_with (first
        | (at_builtin; refine wpList_append_ints _ rfl (.tmp 84) (.tmp 85) 23 rfl w.heap.size 3 i0 (.int .i64 0) 8 Try.underlying23 hi hz0 hz1 hz2 rfl _ 1 [.int .i64 A] rfl o1 _ xs rfl hxs1 ?_ ?_ ?_ ?_)
        | fail)
      · rw [hn.out]; unfold maxLen; omega
      · rw [hn.out]; omega
      · simp; omega
      intro v' w3 o3 gr3 _
      have f8 := (f7.alloc (.cells #[.int .i64 A] 3)).grown gr3 (fun g h q => by have := (o1.lt g h).1; omega)
      rw [hn.out] at o3
      replace o3 : w3.ownsRow w.heap.size 3 1 v' (1 + n) ((A :: xs).map (Value.int .i64)) := by simpa using o3
      have hy3 : Ints w3 v' (A :: xs) := Ints.own o3 (fun t ht => by rcases List.mem_cons.1 ht with rfl | h; exact hAI; exact h3.out t h)
      clear o1 gr3 hxs1 f7
      go_wp2_with fail
      refine (least_any _ _ (A :: xs) _ hU hy3).mono ?_
      rintro e w4 ⟨rfl, f4⟩
      have f9 := f8.seqN f4
      have o4 := ownsRow_fr o3 f4 (fun _ _ q => q)
      have hla := least_all seed A xs
      have hmI : I64 (leastS seed (A :: xs)) := minP_I64 _ _ _ hAI h3.out
      generalize hM : leastS seed (A :: xs) = m at *
      replace hM := Lib.hid hM
      obtain ⟨g, cap, hv, hgb⟩ := ownsRow_some o4 (by omega)
      rw [hv] at o4 ⊢
      clear hy3 o3 f4 f8 hv
      have hlen : (A :: xs).length = 1 + n := by simp [hn.out]; omega
      have hAll : ∀ t ∈ A :: xs, I64 t := fun t ht => by rcases List.mem_cons.1 ht with rfl | h; exact hAI; exact h3.out t h
      generalize A :: xs = ys at *
      replace hlen := Lib.hid hlen
      replace hla := Lib.hid hla
      replace hAll := Lib.hid hAll
      clear l1 l3 l4 l5 hx hy hz hxs h4
      go_wp2_with fail
      go_loopw [92] (fun i wr => ∃ k : Nat, k ≤ 1 + n ∧ i = .int .i64 k ∧ wr.ownsRow w.heap.size 3 1 (.slice (some ⟨g, 0, none⟩) (1 + n) cap) (1 + n) (ys.map (Value.int .i64)) ∧ Fr noB w wr) (fun i _ => 1 + n - (intOf i).toNat)
      case atStart => exact ⟨0, by omega, rfl, o4, f9⟩
      case round =>
        clear o4 f9
        obtain ⟨k, hk, rfl, ow, hf⟩ := hrel
        by_cases hlt : k < 1 + n
        · have hc1 : wr.cell? ⟨g, k, none⟩ = some (.int .i64 (ys.getD k 0)) := ownsRow_int ow (by rw [hlen.out]; omega)
          have hc2 : wr.cell? ⟨g, n, none⟩ = some (.int .i64 (ys.getD n 0)) := ownsRow_int ow (by rw [hlen.out]; omega)
          have hfz : wr.frozen? ⟨g, k, none⟩ = false := ow.frozenAt k
          have hmem : ys.getD k 0 ∈ ys := by simp [List.getD, show k < ys.length by rw [hlen.out]; omega]
          have hok := hla.out _ hmem
          have htI : I64 (ys.getD k 0) := hAll.out _ hmem
          have ow2 := (ow.stored k (.int .i64 (ys.getD n 0))).1
          have hf2 : Fr noB w (wr.setCell ⟨g, k, none⟩ (.int .i64 (ys.getD n 0))) := hf.storeNew hgb
          have hset : ((ys.map (Value.int .i64)).set k (.int .i64 (ys.getD n 0))).set k (.int .i64 (ys.getD k 0)) = ys.map (Value.int .i64) := by
            rw [List.set_set]
            apply List.ext_getElem?
            intro j
            by_cases hj : j = k
            · subst hj; simp [List.getD, show j < ys.length by rw [hlen.out]; omega]
            · rw [List.getElem?_set_ne (Ne.symm hj)]
          replace hset := Lib.hid hset
          generalize hT : ys.getD k 0 = t at *
          generalize hN : ys.getD n 0 = q at *
          replace hT := Lib.hid hT
          replace hN := Lib.hid hN
          clear hmem
          by_cases htm : t = m
          · have htm2 : (t != m) = false := by simpa using htm
            replace htm := Lib.hid htm
            clear hok
            go_wp2_with fail
            go_roundw
            case rel =>
              have ow4 := (ow2.stored k (.int .i64 t)).1
              rw [hset.out] at ow4
              have hf4 := hf2.storeNew (v := .int .i64 t) (i := k) hgb
              exact ⟨k + 1, by omega, by go_num, ow4, hf4⟩
            case measure => simp [intOf]; omega
          · have htm2 : (t != m) = true := by simpa using htm
            have hL : lessB seed m t = true := hok.resolve_left htm
            replace htm := Lib.hid htm
            replace hL := Lib.hid hL
            clear hok
            go_wp2_with fail
            refine (less_any _ _ _ _ hU hmI htI).mono ?_
            rintro e w5 ⟨rfl, f5⟩
            rw [hL.out]
            have ow3 := ownsRow_fr ow2 f5 (fun _ _ q => q)
            have hf3 := hf2.seqN f5
            have hfz3 : w5.frozen? ⟨g, k, none⟩ = false := ow3.frozenAt k
            have hc3 : w5.cell? ⟨g, k, none⟩ = some (.int .i64 q) := by
              have := ow3.cellAt k (by omega)
              rw [this]
              simp [show k < ys.length by rw [hlen.out]; omega]
            have ow4 := (ow3.stored k (.int .i64 t)).1
            rw [hset.out] at ow4
            have hf4 : Fr noB w (w5.setCell ⟨g, k, none⟩ (.int .i64 t)) := hf3.storeNew hgb
            go_wp2_with fail
            go_roundw
            case rel => exact ⟨k + 1, by omega, by go_num, ow4, hf4⟩
            case measure => simp [intOf]; omega
        · go_wp2
          go_ret
          exact ⟨rfl, hf⟩
  · have hne : (A != B) = false := by simpa using hAB
    replace hAB := Lib.hid hAB
    go_wp2_with fail
    refine (less_any _ _ _ _ hU hAI hAI).mono ?_
    rintro e w2 ⟨rfl, f2⟩
    rw [l2.out]
    have f7 := f5.seqN f2
    clear f2 f5 hzz
    have hxs1 := hxs.frame (f7.alloc (.cells #[.int .i64 A] 3)) (fun _ _ q => q)
    have hs2 := f7.size
    have o1 := ownsRow_mono (own_new w2 3 [.int .i64 A] 1 1 rfl (by unfold maxLen; decide)) (base' := w.heap.size) hs2
    go_wp2_with (first
      | (at_builtin; refine wpList_append_ints _ rfl (.tmp 84) (.tmp 85) 23 rfl w.heap.size 3 i0 (.int .i64 0) 8 Try.underlying23 hi hz0 hz1 hz2 rfl _ 1 [.int .i64 A] rfl o1 _ xs rfl hxs1 ?_ ?_ ?_ ?_)
      | fail)
    · rw [hn.out]; unfold maxLen; omega
    · rw [hn.out]; omega
    · simp; omega
    intro v' w3 o3 gr3 _
    have f8 := (f7.alloc (.cells #[.int .i64 A] 3)).grown gr3 (fun g h q => by have := (o1.lt g h).1; omega)
    rw [hn.out] at o3
    replace o3 : w3.ownsRow w.heap.size 3 1 v' (1 + n) ((A :: xs).map (Value.int .i64)) := by simpa using o3
    have hy3 : Ints w3 v' (A :: xs) := Ints.own o3 (fun t ht => by rcases List.mem_cons.1 ht with rfl | h; exact hAI; exact h3.out t h)
    clear o1 gr3 hxs1 f7
    go_wp2_with fail
    refine (least_any _ _ (A :: xs) _ hU hy3).mono ?_
    rintro e w4 ⟨rfl, f4⟩
    have f9 := f8.seqN f4
    have o4 := ownsRow_fr o3 f4 (fun _ _ q => q)
    have hla := least_all seed A xs
    have hmI : I64 (leastS seed (A :: xs)) := minP_I64 _ _ _ hAI h3.out
    generalize hM : leastS seed (A :: xs) = m at *
    replace hM := Lib.hid hM
    obtain ⟨g, cap, hv, hgb⟩ := ownsRow_some o4 (by omega)
    rw [hv] at o4 ⊢
    clear hy3 o3 f4 f8 hv
    have hlen : (A :: xs).length = 1 + n := by simp [hn.out]; omega
    have hAll : ∀ t ∈ A :: xs, I64 t := fun t ht => by rcases List.mem_cons.1 ht with rfl | h; exact hAI; exact h3.out t h
    generalize A :: xs = ys at *
    replace hlen := Lib.hid hlen
    replace hla := Lib.hid hla
    replace hAll := Lib.hid hAll
    clear l1 l3 l4 l5 hx hy hz hxs h4
    go_wp2_with fail
    go_loopw [92] (fun i wr => ∃ k : Nat, k ≤ 1 + n ∧ i = .int .i64 k ∧ wr.ownsRow w.heap.size 3 1 (.slice (some ⟨g, 0, none⟩) (1 + n) cap) (1 + n) (ys.map (Value.int .i64)) ∧ Fr noB w wr) (fun i _ => 1 + n - (intOf i).toNat)
    case atStart => exact ⟨0, by omega, rfl, o4, f9⟩
    case round =>
      clear o4 f9
      obtain ⟨k, hk, rfl, ow, hf⟩ := hrel
      by_cases hlt : k < 1 + n
      · have hc1 : wr.cell? ⟨g, k, none⟩ = some (.int .i64 (ys.getD k 0)) := ownsRow_int ow (by rw [hlen.out]; omega)
        have hc2 : wr.cell? ⟨g, n, none⟩ = some (.int .i64 (ys.getD n 0)) := ownsRow_int ow (by rw [hlen.out]; omega)
        have hfz : wr.frozen? ⟨g, k, none⟩ = false := ow.frozenAt k
        have hmem : ys.getD k 0 ∈ ys := by simp [List.getD, show k < ys.length by rw [hlen.out]; omega]
        have hok := hla.out _ hmem
        have htI : I64 (ys.getD k 0) := hAll.out _ hmem
        have ow2 := (ow.stored k (.int .i64 (ys.getD n 0))).1
        have hf2 : Fr noB w (wr.setCell ⟨g, k, none⟩ (.int .i64 (ys.getD n 0))) := hf.storeNew hgb
        have hset : ((ys.map (Value.int .i64)).set k (.int .i64 (ys.getD n 0))).set k (.int .i64 (ys.getD k 0)) = ys.map (Value.int .i64) := by
          rw [List.set_set]
          apply List.ext_getElem?
          intro j
          by_cases hj : j = k
          · subst hj; simp [List.getD, show j < ys.length by rw [hlen.out]; omega]
          · rw [List.getElem?_set_ne (Ne.symm hj)]
        replace hset := Lib.hid hset
        generalize hT : ys.getD k 0 = t at *
        generalize hN : ys.getD n 0 = q at *
        replace hT := Lib.hid hT
        replace hN := Lib.hid hN
        clear hmem
        by_cases htm : t = m
        · have htm2 : (t != m) = false := by simpa using htm
          replace htm := Lib.hid htm
          clear hok
          go_wp2_with fail
          go_roundw
          case rel =>
            have ow4 := (ow2.stored k (.int .i64 t)).1
            rw [hset.out] at ow4
            have hf4 := hf2.storeNew (v := .int .i64 t) (i := k) hgb
            exact ⟨k + 1, by omega, by go_num, ow4, hf4⟩
          case measure => simp [intOf]; omega
        · have htm2 : (t != m) = true := by simpa using htm
          have hL : lessB seed m t = true := hok.resolve_left htm
          replace htm := Lib.hid htm
          replace hL := Lib.hid hL
          clear hok
          go_wp2_with fail
          refine (less_any _ _ _ _ hU hmI htI).mono ?_
          rintro e w5 ⟨rfl, f5⟩
          rw [hL.out]
          have ow3 := ownsRow_fr ow2 f5 (fun _ _ q => q)
          have hf3 := hf2.seqN f5
          have hfz3 : w5.frozen? ⟨g, k, none⟩ = false := ow3.frozenAt k
          have hc3 : w5.cell? ⟨g, k, none⟩ = some (.int .i64 q) := by
            have := ow3.cellAt k (by omega)
            rw [this]
            simp [show k < ys.length by rw [hlen.out]; omega]
          have ow4 := (ow3.stored k (.int .i64 t)).1
          rw [hset.out] at ow4
          have hf4 : Fr noB w (w5.setCell ⟨g, k, none⟩ (.int .i64 t)) := hf3.storeNew hgb
          go_wp2_with fail
          go_roundw
          case rel => exact ⟨k + 1, by omega, by go_num, ow4, hf4⟩
          case measure => simp [intOf]; omega
      · go_wp2
        go_ret
        exact ⟨rfl, hf⟩
  · have hne : (A != B) = true := by simpa using hAB
    go_wp2_with fail
    refine (less_any _ _ _ _ hU hBI hAI).mono ?_
    rintro e w2 ⟨rfl, f2⟩
    rw [l4.out hAB (by simp)]
    have f6 := f5.seqN f2
    clear f2 f5 hzz
    replace hAB := Lib.hid hAB
    go_wp2_with fail
    refine (less_any _ _ _ _ hU hAI hAI).mono ?_
    rintro e w2 ⟨rfl, f2⟩
    rw [l2.out]
    have f7 := f6.seqN f2
    clear f2 f6
    have hxs1 := hxs.frame (f7.alloc (.cells #[.int .i64 A] 3)) (fun _ _ q => q)
    have hs2 := f7.size
    have o1 := ownsRow_mono (own_new w2 3 [.int .i64 A] 1 1 rfl (by unfold maxLen; decide)) (base' := w.heap.size) hs2
    go_wp2_with (first
      | (at_builtin; refine wpList_append_ints _ rfl (.tmp 84) (.tmp 85) 23 rfl w.heap.size 3 i0 (.int .i64 0) 8 Try.underlying23 hi hz0 hz1 hz2 rfl _ 1 [.int .i64 A] rfl o1 _ xs rfl hxs1 ?_ ?_ ?_ ?_)
      | fail)
    · rw [hn.out]; unfold maxLen; omega
    · rw [hn.out]; omega
    · simp; omega
    intro v' w3 o3 gr3 _
    have f8 := (f7.alloc (.cells #[.int .i64 A] 3)).grown gr3 (fun g h q => by have := (o1.lt g h).1; omega)
    rw [hn.out] at o3
    replace o3 : w3.ownsRow w.heap.size 3 1 v' (1 + n) ((A :: xs).map (Value.int .i64)) := by simpa using o3
    have hy3 : Ints w3 v' (A :: xs) := Ints.own o3 (fun t ht => by rcases List.mem_cons.1 ht with rfl | h; exact hAI; exact h3.out t h)
    clear o1 gr3 hxs1 f7
    go_wp2_with fail
    refine (least_any _ _ (A :: xs) _ hU hy3).mono ?_
    rintro e w4 ⟨rfl, f4⟩
    have f9 := f8.seqN f4
    have o4 := ownsRow_fr o3 f4 (fun _ _ q => q)
    have hla := least_all seed A xs
    have hmI : I64 (leastS seed (A :: xs)) := minP_I64 _ _ _ hAI h3.out
    generalize hM : leastS seed (A :: xs) = m at *
    replace hM := Lib.hid hM
    obtain ⟨g, cap, hv, hgb⟩ := ownsRow_some o4 (by omega)
    rw [hv] at o4 ⊢
    clear hy3 o3 f4 f8 hv
    have hlen : (A :: xs).length = 1 + n := by simp [hn.out]; omega
    have hAll : ∀ t ∈ A :: xs, I64 t := fun t ht => by rcases List.mem_cons.1 ht with rfl | h; exact hAI; exact h3.out t h
    generalize A :: xs = ys at *
    replace hlen := Lib.hid hlen
    replace hla := Lib.hid hla
    replace hAll := Lib.hid hAll
    clear l1 l3 l4 l5 hx hy hz hxs h4
    go_wp2_with fail
    go_loopw [92] (fun i wr => ∃ k : Nat, k ≤ 1 + n ∧ i = .int .i64 k ∧ wr.ownsRow w.heap.size 3 1 (.slice (some ⟨g, 0, none⟩) (1 + n) cap) (1 + n) (ys.map (Value.int .i64)) ∧ Fr noB w wr) (fun i _ => 1 + n - (intOf i).toNat)
    case atStart => exact ⟨0, by omega, rfl, o4, f9⟩
    case round =>
      clear o4 f9
      obtain ⟨k, hk, rfl, ow, hf⟩ := hrel
      by_cases hlt : k < 1 + n
      · have hc1 : wr.cell? ⟨g, k, none⟩ = some (.int .i64 (ys.getD k 0)) := ownsRow_int ow (by rw [hlen.out]; omega)
        have hc2 : wr.cell? ⟨g, n, none⟩ = some (.int .i64 (ys.getD n 0)) := ownsRow_int ow (by rw [hlen.out]; omega)
        have hfz : wr.frozen? ⟨g, k, none⟩ = false := ow.frozenAt k
        have hmem : ys.getD k 0 ∈ ys := by simp [List.getD, show k < ys.length by rw [hlen.out]; omega]
        have hok := hla.out _ hmem
        have htI : I64 (ys.getD k 0) := hAll.out _ hmem
        have ow2 := (ow.stored k (.int .i64 (ys.getD n 0))).1
        have hf2 : Fr noB w (wr.setCell ⟨g, k, none⟩ (.int .i64 (ys.getD n 0))) := hf.storeNew hgb
        have hset : ((ys.map (Value.int .i64)).set k (.int .i64 (ys.getD n 0))).set k (.int .i64 (ys.getD k 0)) = ys.map (Value.int .i64) := by
          rw [List.set_set]
          apply List.ext_getElem?
          intro j
          by_cases hj : j = k
          · subst hj; simp [List.getD, show j < ys.length by rw [hlen.out]; omega]
          · rw [List.getElem?_set_ne (Ne.symm hj)]
        replace hset := Lib.hid hset
        generalize hT : ys.getD k 0 = t at *
        generalize hN : ys.getD n 0 = q at *
        replace hT := Lib.hid hT
        replace hN := Lib.hid hN
        clear hmem
        by_cases htm : t = m
        · have htm2 : (t != m) = false := by simpa using htm
          replace htm := Lib.hid htm
          clear hok
          go_wp2_with fail
          go_roundw
          case rel =>
            have ow4 := (ow2.stored k (.int .i64 t)).1
            rw [hset.out] at ow4
            have hf4 := hf2.storeNew (v := .int .i64 t) (i := k) hgb
            exact ⟨k + 1, by omega, by go_num, ow4, hf4⟩
          case measure => simp [intOf]; omega
        · have htm2 : (t != m) = true := by simpa using htm
          have hL : lessB seed m t = true := hok.resolve_left htm
          replace htm := Lib.hid htm
          replace hL := Lib.hid hL
          clear hok
          go_wp2_with fail
          refine (less_any _ _ _ _ hU hmI htI).mono ?_
          rintro e w5 ⟨rfl, f5⟩
          rw [hL.out]
          have ow3 := ownsRow_fr ow2 f5 (fun _ _ q => q)
          have hf3 := hf2.seqN f5
          have hfz3 : w5.frozen? ⟨g, k, none⟩ = false := ow3.frozenAt k
          have hc3 : w5.cell? ⟨g, k, none⟩ = some (.int .i64 q) := by
            have := ow3.cellAt k (by omega)
            rw [this]
            simp [show k < ys.length by rw [hlen.out]; omega]
          have ow4 := (ow3.stored k (.int .i64 t)).1
          rw [hset.out] at ow4
          have hf4 : Fr noB w (w5.setCell ⟨g, k, none⟩ (.int .i64 t)) := hf3.storeNew hgb
          go_wp2_with fail
          go_roundw
          case rel => exact ⟨k + 1, by omega, by go_num, ow4, hf4⟩
          case measure => simp [intOf]; omega
      · go_wp2
        go_ret
        exact ⟨rfl, hf⟩
end Go.Proofs.Ytdoeiehikbdoaaa
