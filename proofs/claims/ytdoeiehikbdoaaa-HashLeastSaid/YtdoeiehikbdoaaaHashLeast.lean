import Derived.Test.YtdoeiehikbdoaaaHashOrder
set_option linter.unusedVariables false
set_option linter.unusedSimpArgs false
namespace Go.Proofs.Ytdoeiehikbdoaaa
open Go.RowKit

def mask (t : Int) : Int := bits BinOp.and IntKind.i64 t 4294967295
theorem mask_bd (t : Int) : 0 ≤ mask t ∧ mask t ≤ 4294967295 := by
  unfold mask
  have h2 : (BitVec.ofInt 64 (4294967295 : Int)).toNat = 4294967295 := by decide
  have h : bits BinOp.and IntKind.i64 t 4294967295 = IntKind.i64.wrap ((BitVec.ofInt 64 t &&& BitVec.ofInt 64 4294967295).toNat : Int) := rfl
  have h3 : (BitVec.ofInt 64 t &&& BitVec.ofInt 64 4294967295).toNat ≤ 4294967295 := by
    rw [BitVec.toNat_and, h2]; exact Nat.and_le_right
  rw [h, IntKind.wrap_i64]
  omega
theorem mask_I64 (t : Int) : I64 (mask t) := by have := mask_bd t; unfold I64; omega

theorem take_mask (l : List Int) (k : Nat) (h : k < l.length) : (l.take (k + 1)).map mask = (l.take k).map mask ++ [mask (l.getD k 0)] := by
  rw [List.take_succ_eq_append_getElem h, List.map_append, List.map_singleton, List.getD_eq_getElem?_getD, List.getElem?_eq_getElem h, Option.getD_some]
theorem min_unique (seed u v : Int) (h : lessB seed u v = false) (h2 : lessB seed v u = false) : u = v := by
  by_cases he : u = v
  · exact he
  · rw [lessB_total seed u v he h] at h2; cases h2
theorem minP_append (L : Int → Int → Bool) (m : Int) (l r : List Int) : minP L m (l ++ r) = minP L (minP L m l) r := by unfold minP; rw [List.foldl_append]

theorem least_append (seed : Int) (xs ys : List Int) (hx : xs ≠ []) (hy : ys ≠ []) :
    leastS seed (xs ++ ys) = if lessB seed (leastS seed ys) (leastS seed xs) then leastS seed ys else leastS seed xs := by
  cases xs with
  | nil => exact absurd rfl hx
  | cons x r =>
    cases ys with
    | nil => exact absurd rfl hy
    | cons y s =>
      have e : leastS seed (x :: r ++ y :: s) = minP (lessB seed) (leastS seed (x :: r)) (y :: s) := by
        show minP (lessB seed) x (r ++ y :: s) = _
        rw [minP_append]; rfl
      rw [e]
      generalize hM : leastS seed (x :: r) = m
      have h1 := minP_min seed m (y :: s)
      have h2 := minP_min seed y s
      have h3 := minP_mem (lessB seed) m (y :: s)
      have h4 := minP_mem (lessB seed) y s
      show minP (lessB seed) m (y :: s) = if lessB seed (minP (lessB seed) y s) m then minP (lessB seed) y s else m
      have h5 : minP (lessB seed) y s ∈ y :: s := by
        rcases h4 with h | h
        · rw [h]; simp
        · exact List.mem_cons_of_mem _ h
      have h6 := h1 _ (Or.inr h5)
      have h7 := h1 m (Or.inl rfl)
      by_cases hl : lessB seed (minP (lessB seed) y s) m = true
      · rw [if_pos hl]
        refine min_unique seed _ _ ?_ h6
        rcases h3 with h | h
        · rw [h]; exact lessB_asymm _ _ _ hl
        · exact h2 _ (by simpa using h)
      · rw [if_neg hl]
        refine min_unique seed _ _ ?_ h7
        rcases h3 with h | h
        · rw [h]; exact lessB_irrefl _ _
        · have h8 := h2 _ (by simpa using h)
          rw [Bool.eq_false_iff, Ne, lessB_iff] at h8 ⊢
          rw [lessB_iff] at hl
          omega
theorem least_mem (seed : Int) (xs : List Int) (hx : xs ≠ []) : leastS seed xs ∈ xs := by
  cases xs with
  | nil => exact absurd rfl hx
  | cons x r =>
    rcases minP_mem (lessB seed) x r with h | h
    · show minP (lessB seed) x r ∈ _; rw [h]; simp
    · exact List.mem_cons_of_mem _ h
theorem least_I64 (seed : Int) (xs : List Int) (h : ∀ t ∈ xs, I64 t) : I64 (leastS seed xs) := by
  by_cases hx : xs = []
  · subst hx; show I64 (-1); unfold I64; omega
  · exact h _ (least_mem seed xs hx)

set_option maxHeartbeats 2000000 in
theorem leasts_any (seed : Int) (va : Value) (as1 : List Int) (vb : Value) (bs : List Int) (w : World) (hsd : (Lit.int .u64 seed).wf = true) (ha : Ints w va as1) (hb : Ints w vb bs) :
    Calls Try.prog 6 #[.int .u64 seed, va, vb] w fun e w' => e = .returned (.bool true) ∧ Fr noB w w' := by
  have hU : U64 seed := wf_u64 hsd
  clear hsd
  obtain ⟨aa, ca, rfl, a1, a2, a3, a4⟩ := ha.form
  obtain ⟨ab, cb, rfl, b1, b2, b3, b4⟩ := hb.form
  clear ha hb
  unfold maxLen at a2 b2
  obtain ⟨i0, hi, hz0, hz1, hz2⟩ := info_parts Try.infoInt
  generalize hna : as1.length = na at *
  generalize hnb : bs.length = nb at *
  clear a3 b3
  replace hna := Lib.hid hna
  replace hnb := Lib.hid hnb
  replace a4 := Lib.hid a4
  replace b4 := Lib.hid b4
  go_enter Try.func6, Try.ntmps6
  go_wp2_with fail
  refine (awake_any w).mono ?_
  rintro e w1 ⟨rfl, f1⟩
  by_cases hl1 : 100 < na
  · go_wp2_with fail
    refine (awake_any w1).mono ?_
    rintro e w2 ⟨rfl, f2⟩
    go_wp2
    go_ret
    exact ⟨rfl, f1.seqN f2⟩
  by_cases hl2 : 100 < nb
  · go_wp2_with fail
    refine (awake_any w1).mono ?_
    rintro e w2 ⟨rfl, f2⟩
    go_wp2
    go_ret
    exact ⟨rfl, f1.seqN f2⟩
  have hd1 : decide (100 < (na : Int)) = false := by simp; omega
  have hd2 : decide (100 < (nb : Int)) = false := by simp; omega
  go_wp2_with fail
  go_loopw [7, 35] (fun v i wr => ∃ k : Nat, k ≤ na ∧ i = .int .i64 k ∧ wr.ownsRow w.heap.size 3 1 v k (((as1.take k).map mask).map (Value.int .i64)) ∧ Fr noB w wr) (fun _ i _ => na - (intOf i).toNat)
  case atStart => exact ⟨0, by omega, rfl, World.ownsRow_nil _ _ _ _, f1⟩
  case round =>
    clear f1
    obtain ⟨k, hk, rfl, ow, hf⟩ := hrel
    have hz := hf.size
    by_cases hlt : k < na
    · obtain ⟨g, o, hga, hc⟩ := a4.out k hlt
      subst hga
      have hc' := hf.cell hc (fun q => q)
      clear hc
      have htk : (as1.take (k + 1)).map mask = (as1.take k).map mask ++ [mask (as1.getD k 0)] := by
        exact take_mask as1 k (by have := hna.out; omega)
      replace htk := Lib.hid htk
      generalize hT : as1.getD k 0 = t at *
      replace hT := Lib.hid hT
      go_wp2_with (first
          | (at_builtin; refine wpList_append_at _ rfl (.tmp 39) (.tmp 42) 23 rfl w.heap.size 3 i0 (.int .i64 0) 1 8 Try.underlying23 hi hz0 hz1 hz2 rfl (by decide) _ _ _ rfl (ow.alloc _) ⟨_, 0, none⟩ 1 1 [_] rfl rfl (cell_new _ _ _) (one_int _ _) ?_ ?_ ?_ ?_)
          | fail)
      · unfold maxLen; omega
      · omega
      · simp; omega
      intro v' w2 o2 gr2 _
      have f2 := (hf.alloc (Obj.cells #[_] 3)).grown gr2 (fun g h q => by have := (ow.lt g h).1; omega)
      have o3 : w2.ownsRow w.heap.size 3 1 v' (k + 1) (((as1.take (k + 1)).map mask).map (Value.int .i64)) := by rw [htk.out]; simpa [mask] using o2
      clear o2 gr2 ow hf hc'
      go_wp2_with fail
      go_roundw
      case rel => exact ⟨k + 1, by omega, by go_num, o3, f2⟩
      case measure => simp [intOf]; omega
    · obtain rfl : k = na := by omega
      rw [List.take_of_length_le (by rw [hna.out]; omega)] at ow
      have hxI : ∀ t ∈ as1.map mask, I64 t := fun t ht => by obtain ⟨q, _, rfl⟩ := List.mem_map.1 ht; exact mask_I64 q
      have hxl : (as1.map mask).length = k := by rw [List.length_map]; exact hna.out
      have hx0 : ∀ t ∈ as1.map mask, 0 ≤ t := fun t ht => by obtain ⟨q, _, rfl⟩ := List.mem_map.1 ht; exact (mask_bd q).1
      clear a4 hna
      generalize as1.map mask = xs at *
      replace hxI := Lib.hid hxI
      replace hxl := Lib.hid hxl
      replace hx0 := Lib.hid hx0
      go_wp2_with fail
      obtain ⟨wo, hwo⟩ : ∃ wo : World, wo = wr := ⟨_, rfl⟩
      subst hwo
      go_loopw [8, 47] (fun v i wr => ∃ m : Nat, m ≤ nb ∧ i = .int .i64 m ∧ wr.ownsRow w.heap.size 3 1 v m (((bs.take m).map mask).map (Value.int .i64)) ∧ wr.ownsRow w.heap.size 3 1 u7 k (xs.map (Value.int .i64)) ∧ (∀ g, v.ownBlock = some g → u7.ownBlock ≠ some g) ∧ Fr noB w wr) (fun _ i _ => nb - (intOf i).toNat)
      case atStart => exact ⟨0, by omega, rfl, World.ownsRow_nil _ _ _ _, ow, fun g h => by simp [Value.ownBlock] at h, hf⟩
      case round =>
        clear ow hf hz
        obtain ⟨m, hm, rfl, oy, ox, hap, hf⟩ := hrel
        have hz := hf.size
        by_cases hlt : m < nb
        · obtain ⟨g, o, hgb, hc⟩ := b4.out m hlt
          subst hgb
          have hc' := hf.cell hc (fun q => q)
          clear hc
          have htk := take_mask bs m (by have := hnb.out; omega)
          replace htk := Lib.hid htk
          generalize hT : bs.getD m 0 = t at *
          replace hT := Lib.hid hT
          replace hap := Lib.hid hap
          go_wp2_with (first
              | (at_builtin; refine wpList_append_at _ rfl (.tmp 51) (.tmp 54) 23 rfl w.heap.size 3 i0 (.int .i64 0) 1 8 Try.underlying23 hi hz0 hz1 hz2 rfl (by decide) _ _ _ rfl (oy.alloc _) ⟨_, 0, none⟩ 1 1 [_] rfl rfl (cell_new _ _ _) (one_int _ _) ?_ ?_ ?_ ?_)
              | fail)
          · unfold maxLen; omega
          · omega
          · simp; omega
          intro v' w2 o2 gr2 mv2
          have f2 := (hf.alloc (Obj.cells #[_] 3)).grown gr2 (fun g h q => by have := (oy.lt g h).1; omega)
          have ox2 := ownsRow_other (ox.alloc _) gr2 (fun g h q => hap.out g q h)
          have hap2 := moved_apart mv2 (ox.alloc _) (fun g h q => hap.out g h q)
          have o3 : w2.ownsRow w.heap.size 3 1 v' (m + 1) (((bs.take (m + 1)).map mask).map (Value.int .i64)) := by rw [htk.out]; simpa [mask] using o2
          clear o2 gr2 oy ox hf hc' mv2 hap
          replace hap2 := Lib.hid hap2
          go_wp2_with fail
          go_roundw
          case rel => exact ⟨m + 1, by omega, by go_num, o3, ox2, hap2.out, f2⟩
          case measure => simp [intOf]; omega
        · obtain rfl : m = nb := by omega
          rw [List.take_of_length_le (by rw [hnb.out]; omega)] at oy
          have hyI : ∀ t ∈ bs.map mask, I64 t := fun t ht => by obtain ⟨q, _, rfl⟩ := List.mem_map.1 ht; exact mask_I64 q
          have hyl : (bs.map mask).length = m := by rw [List.length_map]; exact hnb.out
          have hy0 : ∀ t ∈ bs.map mask, 0 ≤ t := fun t ht => by obtain ⟨q, _, rfl⟩ := List.mem_map.1 ht; exact (mask_bd q).1
          clear b4 hnb
          generalize bs.map mask = ys at *
          replace hyI := Lib.hid hyI
          replace hyl := Lib.hid hyl
          replace hy0 := Lib.hid hy0
          have ix := Ints.own ox hxI.out
          have iy := Ints.own oy hyI.out
          obtain ⟨ax, cx, hu7⟩ := ownsRow_slice ox
          obtain ⟨ay, cy, hu8⟩ := ownsRow_slice oy
          rw [hu7, hu8]
          rw [hu7] at ox ix
          rw [hu8] at oy iy
          clear hu7 hu8 hap
          go_wp2_with fail
          refine (least_any _ _ xs _ hU ix).mono ?_
          rintro e w5 ⟨rfl, f5⟩
          have iy5 := iy.frame f5 (fun _ _ q => q)
          have ix5 := ix.frame f5 (fun _ _ q => q)
          have hf5 := hf.seqN f5
          go_wp2_with fail
          refine (least_any _ _ ys _ hU iy5).mono ?_
          rintro e w6 ⟨rfl, f6⟩
          have iy6 := iy5.frame f6 (fun _ _ q => q)
          have ix6 := ix5.frame f6 (fun _ _ q => q)
          have hf6 := hf5.seqN f6
          clear ox oy ix iy ix5 iy5 f5 f6 hf5 hf hz
          have o1 := own_new w6 3 [] 1 0 rfl (by unfold maxLen; decide)
          have ix7 := ix6.frame ((Fr.refl noB w6).alloc (.cells #[] 3)) (fun _ _ q => q)
          go_wp2_with (first
            | (at_builtin; refine wpList_append_ints _ rfl (.tmp 64) (.tmp 65) 23 rfl w6.heap.size 3 i0 (.int .i64 0) 8 Try.underlying23 hi hz0 hz1 hz2 rfl _ 0 [] rfl o1 _ xs rfl ix7 ?_ ?_ ?_ ?_)
            | fail)
          · rw [hxl.out]; unfold maxLen; omega
          · rw [hxl.out]; omega
          · simp
          intro v7 w7 o7 gr7 _
          have f7 : Fr noB w6 w7 := ((Fr.refl noB w6).alloc (.cells #[] 3)).grown gr7 (fun g h q => by simp [Value.ownBlock] at h; omega)
          have iy7 := iy6.frame f7 (fun _ _ q => q)
          have hz7 := f7.size
          rw [hxl.out] at o7
          clear o1 ix7 gr7
          go_wp2_with (first
            | (at_builtin; refine wpList_append_ints _ rfl (.tmp 66) (.tmp 67) 23 rfl w6.heap.size 3 i0 (.int .i64 0) 8 Try.underlying23 hi hz0 hz1 hz2 rfl _ k _ rfl o7 _ ys rfl iy7 ?_ ?_ ?_ ?_)
            | fail)
          · rw [hyl.out]; unfold maxLen; omega
          · rw [hyl.out]; omega
          · omega
          intro v8 w8 o8 gr8 _
          have f8 : Fr noB w6 w8 := f7.grown gr8 (fun g h q => by have := (o7.lt g h).1; omega)
          have ix8 := ix6.frame f8 (fun _ _ q => q)
          have iy8 := iy6.frame f8 (fun _ _ q => q)
          have hf8 := hf6.seqN f8
          have ia8 : Ints w8 v8 (xs ++ ys) := Ints.own (by simpa using o8) (fun t ht => by rcases List.mem_append.1 ht with h | h; exact hxI.out t h; exact hyI.out t h)
          clear ix6 iy6 hf6 f7 iy7 o7 gr8 f8 o8 hz7
          go_wp2_with fail
          refine (least_any _ _ (xs ++ ys) _ hU ia8).mono ?_
          rintro e w9 ⟨rfl, f9⟩
          have ix9 := ix8.frame f9 (fun _ _ q => q)
          have iy9 := iy8.frame f9 (fun _ _ q => q)
          have hf9 := hf8.seqN f9
          clear ix8 iy8 ia8 hf8 f9
          by_cases hk0 : k = 0
          · subst hk0
            have hxe : xs = [] := List.eq_nil_of_length_eq_zero hxl.out
            subst hxe
            by_cases hm0 : m = 0
            · subst hm0
              have hye : ys = [] := List.eq_nil_of_length_eq_zero hyl.out
              subst hye
              rw [show leastS seed ([] ++ []) = -1 from rfl, show leastS seed [] = -1 from rfl]
              go_wp2
              go_ret
              exact ⟨rfl, hf9⟩
            · have hye : ys ≠ [] := fun q => by subst q; exact hm0 hyl.out.symm
              have hN0 : 0 ≤ leastS seed ys := hy0.out _ (least_mem seed ys hye)
              rw [show leastS seed ([] ++ ys) = leastS seed ys from rfl, show leastS seed [] = -1 from rfl]
              generalize leastS seed ys = N at *
              have hmp : (0 : Int) < (m : Int) := by omega
              have hN1 : (-1 : Int) < N := by omega
              clear hye
              go_wp2
              go_ret
              exact ⟨rfl, hf9⟩
          · have hxe : xs ≠ [] := fun q => by subst q; exact hk0 hxl.out.symm
            have hM0 : 0 ≤ leastS seed xs := hx0.out _ (least_mem seed xs hxe)
            have hkp : (0 : Int) < (k : Int) := by omega
            have hkn : ((k : Int) == 0) = false := by simp; omega
            by_cases hm0 : m = 0
            · subst hm0
              have hye : ys = [] := List.eq_nil_of_length_eq_zero hyl.out
              subst hye
              rw [List.append_nil, show leastS seed [] = -1 from rfl]
              generalize leastS seed xs = N at *
              have hN1 : ¬ N < (-1 : Int) := by omega
              have hN2 : (-1 : Int) < N := by omega
              clear hxe
              go_wp2
              go_ret
              exact ⟨rfl, hf9⟩
            · have hye : ys ≠ [] := fun q => by subst q; exact hm0 hyl.out.symm
              have hmp : (0 : Int) < (m : Int) := by omega
              have hmn : ((m : Int) == 0) = false := by simp; omega
              have hall := least_append seed xs ys hxe hye
              have hmem := least_mem seed (xs ++ ys) (by simp [hxe])
              have hMI := least_I64 seed xs hxI.out
              have hNI := least_I64 seed ys hyI.out
              clear hxe hye
              generalize hA : leastS seed (xs ++ ys) = A at *
              generalize hM : leastS seed xs = M at *
              generalize hN : leastS seed ys = N at *
              replace hA := Lib.hid hA
              replace hM := Lib.hid hM
              replace hN := Lib.hid hN
              replace hall := Lib.hid hall
              replace hmem := Lib.hid hmem
              go_wp2_with fail
              refine (less_any _ _ _ _ hU hNI hMI).mono ?_
              rintro e w10 ⟨rfl, f10⟩
              have ix10 := ix9.frame f10 (fun _ _ q => q)
              have iy10 := iy9.frame f10 (fun _ _ q => q)
              have hf10 := hf9.seqN f10
              clear ix9 iy9 hf9 f10
              have hw : A = if lessB seed N M = true then N else M := hall.out
              clear hall
              generalize lessB seed N M = lb at *
              obtain ⟨W, hW, hWA⟩ : ∃ W, W = (if lb = true then N else M) ∧ A = W := ⟨_, rfl, hw⟩
              clear hw
              replace hWA := Lib.hid hWA
              have o1 := own_new w10 3 [] 1 0 rfl (by unfold maxLen; decide)
              have ix11 := ix10.frame ((Fr.refl noB w10).alloc (.cells #[] 3)) (fun _ _ q => q)
              cases lb
              all_goals
                simp at hW
                subst hW
                go_wp2_with (first
                  | (at_builtin; refine wpList_append_ints _ rfl (.tmp 107) (.tmp 108) 23 rfl w10.heap.size 3 i0 (.int .i64 0) 8 Try.underlying23 hi hz0 hz1 hz2 rfl _ 0 [] rfl o1 _ xs rfl ix11 ?_ ?_ ?_ ?_)
                  | fail)
                · rw [hxl.out]; unfold maxLen; omega
                · rw [hxl.out]; omega
                · simp
                intro v7 w7 o7 gr7 _
                have f7 : Fr noB w10 w7 := ((Fr.refl noB w10).alloc (.cells #[] 3)).grown gr7 (fun g h q => by simp [Value.ownBlock] at h; omega)
                have iy7 := iy10.frame f7 (fun _ _ q => q)
                have hz7 := f7.size
                rw [hxl.out] at o7
                clear o1 ix11 gr7
                go_wp2_with (first
                  | (at_builtin; refine wpList_append_ints _ rfl (.tmp 109) (.tmp 110) 23 rfl w10.heap.size 3 i0 (.int .i64 0) 8 Try.underlying23 hi hz0 hz1 hz2 rfl _ k _ rfl o7 _ ys rfl iy7 ?_ ?_ ?_ ?_)
                  | fail)
                · rw [hyl.out]; unfold maxLen; omega
                · rw [hyl.out]; omega
                · omega
                intro v8 w8 o8 gr8 _
                have f8 : Fr noB w10 w8 := f7.grown gr8 (fun g h q => by have := (o7.lt g h).1; omega)
                have hf8 := hf10.seqN f8
                have o9 : w8.ownsRow w10.heap.size 3 1 v8 (k + m) ((xs ++ ys).map (Value.int .i64)) := by rw [hyl.out] at o8; simpa using o8
                have hzl : (xs ++ ys).length = k + m := by rw [List.length_append, hxl.out, hyl.out]
                replace hzl := Lib.hid hzl
                clear ix10 iy10 hf10 f7 iy7 o7 gr8 f8 o8 hz7
                generalize xs ++ ys = zs at *
                obtain ⟨g, cap, hv, _⟩ := ownsRow_some o9 (by omega)
                rw [hv] at o9 ⊢
                clear hv
                go_wp2_with fail
                go_loopw [17, 113] (fun f i wr => ∃ (j : Nat) (fb : Bool), j ≤ k + m ∧ i = .int .i64 j ∧ f = .bool fb ∧ Hid (fb = (zs.take j).any (· == A)) ∧ wr.ownsRow w10.heap.size 3 1 (.slice (some ⟨g, 0, none⟩) (k + m) cap) (k + m) (zs.map (Value.int .i64)) ∧ Fr noB w wr) (fun _ i _ => k + m - (intOf i).toNat)
                case atStart => exact ⟨0, false, by omega, rfl, rfl, rfl, o9, hf8⟩
                case round =>
                  clear o9 hf8
                  obtain ⟨j, fb, hj, rfl, rfl, hfb, ow, hf⟩ := hrel
                  by_cases hlt : j < k + m
                  · have hlt2 : (j : Int) < (k : Int) + (m : Int) := by omega
                    have hc := ownsRow_int ow (i := j) (by rw [hzl.out]; exact hlt)
                    have hst : (zs.take (j + 1)).any (· == A) = (fb || (zs.getD j 0 == A)) := by
                      rw [hfb.out, List.take_succ_eq_append_getElem (by rw [hzl.out]; exact hlt), List.any_append]
                      simp [List.getD, show j < zs.length by rw [hzl.out]; exact hlt]
                    replace hst := Lib.hid hst
                    clear hfb
                    generalize zs.getD j 0 = t at *
                    cases fb with
                    | true =>
                      go_wp2_with fail
                      go_roundw
                      case rel => exact ⟨j + 1, true, by omega, by go_num, rfl, (by unfold Hid; rw [hst.out]; rfl), ow, hf⟩
                      case measure => simp [intOf]; omega
                    | false =>
                      by_cases hta : t = A
                      · have htb : (t == A) = true := by simpa using hta
                        replace hta := Lib.hid hta
                        go_wp2_with fail
                        go_roundw
                        case rel => exact ⟨j + 1, true, by omega, by go_num, rfl, (by unfold Hid; rw [hst.out, htb]; rfl), ow, hf⟩
                        case measure => simp [intOf]; omega
                      · have htb : (t == A) = false := by simpa using hta
                        replace hta := Lib.hid hta
                        go_wp2_with fail
                        go_roundw
                        case rel => exact ⟨j + 1, false, by omega, by go_num, rfl, (by unfold Hid; rw [hst.out, htb]; rfl), ow, hf⟩
                        case measure => simp [intOf]; omega
                  · obtain rfl : fb = true := by
                      rw [hfb.out, List.take_of_length_le (by rw [hzl.out]; omega), List.any_eq_true]
                      exact ⟨A, hmem.out, by simp⟩
                    have hjn : ¬ (j : Int) < (k : Int) + (m : Int) := by omega
                    have hAW := hWA.out
                    subst hAW
                    go_wp2
                    go_ret
                    exact ⟨by first | rfl | simp, hf⟩
end Go.Proofs.Ytdoeiehikbdoaaa
