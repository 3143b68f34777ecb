/-
  The pool's Write.
-/
import Derived.Test.YtppmednmcbjafaaGreatPoolSpans
import Derived.Handy
set_option linter.unusedVariables false
set_option linter.unusedSimpArgs false
set_option maxRecDepth 100000
namespace Go.Proofs.YtppmednmcbjafaaGreat
open Go.RowKit Go Go.Lib Go.Sort

/-- may a pool's span be? -/
def mayB (t : Int) (x : ByteArray) : Bool := decide (1 ≤ t) && (decide (t ≤ 65535) && decide (x.size ≤ 40))
set_option maxHeartbeats 1000000 in
theorem spanRight_any (t : Int) (x : ByteArray) (w : World) :
    Calls Tryz.prog 105 #[.agg #[.int .i64 t, .int .i64 1, .string x]] w fun e w' => e = .returned (.bool (mayB t x)) ∧ Fr noB w w' := by
  have fX := (Fr.refl noB w).alloc (.cells #[.int .i64 t, .int .i64 1, .string x] 38)
  unfold mayB
  by_cases h1 : 1 ≤ t
  · have d1 : decide ((1 : Int) ≤ t) = true := by simpa using h1
    by_cases h2 : t ≤ 65535
    · have d2 : decide (t ≤ 65535) = true := by simpa using h2
      by_cases h3 : x.size ≤ 40
      · have d3 : decide ((x.size : Int) ≤ 40) = true := by simp; omega
        go_enter Tryz.func105, Tryz.ntmps105
        go_wp2
        go_ret
        exact ⟨by simp [h1, h2, h3], fX⟩
      · have d3 : decide ((x.size : Int) ≤ 40) = false := by simp; omega
        go_enter Tryz.func105, Tryz.ntmps105
        go_wp2
        go_ret
        exact ⟨by simp [h1, h2, h3], fX⟩
    · have d2 : decide (t ≤ 65535) = false := by simpa using h2
      go_enter Tryz.func105, Tryz.ntmps105
      go_wp2
      go_ret
      exact ⟨by simp [h1, h2], fX⟩
  · have d1 : decide ((1 : Int) ≤ t) = false := by simpa using h1
    go_enter Tryz.func105, Tryz.ntmps105
    go_wp2
    go_ret
    exact ⟨by simp [h1], fX⟩

abbrev span0 : Value := .agg #[.int .i64 0, .int .i64 0, .string (ByteArray.mk #[])]
theorem store3 (w : World) (g i : Nat) (a b c : Value) : ∃ w2, w2 = w.setCells g i (#[a, b, c] : Array Value).toList ∧ Fr (onlyB g) w w2 ∧
    ∀ t cs, Blk w g t cs → Blk w2 g t (((cs.set i a).set (i + 1) b).set (i + 1 + 1) c) :=
  ⟨_, rfl, by simp only [World.setCells]; exact ((((Fr.refl (onlyB g) w).store rfl).store rfl).store rfl), fun t cs h => by simp only [World.setCells]; exact (((h.set i a).set _ b).set _ c)⟩
theorem thereN {w : World} {g i n : Nat} {t : TypeId} {cs : List Value} (h : Blk w g t cs) (hn : i + n ≤ cs.length) : w.there g i n := fun j hj => by
  refine ⟨?_, Blk.frozen h _⟩
  rw [h.cell (i + j), List.getElem?_eq_getElem (by omega)]; rfl
theorem size_span : (Tryz.prog.info? 38).map (·.size) = some 3 := by kernel_rfl
theorem one_span (t q : Int) (x : ByteArray) : (#[.int .i64 t, .int .i64 q, .string x] : Array Value).all (·.oneCell') = true := all_oneCell_toArray (cs := [.int .i64 t, .int .i64 q, .string x]) (fun v hv => by
  simp only [List.mem_cons, List.not_mem_nil, or_false] at hv
  rcases hv with rfl | rfl | rfl <;> rfl)
set_option maxHeartbeats 1000000 in
theorem pwrite_bad (g N : Nat) (bs : List Bf) (t : Int) (x : ByteArray) (w : World) (h : Pl w g N bs) (hb : mayB t x = false) :
    Calls Tryz.prog 84 #[.pointer (some ⟨g, 0, none⟩), .int .i64 t, .string x] w fun e w' => e = .returned (.tuple #[span0, .int .i64 1]) ∧ Fr noB w w' := by
  have fX := ((Fr.refl noB w).alloc (.cells #[.int .i64 0, .int .i64 0, .string (ByteArray.mk #[])] 38)).alloc (.cells #[.int .i64 t, .int .i64 1, .string x] 38)
  have hr := fun w' => spanRight_any t x w'
  rw [hb] at hr
  have bX := Blk.new w 38 [.int .i64 0, .int .i64 0, .string (ByteArray.mk #[])]
  have bX1 := ((Fr.refl noB (w.alloc (.cells #[.int .i64 0, .int .i64 0, .string (ByteArray.mk #[])] 38))).alloc (.cells #[.int .i64 t, .int .i64 1, .string x] 38)).blk bX (fun q => q)
  go_enter Tryz.func84, Tryz.ntmps84
  go_wp2_with fail
  refine (hr _).mono ?_
  rintro e w1 ⟨rfl, f1⟩
  have g1 := fX.seqN f1
  have bR := f1.blk bX1 (fun q => q)
  have tR := Lib.hid (thereN (i := 0) (n := 3) bR (by simp))
  clear hr fX f1 bX bX1
  go_wp2_with (first
    | (refine wpList_store_mid rfl 38 (.tmp 6) (.tmp 19) rfl w.heap.size 0 #[.int .i64 0, .int .i64 0, .string (ByteArray.mk #[])] rfl rfl tR.out size_span (one_span _ _ _) ?_; obtain ⟨w9, hw9, f9, h9⟩ := store3 w1 w.heap.size 0 (.int .i64 0) (.int .i64 0) (.string (ByteArray.mk #[])); rw [← hw9]; clear hw9; have h9 := h9 _ _ bR; have r0 : w9.cell? ⟨w.heap.size, 0, none⟩ = some (.int .i64 0) := h9.cell 0; have r1 : w9.cell? ⟨w.heap.size, 1, none⟩ = some (.int .i64 0) := h9.cell 1; have r2 : w9.cell? ⟨w.heap.size, 2, none⟩ = some (.string (ByteArray.mk #[])) := h9.cell 2; clear h9)
    | fail)
  try simp only [Exit.inBlock, Exit.then]
  refine bodyPost_ret (by simp [results, Tryz.results84, go_sem, r0, r1, r2]; try rfl) rfl ?_
  exact ⟨rfl, g1.trans f9 (fun _ _ q => q) (fun _ hi q => by unfold onlyB at q; omega)⟩
set_option maxHeartbeats 1000000 in
theorem pwrite_full (g N : Nat) (bs : List Bf) (t : Int) (x : ByteArray) (w : World) (h : Pl w g N bs) (hb : mayB t x = true) (hf : fullTo bs t N) (hn : ∀ i b, i < N → bs[i]? = some b → 0 < b.n) :
    Calls Tryz.prog 84 #[.pointer (some ⟨g, 0, none⟩), .int .i64 t, .string x] w fun e w' => e = .returned (.tuple #[span0, .int .i64 6]) ∧ Fr noB w w' := by
  have fX := ((Fr.refl noB w).alloc (.cells #[.int .i64 0, .int .i64 0, .string (ByteArray.mk #[])] 38)).alloc (.cells #[.int .i64 t, .int .i64 1, .string x] 38)
  have hr := fun w' => spanRight_any t x w'
  rw [hb] at hr
  have bX := Blk.new w 38 [.int .i64 0, .int .i64 0, .string (ByteArray.mk #[])]
  have bX1 := ((Fr.refl noB (w.alloc (.cells #[.int .i64 0, .int .i64 0, .string (ByteArray.mk #[])] 38))).alloc (.cells #[.int .i64 t, .int .i64 1, .string x] 38)).blk bX (fun q => q)
  go_enter Tryz.func84, Tryz.ntmps84
  go_wp2_with fail
  refine (hr _).mono ?_
  rintro e w1 ⟨rfl, f1⟩
  have g1 := fX.seqN f1
  have bR := f1.blk bX1 (fun q => q)
  have tR := Lib.hid (thereN (i := 0) (n := 3) bR (by simp))
  have hro : Calls Tryz.prog 106 #[.pointer (some ⟨g, 0, none⟩), .int .i64 t] w1 fun e w' => e = .returned (.pointer none) ∧ w' = w1 := (room_any g N bs t w1 (h.frN g1)).mono fun e w' ⟨v, he, hv, hw⟩ => by
    refine ⟨?_, hw⟩
    rcases hv with ⟨k, b, hk, hb, _, q⟩ | ⟨rfl, _⟩
    · exfalso
      have h1 := hn k b hk hb
      rcases q with ⟨q1, q2⟩ | ⟨q1, _⟩
      · have := hf k b hk hb q1; omega
      · omega
    · exact he
  clear hn hf
  clear hr fX f1 bX bX1
  go_wp2_with fail
  refine hro.mono ?_
  rintro e w2 ⟨rfl, hw2⟩
  obtain rfl := hw2.symm
  clear hro hw2
  go_wp2_with (first
    | (refine wpList_store_mid rfl 38 (.tmp 6) (.tmp 25) rfl w.heap.size 0 #[.int .i64 0, .int .i64 0, .string (ByteArray.mk #[])] rfl rfl tR.out size_span (one_span _ _ _) ?_; obtain ⟨w9, hw9, f9, h9⟩ := store3 w1 w.heap.size 0 (.int .i64 0) (.int .i64 0) (.string (ByteArray.mk #[])); rw [← hw9]; clear hw9; have h9 := h9 _ _ bR; have r0 : w9.cell? ⟨w.heap.size, 0, none⟩ = some (.int .i64 0) := h9.cell 0; have r1 : w9.cell? ⟨w.heap.size, 1, none⟩ = some (.int .i64 0) := h9.cell 1; have r2 : w9.cell? ⟨w.heap.size, 2, none⟩ = some (.string (ByteArray.mk #[])) := h9.cell 2; clear h9)
    | fail)
  try simp only [Exit.inBlock, Exit.then]
  refine bodyPost_ret (by simp [results, Tryz.results84, go_sem, r0, r1, r2]; try rfl) rfl ?_
  exact ⟨rfl, g1.trans f9 (fun _ _ q => q) (fun _ hi q => by unfold onlyB at q; omega)⟩
/-! ### There is room -/
theorem setS_0 {bs : List Bf} {N k : Nat} {b : Bf} (h : bs[k]? = some b) (t q : Int) (x : ByteArray) : setL (poolC bs N) (k * 10 + 0 * 3) [.int .i64 t, .int .i64 q, .string x] = poolC (bs.set k (b.at 0 ⟨t, q, x⟩)) N := by
  obtain ⟨n, ⟨at0, aq0, ax0⟩, ⟨bt0, bq0, bx0⟩, ⟨ct0, cq0, cx0⟩⟩ := b
  have e0 : poolC bs N = poolC (bs.set k ⟨n, ⟨at0, aq0, ax0⟩, ⟨bt0, bq0, bx0⟩, ⟨ct0, cq0, cx0⟩⟩) N := by rw [set_self h]
  unfold setL setL setL setL
  simp only [Nat.add_assoc, Nat.reduceAdd, Nat.reduceMul, Nat.add_zero]
  rw [e0]
  have s0 : (poolC (bs.set k ⟨n, ⟨at0, aq0, ax0⟩, ⟨bt0, bq0, bx0⟩, ⟨ct0, cq0, cx0⟩⟩) N).set (k * 10) (.int .i64 t) = poolC (bs.set k ⟨n, ⟨t, aq0, ax0⟩, ⟨bt0, bq0, bx0⟩, ⟨ct0, cq0, cx0⟩⟩) N := pool_step h 0 _ (by omega) rfl
  rw [s0]
  have s1 : (poolC (bs.set k ⟨n, ⟨t, aq0, ax0⟩, ⟨bt0, bq0, bx0⟩, ⟨ct0, cq0, cx0⟩⟩) N).set (k * 10 + 1) (.int .i64 q) = poolC (bs.set k ⟨n, ⟨t, q, ax0⟩, ⟨bt0, bq0, bx0⟩, ⟨ct0, cq0, cx0⟩⟩) N := pool_step h 1 _ (by omega) rfl
  rw [s1]
  have s2 : (poolC (bs.set k ⟨n, ⟨t, q, ax0⟩, ⟨bt0, bq0, bx0⟩, ⟨ct0, cq0, cx0⟩⟩) N).set (k * 10 + 2) (.string x) = poolC (bs.set k ⟨n, ⟨t, q, x⟩, ⟨bt0, bq0, bx0⟩, ⟨ct0, cq0, cx0⟩⟩) N := pool_step h 2 _ (by omega) rfl
  rw [s2]
  rfl
theorem setS_1 {bs : List Bf} {N k : Nat} {b : Bf} (h : bs[k]? = some b) (t q : Int) (x : ByteArray) : setL (poolC bs N) (k * 10 + 1 * 3) [.int .i64 t, .int .i64 q, .string x] = poolC (bs.set k (b.at 1 ⟨t, q, x⟩)) N := by
  obtain ⟨n, ⟨at0, aq0, ax0⟩, ⟨bt0, bq0, bx0⟩, ⟨ct0, cq0, cx0⟩⟩ := b
  have e0 : poolC bs N = poolC (bs.set k ⟨n, ⟨at0, aq0, ax0⟩, ⟨bt0, bq0, bx0⟩, ⟨ct0, cq0, cx0⟩⟩) N := by rw [set_self h]
  unfold setL setL setL setL
  simp only [Nat.add_assoc, Nat.reduceAdd, Nat.reduceMul, Nat.add_zero]
  rw [e0]
  have s0 : (poolC (bs.set k ⟨n, ⟨at0, aq0, ax0⟩, ⟨bt0, bq0, bx0⟩, ⟨ct0, cq0, cx0⟩⟩) N).set (k * 10 + 3) (.int .i64 t) = poolC (bs.set k ⟨n, ⟨at0, aq0, ax0⟩, ⟨t, bq0, bx0⟩, ⟨ct0, cq0, cx0⟩⟩) N := pool_step h 3 _ (by omega) rfl
  rw [s0]
  have s1 : (poolC (bs.set k ⟨n, ⟨at0, aq0, ax0⟩, ⟨t, bq0, bx0⟩, ⟨ct0, cq0, cx0⟩⟩) N).set (k * 10 + 4) (.int .i64 q) = poolC (bs.set k ⟨n, ⟨at0, aq0, ax0⟩, ⟨t, q, bx0⟩, ⟨ct0, cq0, cx0⟩⟩) N := pool_step h 4 _ (by omega) rfl
  rw [s1]
  have s2 : (poolC (bs.set k ⟨n, ⟨at0, aq0, ax0⟩, ⟨t, q, bx0⟩, ⟨ct0, cq0, cx0⟩⟩) N).set (k * 10 + 5) (.string x) = poolC (bs.set k ⟨n, ⟨at0, aq0, ax0⟩, ⟨t, q, x⟩, ⟨ct0, cq0, cx0⟩⟩) N := pool_step h 5 _ (by omega) rfl
  rw [s2]
  rfl
theorem setS_2 {bs : List Bf} {N k : Nat} {b : Bf} (h : bs[k]? = some b) (t q : Int) (x : ByteArray) : setL (poolC bs N) (k * 10 + 2 * 3) [.int .i64 t, .int .i64 q, .string x] = poolC (bs.set k (b.at 2 ⟨t, q, x⟩)) N := by
  obtain ⟨n, ⟨at0, aq0, ax0⟩, ⟨bt0, bq0, bx0⟩, ⟨ct0, cq0, cx0⟩⟩ := b
  have e0 : poolC bs N = poolC (bs.set k ⟨n, ⟨at0, aq0, ax0⟩, ⟨bt0, bq0, bx0⟩, ⟨ct0, cq0, cx0⟩⟩) N := by rw [set_self h]
  unfold setL setL setL setL
  simp only [Nat.add_assoc, Nat.reduceAdd, Nat.reduceMul, Nat.add_zero]
  rw [e0]
  have s0 : (poolC (bs.set k ⟨n, ⟨at0, aq0, ax0⟩, ⟨bt0, bq0, bx0⟩, ⟨ct0, cq0, cx0⟩⟩) N).set (k * 10 + 6) (.int .i64 t) = poolC (bs.set k ⟨n, ⟨at0, aq0, ax0⟩, ⟨bt0, bq0, bx0⟩, ⟨t, cq0, cx0⟩⟩) N := pool_step h 6 _ (by omega) rfl
  rw [s0]
  have s1 : (poolC (bs.set k ⟨n, ⟨at0, aq0, ax0⟩, ⟨bt0, bq0, bx0⟩, ⟨t, cq0, cx0⟩⟩) N).set (k * 10 + 7) (.int .i64 q) = poolC (bs.set k ⟨n, ⟨at0, aq0, ax0⟩, ⟨bt0, bq0, bx0⟩, ⟨t, q, cx0⟩⟩) N := pool_step h 7 _ (by omega) rfl
  rw [s1]
  have s2 : (poolC (bs.set k ⟨n, ⟨at0, aq0, ax0⟩, ⟨bt0, bq0, bx0⟩, ⟨t, q, cx0⟩⟩) N).set (k * 10 + 8) (.string x) = poolC (bs.set k ⟨n, ⟨at0, aq0, ax0⟩, ⟨bt0, bq0, bx0⟩, ⟨t, q, x⟩⟩) N := pool_step h 8 _ (by omega) rfl
  rw [s2]
  rfl
theorem storeS {w : World} {g N k i : Nat} {bs : List Bf} {b : Bf} (h : Pl w g N bs) (hb : bs[k]? = some b) (hi : i < 3) (t q : Int) (x : ByteArray) : ∃ w2, w2 = w.setCells g (k * 10 + i * 3) (#[.int .i64 t, .int .i64 q, .string x] : Array Value).toList ∧ Fr (onlyB g) w w2 ∧ Pl w2 g N (bs.set k (b.at i ⟨t, q, x⟩)) := by
  refine ⟨_, rfl, fr_setCells _ _ _, ?_, by rw [List.length_set]; exact h.len, h.n1, h.n16, fun c hc => ?_⟩
  · have := Blk.setCells (w := w) [.int .i64 t, .int .i64 q, .string x] (k * 10 + i * 3) _ _ h.blk
    have e : setL (poolC bs N) (k * 10 + i * 3) [.int .i64 t, .int .i64 q, .string x] = poolC (bs.set k (b.at i ⟨t, q, x⟩)) N := by
      rcases (show i = 0 ∨ i = 1 ∨ i = 2 by omega) with rfl | rfl | rfl
      · exact setS_0 hb t q x
      · exact setS_1 hb t q x
      · exact setS_2 hb t q x
    rw [e] at this
    exact this
  · rcases List.mem_or_eq_of_mem_set hc with q | q
    · exact h.n3 c q
    · have := h.n3 b (List.mem_of_getElem? hb)
      rw [q]
      rcases (show i = 0 ∨ i = 1 ∨ i = 2 by omega) with rfl | rfl | rfl
      · exact this
      · exact this
      · exact this
theorem storeN {w : World} {g N k : Nat} {bs : List Bf} {b : Bf} (h : Pl w g N bs) (hb : bs[k]? = some b) (m : Nat) (hm : m ≤ 3) : Pl (w.setCell ⟨g, k * 10 + 9, none⟩ (.int .i64 m)) g N (bs.set k { b with n := m }) := by
  refine ⟨?_, by rw [List.length_set]; exact h.len, h.n1, h.n16, fun c hc => ?_⟩
  · rw [← poolC_set (b := b) (y := { b with n := m }) hb 9 (.int .i64 m) (by omega) rfl]
    exact h.blk.set _ _
  · rcases List.mem_or_eq_of_mem_set hc with q | q
    · exact h.n3 c q
    · rw [q]; exact hm
theorem thereS {w : World} {g N k i : Nat} {bs : List Bf} (h : Pl w g N bs) (hk : k < 16) (hi : i < 3) : w.there g (k * 10 + i * 3) 3 := fun j hj => by
  have := thereB h hk (i * 3 + j) (by omega)
  rw [show k * 10 + i * 3 + j = k * 10 + (i * 3 + j) by omega]
  exact this
end Go.Proofs.YtppmednmcbjafaaGreat
