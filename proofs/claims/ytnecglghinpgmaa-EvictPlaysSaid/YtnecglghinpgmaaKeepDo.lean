/-
  The law's calls: do.
-/
import Derived.Test.YtnecglghinpgmaaKeepOp
set_option linter.unusedVariables false
set_option linter.unusedSimpArgs false
namespace Go.Proofs.Ytnecglghinpgmaa
open Go.RowKit Go Go.Maps Go.Lib

set_option maxHeartbeats 2000000 in
set_option maxRecDepth 10000 in
theorem dnil_1 (m : OpE) (w : World) (hk : m.k = 1) : Calls Try.prog 12 #[.pointer none, .agg #[.int .i64 m.k, .int .i64 m.t, .string m.s]] w fun e w' => e = .returned (.tuple #[span0, .int .i64 9]) ∧ Fr noB w w' := by
  have fX := ((Fr.refl noB w).alloc (.cells #[.int .i64 m.k, .int .i64 m.t, .string m.s] 33)).alloc (.cells #[.int .i64 0, .int .i64 0, .string (ByteArray.mk #[])] 35)
  have bX := Blk.new (w.alloc (.cells #[.int .i64 m.k, .int .i64 m.t, .string m.s] 33)) 35 [.int .i64 0, .int .i64 0, .string (ByteArray.mk #[])]
  have s1 : (w.alloc (.cells #[.int .i64 m.k, .int .i64 m.t, .string m.s] 33)).heap.size = w.heap.size + 1 := by simp
  rw [s1] at bX
  have d1 : (m.k == 1) = true := beq_iff_eq.2 hk
  have hc := fun w' => kwrite_nil m.t m.s w'
  replace hk := Lib.hid hk
  go_enter Try.func12, Try.ntmps12
  go_wp2_with fail
  refine (hc _).mono ?_
  rintro e w2 ⟨rfl, f2⟩
  have g2 := fX.seqN f2
  have bR := Lib.hid (f2.blk bX (fun q => q))
  have tR := Lib.hid (thereN (i := 0) (n := 3) bR.out (by simp))
  clear hc f2 fX
  go_wp2_with (first
    | (refine wpList_store_mid rfl 35 (.tmp 4) (.tmp 16) rfl (w.heap.size + 1) 0 #[.int .i64 0, .int .i64 0, .string (ByteArray.mk #[])] rfl rfl tR.out size_span (one_span _ _ _) ?_; obtain ⟨w9, hw9, f9, h9⟩ := store3 w2 (w.heap.size + 1) 0 (.int .i64 0) (.int .i64 0) (.string (ByteArray.mk #[])); rw [← hw9]; clear hw9; have h9 := h9 _ _ bR.out; have r0 : w9.cell? ⟨w.heap.size + 1, 0, none⟩ = some (.int .i64 0) := h9.cell 0; have r1 : w9.cell? ⟨w.heap.size + 1, 1, none⟩ = some (.int .i64 0) := h9.cell 1; have r2 : w9.cell? ⟨w.heap.size + 1, 2, none⟩ = some (.string (ByteArray.mk #[])) := h9.cell 2; clear h9)
    | fail)
  try simp only [Exit.inBlock, Exit.then]
  refine bodyPost_ret (by simp [results, Try.results12, go_sem, r0, r1, r2]; try rfl) rfl ?_
  exact ⟨rfl, g2.trans f9 (fun _ _ q => q) (fun _ hi q => by unfold onlyB at q; omega)⟩
set_option maxHeartbeats 2000000 in
set_option maxRecDepth 10000 in
theorem dnil_2 (m : OpE) (w : World) (hk : m.k = 2) : Calls Try.prog 12 #[.pointer none, .agg #[.int .i64 m.k, .int .i64 m.t, .string m.s]] w fun e w' => e = .returned (.tuple #[span0, .int .i64 0]) ∧ Fr noB w w' := by
  have fX := ((Fr.refl noB w).alloc (.cells #[.int .i64 m.k, .int .i64 m.t, .string m.s] 33)).alloc (.cells #[.int .i64 0, .int .i64 0, .string (ByteArray.mk #[])] 35)
  have bX := Blk.new (w.alloc (.cells #[.int .i64 m.k, .int .i64 m.t, .string m.s] 33)) 35 [.int .i64 0, .int .i64 0, .string (ByteArray.mk #[])]
  have s1 : (w.alloc (.cells #[.int .i64 m.k, .int .i64 m.t, .string m.s] 33)).heap.size = w.heap.size + 1 := by simp
  rw [s1] at bX
  have d1 : (m.k == 1) = false := beq_eq_false_iff_ne.2 (by omega)
  have d2 : (m.k == 2) = true := beq_iff_eq.2 hk
  have hc := fun w' => kpin_nil m.t w'
  replace hk := Lib.hid hk
  go_enter Try.func12, Try.ntmps12
  go_wp2_with fail
  refine (hc _).mono ?_
  rintro e w2 ⟨rfl, f2⟩
  have g2 := fX.seqN f2
  have bR := Lib.hid (f2.blk bX (fun q => q))
  have tR := Lib.hid (thereN (i := 0) (n := 3) bR.out (by simp))
  clear hc f2 fX
  go_wp2_with (first
    | (refine wpList_store_mid rfl 35 (.tmp 4) (.tmp 36) rfl (w.heap.size + 1) 0 #[.int .i64 0, .int .i64 0, .string (ByteArray.mk #[])] rfl rfl tR.out size_span (one_span _ _ _) ?_; obtain ⟨w9, hw9, f9, h9⟩ := store3 w2 (w.heap.size + 1) 0 (.int .i64 0) (.int .i64 0) (.string (ByteArray.mk #[])); rw [← hw9]; clear hw9; have h9 := h9 _ _ bR.out; have r0 : w9.cell? ⟨w.heap.size + 1, 0, none⟩ = some (.int .i64 0) := h9.cell 0; have r1 : w9.cell? ⟨w.heap.size + 1, 1, none⟩ = some (.int .i64 0) := h9.cell 1; have r2 : w9.cell? ⟨w.heap.size + 1, 2, none⟩ = some (.string (ByteArray.mk #[])) := h9.cell 2; clear h9)
    | fail)
  try simp only [Exit.inBlock, Exit.then]
  refine bodyPost_ret (by simp [results, Try.results12, go_sem, r0, r1, r2]; try rfl) rfl ?_
  exact ⟨rfl, g2.trans f9 (fun _ _ q => q) (fun _ hi q => by unfold onlyB at q; omega)⟩
set_option maxHeartbeats 2000000 in
set_option maxRecDepth 10000 in
theorem dnil_3 (m : OpE) (w : World) (hk : m.k = 3) : Calls Try.prog 12 #[.pointer none, .agg #[.int .i64 m.k, .int .i64 m.t, .string m.s]] w fun e w' => e = .returned (.tuple #[span0, .int .i64 0]) ∧ Fr noB w w' := by
  have fX := ((Fr.refl noB w).alloc (.cells #[.int .i64 m.k, .int .i64 m.t, .string m.s] 33)).alloc (.cells #[.int .i64 0, .int .i64 0, .string (ByteArray.mk #[])] 35)
  have bX := Blk.new (w.alloc (.cells #[.int .i64 m.k, .int .i64 m.t, .string m.s] 33)) 35 [.int .i64 0, .int .i64 0, .string (ByteArray.mk #[])]
  have s1 : (w.alloc (.cells #[.int .i64 m.k, .int .i64 m.t, .string m.s] 33)).heap.size = w.heap.size + 1 := by simp
  rw [s1] at bX
  have d1 : (m.k == 1) = false := beq_eq_false_iff_ne.2 (by omega)
  have d2 : (m.k == 2) = false := beq_eq_false_iff_ne.2 (by omega)
  have d3 : (m.k == 3) = true := beq_iff_eq.2 hk
  have hc := fun w' => kunpin_nil m.t w'
  replace hk := Lib.hid hk
  go_enter Try.func12, Try.ntmps12
  go_wp2_with fail
  refine (hc _).mono ?_
  rintro e w2 ⟨rfl, f2⟩
  have g2 := fX.seqN f2
  have bR := Lib.hid (f2.blk bX (fun q => q))
  have tR := Lib.hid (thereN (i := 0) (n := 3) bR.out (by simp))
  clear hc f2 fX
  go_wp2_with (first
    | (refine wpList_store_mid rfl 35 (.tmp 4) (.tmp 36) rfl (w.heap.size + 1) 0 #[.int .i64 0, .int .i64 0, .string (ByteArray.mk #[])] rfl rfl tR.out size_span (one_span _ _ _) ?_; obtain ⟨w9, hw9, f9, h9⟩ := store3 w2 (w.heap.size + 1) 0 (.int .i64 0) (.int .i64 0) (.string (ByteArray.mk #[])); rw [← hw9]; clear hw9; have h9 := h9 _ _ bR.out; have r0 : w9.cell? ⟨w.heap.size + 1, 0, none⟩ = some (.int .i64 0) := h9.cell 0; have r1 : w9.cell? ⟨w.heap.size + 1, 1, none⟩ = some (.int .i64 0) := h9.cell 1; have r2 : w9.cell? ⟨w.heap.size + 1, 2, none⟩ = some (.string (ByteArray.mk #[])) := h9.cell 2; clear h9)
    | fail)
  try simp only [Exit.inBlock, Exit.then]
  refine bodyPost_ret (by simp [results, Try.results12, go_sem, r0, r1, r2]; try rfl) rfl ?_
  exact ⟨rfl, g2.trans f9 (fun _ _ q => q) (fun _ hi q => by unfold onlyB at q; omega)⟩
set_option maxHeartbeats 2000000 in
set_option maxRecDepth 10000 in
theorem dnil_4 (m : OpE) (w : World) (hk : m.k = 4) : Calls Try.prog 12 #[.pointer none, .agg #[.int .i64 m.k, .int .i64 m.t, .string m.s]] w fun e w' => e = .returned (.tuple #[span0, .int .i64 0]) ∧ Fr noB w w' := by
  have fX := ((Fr.refl noB w).alloc (.cells #[.int .i64 m.k, .int .i64 m.t, .string m.s] 33)).alloc (.cells #[.int .i64 0, .int .i64 0, .string (ByteArray.mk #[])] 35)
  have bX := Blk.new (w.alloc (.cells #[.int .i64 m.k, .int .i64 m.t, .string m.s] 33)) 35 [.int .i64 0, .int .i64 0, .string (ByteArray.mk #[])]
  have s1 : (w.alloc (.cells #[.int .i64 m.k, .int .i64 m.t, .string m.s] 33)).heap.size = w.heap.size + 1 := by simp
  rw [s1] at bX
  have d1 : (m.k == 1) = false := beq_eq_false_iff_ne.2 (by omega)
  have d2 : (m.k == 2) = false := beq_eq_false_iff_ne.2 (by omega)
  have d3 : (m.k == 3) = false := beq_eq_false_iff_ne.2 (by omega)
  have d4 : (m.k == 4) = true := beq_iff_eq.2 hk
  have hc := fun w' => kforget_nil m.t w'
  replace hk := Lib.hid hk
  go_enter Try.func12, Try.ntmps12
  go_wp2_with fail
  refine (hc _).mono ?_
  rintro e w2 ⟨rfl, f2⟩
  have g2 := fX.seqN f2
  have bR := Lib.hid (f2.blk bX (fun q => q))
  have tR := Lib.hid (thereN (i := 0) (n := 3) bR.out (by simp))
  clear hc f2 fX
  go_wp2_with (first
    | (refine wpList_store_mid rfl 35 (.tmp 4) (.tmp 36) rfl (w.heap.size + 1) 0 #[.int .i64 0, .int .i64 0, .string (ByteArray.mk #[])] rfl rfl tR.out size_span (one_span _ _ _) ?_; obtain ⟨w9, hw9, f9, h9⟩ := store3 w2 (w.heap.size + 1) 0 (.int .i64 0) (.int .i64 0) (.string (ByteArray.mk #[])); rw [← hw9]; clear hw9; have h9 := h9 _ _ bR.out; have r0 : w9.cell? ⟨w.heap.size + 1, 0, none⟩ = some (.int .i64 0) := h9.cell 0; have r1 : w9.cell? ⟨w.heap.size + 1, 1, none⟩ = some (.int .i64 0) := h9.cell 1; have r2 : w9.cell? ⟨w.heap.size + 1, 2, none⟩ = some (.string (ByteArray.mk #[])) := h9.cell 2; clear h9)
    | fail)
  try simp only [Exit.inBlock, Exit.then]
  refine bodyPost_ret (by simp [results, Try.results12, go_sem, r0, r1, r2]; try rfl) rfl ?_
  exact ⟨rfl, g2.trans f9 (fun _ _ q => q) (fun _ hi q => by unfold onlyB at q; omega)⟩
set_option maxHeartbeats 2000000 in
set_option maxRecDepth 10000 in
theorem dnil_0 (m : OpE) (w : World) (h1 : m.k ≠ 1) (h2 : m.k ≠ 2) (h3 : m.k ≠ 3) (h4 : m.k ≠ 4) : Calls Try.prog 12 #[.pointer none, .agg #[.int .i64 m.k, .int .i64 m.t, .string m.s]] w fun e w' => e = .returned (.tuple #[span0, .int .i64 0]) ∧ Fr noB w w' := by
  have fX := ((Fr.refl noB w).alloc (.cells #[.int .i64 m.k, .int .i64 m.t, .string m.s] 33)).alloc (.cells #[.int .i64 0, .int .i64 0, .string (ByteArray.mk #[])] 35)
  have bX := Blk.new (w.alloc (.cells #[.int .i64 m.k, .int .i64 m.t, .string m.s] 33)) 35 [.int .i64 0, .int .i64 0, .string (ByteArray.mk #[])]
  have s1 : (w.alloc (.cells #[.int .i64 m.k, .int .i64 m.t, .string m.s] 33)).heap.size = w.heap.size + 1 := by simp
  rw [s1] at bX
  have d1 : (m.k == 1) = false := beq_eq_false_iff_ne.2 (by omega)
  have d2 : (m.k == 2) = false := beq_eq_false_iff_ne.2 (by omega)
  have d3 : (m.k == 3) = false := beq_eq_false_iff_ne.2 (by omega)
  have d4 : (m.k == 4) = false := beq_eq_false_iff_ne.2 (by omega)
  clear h1 h2 h3 h4
  go_enter Try.func12, Try.ntmps12
  have bR := Lib.hid bX
  have tR := Lib.hid (thereN (i := 0) (n := 3) bR.out (by simp))
  obtain ⟨w2, hw2⟩ : ∃ w2, w2 = ((w.alloc (.cells #[.int .i64 m.k, .int .i64 m.t, .string m.s] 33)).alloc (.cells #[.int .i64 0, .int .i64 0, .string (ByteArray.mk #[])] 35)) := ⟨_, rfl⟩
  rw [← hw2] at fX bR tR
  go_wp2_with (first
    | (rw [← hw2]; refine wpList_store_mid rfl 35 (.tmp 4) (.tmp 36) rfl (w.heap.size + 1) 0 #[.int .i64 0, .int .i64 0, .string (ByteArray.mk #[])] rfl rfl tR.out size_span (one_span _ _ _) ?_; obtain ⟨w9, hw9, f9, h9⟩ := store3 w2 (w.heap.size + 1) 0 (.int .i64 0) (.int .i64 0) (.string (ByteArray.mk #[])); rw [← hw9]; clear hw9; have h9 := h9 _ _ bR.out; have r0 : w9.cell? ⟨w.heap.size + 1, 0, none⟩ = some (.int .i64 0) := h9.cell 0; have r1 : w9.cell? ⟨w.heap.size + 1, 1, none⟩ = some (.int .i64 0) := h9.cell 1; have r2 : w9.cell? ⟨w.heap.size + 1, 2, none⟩ = some (.string (ByteArray.mk #[])) := h9.cell 2; clear h9)
    | fail)
  first
    | (try simp only [Exit.inBlock, Exit.then]
       refine bodyPost_ret (by simp [results, Try.results12, go_sem, r0, r1, r2]; try rfl) rfl ?_
       exact ⟨rfl, fX.trans f9 (fun _ _ q => q) (fun _ hi q => by unfold onlyB at q; omega)⟩)
    | (go_returns
       exact ⟨rfl, by first | exact fX | (rw [hw2] at fX; exact fX)⟩)
    | fail
theorem dnil_any (m : OpE) (w : World) : Calls Try.prog 12 #[.pointer none, .agg #[.int .i64 m.k, .int .i64 m.t, .string m.s]] w fun e w' => e = .returned (.tuple #[span0, .int .i64 (if m.k = 1 then 9 else 0)]) ∧ Fr noB w w' := by
  by_cases h1 : m.k = 1
  · rw [if_pos h1]; exact dnil_1 m w h1
  rw [if_neg h1]
  by_cases h2 : m.k = 2
  · exact dnil_2 m w h2
  by_cases h3 : m.k = 3
  · exact dnil_3 m w h3
  by_cases h4 : m.k = 4
  · exact dnil_4 m w h4
  exact dnil_0 m w h1 h2 h3 h4
section
variable (k g bp bl B N wc : Nat) (wa : Option Addr) (K : KS) (m : OpE) (w : World)
/-- a keeper behind a step, the result laid in a new block -/
theorem kto_ret2 {w w2 w3 w9 : World} {k g bp bl B N r : Nat} {wa : Option Addr} {K' : KS} (f : Fr noB w w2) (hk : KTo w2 w3 k g bp bl B N wa K') (f9 : Fr (onlyB r) w3 w9) (hr : w.heap.size ≤ r) (hlow : ∀ q, kpS k g bp bl wa q → q < w.heap.size) (hlt : r < w2.heap.size) : KTo w w9 k g bp bl B N wa K' := by
  obtain ⟨wa', wc', h, F, hs⟩ := hk
  refine ⟨wa', wc', h.fr f9 (fun q hq e => ?_), (f.trans F (fun _ _ q => False.elim q) (fun _ _ q => q)).trans f9 (fun _ _ q => q) (fun q hq e => by unfold onlyB at e; omega), fun q hq hk => hs q (by have := f.size; omega) hk⟩
  unfold onlyB at e
  subst e
  have := hlow _ (hs _ hlt hq)
  omega
set_option maxHeartbeats 2000000 in
set_option maxRecDepth 10000 in
theorem dk_1 (h : Kp w k g bp bl B N wa wc K) (ht : okI m.t) (hzp : K.pins.length < 1000000) (hz : K.loss.length < 1000000) (hzg : K.gone.length < 1000000) (hk : m.k = 1) : Calls Try.prog 12 #[.pointer (some ⟨k, 0, none⟩), .agg #[.int .i64 m.k, .int .i64 m.t, .string m.s]] w fun e w' => e = .returned (.tuple #[spV (K.ws N m.t m.s), .int .i64 (K.we N m.t m.s)]) ∧ KTo w w' k g bp bl B N wa (K.wr N m.t m.s) := by
  have fX := ((Fr.refl noB w).alloc (.cells #[.int .i64 m.k, .int .i64 m.t, .string m.s] 33)).alloc (.cells #[.int .i64 0, .int .i64 0, .string (ByteArray.mk #[])] 35)
  have bX := Blk.new (w.alloc (.cells #[.int .i64 m.k, .int .i64 m.t, .string m.s] 33)) 35 [.int .i64 0, .int .i64 0, .string (ByteArray.mk #[])]
  have s1 : (w.alloc (.cells #[.int .i64 m.k, .int .i64 m.t, .string m.s] 33)).heap.size = w.heap.size + 1 := by simp
  rw [s1] at bX
  have d1 : (m.k == 1) = true := beq_iff_eq.2 hk
  have hX := h.frN fX
  have hlow := Lib.hid (fun q => h.low (q := q))
  have hc := kwrite_any k g bp bl B N wc wa K m.t m.s _ hX hz hzg
  replace hk := Lib.hid hk
  unfold spV at *
  have hlt : w.heap.size + 1 < ((w.alloc (.cells #[.int .i64 m.k, .int .i64 m.t, .string m.s] 33)).alloc (.cells #[.int .i64 0, .int .i64 0, .string (ByteArray.mk #[])] 35)).heap.size := bX.lt
  clear h hX
  generalize K.ws N m.t m.s = sp at *
  generalize K.we N m.t m.s = er at *
  generalize K.wr N m.t m.s = K2 at *
  go_enter Try.func12, Try.ntmps12
  go_wp2_with fail
  refine hc.mono ?_
  rintro e w2 ⟨rfl, kt⟩
  have bR := Lib.hid (by obtain ⟨_, _, _, F, _⟩ := kt; exact F.blk bX (fun q => by have := hlow.out _ q; omega))
  have tR := Lib.hid (thereN (i := 0) (n := 3) bR.out (by simp))
  replace kt := Lib.hid kt
  clear hc
  go_wp2_with (first
    | (refine wpList_store_mid rfl 35 (.tmp 4) (.tmp 16) rfl (w.heap.size + 1) 0 #[.int .i64 sp.t, .int .i64 sp.q, .string sp.x] rfl rfl tR.out size_span (one_span _ _ _) ?_; obtain ⟨w9, hw9, f9, h9⟩ := store3 w2 (w.heap.size + 1) 0 (.int .i64 sp.t) (.int .i64 sp.q) (.string sp.x); rw [← hw9]; clear hw9; have h9 := h9 _ _ bR.out; have r0 : w9.cell? ⟨w.heap.size + 1, 0, none⟩ = some (.int .i64 sp.t) := h9.cell 0; have r1 : w9.cell? ⟨w.heap.size + 1, 1, none⟩ = some (.int .i64 sp.q) := h9.cell 1; have r2 : w9.cell? ⟨w.heap.size + 1, 2, none⟩ = some (.string sp.x) := h9.cell 2; clear h9)
    | fail)
  try simp only [Exit.inBlock, Exit.then]
  refine bodyPost_ret (by simp [results, Try.results12, go_sem, r0, r1, r2]; try rfl) rfl ?_
  exact ⟨rfl, kto_ret2 fX kt.out f9 (by omega) hlow.out hlt⟩
set_option maxHeartbeats 2000000 in
set_option maxRecDepth 10000 in
theorem dk_2 (h : Kp w k g bp bl B N wa wc K) (ht : okI m.t) (hzp : K.pins.length < 1000000) (hz : K.loss.length < 1000000) (hzg : K.gone.length < 1000000) (hk : m.k = 2) : Calls Try.prog 12 #[.pointer (some ⟨k, 0, none⟩), .agg #[.int .i64 m.k, .int .i64 m.t, .string m.s]] w fun e w' => e = .returned (.tuple #[span0, .int .i64 0]) ∧ KTo w w' k g bp bl B N wa { K with pins := outL K.pins m.t ++ [m.t] } := by
  have fX := ((Fr.refl noB w).alloc (.cells #[.int .i64 m.k, .int .i64 m.t, .string m.s] 33)).alloc (.cells #[.int .i64 0, .int .i64 0, .string (ByteArray.mk #[])] 35)
  have bX := Blk.new (w.alloc (.cells #[.int .i64 m.k, .int .i64 m.t, .string m.s] 33)) 35 [.int .i64 0, .int .i64 0, .string (ByteArray.mk #[])]
  have s1 : (w.alloc (.cells #[.int .i64 m.k, .int .i64 m.t, .string m.s] 33)).heap.size = w.heap.size + 1 := by simp
  rw [s1] at bX
  have d1 : (m.k == 1) = false := beq_eq_false_iff_ne.2 (by omega)
  have d2 : (m.k == 2) = true := beq_iff_eq.2 hk
  have hX := h.frN fX
  have hlow := Lib.hid (fun q => h.low (q := q))
  have hc := kpin_any k g bp bl B N wc wa K m.t _ hX ht hzp
  replace hk := Lib.hid hk
  have hlt : w.heap.size + 1 < ((w.alloc (.cells #[.int .i64 m.k, .int .i64 m.t, .string m.s] 33)).alloc (.cells #[.int .i64 0, .int .i64 0, .string (ByteArray.mk #[])] 35)).heap.size := bX.lt
  clear h hX
  go_enter Try.func12, Try.ntmps12
  go_wp2_with fail
  refine hc.mono ?_
  rintro e w2 ⟨rfl, kt⟩
  have bR := Lib.hid (by obtain ⟨_, _, _, F, _⟩ := kt; exact F.blk bX (fun q => by have := hlow.out _ q; omega))
  have tR := Lib.hid (thereN (i := 0) (n := 3) bR.out (by simp))
  replace kt := Lib.hid kt
  clear hc
  go_wp2_with (first
    | (refine wpList_store_mid rfl 35 (.tmp 4) (.tmp 36) rfl (w.heap.size + 1) 0 #[.int .i64 0, .int .i64 0, .string (ByteArray.mk #[])] rfl rfl tR.out size_span (one_span _ _ _) ?_; obtain ⟨w9, hw9, f9, h9⟩ := store3 w2 (w.heap.size + 1) 0 (.int .i64 0) (.int .i64 0) (.string (ByteArray.mk #[])); rw [← hw9]; clear hw9; have h9 := h9 _ _ bR.out; have r0 : w9.cell? ⟨w.heap.size + 1, 0, none⟩ = some (.int .i64 0) := h9.cell 0; have r1 : w9.cell? ⟨w.heap.size + 1, 1, none⟩ = some (.int .i64 0) := h9.cell 1; have r2 : w9.cell? ⟨w.heap.size + 1, 2, none⟩ = some (.string (ByteArray.mk #[])) := h9.cell 2; clear h9)
    | fail)
  try simp only [Exit.inBlock, Exit.then]
  refine bodyPost_ret (by simp [results, Try.results12, go_sem, r0, r1, r2]; try rfl) rfl ?_
  exact ⟨rfl, kto_ret2 fX kt.out f9 (by omega) hlow.out hlt⟩
set_option maxHeartbeats 2000000 in
set_option maxRecDepth 10000 in
theorem dk_3 (h : Kp w k g bp bl B N wa wc K) (ht : okI m.t) (hzp : K.pins.length < 1000000) (hz : K.loss.length < 1000000) (hzg : K.gone.length < 1000000) (hk : m.k = 3) : Calls Try.prog 12 #[.pointer (some ⟨k, 0, none⟩), .agg #[.int .i64 m.k, .int .i64 m.t, .string m.s]] w fun e w' => e = .returned (.tuple #[span0, .int .i64 0]) ∧ KTo w w' k g bp bl B N wa { K with pins := outL K.pins m.t } := by
  have fX := ((Fr.refl noB w).alloc (.cells #[.int .i64 m.k, .int .i64 m.t, .string m.s] 33)).alloc (.cells #[.int .i64 0, .int .i64 0, .string (ByteArray.mk #[])] 35)
  have bX := Blk.new (w.alloc (.cells #[.int .i64 m.k, .int .i64 m.t, .string m.s] 33)) 35 [.int .i64 0, .int .i64 0, .string (ByteArray.mk #[])]
  have s1 : (w.alloc (.cells #[.int .i64 m.k, .int .i64 m.t, .string m.s] 33)).heap.size = w.heap.size + 1 := by simp
  rw [s1] at bX
  have d1 : (m.k == 1) = false := beq_eq_false_iff_ne.2 (by omega)
  have d2 : (m.k == 2) = false := beq_eq_false_iff_ne.2 (by omega)
  have d3 : (m.k == 3) = true := beq_iff_eq.2 hk
  have hX := h.frN fX
  have hlow := Lib.hid (fun q => h.low (q := q))
  have hc : Calls Try.prog 33 _ _ fun e w' => e = .returned (.tuple #[]) ∧ KTo _ w' k g bp bl B N wa _ := (kunpin_any k g bp bl B N wc wa K m.t _ hX ht).mono fun e w' ⟨he, hk, f⟩ => ⟨he, KTo.of hk (f.mono (fun q _ e => Or.inr (Or.inr (Or.inl e))))⟩
  replace hk := Lib.hid hk
  have hlt : w.heap.size + 1 < ((w.alloc (.cells #[.int .i64 m.k, .int .i64 m.t, .string m.s] 33)).alloc (.cells #[.int .i64 0, .int .i64 0, .string (ByteArray.mk #[])] 35)).heap.size := bX.lt
  clear h hX
  go_enter Try.func12, Try.ntmps12
  go_wp2_with fail
  refine hc.mono ?_
  rintro e w2 ⟨rfl, kt⟩
  have bR := Lib.hid (by obtain ⟨_, _, _, F, _⟩ := kt; exact F.blk bX (fun q => by have := hlow.out _ q; omega))
  have tR := Lib.hid (thereN (i := 0) (n := 3) bR.out (by simp))
  replace kt := Lib.hid kt
  clear hc
  go_wp2_with (first
    | (refine wpList_store_mid rfl 35 (.tmp 4) (.tmp 36) rfl (w.heap.size + 1) 0 #[.int .i64 0, .int .i64 0, .string (ByteArray.mk #[])] rfl rfl tR.out size_span (one_span _ _ _) ?_; obtain ⟨w9, hw9, f9, h9⟩ := store3 w2 (w.heap.size + 1) 0 (.int .i64 0) (.int .i64 0) (.string (ByteArray.mk #[])); rw [← hw9]; clear hw9; have h9 := h9 _ _ bR.out; have r0 : w9.cell? ⟨w.heap.size + 1, 0, none⟩ = some (.int .i64 0) := h9.cell 0; have r1 : w9.cell? ⟨w.heap.size + 1, 1, none⟩ = some (.int .i64 0) := h9.cell 1; have r2 : w9.cell? ⟨w.heap.size + 1, 2, none⟩ = some (.string (ByteArray.mk #[])) := h9.cell 2; clear h9)
    | fail)
  try simp only [Exit.inBlock, Exit.then]
  refine bodyPost_ret (by simp [results, Try.results12, go_sem, r0, r1, r2]; try rfl) rfl ?_
  exact ⟨rfl, kto_ret2 fX kt.out f9 (by omega) hlow.out hlt⟩
set_option maxHeartbeats 2000000 in
set_option maxRecDepth 10000 in
theorem dk_4 (h : Kp w k g bp bl B N wa wc K) (ht : okI m.t) (hzp : K.pins.length < 1000000) (hz : K.loss.length < 1000000) (hzg : K.gone.length < 1000000) (hk : m.k = 4) : Calls Try.prog 12 #[.pointer (some ⟨k, 0, none⟩), .agg #[.int .i64 m.k, .int .i64 m.t, .string m.s]] w fun e w' => e = .returned (.tuple #[span0, .int .i64 0]) ∧ KTo w w' k g bp bl B N wa { K with P := without K.P m.t, pins := outL K.pins m.t, loss := outL K.loss m.t } := by
  have fX := ((Fr.refl noB w).alloc (.cells #[.int .i64 m.k, .int .i64 m.t, .string m.s] 33)).alloc (.cells #[.int .i64 0, .int .i64 0, .string (ByteArray.mk #[])] 35)
  have bX := Blk.new (w.alloc (.cells #[.int .i64 m.k, .int .i64 m.t, .string m.s] 33)) 35 [.int .i64 0, .int .i64 0, .string (ByteArray.mk #[])]
  have s1 : (w.alloc (.cells #[.int .i64 m.k, .int .i64 m.t, .string m.s] 33)).heap.size = w.heap.size + 1 := by simp
  rw [s1] at bX
  have d1 : (m.k == 1) = false := beq_eq_false_iff_ne.2 (by omega)
  have d2 : (m.k == 2) = false := beq_eq_false_iff_ne.2 (by omega)
  have d3 : (m.k == 3) = false := beq_eq_false_iff_ne.2 (by omega)
  have d4 : (m.k == 4) = true := beq_iff_eq.2 hk
  have hX := h.frN fX
  have hlow := Lib.hid (fun q => h.low (q := q))
  have hc := kforget_any k g bp bl B N wc wa K m.t _ hX ht
  replace hk := Lib.hid hk
  have hlt : w.heap.size + 1 < ((w.alloc (.cells #[.int .i64 m.k, .int .i64 m.t, .string m.s] 33)).alloc (.cells #[.int .i64 0, .int .i64 0, .string (ByteArray.mk #[])] 35)).heap.size := bX.lt
  clear h hX
  go_enter Try.func12, Try.ntmps12
  go_wp2_with fail
  refine hc.mono ?_
  rintro e w2 ⟨rfl, kt⟩
  have bR := Lib.hid (by obtain ⟨_, _, _, F, _⟩ := kt; exact F.blk bX (fun q => by have := hlow.out _ q; omega))
  have tR := Lib.hid (thereN (i := 0) (n := 3) bR.out (by simp))
  replace kt := Lib.hid kt
  clear hc
  go_wp2_with (first
    | (refine wpList_store_mid rfl 35 (.tmp 4) (.tmp 36) rfl (w.heap.size + 1) 0 #[.int .i64 0, .int .i64 0, .string (ByteArray.mk #[])] rfl rfl tR.out size_span (one_span _ _ _) ?_; obtain ⟨w9, hw9, f9, h9⟩ := store3 w2 (w.heap.size + 1) 0 (.int .i64 0) (.int .i64 0) (.string (ByteArray.mk #[])); rw [← hw9]; clear hw9; have h9 := h9 _ _ bR.out; have r0 : w9.cell? ⟨w.heap.size + 1, 0, none⟩ = some (.int .i64 0) := h9.cell 0; have r1 : w9.cell? ⟨w.heap.size + 1, 1, none⟩ = some (.int .i64 0) := h9.cell 1; have r2 : w9.cell? ⟨w.heap.size + 1, 2, none⟩ = some (.string (ByteArray.mk #[])) := h9.cell 2; clear h9)
    | fail)
  try simp only [Exit.inBlock, Exit.then]
  refine bodyPost_ret (by simp [results, Try.results12, go_sem, r0, r1, r2]; try rfl) rfl ?_
  exact ⟨rfl, kto_ret2 fX kt.out f9 (by omega) hlow.out hlt⟩
set_option maxHeartbeats 2000000 in
set_option maxRecDepth 10000 in
theorem dk_0 (h : Kp w k g bp bl B N wa wc K) (ht : okI m.t) (hzp : K.pins.length < 1000000) (hz : K.loss.length < 1000000) (hzg : K.gone.length < 1000000) (h1 : m.k ≠ 1) (h2 : m.k ≠ 2) (h3 : m.k ≠ 3) (h4 : m.k ≠ 4) : Calls Try.prog 12 #[.pointer (some ⟨k, 0, none⟩), .agg #[.int .i64 m.k, .int .i64 m.t, .string m.s]] w fun e w' => e = .returned (.tuple #[span0, .int .i64 0]) ∧ KTo w w' k g bp bl B N wa K := by
  have fX := ((Fr.refl noB w).alloc (.cells #[.int .i64 m.k, .int .i64 m.t, .string m.s] 33)).alloc (.cells #[.int .i64 0, .int .i64 0, .string (ByteArray.mk #[])] 35)
  have bX := Blk.new (w.alloc (.cells #[.int .i64 m.k, .int .i64 m.t, .string m.s] 33)) 35 [.int .i64 0, .int .i64 0, .string (ByteArray.mk #[])]
  have s1 : (w.alloc (.cells #[.int .i64 m.k, .int .i64 m.t, .string m.s] 33)).heap.size = w.heap.size + 1 := by simp
  rw [s1] at bX
  have d1 : (m.k == 1) = false := beq_eq_false_iff_ne.2 (by omega)
  have d2 : (m.k == 2) = false := beq_eq_false_iff_ne.2 (by omega)
  have d3 : (m.k == 3) = false := beq_eq_false_iff_ne.2 (by omega)
  have d4 : (m.k == 4) = false := beq_eq_false_iff_ne.2 (by omega)
  have hX := h.frN fX
  have hlow := Lib.hid (fun q => h.low (q := q))
  clear h1 h2 h3 h4
  clear hlow
  go_enter Try.func12, Try.ntmps12
  go_wp2_with fail
  go_returns
  exact ⟨rfl, KTo.of hX (fX.mono (fun _ _ q => False.elim q))⟩
theorem dk_any (h : Kp w k g bp bl B N wa wc K) (ht : okI m.t) (hzp : K.pins.length < 1000000) (hz : K.loss.length < 1000000) (hzg : K.gone.length < 1000000) : Calls Try.prog 12 #[.pointer (some ⟨k, 0, none⟩), .agg #[.int .i64 m.k, .int .i64 m.t, .string m.s]] w fun e w' => e = .returned (.tuple #[spV (K.os N m), .int .i64 (K.oe N m)]) ∧ KTo w w' k g bp bl B N wa (K.op N m) := by
  by_cases h1 : m.k = 1
  · have e1 : K.os N m = K.ws N m.t m.s := if_pos h1
    have e2 : K.oe N m = K.we N m.t m.s := if_pos h1
    have e3 : K.op N m = K.wr N m.t m.s := if_pos h1
    rw [e1, e2, e3]; exact dk_1 k g bp bl B N wc wa K m w h ht hzp hz hzg h1
  have e1 : K.os N m = sp0 := if_neg h1
  have e2 : K.oe N m = 0 := if_neg h1
  have e3 : K.op N m = _ := if_neg h1
  rw [e1, e2, e3]
  by_cases h2 : m.k = 2
  · rw [if_pos h2]; exact dk_2 k g bp bl B N wc wa K m w h ht hzp hz hzg h2
  rw [if_neg h2]
  by_cases h3 : m.k = 3
  · rw [if_pos h3]; exact dk_3 k g bp bl B N wc wa K m w h ht hzp hz hzg h3
  rw [if_neg h3]
  by_cases h4 : m.k = 4
  · rw [if_pos h4]; exact dk_4 k g bp bl B N wc wa K m w h ht hzp hz hzg h4
  rw [if_neg h4]
  exact dk_0 k g bp bl B N wc wa K m w h ht hzp hz hzg h1 h2 h3 h4
end
end Go.Proofs.Ytnecglghinpgmaa
