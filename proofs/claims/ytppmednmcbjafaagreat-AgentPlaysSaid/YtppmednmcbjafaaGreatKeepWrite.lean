/-
  A keeper's Write.
-/
import Derived.Test.YtppmednmcbjafaaGreatMkRoom2
set_option linter.unusedVariables false
set_option linter.unusedSimpArgs false
set_option maxRecDepth 100000
namespace Go.Proofs.YtppmednmcbjafaaGreat
open Go.RowKit Go Go.Maps Go.Lib

theorem kwrite_nil (t : Int) (x : ByteArray) (w : World) : Calls Tryz.prog 46 #[.pointer none, .int .i64 t, .string x] w fun e w' => e = .returned (.tuple #[span0, .int .i64 9]) ∧ Fr noB w w' := by
  have fX := (Fr.refl noB w).alloc (.cells #[.int .i64 0, .int .i64 0, .string (ByteArray.mk #[])] 38)
  have bR := Blk.new w 38 [.int .i64 0, .int .i64 0, .string (ByteArray.mk #[])]
  go_enter Tryz.func46, Tryz.ntmps46
  go_wp2_with fail
  go_returns
  exact ⟨rfl, fX⟩
/-- the decisions ahead of it -/
theorem mayB_dec {t : Int} {x : ByteArray} (h : mayB t x = true) : decide (t < 1) = false ∧ decide (65535 < t) = false ∧ decide ((40 : Int) < (x.size : Int)) = false := by
  have := mayB_rng h
  simp
  omega
section
variable (k g bp bl B N wc : Nat) (wa : Option Addr) (K : KS) (t : Int) (x : ByteArray) (w : World)
set_option maxHeartbeats 1000000 in
theorem kwrite_low (hb : t < 1) : Calls Tryz.prog 46 #[.pointer (some ⟨k, 0, none⟩), .int .i64 t, .string x] w fun e w' => e = .returned (.tuple #[span0, .int .i64 1]) ∧ Fr noB w w' := by
  have d0 : decide (t < 1) = true := by simp; omega
  have fX := (Fr.refl noB w).alloc (.cells #[.int .i64 0, .int .i64 0, .string (ByteArray.mk #[])] 38)
  go_enter Tryz.func46, Tryz.ntmps46
  go_wp2_with fail
  go_returns
  exact ⟨rfl, fX⟩
set_option maxHeartbeats 1000000 in
theorem kwrite_high (hb0 : 1 ≤ t) (hb : 65535 < t) : Calls Tryz.prog 46 #[.pointer (some ⟨k, 0, none⟩), .int .i64 t, .string x] w fun e w' => e = .returned (.tuple #[span0, .int .i64 1]) ∧ Fr noB w w' := by
  have d0 : decide (t < 1) = false := by simp; omega
  have d1 : decide (65535 < t) = true := by simp; omega
  have fX := (Fr.refl noB w).alloc (.cells #[.int .i64 0, .int .i64 0, .string (ByteArray.mk #[])] 38)
  go_enter Tryz.func46, Tryz.ntmps46
  go_wp2_with fail
  go_returns
  exact ⟨rfl, fX⟩
set_option maxHeartbeats 1000000 in
theorem kwrite_long (hb0 : 1 ≤ t) (hb1 : t ≤ 65535) (hb : 40 < x.size) : Calls Tryz.prog 46 #[.pointer (some ⟨k, 0, none⟩), .int .i64 t, .string x] w fun e w' => e = .returned (.tuple #[span0, .int .i64 1]) ∧ Fr noB w w' := by
  have d0 : decide (t < 1) = false := by simp; omega
  have d1 : decide (65535 < t) = false := by simp; omega
  have d2 : decide ((40 : Int) < (x.size : Int)) = true := by simp; omega
  have fX := (Fr.refl noB w).alloc (.cells #[.int .i64 0, .int .i64 0, .string (ByteArray.mk #[])] 38)
  go_enter Tryz.func46, Tryz.ntmps46
  go_wp2_with fail
  go_returns
  exact ⟨rfl, fX⟩
theorem kwrite_bad (hb : mayB t x = false) : Calls Tryz.prog 46 #[.pointer (some ⟨k, 0, none⟩), .int .i64 t, .string x] w fun e w' => e = .returned (.tuple #[span0, .int .i64 1]) ∧ Fr noB w w' := by
  by_cases h1 : t < 1
  · exact kwrite_low k t x w h1
  by_cases h2 : 65535 < t
  · exact kwrite_high k t x w (by omega) h2
  by_cases h3 : 40 < x.size
  · exact kwrite_long k t x w (by omega) (by omega) h3
  exfalso
  unfold mayB at hb
  rw [decide_eq_true (show 1 ≤ t by omega), decide_eq_true (show t ≤ 65535 by omega), decide_eq_true (show x.size ≤ 40 by omega)] at hb
  cases hb
set_option maxHeartbeats 2000000 in
set_option maxRecDepth 10000 in
theorem kwrite_lost (h : Kp w k g bp bl B N wa wc K) (hb : mayB t x = true) (hl : t ∈ K.loss) : Calls Tryz.prog 46 #[.pointer (some ⟨k, 0, none⟩), .int .i64 t, .string x] w fun e w' => e = .returned (.tuple #[span0, .int .i64 10]) ∧ Fr noB w w' := by
  obtain ⟨d0, d1, d2⟩ := mayB_dec hb
  have hrg := mayB_rng hb
  have okt : okI t := okI_of (by omega) (by omega)
  have fX := (Fr.refl noB w).alloc (.cells #[.int .i64 0, .int .i64 0, .string (ByteArray.mk #[])] 38)
  have bX := Blk.new w 38 [.int .i64 0, .int .i64 0, .string (ByteArray.mk #[])]
  have h1 := h.frN fX
  have hlo := klost_any k g bp bl B N wc wa K t _ h1 okt
  rw [decide_eq_true hl] at hlo
  replace hl := Lib.hid hl
  go_enter Tryz.func46, Tryz.ntmps46
  go_wp2_with fail
  refine hlo.mono ?_
  rintro e w1 ⟨rfl, f1⟩
  have h2 := h1.frN f1
  have g1 := fX.seqN f1
  clear hlo
  have bR := Lib.hid (f1.blk bX (fun q => q))
  have tR := Lib.hid (thereN (i := 0) (n := 3) bR.out (by simp))
  clear f1 h1 h2 bX
  go_wp2_with (first
    | (refine wpList_store_mid rfl 38 (.tmp 6) (.tmp 32) rfl w.heap.size 0 #[.int .i64 0, .int .i64 0, .string (ByteArray.mk #[])] rfl rfl tR.out size_span (one_span _ _ _) ?_; obtain ⟨w9, hw9, f9, h9⟩ := store3 w1 w.heap.size 0 (.int .i64 0) (.int .i64 0) (.string (ByteArray.mk #[])); rw [← hw9]; clear hw9; have h9 := h9 _ _ bR.out; have r0 : w9.cell? ⟨w.heap.size, 0, none⟩ = some (.int .i64 0) := h9.cell 0; have r1 : w9.cell? ⟨w.heap.size, 1, none⟩ = some (.int .i64 0) := h9.cell 1; have r2 : w9.cell? ⟨w.heap.size, 2, none⟩ = some (.string (ByteArray.mk #[])) := h9.cell 2; clear h9)
    | fail)
  try simp only [Exit.inBlock, Exit.then]
  refine bodyPost_ret (by simp [results, Tryz.results46, go_sem, r0, r1, r2]; try rfl) rfl ?_
  exact ⟨rfl, g1.trans f9 (fun _ _ q => q) (fun _ hi q => by unfold onlyB at q; omega)⟩
set_option maxHeartbeats 2000000 in
set_option maxRecDepth 10000 in
theorem kwrite_pin (h : Kp w k g bp bl B N wa wc K) (hb : mayB t x = true) (hl : t ∉ K.loss) (hp : t ∈ K.pins) : Calls Tryz.prog 46 #[.pointer (some ⟨k, 0, none⟩), .int .i64 t, .string x] w fun e w' => e = .returned (.tuple #[span0, .int .i64 12]) ∧ Fr noB w w' := by
  obtain ⟨d0, d1, d2⟩ := mayB_dec hb
  have hrg := mayB_rng hb
  have okt : okI t := okI_of (by omega) (by omega)
  have fX := (Fr.refl noB w).alloc (.cells #[.int .i64 0, .int .i64 0, .string (ByteArray.mk #[])] 38)
  have bX := Blk.new w 38 [.int .i64 0, .int .i64 0, .string (ByteArray.mk #[])]
  have h1 := h.frN fX
  have hlo := klost_any k g bp bl B N wc wa K t _ h1 okt
  rw [decide_eq_false hl] at hlo
  replace hl := Lib.hid hl
  go_enter Tryz.func46, Tryz.ntmps46
  go_wp2_with fail
  refine hlo.mono ?_
  rintro e w1 ⟨rfl, f1⟩
  have h2 := h1.frN f1
  have g1 := fX.seqN f1
  clear hlo
  have hpi := kpinned_any k g bp bl B N wc wa K t _ h2 okt
  rw [decide_eq_true hp] at hpi
  replace hp := Lib.hid hp
  go_wp2_with fail
  refine hpi.mono ?_
  rintro e w2 ⟨rfl, f2⟩
  have h3 := h2.frN f2
  have g2 := g1.seqN f2
  clear hpi
  have bR := Lib.hid (f2.blk (f1.blk bX (fun q => q)) (fun q => q))
  have tR := Lib.hid (thereN (i := 0) (n := 3) bR.out (by simp))
  clear f1 f2 h1 h2 h3 g1 bX
  go_wp2_with (first
    | (refine wpList_store_mid rfl 38 (.tmp 6) (.tmp 37) rfl w.heap.size 0 #[.int .i64 0, .int .i64 0, .string (ByteArray.mk #[])] rfl rfl tR.out size_span (one_span _ _ _) ?_; obtain ⟨w9, hw9, f9, h9⟩ := store3 w2 w.heap.size 0 (.int .i64 0) (.int .i64 0) (.string (ByteArray.mk #[])); rw [← hw9]; clear hw9; have h9 := h9 _ _ bR.out; have r0 : w9.cell? ⟨w.heap.size, 0, none⟩ = some (.int .i64 0) := h9.cell 0; have r1 : w9.cell? ⟨w.heap.size, 1, none⟩ = some (.int .i64 0) := h9.cell 1; have r2 : w9.cell? ⟨w.heap.size, 2, none⟩ = some (.string (ByteArray.mk #[])) := h9.cell 2; clear h9)
    | fail)
  try simp only [Exit.inBlock, Exit.then]
  refine bodyPost_ret (by simp [results, Tryz.results46, go_sem, r0, r1, r2]; try rfl) rfl ?_
  exact ⟨rfl, g2.trans f9 (fun _ _ q => q) (fun _ hi q => by unfold onlyB at q; omega)⟩
/-- a keeper behind a step, the result laid -/
theorem kto_ret {w w2 w3 w9 : World} {k g bp bl B N : Nat} {wa : Option Addr} {K' : KS} (f : Fr noB w w2) (hk : KTo w2 w3 k g bp bl B N wa K') (f9 : Fr (onlyB w.heap.size) w3 w9) (hlow : ∀ q, kpS k g bp bl wa q → q < w.heap.size) (hlt : w.heap.size < w2.heap.size) : KTo w w9 k g bp bl B N wa K' := by
  obtain ⟨wa', wc', h, F, hs⟩ := hk
  refine ⟨wa', wc', h.fr f9 (fun q hq e => ?_), (f.trans F (fun _ _ q => False.elim q) (fun _ _ q => q)).trans f9 (fun _ _ q => q) (fun q hq e => by unfold onlyB at e; omega), fun q hq hk => hs q (by omega) hk⟩
  unfold onlyB at e
  subst e
  have := hlow _ (hs _ hlt hq)
  omega
theorem kto_pool {w w2 : World} {k g bp bl B N wc : Nat} {wa : Option Addr} {K : KS} {P' : TP} (h : Kp w k g bp bl B N wa wc K) (p : Po w2 g N P') (f : Fr (onlyB g) w w2) (hl : ∀ u ∈ K.loss, txt P' u = []) : Kp w2 k g bp bl B N wa wc { K with P := P' } :=
  ⟨f.blk h.blk h.kg, ownsRow_fr h.row f (fun q hq e => by have := (h.row.lt q hq).1; have := h.gB; unfold onlyB at e; omega), p, h.mp.fr f (fun e => h.gp e.symm), h.ml.fr f (fun e => h.gl e.symm), h.kB, h.gB, h.pB, h.lB, Nat.le_trans h.Bw f.size, h.kg, h.kp, h.kl, h.gp, h.gl, h.pl, h.sd, fun u hu => ⟨hl u hu, (h.lost u hu).2⟩⟩
theorem KTo.of {w w' : World} {k g bp bl B N wc : Nat} {wa : Option Addr} {K' : KS} (h : Kp w' k g bp bl B N wa wc K') (F : Fr (kpS k g bp bl wa) w w') : KTo w w' k g bp bl B N wa K' := ⟨wa, wc, h, F, fun _ _ q => q⟩
set_option maxHeartbeats 2000000 in
set_option maxRecDepth 10000 in
theorem kwrite_ok (h : Kp w k g bp bl B N wa wc K) (hb : mayB t x = true) (hl : t ∉ K.loss) (hp : t ∉ K.pins) (hr : ¬ noRoom N K.P t) : Calls Tryz.prog 46 #[.pointer (some ⟨k, 0, none⟩), .int .i64 t, .string x] w fun e w' => e = .returned (.tuple #[.agg #[.int .i64 t, .int .i64 (((txt K.P t).length : Int) + 1), .string x], .int .i64 0]) ∧ KTo w w' k g bp bl B N wa { K with P := addT K.P t x } := by
  obtain ⟨M, hM⟩ : ∃ M : Int, ((txt K.P t).length : Int) + 1 = M := ⟨_, rfl⟩
  rw [hM]
  replace hM := Lib.hid hM
  obtain ⟨d0, d1, d2⟩ := mayB_dec hb
  have hrg := mayB_rng hb
  have okt : okI t := okI_of (by omega) (by omega)
  have fX := (Fr.refl noB w).alloc (.cells #[.int .i64 0, .int .i64 0, .string (ByteArray.mk #[])] 38)
  have bX := Blk.new w 38 [.int .i64 0, .int .i64 0, .string (ByteArray.mk #[])]
  have h1 := h.frN fX
  have hlo := klost_any k g bp bl B N wc wa K t _ h1 okt
  rw [decide_eq_false hl] at hlo
  replace hl := Lib.hid hl
  go_enter Tryz.func46, Tryz.ntmps46
  go_wp2_with fail
  refine hlo.mono ?_
  rintro e w1 ⟨rfl, f1⟩
  have h2 := h1.frN f1
  have g1 := fX.seqN f1
  clear hlo
  have hpi := kpinned_any k g bp bl B N wc wa K t _ h2 okt
  rw [decide_eq_false hp] at hpi
  replace hp := Lib.hid hp
  go_wp2_with fail
  refine hpi.mono ?_
  rintro e w2 ⟨rfl, f2⟩
  have h3 := h2.frN f2
  have g2 := g1.seqN f2
  clear hpi
  have c0 : w2.cell? ⟨k, 0, none⟩ = some (.pointer (some ⟨g, 0, none⟩)) := h3.blk.cell 0
  have bR2 := f2.blk (f1.blk bX (fun q => q)) (fun q => q)
  clear f1 f2 h1 h2 g1 bX fX
  have hw := pwrite_p g N K.P t x w2 h3.po hb hr
  have hlow := Lib.hid (fun q => h.low (q := q))
  have hlt2 : w.heap.size < w2.heap.size := bR2.lt
  rw [hM.out] at hw
  replace h3 := Lib.hid h3
  replace h := Lib.hid h
  go_upto_region 10 with (first
    | (go_at_call 84; refine hw.mono ?_; rintro e w3 ⟨rfl, p3, f3⟩)
    | fail)
  have hne := hl.out
  have k3 := kto_pool h3.out p3 f3 (fun u hu => by rw [txt_add_other K.P t u x (fun e => hne (e ▸ hu))]; exact (h3.out.lost u hu).1)
  have F3 : Fr (kpS k g bp bl wa) w2 w3 := f3.mono (fun q _ e => Or.inr (Or.inl e))
  have bS := Blk.new w3 38 [.int .i64 t, .int .i64 M, .string x]
  have fS := (Fr.refl noB w3).alloc (.cells #[.int .i64 t, .int .i64 M, .string x] 38)
  have bR := Lib.hid (fS.blk (f3.blk bR2 (fun e => by have := hlow.out g (Or.inr (Or.inl rfl)); unfold onlyB at e; omega)) (fun q => q))
  have tR := Lib.hid (thereN (i := 0) (n := 3) bR.out (by simp))
  have kk := Lib.hid (KTo.of (k3.frN fS) (F3.trans fS (fun _ _ q => q) (fun _ _ q => False.elim q)))
  have hs3 : (w3.alloc (.cells #[.int .i64 t, .int .i64 M, .string x] 38)).heap.size = w3.heap.size + 1 := by simp
  replace f3 := Lib.hid f3
  generalize hS : w3.heap.size = sb at *
  generalize w3.alloc (.cells #[.int .i64 t, .int .i64 M, .string x] 38) = w4 at *
  have e0 : w4.cell? ⟨sb, 0, none⟩ = some (.int .i64 t) := bS.cell 0
  have e1 : w4.cell? ⟨sb, 1, none⟩ = some (.int .i64 M) := bS.cell 1
  have e2 : w4.cell? ⟨sb, 2, none⟩ = some (.string x) := bS.cell 2
  clear k3 F3 bS fS p3 hs3 hS
  refine wp_loop_rounds 1 ?_
  rw [rounds_succ]
  go_wp2_with (first
    | (refine wpList_store_mid rfl 38 (.tmp 6) (.tmp 67) rfl w.heap.size 0 #[.int .i64 t, .int .i64 M, .string x] rfl rfl tR.out size_span (one_span _ _ _) ?_; obtain ⟨w9, hw9, f9, h9⟩ := store3 w4 w.heap.size 0 (.int .i64 t) (.int .i64 M) (.string x); rw [← hw9]; clear hw9; have h9 := h9 _ _ bR.out; have r0 : w9.cell? ⟨w.heap.size, 0, none⟩ = some (.int .i64 t) := h9.cell 0; have r1 : w9.cell? ⟨w.heap.size, 1, none⟩ = some (.int .i64 M) := h9.cell 1; have r2 : w9.cell? ⟨w.heap.size, 2, none⟩ = some (.string x) := h9.cell 2; clear h9)
    | fail)
  try simp only [Exit.inBlock, Exit.then]
  refine bodyPost_ret (by simp [results, Tryz.results46, go_sem, r0, r1, r2]; try rfl) rfl ?_
  exact ⟨rfl, kto_ret g2 kk.out f9 hlow.out hlt2⟩
theorem may_none {w : World} {g N : Nat} {K : KS} {t : Int} (h : Po w g N K.P) (h0 : mayL K = []) (hp : t ∉ K.pins) : txt K.P t = [] := by
  refine Decidable.byContradiction fun q => ?_
  have h1 := txt_mem q
  have h2 : t ∈ mayL K := by
    unfold mayL
    rw [List.mem_filter]
    exact ⟨List.mem_map_of_mem h1, by simpa using hp⟩
  rw [h0] at h2
  cases h2
theorem room_after {w : World} {g N : Nat} {K : KS} {t : Int} (h : Po w g N K.P) (hn : noRoom N K.P t) (h0 : mayL K ≠ []) (hL : goes K t ≠ t) : ¬ noRoom N (without K.P (goes K t)) t := by
  intro q
  have h1 := used_drop K.P (goes K t) h.ris
  have hm : goes K t ∈ mayL K := (goes_mem K t).resolve_right hL
  have h2 := key_txt h (mayL_mem hm).1
  have h3 := List.length_pos_iff.2 h2
  have h4 := q.2
  have h5 := hn.2
  omega
set_option maxHeartbeats 2000000 in
set_option maxRecDepth 10000 in
theorem kwrite_none (h : Kp w k g bp bl B N wa wc K) (hb : mayB t x = true) (hl : t ∉ K.loss) (hp : t ∉ K.pins) (hr : noRoom N K.P t) (h0 : mayL K = []) (hz : K.loss.length < 1000000) : Calls Tryz.prog 46 #[.pointer (some ⟨k, 0, none⟩), .int .i64 t, .string x] w fun e w' => e = .returned (.tuple #[span0, .int .i64 6]) ∧ KTo w w' k g bp bl B N wa { K with loss := K.loss ++ [t] } := by
  have htx := may_none h.po h0 hp
  obtain ⟨d0, d1, d2⟩ := mayB_dec hb
  have hrg := mayB_rng hb
  have okt : okI t := okI_of (by omega) (by omega)
  have fX := (Fr.refl noB w).alloc (.cells #[.int .i64 0, .int .i64 0, .string (ByteArray.mk #[])] 38)
  have bX := Blk.new w 38 [.int .i64 0, .int .i64 0, .string (ByteArray.mk #[])]
  have h1 := h.frN fX
  have hlo := klost_any k g bp bl B N wc wa K t _ h1 okt
  rw [decide_eq_false hl] at hlo
  replace hl := Lib.hid hl
  go_enter Tryz.func46, Tryz.ntmps46
  go_wp2_with fail
  refine hlo.mono ?_
  rintro e w1 ⟨rfl, f1⟩
  have h2 := h1.frN f1
  have g1 := fX.seqN f1
  clear hlo
  have hpi := kpinned_any k g bp bl B N wc wa K t _ h2 okt
  rw [decide_eq_false hp] at hpi
  replace hp := Lib.hid hp
  go_wp2_with fail
  refine hpi.mono ?_
  rintro e w2 ⟨rfl, f2⟩
  have h3 := h2.frN f2
  have g2 := g1.seqN f2
  clear hpi
  have c0 : w2.cell? ⟨k, 0, none⟩ = some (.pointer (some ⟨g, 0, none⟩)) := h3.blk.cell 0
  have bR2 := f2.blk (f1.blk bX (fun q => q)) (fun q => q)
  clear f1 f2 h1 h2 g1 bX fX
  have hw := pwrite_p6 g N K.P t x w2 h3.po hb hr
  have hlow := Lib.hid (fun q => h.low (q := q))
  have hlt2 : w.heap.size < w2.heap.size := bR2.lt
  replace h3 := Lib.hid h3
  go_upto_region 10 with (first
    | (go_at_call 84; refine hw.mono ?_; rintro e w3 ⟨rfl, f3⟩)
    | fail)
  have bS := Blk.new w3 38 [.int .i64 0, .int .i64 0, .string (ByteArray.mk #[])]
  have fS := (Fr.refl noB w3).alloc (.cells #[.int .i64 0, .int .i64 0, .string (ByteArray.mk #[])] 38)
  have k4 := (h3.out.frN f3).frN fS
  have g4 := (g2.seqN f3).seqN fS
  have bR4 := fS.blk (f3.blk bR2 (fun q => q)) (fun q => q)
  have hlt4 : w.heap.size < (w3.alloc (.cells #[.int .i64 0, .int .i64 0, .string (ByteArray.mk #[])] 38)).heap.size := bR4.lt
  have hsb : w.heap.size < w3.heap.size := by have := f3.size; omega
  generalize hS : w3.heap.size = sb at *
  generalize w3.alloc (.cells #[.int .i64 0, .int .i64 0, .string (ByteArray.mk #[])] 38) = w4 at *
  clear f3 fS hS hw c0 g2 bR2 h3
  have hm := mroom_none k g bp bl B N wc wa K t w4 k4 ⟨hrg.1, hrg.2.1⟩ h0 htx hl.out hz
  clear htx h0 k4 bS hsb
  refine wp_loop_rounds 1 ?_
  rw [rounds_succ]
  go_wp2_with fail
  refine hm.mono ?_
  rintro e w5 ⟨rfl, kt⟩
  clear hm
  have bR := Lib.hid (by obtain ⟨_, _, _, F, _⟩ := kt; exact F.blk bR4 (fun q => by have := hlow.out _ q; omega))
  have tR := Lib.hid (thereN (i := 0) (n := 3) bR.out (by simp))
  replace kt := Lib.hid kt
  go_wp2_with (first
    | (refine wpList_store_mid rfl 38 (.tmp 6) (.tmp 55) rfl w.heap.size 0 #[.int .i64 0, .int .i64 0, .string (ByteArray.mk #[])] rfl rfl tR.out size_span (one_span _ _ _) ?_; obtain ⟨w9, hw9, f9, h9⟩ := store3 w5 w.heap.size 0 (.int .i64 0) (.int .i64 0) (.string (ByteArray.mk #[])); rw [← hw9]; clear hw9; have h9 := h9 _ _ bR.out; have r0 : w9.cell? ⟨w.heap.size, 0, none⟩ = some (.int .i64 0) := h9.cell 0; have r1 : w9.cell? ⟨w.heap.size, 1, none⟩ = some (.int .i64 0) := h9.cell 1; have r2 : w9.cell? ⟨w.heap.size, 2, none⟩ = some (.string (ByteArray.mk #[])) := h9.cell 2; clear h9)
    | fail)
  try simp only [Exit.inBlock, Exit.then]
  refine bodyPost_ret (by simp [results, Tryz.results46, go_sem, r0, r1, r2]; try rfl) rfl ?_
  exact ⟨rfl, kto_ret g4 kt.out f9 hlow.out hlt4⟩
set_option maxHeartbeats 2000000 in
set_option maxRecDepth 10000 in
theorem kwrite_gone (h : Kp w k g bp bl B N wa wc K) (hb : mayB t x = true) (hl : t ∉ K.loss) (hp : t ∉ K.pins) (hr : noRoom N K.P t) (h0 : mayL K ≠ []) (hL : goes K t = t) (hz : K.loss.length < 1000000) (hzg : K.gone.length < 1000000) : Calls Tryz.prog 46 #[.pointer (some ⟨k, 0, none⟩), .int .i64 t, .string x] w fun e w' => e = .returned (.tuple #[span0, .int .i64 10]) ∧ KTo w w' k g bp bl B N wa { K with P := without K.P (goes K t), loss := K.loss ++ [goes K t], gone := K.gone ++ [goes K t] } := by
  obtain ⟨d0, d1, d2⟩ := mayB_dec hb
  have hrg := mayB_rng hb
  have okt : okI t := okI_of (by omega) (by omega)
  have fX := (Fr.refl noB w).alloc (.cells #[.int .i64 0, .int .i64 0, .string (ByteArray.mk #[])] 38)
  have bX := Blk.new w 38 [.int .i64 0, .int .i64 0, .string (ByteArray.mk #[])]
  have h1 := h.frN fX
  have hlo := klost_any k g bp bl B N wc wa K t _ h1 okt
  rw [decide_eq_false hl] at hlo
  replace hl := Lib.hid hl
  go_enter Tryz.func46, Tryz.ntmps46
  go_wp2_with fail
  refine hlo.mono ?_
  rintro e w1 ⟨rfl, f1⟩
  have h2 := h1.frN f1
  have g1 := fX.seqN f1
  clear hlo
  have hpi := kpinned_any k g bp bl B N wc wa K t _ h2 okt
  rw [decide_eq_false hp] at hpi
  replace hp := Lib.hid hp
  go_wp2_with fail
  refine hpi.mono ?_
  rintro e w2 ⟨rfl, f2⟩
  have h3 := h2.frN f2
  have g2 := g1.seqN f2
  clear hpi
  have c0 : w2.cell? ⟨k, 0, none⟩ = some (.pointer (some ⟨g, 0, none⟩)) := h3.blk.cell 0
  have bR2 := f2.blk (f1.blk bX (fun q => q)) (fun q => q)
  clear f1 f2 h1 h2 g1 bX fX
  have hw := pwrite_p6 g N K.P t x w2 h3.po hb hr
  have hlow := Lib.hid (fun q => h.low (q := q))
  have hlt2 : w.heap.size < w2.heap.size := bR2.lt
  replace h3 := Lib.hid h3
  go_upto_region 10 with (first
    | (go_at_call 84; refine hw.mono ?_; rintro e w3 ⟨rfl, f3⟩)
    | fail)
  have bS := Blk.new w3 38 [.int .i64 0, .int .i64 0, .string (ByteArray.mk #[])]
  have fS := (Fr.refl noB w3).alloc (.cells #[.int .i64 0, .int .i64 0, .string (ByteArray.mk #[])] 38)
  have k4 := (h3.out.frN f3).frN fS
  have g4 := (g2.seqN f3).seqN fS
  have bR4 := fS.blk (f3.blk bR2 (fun q => q)) (fun q => q)
  have hlt4 : w.heap.size < (w3.alloc (.cells #[.int .i64 0, .int .i64 0, .string (ByteArray.mk #[])] 38)).heap.size := bR4.lt
  have hsb : w.heap.size < w3.heap.size := by have := f3.size; omega
  generalize hS : w3.heap.size = sb at *
  generalize w3.alloc (.cells #[.int .i64 0, .int .i64 0, .string (ByteArray.mk #[])] 38) = w4 at *
  clear f3 fS hS hw c0 g2 bR2 h3
  have hm := mroom_any k g bp bl B N wc wa K t w4 k4 ⟨hrg.1, hrg.2.1⟩ h0 hl.out hz hzg
  rw [if_pos hL] at hm
  replace hL := Lib.hid hL
  clear h0 k4 bS hsb
  refine wp_loop_rounds 1 ?_
  rw [rounds_succ]
  go_wp2_with fail
  refine hm.mono ?_
  rintro e w5 ⟨rfl, kt⟩
  clear hm
  have bR := Lib.hid (by obtain ⟨_, _, _, F, _⟩ := kt; exact F.blk bR4 (fun q => by have := hlow.out _ q; omega))
  have tR := Lib.hid (thereN (i := 0) (n := 3) bR.out (by simp))
  replace kt := Lib.hid kt
  go_wp2_with (first
    | (refine wpList_store_mid rfl 38 (.tmp 6) (.tmp 55) rfl w.heap.size 0 #[.int .i64 0, .int .i64 0, .string (ByteArray.mk #[])] rfl rfl tR.out size_span (one_span _ _ _) ?_; obtain ⟨w9, hw9, f9, h9⟩ := store3 w5 w.heap.size 0 (.int .i64 0) (.int .i64 0) (.string (ByteArray.mk #[])); rw [← hw9]; clear hw9; have h9 := h9 _ _ bR.out; have r0 : w9.cell? ⟨w.heap.size, 0, none⟩ = some (.int .i64 0) := h9.cell 0; have r1 : w9.cell? ⟨w.heap.size, 1, none⟩ = some (.int .i64 0) := h9.cell 1; have r2 : w9.cell? ⟨w.heap.size, 2, none⟩ = some (.string (ByteArray.mk #[])) := h9.cell 2; clear h9)
    | fail)
  try simp only [Exit.inBlock, Exit.then]
  refine bodyPost_ret (by simp [results, Tryz.results46, go_sem, r0, r1, r2]; try rfl) rfl ?_
  exact ⟨rfl, kto_ret g4 kt.out f9 hlow.out hlt4⟩
set_option maxHeartbeats 2000000 in
set_option maxRecDepth 10000 in
theorem kwrite_evict (h : Kp w k g bp bl B N wa wc K) (hb : mayB t x = true) (hl : t ∉ K.loss) (hp : t ∉ K.pins) (hr : noRoom N K.P t) (h0 : mayL K ≠ []) (hL : goes K t ≠ t) (hz : K.loss.length < 1000000) (hzg : K.gone.length < 1000000) : Calls Tryz.prog 46 #[.pointer (some ⟨k, 0, none⟩), .int .i64 t, .string x] w fun e w' => e = .returned (.tuple #[.agg #[.int .i64 t, .int .i64 (((txt K.P t).length : Int) + 1), .string x], .int .i64 0]) ∧ KTo w w' k g bp bl B N wa { K with P := addT (without K.P (goes K t)) t x, loss := K.loss ++ [goes K t], gone := K.gone ++ [goes K t] } := by
  obtain ⟨M, hM⟩ : ∃ M : Int, ((txt K.P t).length : Int) + 1 = M := ⟨_, rfl⟩
  rw [hM]
  replace hM := Lib.hid hM
  have hra := room_after h.po hr h0 hL
  have htt : txt (without K.P (goes K t)) t = txt K.P t := txt_drop_other K.P (fun e => hL e.symm)
  replace hra := Lib.hid hra
  replace htt := Lib.hid htt
  obtain ⟨d0, d1, d2⟩ := mayB_dec hb
  have hrg := mayB_rng hb
  have okt : okI t := okI_of (by omega) (by omega)
  have fX := (Fr.refl noB w).alloc (.cells #[.int .i64 0, .int .i64 0, .string (ByteArray.mk #[])] 38)
  have bX := Blk.new w 38 [.int .i64 0, .int .i64 0, .string (ByteArray.mk #[])]
  have h1 := h.frN fX
  have hlo := klost_any k g bp bl B N wc wa K t _ h1 okt
  rw [decide_eq_false hl] at hlo
  replace hl := Lib.hid hl
  go_enter Tryz.func46, Tryz.ntmps46
  go_wp2_with fail
  refine hlo.mono ?_
  rintro e w1 ⟨rfl, f1⟩
  have h2 := h1.frN f1
  have g1 := fX.seqN f1
  clear hlo
  have hpi := kpinned_any k g bp bl B N wc wa K t _ h2 okt
  rw [decide_eq_false hp] at hpi
  replace hp := Lib.hid hp
  go_wp2_with fail
  refine hpi.mono ?_
  rintro e w2 ⟨rfl, f2⟩
  have h3 := h2.frN f2
  have g2 := g1.seqN f2
  clear hpi
  have c0 : w2.cell? ⟨k, 0, none⟩ = some (.pointer (some ⟨g, 0, none⟩)) := h3.blk.cell 0
  have bR2 := f2.blk (f1.blk bX (fun q => q)) (fun q => q)
  clear f1 f2 h1 h2 g1 bX fX
  have hw := pwrite_p6 g N K.P t x w2 h3.po hb hr
  have hlow := Lib.hid (fun q => h.low (q := q))
  have hlt2 : w.heap.size < w2.heap.size := bR2.lt
  replace h3 := Lib.hid h3
  go_upto_region 10 with (first
    | (go_at_call 84; refine hw.mono ?_; rintro e w3 ⟨rfl, f3⟩)
    | fail)
  have bS := Blk.new w3 38 [.int .i64 0, .int .i64 0, .string (ByteArray.mk #[])]
  have fS := (Fr.refl noB w3).alloc (.cells #[.int .i64 0, .int .i64 0, .string (ByteArray.mk #[])] 38)
  have k4 := (h3.out.frN f3).frN fS
  have g4 := (g2.seqN f3).seqN fS
  have bR4 := fS.blk (f3.blk bR2 (fun q => q)) (fun q => q)
  have hlt4 : w.heap.size < (w3.alloc (.cells #[.int .i64 0, .int .i64 0, .string (ByteArray.mk #[])] 38)).heap.size := bR4.lt
  have hsb : w.heap.size < w3.heap.size := by have := f3.size; omega
  generalize hS : w3.heap.size = sb at *
  generalize w3.alloc (.cells #[.int .i64 0, .int .i64 0, .string (ByteArray.mk #[])] 38) = w4 at *
  clear f3 fS hS hw c0 g2 bR2 h3
  have hm := mroom_any k g bp bl B N wc wa K t w4 k4 ⟨hrg.1, hrg.2.1⟩ h0 hl.out hz hzg
  rw [if_neg hL] at hm
  replace hL := Lib.hid hL
  replace k4 := Lib.hid k4
  clear h0
  refine wp_loop_rounds 2 ?_
  rw [rounds_succ]
  go_wp2_with fail
  refine hm.mono ?_
  rintro e w5 ⟨rfl, wa', wc', k5, F5, hs5⟩
  clear hm
  have c5 : w5.cell? ⟨k, 0, none⟩ = some (.pointer (some ⟨g, 0, none⟩)) := k5.blk.cell 0
  have hw2 := pwrite_p g N _ t x w5 k5.po hb hra.out
  simp only at hw2
  rw [htt.out, hM.out] at hw2
  have bR5 := F5.blk bR4 (fun q => by have := hlow.out _ q; omega)
  have bS5 := F5.blk bS (fun q => by have := hlow.out _ q; omega)
  replace k5 := Lib.hid k5
  replace hs5 := Lib.hid hs5
  replace F5 := Lib.hid F5
  clear k4 bR4
  go_wp2_with fail
  refine hw2.mono ?_
  rintro e w6 ⟨rfl, p6, f6⟩
  clear hw2
  have hgl := hlow.out g (Or.inr (Or.inl rfl))
  have bS6 := f6.blk bS5 (fun e => by unfold onlyB at e; omega)
  have bR6 := f6.blk bR5 (fun e => by unfold onlyB at e; omega)
  have hth := Lib.hid (thereN (i := 0) (n := 3) bS6 (by simp))
  have k6 := kto_pool k5.out p6 f6 (fun u hu => by
    have hne : u ≠ t := by
      intro e
      subst e
      rcases List.mem_append.1 hu with q | q
      · exact hl.out q
      · exact hL.out (List.mem_singleton.1 q).symm
    rw [txt_add_other _ t u x hne]
    exact (k5.out.lost u hu).1)
  have F6 : Fr (kpS k g bp bl wa) w4 w6 := F5.out.trans f6 (fun _ _ q => q) (fun q _ e => Or.inr (Or.inl e))
  obtain ⟨w7, hw7, f7, s7⟩ := store3 w6 sb 0 (.int .i64 t) (.int .i64 M) (.string x)
  have bS7 := s7 _ _ bS6
  have bR7 := f7.blk bR6 (fun e => by unfold onlyB at e; omega)
  have tR := Lib.hid (thereN (i := 0) (n := 3) bR7 (by simp))
  have e0 : w7.cell? ⟨sb, 0, none⟩ = some (.int .i64 t) := bS7.cell 0
  have e1 : w7.cell? ⟨sb, 1, none⟩ = some (.int .i64 M) := bS7.cell 1
  have e2 : w7.cell? ⟨sb, 2, none⟩ = some (.string x) := bS7.cell 2
  have hsb4 : w.heap.size < sb := hsb
  have k7 := k6.fr f7 (fun q hq e => by
    unfold onlyB at e
    subst e
    have h1 := hs5.out q bS.lt hq
    have := hlow.out _ h1
    omega)
  have F7 : Fr (kpS k g bp bl wa) w w7 := (g4.trans F6 (fun _ _ q => False.elim q) (fun _ _ q => q)).trans f7 (fun _ _ q => q) (fun q hq e => by unfold onlyB at e; omega)
  replace k7 := Lib.hid k7
  replace F7 := Lib.hid F7
  have bR := Lib.hid bR7
  replace hw7 := Lib.hid hw7
  clear k6 F6 f6 p6 s7 bS7 bS6 bR6 bS5 bR5 k5 f7
  go_wp2_with (first
    | (refine wpList_store_mid rfl 38 (.tmp 8) (.tmp 65) rfl sb 0 #[.int .i64 t, .int .i64 M, .string x] rfl rfl hth.out size_span (one_span _ _ _) ?_; rw [← hw7.out]; clear hw7)
    | fail)
  rw [rounds_succ]
  go_wp2_with (first
    | (refine wpList_store_mid rfl 38 (.tmp 6) (.tmp 67) rfl w.heap.size 0 #[.int .i64 t, .int .i64 M, .string x] rfl rfl tR.out size_span (one_span _ _ _) ?_; obtain ⟨w9, hw9, f9, h9⟩ := store3 w7 w.heap.size 0 (.int .i64 t) (.int .i64 M) (.string x); rw [← hw9]; clear hw9; have h9 := h9 _ _ bR.out; have r0 : w9.cell? ⟨w.heap.size, 0, none⟩ = some (.int .i64 t) := h9.cell 0; have r1 : w9.cell? ⟨w.heap.size, 1, none⟩ = some (.int .i64 M) := h9.cell 1; have r2 : w9.cell? ⟨w.heap.size, 2, none⟩ = some (.string x) := h9.cell 2; clear h9)
    | fail)
  try simp only [Exit.inBlock, Exit.then]
  refine bodyPost_ret (by simp [results, Tryz.results46, go_sem, r0, r1, r2]; try rfl) rfl ?_
  refine ⟨rfl, wa', wc', k7.out.fr f9 (fun q hq e => ?_), F7.out.trans f9 (fun _ _ q => q) (fun q hq e => by unfold onlyB at e; omega), fun q hq hk => hs5.out q (by omega) hk⟩
  unfold onlyB at e
  subst e
  have := hlow.out _ (hs5.out _ hlt4 hq)
  omega
end
end Go.Proofs.YtppmednmcbjafaaGreat
