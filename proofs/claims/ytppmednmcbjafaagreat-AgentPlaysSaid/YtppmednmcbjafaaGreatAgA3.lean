/-
  An agent that is none.
  A new agent; what is held while agents go on.
  Stage 12's awake.
-/
import Derived.Test.YtppmednmcbjafaaGreatAgA2
import Derived.Test.YtppmednmcbjafaaGreatLikePin
import Derived.Test.YtppmednmcbjafaaGreatInts
import Derived.Handy
section
set_option linter.unusedVariables false
set_option linter.unusedSimpArgs false
set_option maxRecDepth 100000
set_option maxRecDepth 100000
set_option maxRecDepth 10000
namespace Go.Proofs.YtppmednmcbjafaaGreat
open Go.RowKit Go Go.Maps Go.Lib
theorem nil_Span (t : Int) (x : ByteArray) (w : World) : Calls Tryz.prog 13 #[.pointer none, .int .i64 t, .string x] w fun e w' => e = .returned (.tuple #[span0, .int .i64 9]) ∧ Fr noB w w' := by
  have fX := (Fr.refl noB w).alloc (.cells #[.int .i64 0, .int .i64 0, .string (ByteArray.mk #[])] 38)
  have bX := Blk.new w 38 [.int .i64 0, .int .i64 0, .string (ByteArray.mk #[])]
  have tX := Lib.hid (thereN (i := 0) (n := 3) bX (by simp))
  go_enter Tryz.func13, Tryz.ntmps13
  go_wp2_with (first
    | (refine wpList_store_mid rfl 38 (.tmp 6) (.tmp 10) rfl w.heap.size 0 #[.int .i64 0, .int .i64 0, .string (ByteArray.mk #[])] rfl rfl tX.out size_span (one_span _ _ _) ?_; obtain ⟨w9, hw9, f9, h9⟩ := store3 (w.alloc (.cells #[.int .i64 0, .int .i64 0, .string (ByteArray.mk #[])] 38)) w.heap.size 0 (.int .i64 0) (.int .i64 0) (.string (ByteArray.mk #[])); rw [← hw9]; clear hw9; have h9 := h9 _ _ bX; have r0 : w9.cell? ⟨w.heap.size, 0, none⟩ = some (.int .i64 0) := h9.cell 0; have r1 : w9.cell? ⟨w.heap.size, 1, none⟩ = some (.int .i64 0) := h9.cell 1; have r2 : w9.cell? ⟨w.heap.size, 2, none⟩ = some (.string (ByteArray.mk #[])) := h9.cell 2; clear h9)
    | fail)
  try simp only [Exit.inBlock, Exit.then]
  refine bodyPost_ret (by simp [results, Tryz.results13, go_sem, r0, r1, r2]; try rfl) rfl ?_
  exact ⟨rfl, fX.trans f9 (fun _ _ q => q) (fun q hq e => by unfold onlyB at e; omega)⟩
theorem nil_Crumb (t o : Int) (w : World) : Calls Tryz.prog 15 #[.pointer none, .int .i64 t, .int .i64 o] w fun e w' => e = .returned (.int .i64 9) ∧ Fr noB w w' := by
  go_enter Tryz.func15, Tryz.ntmps15
  go_wp2_with fail
  go_ret
  exact ⟨rfl, Fr.refl _ _⟩
theorem nil_Trigger (t o : Int) (w : World) : Calls Tryz.prog 17 #[.pointer none, .int .i64 t, .int .i64 o] w fun e w' => e = .returned (.tuple #[.agg #[.int .i64 0, .int .i64 0, .int .i64 0], .int .i64 9]) ∧ Fr noB w w' := by
  have fX := (Fr.refl noB w).alloc (.cells #[.int .i64 0, .int .i64 0, .int .i64 0] 53)
  have bX := Blk.new w 53 [.int .i64 0, .int .i64 0, .int .i64 0]
  have tX := Lib.hid (thereN (i := 0) (n := 3) bX (by simp))
  go_enter Tryz.func17, Tryz.ntmps17
  go_wp2_with (first
    | (refine wpList_store_mid rfl 53 (.tmp 6) (.tmp 11) rfl w.heap.size 0 #[.int .i64 0, .int .i64 0, .int .i64 0] rfl rfl tX.out size_trig (one_trig _ _ _) ?_; obtain ⟨w9, hw9, f9, h9⟩ := store3 (w.alloc (.cells #[.int .i64 0, .int .i64 0, .int .i64 0] 53)) w.heap.size 0 (.int .i64 0) (.int .i64 0) (.int .i64 0); rw [← hw9]; clear hw9; have h9 := h9 _ _ bX; have r0 : w9.cell? ⟨w.heap.size, 0, none⟩ = some (.int .i64 0) := h9.cell 0; have r1 : w9.cell? ⟨w.heap.size, 1, none⟩ = some (.int .i64 0) := h9.cell 1; have r2 : w9.cell? ⟨w.heap.size, 2, none⟩ = some (.int .i64 0) := h9.cell 2; clear h9)
    | fail)
  try simp only [Exit.inBlock, Exit.then]
  refine bodyPost_ret (by simp [results, Tryz.results17, go_sem, r0, r1, r2]; try rfl) rfl ?_
  exact ⟨rfl, fX.trans f9 (fun _ _ q => q) (fun q hq e => by unfold onlyB at e; omega)⟩
theorem nil_Hear (v : Value) (w : World) : Calls Tryz.prog 23 #[.pointer none, v] w fun e w' => e = .returned (.tuple #[.slice none 0 0, .slice none 0 0]) ∧ Fr noB w w' := by
  go_enter Tryz.func23, Tryz.ntmps23
  go_wp2_with fail
  go_ret2
  exact ⟨rfl, Fr.refl _ _⟩
theorem nil_Tick  (w : World) : Calls Tryz.prog 20 #[.pointer none] w fun e w' => e = .returned (.slice none 0 0) ∧ Fr noB w w' := by
  go_enter Tryz.func20, Tryz.ntmps20
  go_wp2_with fail
  go_ret
  exact ⟨rfl, Fr.refl _ _⟩
theorem nil_Spans (t : Int) (w : World) : Calls Tryz.prog 28 #[.pointer none, .int .i64 t] w fun e w' => e = .returned (.slice none 0 0) ∧ Fr noB w w' := by
  go_enter Tryz.func28, Tryz.ntmps28
  go_wp2_with fail
  go_ret
  exact ⟨rfl, Fr.refl _ _⟩
theorem nil_Crumbs (t : Int) (w : World) : Calls Tryz.prog 30 #[.pointer none, .int .i64 t] w fun e w' => e = .returned (.slice none 0 0) ∧ Fr noB w w' := by
  go_enter Tryz.func30, Tryz.ntmps30
  go_wp2_with fail
  go_ret
  exact ⟨rfl, Fr.refl _ _⟩
theorem nil_Job (t : Int) (w : World) : Calls Tryz.prog 32 #[.pointer none, .int .i64 t] w fun e w' => e = .returned (.int .i64 0) ∧ Fr noB w w' := by
  go_enter Tryz.func32, Tryz.ntmps32
  go_wp2_with fail
  go_ret
  exact ⟨rfl, Fr.refl _ _⟩
theorem nil_Lost (t : Int) (w : World) : Calls Tryz.prog 34 #[.pointer none, .int .i64 t] w fun e w' => e = .returned (.bool false) ∧ Fr noB w w' := by
  go_enter Tryz.func34, Tryz.ntmps34
  go_wp2_with fail
  go_ret
  exact ⟨rfl, Fr.refl _ _⟩
theorem nil_Used  (w : World) : Calls Tryz.prog 36 #[.pointer none] w fun e w' => e = .returned (.int .i64 0) ∧ Fr noB w w' := by
  go_enter Tryz.func36, Tryz.ntmps36
  go_wp2_with fail
  go_ret
  exact ⟨rfl, Fr.refl _ _⟩
theorem nil_Evicted  (w : World) : Calls Tryz.prog 38 #[.pointer none] w fun e w' => e = .returned (.slice none 0 0) ∧ Fr noB w w' := by
  go_enter Tryz.func38, Tryz.ntmps38
  go_wp2_with fail
  go_ret
  exact ⟨rfl, Fr.refl _ _⟩
end Go.Proofs.YtppmednmcbjafaaGreat
end

section
set_option linter.unusedVariables false
set_option linter.unusedSimpArgs false
set_option maxRecDepth 100000
set_option maxRecDepth 10000
namespace Go.Proofs.YtppmednmcbjafaaGreat
open Go.RowKit Go Go.Maps Go.Lib

/-- a configuration -/
structure Cf where
  M : Int
  N : Int
  T : Int
  J : Int
  sd : Int
  bB : Int
  bR : Int
def Cf.cs (c : Cf) : List Value := [.int .i64 c.M, .int .i64 c.N, .int .i64 c.T, .int .i64 c.J, .int .u64 c.sd, .int .i64 c.bB, .int .i64 c.bR]
def Cf.may (c : Cf) (id : Int) : Prop := (1 ≤ c.M ∧ c.M ≤ 4) ∧ (1 ≤ c.N ∧ c.N ≤ 16) ∧ (1 ≤ c.T ∧ c.T ≤ 1000) ∧ (0 ≤ c.bB ∧ c.bB ≤ 1000) ∧ (0 ≤ c.bR ∧ c.bR ≤ 1000) ∧ 0 ≤ id ∧ id < c.M
/-- the agent that is new -/
def AG.new (id : Int) (c : Cf) : AG := ⟨id, c.N.toNat, c.M, ⟨c.sd, [], [], [], []⟩, fun _ => [], c.T, 0, fun _ => none, fun _ => 0, c.bB, c.bR, fun _ => c.bB, fun _ => 0, fun _ => 0⟩
theorem AG.new_inv (id : Int) (c : Cf) : (AG.new id c).Inv := ⟨fun t x h => (by cases h), fun t => by simp [AG.new], fun t => Int.le_refl _, fun t => Int.le_refl _⟩
def nwC (id : Int) (k cg lg dm : Nat) (q : Nat) (b : Nat → Nat) : List Value := [.int .i64 id, .pointer (some ⟨k, 0, none⟩), .pointer (some ⟨cg, 0, none⟩), .pointer (some ⟨lg, 0, none⟩), if 0 < q then .pointer (some ⟨b 0, 0, none⟩) else .pointer none, if 1 < q then .pointer (some ⟨b 1, 0, none⟩) else .pointer none, if 2 < q then .pointer (some ⟨b 2, 0, none⟩) else .pointer none, if 3 < q then .pointer (some ⟨b 3, 0, none⟩) else .pointer none, .map (some dm)]
theorem nwC_set (id : Int) (k cg lg dm q g : Nat) (b : Nat → Nat) (hq : q < 4) : (nwC id k cg lg dm q b).set (4 + q) (.pointer (some ⟨g, 0, none⟩)) = nwC id k cg lg dm (q + 1) (fun i => if i = q then g else b i) := by
  rcases (by omega : q = 0 ∨ q = 1 ∨ q = 2 ∨ q = 3) with rfl | rfl | rfl | rfl <;> simp [nwC]
/-- four buckets and the parts, coloured -/
noncomputable def nwCol (s0 s1 s2 s3 : Nat) (C K L : Nat → Prop) (p : Nat) (b : Nat → Nat) : Nat → Nat := fun q => open Classical in
  if q < s0 then 0 else if q < s1 then (if C q then 2 else 0) else if q < s2 then (if K q then 1 else 0) else if q < s3 then (if L q then 3 else 0) else if q = s3 then 8 else if q = p then 9 else if q = b 0 then 4 else if q = b 1 then 5 else if q = b 2 then 6 else if q = b 3 then 7 else 0
theorem nwCol_C {s0 s1 s2 s3 p : Nat} {C K L : Nat → Prop} {b : Nat → Nat} {q : Nat} (h0 : s0 ≤ q) (h1 : q < s1) (hc : C q) : nwCol s0 s1 s2 s3 C K L p b q = 2 := by
  unfold nwCol; rw [if_neg (by omega), if_pos h1, if_pos hc]
theorem nwCol_K {s0 s1 s2 s3 p : Nat} {C K L : Nat → Prop} {b : Nat → Nat} {q : Nat} (h0 : s0 ≤ s1) (h1 : s1 ≤ q) (h2 : q < s2) (hc : K q) : nwCol s0 s1 s2 s3 C K L p b q = 1 := by
  unfold nwCol; rw [if_neg (by omega), if_neg (by omega), if_pos h2, if_pos hc]
theorem nwCol_L {s0 s1 s2 s3 p : Nat} {C K L : Nat → Prop} {b : Nat → Nat} {q : Nat} (h0 : s0 ≤ s1) (h1 : s1 ≤ s2) (h2 : s2 ≤ q) (h3 : q < s3) (hc : L q) : nwCol s0 s1 s2 s3 C K L p b q = 3 := by
  unfold nwCol; rw [if_neg (by omega), if_neg (by omega), if_neg (by omega), if_pos h3, if_pos hc]
theorem nwCol_hi {s0 s1 s2 s3 p : Nat} {C K L : Nat → Prop} {b : Nat → Nat} {q : Nat} (h0 : s0 ≤ s1) (h1 : s1 ≤ s2) (h2 : s2 ≤ s3) (h3 : s3 ≤ q) : nwCol s0 s1 s2 s3 C K L p b q = (if q = s3 then 8 else if q = p then 9 else if q = b 0 then 4 else if q = b 1 then 5 else if q = b 2 then 6 else if q = b 3 then 7 else 0) := by
  unfold nwCol; rw [if_neg (by omega), if_neg (by omega), if_neg (by omega), if_neg (by omega)]
theorem nwCol_lo {s0 s1 s2 s3 p : Nat} {C K L : Nat → Prop} {b : Nat → Nat} {q : Nat} (h0 : q < s0) : nwCol s0 s1 s2 s3 C K L p b q = 0 := by
  unfold nwCol; rw [if_pos h0]
theorem nwCol_top {s0 s1 s2 s3 p : Nat} {C K L : Nat → Prop} {b : Nat → Nat} {q z : Nat} (hz : s3 < z ∧ s2 ≤ z ∧ s1 ≤ z) (hp : p < z) (hb : ∀ i, i < 4 → b i < z) (h : nwCol s0 s1 s2 s3 C K L p b q ≠ 0) : q < z := by
  rcases Nat.lt_or_ge q z with h1 | h1
  · exact h1
  · refine absurd ?_ h
    have h0 := hb 0 (by omega)
    have h2 := hb 1 (by omega)
    have h3 := hb 2 (by omega)
    have h4 := hb 3 (by omega)
    unfold nwCol
    by_cases hq : q < s0
    · rw [if_pos hq]
    · rw [if_neg hq, if_neg (by omega), if_neg (by omega), if_neg (by omega), if_neg (by omega), if_neg (by omega), if_neg (by omega), if_neg (by omega), if_neg (by omega), if_neg (by omega)]

set_option maxHeartbeats 4000000 in
theorem ag_new (id : Int) (c : Cf) (w : World) (hm : c.may id) (hsd : U64 c.sd) : Calls Tryz.prog 10 #[.int .i64 id, .agg c.cs.toArray] w fun e w' => ∃ p col, e = .returned (.tuple #[.pointer (some ⟨p, 0, none⟩), .int .i64 0]) ∧ (∃ a, AgA w' p col 0 (AG.new id c) a) ∧ Fr noB w w' ∧ ∀ q, q < w.heap.size → col q = 0 := by
  obtain ⟨⟨m0, m1⟩, ⟨n0, n1⟩, ⟨t0, t1⟩, ⟨b0, b1⟩, ⟨r0, r1⟩, i0, i1⟩ := hm
  obtain ⟨M, N0, T, J, sd, bB, bR⟩ := c
  simp only at m0 m1 n0 n1 t0 t1 b0 b1 r0 r1 i1 hsd
  obtain ⟨N, rfl⟩ : ∃ N : Nat, N0 = (N : Int) := ⟨N0.toNat, by omega⟩
  unfold Cf.cs
  simp only
  have fX := (Fr.refl noB w).alloc (.cells #[.int .i64 M, .int .i64 N, .int .i64 T, .int .i64 J, .int .u64 sd, .int .i64 bB, .int .i64 bR] 24)
  have bX := Blk.new w 24 [.int .i64 M, .int .i64 N, .int .i64 T, .int .i64 J, .int .u64 sd, .int .i64 bB, .int .i64 bR]
  have hsX : (w.alloc (.cells #[.int .i64 M, .int .i64 N, .int .i64 T, .int .i64 J, .int .u64 sd, .int .i64 bB, .int .i64 bR] 24)).heap.size = w.heap.size + 1 := by simp
  have hcr := fun w' => cnew_any M w' m0 m1
  have hkn := fun w' => knew_any N sd w' (by omega) (by omega) hsd
  have hln := fun w' => lnew_any T w' t0 t1
  have hmm := @run_makeMap Tryz.prog
  have hbn := fun w' => new_any bB bR w' ⟨b0, b1, r0, r1⟩
  have x0 : (w.alloc (.cells #[.int .i64 M, .int .i64 N, .int .i64 T, .int .i64 J, .int .u64 sd, .int .i64 bB, .int .i64 bR] 24)).cell? ⟨w.heap.size, 0, none⟩ = some (.int .i64 M) := bX.cell 0
  have g1 : decide (id < 0) = false := by simp; omega
  have g2 : decide (M ≤ id) = false := by simp; omega
  replace hcr := Lib.hid hcr
  replace hkn := Lib.hid hkn
  replace hln := Lib.hid hln
  replace hbn := Lib.hid hbn
  go_enter Tryz.func10, Tryz.ntmps10
  go_wp2_with fail
  generalize (w.alloc (.cells #[.int .i64 M, .int .i64 N, .int .i64 T, .int .i64 J, .int .u64 sd, .int .i64 bB, .int .i64 bR] 24)) = wX at *
  obtain ⟨gX, hgX⟩ : ∃ g, w.heap.size = g := ⟨_, rfl⟩
  rw [hgX] at bX hsX x0 ⊢
  replace hgX := Lib.hid hgX
  replace hsX := Lib.hid hsX
  go_fit (hcr.out wX)
  rintro e w1 ⟨rfl, cm, f1⟩
  have b1c := f1.blk bX (fun q => q)
  have x1 : w1.cell? ⟨gX, 1, none⟩ = some (.int .i64 N) := b1c.cell 1
  have x4 : w1.cell? ⟨gX, 4, none⟩ = some (.int .u64 sd) := b1c.cell 4
  replace cm := Lib.hid cm
  clear x0
  go_wp2_with fail
  go_fit (hkn.out w1)
  rintro e w2 ⟨k, g, bp, bl, B, rfl, kp, f2, k1, k2, k3, k4⟩
  have b2c := f2.blk b1c (fun q => q)
  have y2 : w2.cell? ⟨gX, 2, none⟩ = some (.int .i64 T) := b2c.cell 2
  replace kp := Lib.hid kp
  clear x1 x4
  go_wp2_with fail
  go_fit (hln.out w2)
  rintro e w3 ⟨rfl, ls, f3⟩
  have b3c := f3.blk b2c (fun q => q)
  have y0 : w3.cell? ⟨gX, 0, none⟩ = some (.int .i64 M) := b3c.cell 0
  replace ls := Lib.hid ls
  clear y2
  obtain ⟨cg, hcg⟩ : ∃ z, wX.heap.size + 1 = z := ⟨_, rfl⟩
  obtain ⟨lg, hlg⟩ : ∃ z, w2.heap.size + 2 = z := ⟨_, rfl⟩
  rw [hcg, hlg]
  replace hcg := Lib.hid hcg
  replace hlg := Lib.hid hlg
  have fm := (Fr.refl noB w3).alloc (.map #[] 0)
  have mm : Mp Tryz.prog 3 klI mkI (w3.alloc (.map #[] 0)) w3.heap.size 0 [] := Mp.made w3
  have sm : (w3.alloc (.map #[] 0)).heap.size = w3.heap.size + 1 := by simp
  have fp := (Fr.refl noB (w3.alloc (.map #[] 0))).alloc (.cells #[.int .i64 id, .pointer (some ⟨k, 0, none⟩), .pointer (some ⟨cg, 0, none⟩), .pointer (some ⟨lg, 0, none⟩), .pointer none, .pointer none, .pointer none, .pointer none, .map (some w3.heap.size)] 112)
  have bp5 := Blk.new (w3.alloc (.map #[] 0)) 112 [.int .i64 id, .pointer (some ⟨k, 0, none⟩), .pointer (some ⟨cg, 0, none⟩), .pointer (some ⟨lg, 0, none⟩), .pointer none, .pointer none, .pointer none, .pointer none, .map (some w3.heap.size)]
  rw [sm] at bp5
  have sp : ((w3.alloc (.map #[] 0)).alloc (.cells #[.int .i64 id, .pointer (some ⟨k, 0, none⟩), .pointer (some ⟨cg, 0, none⟩), .pointer (some ⟨lg, 0, none⟩), .pointer none, .pointer none, .pointer none, .pointer none, .map (some w3.heap.size)] 112)).heap.size = w3.heap.size + 2 := by simp
  have fr5 := fm.seqN fp
  have mm5 := mm.fr fp (fun q => q)
  replace mm5 := Lib.hid mm5
  replace bp5 := Lib.hid bp5
  replace sp := Lib.hid sp
  replace sm := Lib.hid sm
  clear mm fm fp
  go_wp2_with fail
  generalize ((w3.alloc (.map #[] 0)).alloc (.cells #[.int .i64 id, .pointer (some ⟨k, 0, none⟩), .pointer (some ⟨cg, 0, none⟩), .pointer (some ⟨lg, 0, none⟩), .pointer none, .pointer none, .pointer none, .pointer none, .map (some w3.heap.size)] 112)) = w5 at *
  obtain ⟨dm, hdm⟩ : ∃ z, w3.heap.size = z := ⟨_, rfl⟩
  rw [hdm] at mm5 bp5 sp sm
  try rw [hdm]
  obtain ⟨p, hp⟩ : ∃ z, dm + 1 = z := ⟨_, rfl⟩
  rw [hp] at bp5 sm
  try rw [hp]
  have b5c := fr5.blk b3c (fun q => q)
  have hgXp : gX ≠ p := by
    have h1 := b3c.lt
    omega
  have hB0 : Blk w5 p 112 (nwC id k cg lg dm 0 (fun _ => 0)) := bp5.out
  replace hB0 := Lib.hid hB0
  replace hdm := Lib.hid hdm
  replace hp := Lib.hid hp
  replace b5c := Lib.hid b5c
  replace fr5 := Lib.hid fr5
  replace f1 := Lib.hid f1
  replace f2 := Lib.hid f2
  replace f3 := Lib.hid f3
  replace fX := Lib.hid fX
  clear y0 b1c b2c b3c bX bp5
  go_loopw [59] (fun vi wr => ∃ (q : Nat) (b : Nat → Nat), q ≤ 4 ∧ vi = .int .i64 q ∧ Hid (Blk wr p 112 (nwC id k cg lg dm q b)) ∧ Hid (∀ i, i < q → Blk wr (b i) 158 (bk bB bR bB 0) ∧ w5.heap.size ≤ b i) ∧ Hid (∀ i j, i < q → j < q → i ≠ j → b i ≠ b j) ∧ Fr (onlyB p) w5 wr) (fun vi _ => 4 - (RowKit.intOf vi).toNat)
  case atStart => exact ⟨0, fun _ => 0, by omega, rfl, hB0, Lib.hid (fun i hi => absurd hi (Nat.not_lt_zero _)), Lib.hid (fun i j hi _ _ => absurd hi (Nat.not_lt_zero _)), Fr.refl _ _⟩
  case round =>
    clear hB0
    obtain ⟨q, b, hq, rfl, hB, hbs, hne, fr⟩ := hrel
    have hsz := fr.size
    by_cases hlt : q < 4
    · have bc := fr.blk b5c.out hgXp
      have x5 : wr.cell? ⟨gX, 5, none⟩ = some (.int .i64 bB) := bc.cell 5
      have x6 : wr.cell? ⟨gX, 6, none⟩ = some (.int .i64 bR) := bc.cell 6
      have f7 : Fr noB wr (wr.alloc (.cells (bk bB bR bB 0).toArray 158)) := (Fr.refl _ _).alloc _
      have b7 := f7.blk hB.out (fun q => q)
      have bn := Blk.new wr 158 (bk bB bR bB 0)
      have hpl := hB.out.lt
      have hnext : Blk ((wr.alloc (.cells (bk bB bR bB 0).toArray 158)).setCell ⟨p, 4 + q, none⟩ (.pointer (some ⟨wr.heap.size, 0, none⟩))) p 112 (nwC id k cg lg dm (q + 1) (fun i => if i = q then wr.heap.size else b i)) ∧ (∀ i, i < q + 1 → Blk ((wr.alloc (.cells (bk bB bR bB 0).toArray 158)).setCell ⟨p, 4 + q, none⟩ (.pointer (some ⟨wr.heap.size, 0, none⟩))) (if i = q then wr.heap.size else b i) 158 (bk bB bR bB 0) ∧ w5.heap.size ≤ (if i = q then wr.heap.size else b i)) ∧ (∀ i j, i < q + 1 → j < q + 1 → i ≠ j → (if i = q then wr.heap.size else b i) ≠ (if j = q then wr.heap.size else b j)) ∧ Fr (onlyB p) w5 ((wr.alloc (.cells (bk bB bR bB 0).toArray 158)).setCell ⟨p, 4 + q, none⟩ (.pointer (some ⟨wr.heap.size, 0, none⟩))) := by
        have fS : Fr (onlyB p) (wr.alloc (.cells (bk bB bR bB 0).toArray 158)) ((wr.alloc (.cells (bk bB bR bB 0).toArray 158)).setCell ⟨p, 4 + q, none⟩ (.pointer (some ⟨wr.heap.size, 0, none⟩))) := (Fr.refl (onlyB p) _).store rfl
        have hlo : ∀ i, i < q → b i < wr.heap.size ∧ b i ≠ p := fun i hi => by
          obtain ⟨h1, h2⟩ := hbs.out i hi
          refine ⟨h1.lt, ?_⟩
          have := sp.out; have := hp.out; omega
        refine ⟨?_, fun i hi => ?_, fun i j hi hj hij => ?_, (fr.seqN f7).trans fS (fun _ _ q => q) (fun _ _ q => q)⟩
        · have := b7.set (4 + q) (.pointer (some ⟨wr.heap.size, 0, none⟩))
          rw [nwC_set _ _ _ _ _ _ _ _ hlt] at this
          exact this
        · by_cases h1 : i = q
          · rw [if_pos h1]
            exact ⟨fS.blk bn (fun e => by unfold onlyB at e; omega), hsz⟩
          · rw [if_neg h1]
            obtain ⟨h2, h3⟩ := hbs.out i (by omega)
            exact ⟨fS.blk (f7.blk h2 (fun q => q)) (hlo i (by omega)).2, h3⟩
        · by_cases h1 : i = q
          · rw [if_pos h1, if_neg (by omega)]
            have := (hlo j (by omega)).1; omega
          · rw [if_neg h1]
            by_cases h2 : j = q
            · rw [if_pos h2]; have := (hlo i (by omega)).1; omega
            · rw [if_neg h2]; exact hne.out i j (by omega) (by omega) hij
      have hc8 : (wr.alloc (.cells (bk bB bR bB 0).toArray 158)).cell? ⟨p, 4 + q, none⟩ = some (.pointer none) := by
        rw [b7.cell]
        rcases (by omega : q = 0 ∨ q = 1 ∨ q = 2 ∨ q = 3) with rfl | rfl | rfl | rfl <;> rfl
      have hz8 := b7.frozen (4 + q)
      replace hnext := Lib.hid hnext
      clear b7 bn f7 hB hbs hne bc hpl hsz
      rcases (by omega : q = 0 ∨ q = 1 ∨ q = 2 ∨ q = 3) with rfl | rfl | rfl | rfl
      all_goals (
        simp only [show ((0 : Nat) : Int) = 0 from rfl, show ((1 : Nat) : Int) = 1 from rfl, show ((2 : Nat) : Int) = 2 from rfl, show ((3 : Nat) : Int) = 3 from rfl]
        go_wp2_with fail
        go_fit (hbn.out wr)
        rintro e w7 ⟨rfl, hw7⟩
        subst hw7
        go_wp2_with fail
        go_roundw
        case rel => first | exact ⟨1, _, by omega, rfl, Lib.hid hnext.out.1, Lib.hid hnext.out.2.1, Lib.hid hnext.out.2.2.1, hnext.out.2.2.2⟩ | exact ⟨2, _, by omega, rfl, Lib.hid hnext.out.1, Lib.hid hnext.out.2.1, Lib.hid hnext.out.2.2.1, hnext.out.2.2.2⟩ | exact ⟨3, _, by omega, rfl, Lib.hid hnext.out.1, Lib.hid hnext.out.2.1, Lib.hid hnext.out.2.2.1, hnext.out.2.2.2⟩ | exact ⟨4, _, by omega, rfl, Lib.hid hnext.out.1, Lib.hid hnext.out.2.1, Lib.hid hnext.out.2.2.1, hnext.out.2.2.2⟩
        case measure => simp [RowKit.intOf])
    · obtain rfl : q = 4 := by omega
      go_wp2_with fail
      go_ret2
      have hggX := hgX.out
      have hsz1 := f1.out.size
      have hsz2 := f2.out.size
      have hsz3 := f3.out.size
      have hsz5 := sp.out
      have hd := hdm.out
      have hpp := hp.out
      have hX0 := hsX.out
      have hcgg := hcg.out
      have hlgg := hlg.out
      have F3 : Fr (onlyB p) w3 wr := fr5.out.trans fr (fun _ _ q => False.elim q) (fun _ _ q => q)
      have F2 : Fr (onlyB p) w2 wr := f3.out.trans F3 (fun _ _ q => False.elim q) (fun _ _ q => q)
      have F1 : Fr (onlyB p) w1 wr := f2.out.trans F2 (fun _ _ q => False.elim q) (fun _ _ q => q)
      have hcmlt : ∀ q, cmB w1 cg wX.heap.size (wX.heap.size + 2) [] q → wX.heap.size ≤ q ∧ q < w1.heap.size := fun q hq => by
        have hBw := cm.out.Bw
        rcases hq with e1 | e1 | ⟨y, hy, _⟩
        · rw [e1]; omega
        · rw [e1]; omega
        · cases hy
      have hkplt : ∀ q, kpS k g bp bl none q → w1.heap.size ≤ q ∧ q < w2.heap.size := fun q hq => by
        refine ⟨?_, kp.out.low hq⟩
        rcases hq with e1 | e1 | e1 | e1 | ⟨o, e1⟩
        · rw [e1]; exact k1
        · rw [e1]; exact k2
        · rw [e1]; exact k3
        · rw [e1]; exact k4
        · cases e1
      have hlslt : ∀ q, lsB lg w2.heap.size (w2.heap.size + 1) q → w2.heap.size ≤ q ∧ q < w3.heap.size := fun q hq => by
        refine ⟨?_, ?_⟩
        · rcases hq with e1 | e1 | e1
          · rw [e1]; omega
          · rw [e1]; exact Nat.le_refl _
          · rw [e1]; omega
        · have hls := ls.out
          rw [hlgg] at hls
          exact hls.lt q hq
      have cm2 := cm.out
      rw [hcgg] at cm2
      have ls2 := ls.out
      rw [hlgg] at ls2
      have hp9 : ∀ q, q < w3.heap.size → ¬ onlyB p q := fun q hq e => by unfold onlyB at e; omega
      have hbb := fun i (hi : i < 4) => (hbs.out i hi).2
      have hhi : ∀ q, w3.heap.size ≤ q → nwCol wX.heap.size w1.heap.size w2.heap.size w3.heap.size (cmB w1 cg wX.heap.size (wX.heap.size + 2) []) (kpS k g bp bl none) (lsB lg w2.heap.size (w2.heap.size + 1)) p b q = (if q = w3.heap.size then 8 else if q = p then 9 else if q = b 0 then 4 else if q = b 1 then 5 else if q = b 2 then 6 else if q = b 3 then 7 else 0) := fun q hq => nwCol_hi hsz1 hsz2 hsz3 hq
      refine ⟨p, nwCol wX.heap.size w1.heap.size w2.heap.size w3.heap.size (cmB w1 cg wX.heap.size (wX.heap.size + 2) []) (kpS k g bp bl none) (lsB lg w2.heap.size (w2.heap.size + 1)) p b, rfl, ⟨⟨k, g, bp, bl, B, none, 0, cg, wX.heap.size, wX.heap.size + 2, 0, [], lg, w2.heap.size, w2.heap.size + 1, [], [], [], b, dm, []⟩, ?_⟩, ?_, fun q hq => nwCol_lo (by omega)⟩
      · exact {
          blk := hB.out
          kp := kp.out.fr F2 (fun q hq => hp9 q (by have := (hkplt q hq).2; omega))
          cm := cm2.fr F1 (fun q hq => hp9 q (by have := (hcmlt q hq).2; omega))
          ls := ls2.fr F3 (fun q hq => hp9 q (hlslt q hq).2)
          hH := fun t => rfl
          hO := fun t => rfl
          k := fun i hi => (hbs.out i hi).1
          kb := ⟨⟨b0, b1⟩, ⟨r0, r1⟩, fun i hi => ⟨⟨b0, b1⟩, Int.le_refl _, Int.le_refl _⟩⟩
          dm := mm5.out.fr fr (fun e => by unfold onlyB at e; omega)
          hD := fun t => rfl
          c1 := fun q hq => nwCol_K hsz1 (hkplt q hq).1 (hkplt q hq).2 hq
          c2 := fun q hq => nwCol_C (hcmlt q hq).1 (hcmlt q hq).2 hq
          c3 := fun q hq => nwCol_L hsz1 hsz2 (hlslt q hq).1 (hlslt q hq).2 hq
          c4 := fun i hi => by
            have hb0 := hbb 0 (by omega)
            have hb1 := hbb 1 (by omega)
            have hb2 := hbb 2 (by omega)
            have hb3 := hbb 3 (by omega)
            have n01 := hne.out 0 1 (by omega) (by omega) (by omega)
            have n02 := hne.out 0 2 (by omega) (by omega) (by omega)
            have n03 := hne.out 0 3 (by omega) (by omega) (by omega)
            have n12 := hne.out 1 2 (by omega) (by omega) (by omega)
            have n13 := hne.out 1 3 (by omega) (by omega) (by omega)
            have n23 := hne.out 2 3 (by omega) (by omega) (by omega)
            show nwCol wX.heap.size w1.heap.size w2.heap.size w3.heap.size (cmB w1 cg wX.heap.size (wX.heap.size + 2) []) (kpS k g bp bl none) (lsB lg w2.heap.size (w2.heap.size + 1)) p b (b i) = 4 + i
            rw [hhi _ (by have := hbb i hi; omega)]
            rcases (by omega : i = 0 ∨ i = 1 ∨ i = 2 ∨ i = 3) with rfl | rfl | rfl | rfl
            · rw [if_neg (by omega), if_neg (by omega), if_pos rfl]
            · rw [if_neg (by omega), if_neg (by omega), if_neg (by omega), if_pos rfl]
            · rw [if_neg (by omega), if_neg (by omega), if_neg (by omega), if_neg (by omega), if_pos rfl]
            · rw [if_neg (by omega), if_neg (by omega), if_neg (by omega), if_neg (by omega), if_neg (by omega), if_pos rfl]
          c8 := by
            show nwCol wX.heap.size w1.heap.size w2.heap.size w3.heap.size (cmB w1 cg wX.heap.size (wX.heap.size + 2) []) (kpS k g bp bl none) (lsB lg w2.heap.size (w2.heap.size + 1)) p b dm = 8
            rw [hhi _ (by omega), if_pos (by omega)]
          c9 := by rw [hhi _ (by omega), if_neg (by omega), if_pos rfl]
          low := fun q hq => nwCol_top (z := wr.heap.size) ⟨by omega, by omega, by omega⟩ (by omega) (fun i hi => (hbs.out i hi).1.lt) hq
          z1 := ⟨Int.le_refl _, Nat.le_refl _, Nat.le_refl _, Nat.le_refl _⟩
          z2 := ⟨Nat.le_refl _, Nat.le_refl _, Nat.le_refl _⟩
          zn := by omega
          zi := ⟨i0, i1⟩ }
      · have G1 : Fr noB w w3 := ((fX.out.seqN f1.out).seqN f2.out).seqN f3.out
        have hg := hgX.out
        exact (G1.seqN fr5.out).trans fr (fun _ _ q => q) (fun q hq e => by unfold onlyB at e; omega)

/-! ### what is held while agents go on -/
/-- blocks that are none of the agent's hold it -/
def Held (w : World) (col : Nat → Nat) (R : World → Prop) : Prop := ∃ N : Nat → Prop, Kept N w R ∧ ∀ q, N q → q < w.heap.size ∧ col q = 0
theorem Held.now {w : World} {col : Nat → Nat} {R : World → Prop} (h : Held w col R) : R w := by obtain ⟨N, h1, _⟩ := h; exact h1.now
theorem Held.mk {n0 : Nat} {w : World} {col : Nat → Nat} {R : World → Prop} (h : Kept (freeB n0 col) w R) : Held w col R :=
  ⟨fun q => freeB n0 col q ∧ q < w.heap.size, fun w' f => h w' (f.mono (fun q hq z y => z ⟨y, hq⟩)), fun q hq => ⟨hq.2, hq.1.2⟩⟩
theorem Held.call {w w2 : World} {p n : Nat} {col c2 : Nat → Nat} {A : AG} {R : World → Prop} (h : Held w col R) (k : ATo w w2 p col n A c2) : Held w2 c2 R := by
  obtain ⟨N, h1, h2⟩ := h
  obtain ⟨_, f, hc⟩ := k
  exact ⟨N, h1.step f (fun q hq z => hq (h2 q z).2), fun q hq => ⟨Nat.lt_of_lt_of_le (h2 q hq).1 f.size, by rw [hc q (h2 q hq).1]; exact (h2 q hq).2⟩⟩
theorem Held.frN {w w2 : World} {col : Nat → Nat} {R : World → Prop} (h : Held w col R) (f : Fr noB w w2) : Held w2 col R := by
  obtain ⟨N, h1, h2⟩ := h
  exact ⟨N, h1.stepN f, fun q hq => ⟨Nat.lt_of_lt_of_le (h2 q hq).1 f.size, (h2 q hq).2⟩⟩
theorem Held.any {w : World} {col : Nat → Nat} {R : World → Prop} (h : ∀ u, R u) : Held w col R := ⟨fun _ => False, Kept.any h, fun q hq => False.elim hq⟩
/-- a block of the caller's own -/
theorem Held.blk {w : World} {col : Nat → Nat} {g : Nat} {t : TypeId} {cs : List Value} (hb : Blk w g t cs) (hc : col g = 0) : Held w col (fun u => Blk u g t cs) :=
  ⟨fun q => q = g, fun w' f => f.blk hb (fun q => q rfl), fun q hq => by rw [hq]; exact ⟨hb.lt, hc⟩⟩
end Go.Proofs.YtppmednmcbjafaaGreat
end

section
set_option linter.unusedVariables false
set_option linter.unusedSimpArgs false
set_option maxRecDepth 100000
set_option maxRecDepth 10000
namespace Go.Proofs.YtppmednmcbjafaaGreat
open Go.RowKit Go Go.Maps Go.Lib

def cfA : Cf := ⟨3, 4, 3, 4, 9, 2, 1⟩
theorem cfA_u64 : U64 9 := by constructor <;> decide
theorem cfg_any (w : World) : Calls Tryz.prog 39 #[] w fun e w' => e = .returned (.agg #[.int .i64 3, .int .i64 4, .int .i64 3, .int .i64 4, .int .u64 9, .int .i64 2, .int .i64 1]) ∧ Fr noB w w' := by
  have fX := (Fr.refl noB w).alloc (.cells #[.int .i64 3, .int .i64 4, .int .i64 3, .int .i64 4, .int .u64 9, .int .i64 2, .int .i64 1] 24)
  have bX := Blk.new w 24 [.int .i64 3, .int .i64 4, .int .i64 3, .int .i64 4, .int .u64 9, .int .i64 2, .int .i64 1]
  have r0 := bX.cell 0
  have r1 := bX.cell 1
  have r2 := bX.cell 2
  have r3 := bX.cell 3
  have r4 := bX.cell 4
  have r5 := bX.cell 5
  have r6 := bX.cell 6
  go_enter Tryz.func39, Tryz.ntmps39
  go_wp2_with fail
  try simp only [Exit.inBlock, Exit.then]
  refine bodyPost_ret (by simp [results, Tryz.results39, go_sem, r0, r1, r2, r3, r4, r5, r6]; try rfl) rfl ?_
  exact ⟨rfl, fX⟩
set_option maxHeartbeats 2000000 in
/-- there is no agent of that number -/
theorem ag_new_id (id : Int) (c : Cf) (w : World) (hm : (1 ≤ c.M ∧ c.M ≤ 4) ∧ (1 ≤ c.N ∧ c.N ≤ 16) ∧ (1 ≤ c.T ∧ c.T ≤ 1000)) (hsd : U64 c.sd) (hi : c.M ≤ id) (h0 : 0 ≤ id) : Calls Tryz.prog 10 #[.int .i64 id, .agg c.cs.toArray] w fun e w' => e = .returned (.tuple #[.pointer none, .int .i64 1]) ∧ Fr noB w w' := by
  obtain ⟨⟨m0, m1⟩, ⟨n0, n1⟩, ⟨t0, t1⟩⟩ := hm
  obtain ⟨M, N0, T, J, sd, bB, bR⟩ := c
  simp only at m0 m1 n0 n1 t0 t1 hi hsd
  obtain ⟨N, rfl⟩ : ∃ N : Nat, N0 = (N : Int) := ⟨N0.toNat, by omega⟩
  unfold Cf.cs
  simp only
  have fX := (Fr.refl noB w).alloc (.cells #[.int .i64 M, .int .i64 N, .int .i64 T, .int .i64 J, .int .u64 sd, .int .i64 bB, .int .i64 bR] 24)
  have bX := Blk.new w 24 [.int .i64 M, .int .i64 N, .int .i64 T, .int .i64 J, .int .u64 sd, .int .i64 bB, .int .i64 bR]
  have hcr := fun w' => cnew_any M w' m0 m1
  have hkn := fun w' => knew_any N sd w' (by omega) (by omega) hsd
  have hln := fun w' => lnew_any T w' t0 t1
  have x0 : (w.alloc (.cells #[.int .i64 M, .int .i64 N, .int .i64 T, .int .i64 J, .int .u64 sd, .int .i64 bB, .int .i64 bR] 24)).cell? ⟨w.heap.size, 0, none⟩ = some (.int .i64 M) := bX.cell 0
  have g1 : decide (id < 0) = false := by simp; omega
  have g2 : decide (M ≤ id) = true := by simp; omega
  replace hcr := Lib.hid hcr
  replace hkn := Lib.hid hkn
  replace hln := Lib.hid hln
  go_enter Tryz.func10, Tryz.ntmps10
  go_wp2_with fail
  generalize (w.alloc (.cells #[.int .i64 M, .int .i64 N, .int .i64 T, .int .i64 J, .int .u64 sd, .int .i64 bB, .int .i64 bR] 24)) = wX at *
  obtain ⟨gX, hgX⟩ : ∃ g, w.heap.size = g := ⟨_, rfl⟩
  rw [hgX] at bX x0 ⊢
  replace hgX := Lib.hid hgX
  go_fit (hcr.out wX)
  rintro e w1 ⟨rfl, cm, f1⟩
  have b1c := f1.blk bX (fun q => q)
  have x1 : w1.cell? ⟨gX, 1, none⟩ = some (.int .i64 N) := b1c.cell 1
  have x4 : w1.cell? ⟨gX, 4, none⟩ = some (.int .u64 sd) := b1c.cell 4
  clear x0 cm
  go_wp2_with fail
  go_fit (hkn.out w1)
  rintro e w2 ⟨k, g, bp, bl, B, rfl, kp, f2, k1, k2, k3, k4⟩
  have b2c := f2.blk b1c (fun q => q)
  have y2 : w2.cell? ⟨gX, 2, none⟩ = some (.int .i64 T) := b2c.cell 2
  clear x1 x4 kp k1 k2 k3 k4
  go_wp2_with fail
  go_fit (hln.out w2)
  rintro e w3 ⟨rfl, ls, f3⟩
  have b3c := f3.blk b2c (fun q => q)
  have y0 : w3.cell? ⟨gX, 0, none⟩ = some (.int .i64 M) := b3c.cell 0
  clear y2 ls
  go_wp2_with fail
  go_ret2
  exact ⟨rfl, ((fX.seqN f1).seqN f2).seqN f3⟩

/-! ### the law's own agent, amid its calls -/
structure AgIn (w0 w : World) (p : Nat) (col : Nat → Nat) (n : Nat) (A : AG) : Prop where
  ag : ∃ a, AgA w p col n A a
  fr : Fr noB w0 w
  lo : ∀ q, q < w0.heap.size → col q = 0
theorem AgIn.step {w0 w w' : World} {p n m : Nat} {col c2 : Nat → Nat} {A B : AG} (h : AgIn w0 w p col n A) (k : ATo w w' p col m B c2) : AgIn w0 w' p c2 m B := by
  obtain ⟨ha, f, hc⟩ := k
  exact ⟨ha, h.fr.trans f (fun _ _ q => q) (fun q hq hs => hs (h.lo q hq)), fun q hq => by rw [hc q (Nat.lt_of_lt_of_le hq h.fr.size)]; exact h.lo q hq⟩
theorem AgIn.frN {w0 w w' : World} {p n : Nat} {col : Nat → Nat} {A : AG} (h : AgIn w0 w p col n A) (f : Fr noB w w') : AgIn w0 w' p col n A := by
  obtain ⟨⟨a, ha⟩, f0, hc⟩ := h
  exact ⟨⟨a, ha.frN f⟩, f0.seqN f, hc⟩
theorem AgIn.begin {w0 w w' : World} {p : Nat} {col : Nat → Nat} {A : AG} (f0 : Fr noB w0 w) (ha : ∃ a, AgA w' p col 0 A a) (f : Fr noB w w') (hc : ∀ q, q < w.heap.size → col q = 0) : AgIn w0 w' p col 0 A :=
  ⟨ha, f0.seqN f, fun q hq => hc q (Nat.lt_of_lt_of_le hq f0.size)⟩

def sx : ByteArray := ByteArray.mk #[120]
def sy : ByteArray := ByteArray.mk #[121]
def AA0 : AG := AG.new 1 cfA
def AA1 : AG := { AA0 with K := AA0.K.wr AA0.N 7 sx }
def AA2 : AG := AA1.cr 7 2
def AA3 : AG := AA2.tr 7 1
def AA4 : AG := AA3.hear (.pin 7 4)
def AA5 : AG := { AA4 with K := AA4.K.wr AA4.N 7 sy }
def AA6 : AG := AA5.hear (.collect 7 4)
def AA7 : AG := AA6.hear (.collect 7 5)
def AA8 : AG := AA7.hear (.unpin 7 4)
theorem aw1 : AA0.K.we AA0.N 7 sx = 0 := by decide +kernel
theorem aw1b : AA0.K.ws AA0.N 7 sx = ⟨7, 1, sx⟩ := rfl
theorem aw2 : AA1.crE 7 2 = 0 := by decide +kernel
theorem aw3 : AA2.trE 7 1 = 0 := by decide +kernel
theorem aw3b : AA2.trV 7 1 = .agg #[.int .i64 1, .int .i64 7, .int .i64 1] := by
  unfold AG.trV
  rw [if_pos aw3]
  rfl
theorem aw4 : AA3.outs (.pin 7 4) = ([.pinned ⟨1, 7, 4, 1, [2], false⟩], []) := rfl
theorem aw5 : AA4.K.we AA4.N 7 sy = 12 := by decide +kernel
theorem aw6 : AA5.outs (.collect 7 4) = ([], [.chunk 1 7 4 0 1 [⟨7, 1, sx⟩]]) := rfl
theorem aw7 : AA6.outs (.collect 7 5) = ([.gone 1 7 5], []) := rfl
theorem aw7b : AA7.job 7 = 4 := by decide +kernel
theorem aw8 : AA7.outs (.unpin 7 4) = ([.unpinned 1 7 4], []) := rfl
theorem aw9 : AA8.job 7 = 0 := by decide +kernel
theorem aw9b : txt AA8.K.P 7 = [] := rfl
theorem aw9c : used AA8.K.P = 0 := rfl
theorem kind_Gone (a t j : Int) (w : World) : Calls Tryz.prog 203 #[.agg #[.int .i64 a, .int .i64 t, .int .i64 j]] w fun e w' => e = .returned (.int .i64 4) ∧ Fr noB w w' := by
  have fX := (Fr.refl noB w).alloc (.cells #[.int .i64 a, .int .i64 t, .int .i64 j] 136)
  go_enter Tryz.func203, Tryz.ntmps203
  go_wp2_with fail
  go_ret
  exact ⟨rfl, fX⟩
theorem kind_Unpinned (a t j : Int) (w : World) : Calls Tryz.prog 207 #[.agg #[.int .i64 a, .int .i64 t, .int .i64 j]] w fun e w' => e = .returned (.int .i64 10) ∧ Fr noB w w' := by
  have fX := (Fr.refl noB w).alloc (.cells #[.int .i64 a, .int .i64 t, .int .i64 j] 143)
  go_enter Tryz.func207, Tryz.ntmps207
  go_wp2_with fail
  go_ret
  exact ⟨rfl, fX⟩
theorem MsW.no {w : World} {m : Ms} (h : MsW w (.bool true) m) : False := by
  cases m with
  | pinned q => obtain ⟨u, e, _⟩ := h; cases e
  | chunk => obtain ⟨u, e, _⟩ := h; cases e
  | manifest => obtain ⟨u, e, _⟩ := h; cases e
  | _ => cases h
/-- a message that is held lies in a block that is held: it is always the same -/
theorem Kept.cell {N : Nat → Prop} {w : World} {g o : Nat} {m : Ms} (h : Kept N w (fun u => ∃ x, u.cell? ⟨g, o, none⟩ = some x ∧ MsW u x m)) : ∃ x, Kept N w (fun u => u.cell? ⟨g, o, none⟩ = some x ∧ MsW u x m) := by
  obtain ⟨x, hx, hm⟩ := h.now
  have hN : N g := Classical.byContradiction fun hn => by
    have f : Fr (fun q => ¬ N q) w (w.setCell ⟨g, o, none⟩ (.bool true)) := (Fr.refl _ _).store hn
    obtain ⟨y, hy, hmy⟩ := h _ f
    rw [World.cell?_setCell_same' w _ _ (by rw [hx]; rfl)] at hy
    cases hy
    exact hmy.no
  refine ⟨x, fun w' f => ?_⟩
  obtain ⟨y, hy, hmy⟩ := h w' f
  have hc := f.cell hx (fun q => q hN)
  rw [hc] at hy
  cases hy
  exact ⟨hc, hmy⟩
theorem Held.cell {w : World} {col : Nat → Nat} {g o : Nat} {m : Ms} (h : Held w col (fun u => ∃ x, u.cell? ⟨g, o, none⟩ = some x ∧ MsW u x m)) : ∃ x, Held w col (fun u => u.cell? ⟨g, o, none⟩ = some x ∧ MsW u x m) := by
  obtain ⟨N, h1, h2⟩ := h
  obtain ⟨x, hx⟩ := h1.cell
  exact ⟨x, N, hx, h2⟩
theorem Held.imp {w : World} {col : Nat → Nat} {R T : World → Prop} (h : Held w col R) (k : ∀ u, R u → T u) : Held w col T := by
  obtain ⟨N, h1, h2⟩ := h
  exact ⟨N, fun w' f => k _ (h1 w' f), h2⟩
/-- one message in a slice -/
theorem OutW.get1 {w : World} {v : Value} {m : Ms} (h : OutW w v [m]) : ∃ g o c x, v = .slice (some ⟨g, o, none⟩) 1 c ∧ 1 ≤ c ∧ w.cell? ⟨g, o, none⟩ = some x ∧ MsW w x m := by
  obtain ⟨a, c, rfl, h1, h2, h3⟩ := h
  obtain ⟨g, o, x, rfl, h4, h5⟩ := h3 0 m rfl
  exact ⟨g, o, c, x, rfl, h1, h4, h5⟩
theorem OutW.get0 {w : World} {v : Value} (h : OutW w v []) : ∃ a c, v = .slice a 0 c := by
  obtain ⟨a, c, rfl, _⟩ := h
  exact ⟨a, c, rfl⟩
end Go.Proofs.YtppmednmcbjafaaGreat
end
