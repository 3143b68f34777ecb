/-
  Messages: may a chunk, a manifest be; may any message be.
  msg: the fields written, by kind.
  seglog: a record's text.
-/
import Derived.Test.YtdmhnoffejjpnaaGreatDoorZAM
import Derived.Test.YtdmhnoffejjpnaaGreatDoorZAN
section
set_option linter.unusedVariables false
set_option linter.unusedSimpArgs false
set_option maxRecDepth 100000
set_option maxRecDepth 100000
namespace Go.Proofs.YtdmhnoffejjpnaaGreatDoor
open Go.RowKit Go Go.Lib

theorem spsB_drop (t : Int) (L : List Sp) (k : Nat) (s : Sp) (h : L[k]? = some s) : spsB t (L.drop k) = ((rightS s && s.t == t) && spsB t (L.drop (k + 1))) := by
  obtain ⟨hk, rfl⟩ := List.getElem?_eq_some_iff.1 h
  rw [List.drop_eq_getElem_cons hk]
  rfl
theorem manF_drop (t j last : Int) (L : List Pn) (k : Nat) (p : Pn) (h : L[k]? = some p) : manF t j last (L.drop k) = (pnB p && (p.t == t && (p.j == j && (decide (last < p.a) && manF t j p.a (L.drop (k + 1)))))) := by
  obtain ⟨hk, rfl⟩ := List.getElem?_eq_some_iff.1 h
  rw [List.drop_eq_getElem_cons hk]
  rfl
theorem ret_b {a b : Bool} (h : a = b) : Ending.returned (.bool a) = .returned (.bool b) := by rw [h]

set_option maxHeartbeats 2000000 in
theorem chunk_any (a t j i n : Int) (v : Value) (sp : List Sp) (w : World) (hv : RdSp w v sp) :
    Calls Tryz.prog 85 #[.agg #[.int .i64 a, .int .i64 t, .int .i64 j, .int .i64 i, .int .i64 n, v]] w fun e w' => e = .returned (.bool (chunkB a t j i n sp)) ∧ Fr noB w w' := by
  obtain ⟨b, hb⟩ : ∃ b, chunkB a t j i n sp = b := ⟨_, rfl⟩
  rw [hb]
  unfold chunkB at hb
  have hget : ∀ k, k < sp.length → ∃ m, sp[k]? = some m := fun k hk => ⟨sp[k], List.getElem?_eq_getElem hk⟩
  have hdr := spsB_drop t sp
  have hd0 : spsB t (sp.drop 0) = spsB t sp := by rw [List.drop_zero]
  have hend : spsB t (sp.drop sp.length) = true := by rw [List.drop_length]; rfl
  obtain ⟨sa, c, rfl, hx1, hx2, _, hx3⟩ := hv
  clear hx2
  obtain ⟨N, hN⟩ : ∃ N, sp.length = N := ⟨_, rfl⟩
  rw [hN] at hget hend hx1 hb ⊢
  have fX := (Fr.refl noB w).alloc (.cells #[.int .i64 a, .int .i64 t, .int .i64 j, .int .i64 i, .int .i64 n, .slice sa N c] 75)
  have bX := Blk.new w 75 [.int .i64 a, .int .i64 t, .int .i64 j, .int .i64 i, .int .i64 n, .slice sa N c]
  have h1 := isAgent_any a
  have h2 := isTrace_any t
  have h3 := isJob_any j
  replace hx3 := Lib.hid hx3
  replace hget := Lib.hid hget
  replace hdr := Lib.hid hdr
  replace hend := Lib.hid hend
  replace hN := Lib.hid hN
  replace h1 := Lib.hid h1
  replace h2 := Lib.hid h2
  replace h3 := Lib.hid h3
  replace hb := Lib.hid hb
  replace hd0 := Lib.hid hd0
  go_enter Tryz.func85, Tryz.ntmps85
  go_wp2_with fail
  refine (h1.out _).mono ?_
  rintro e w1 ⟨rfl, hw1⟩
  obtain rfl := hw1.symm
  cases hb1 : inB 0 3 a with
  | false =>
    go_wp2_with fail
    go_ret
    exact ⟨ret_b (by rw [← hb.out, hb1]; rfl), fX⟩
  | true =>
  go_wp2_with fail
  refine (h2.out _).mono ?_
  rintro e w1 ⟨rfl, hw1⟩
  obtain rfl := hw1.symm
  cases hb2 : inB 1 65535 t with
  | false =>
    go_wp2_with fail
    go_ret
    exact ⟨ret_b (by rw [← hb.out, hb1, hb2]; rfl), fX⟩
  | true =>
  go_wp2_with fail
  refine (h3.out _).mono ?_
  rintro e w1 ⟨rfl, hw1⟩
  obtain rfl := hw1.symm
  cases hb3 : inB 1 1073741824 j with
  | false =>
    go_wp2_with fail
    go_ret
    exact ⟨ret_b (by rw [← hb.out, hb1, hb2, hb3]; rfl), fX⟩
  | true =>
  replace hb := hb.out
  rw [hb1, hb2, hb3, Bool.true_and, Bool.true_and, Bool.true_and] at hb
  replace hb := Lib.hid hb
  by_cases i1 : n < 1
  · have hr : b = false := by rw [← hb.out, show decide (1 ≤ n) = false by simp; omega]; rfl
    subst hr
    go_wp2_with fail
    go_ret
    exact ⟨rfl, fX⟩
  by_cases i2 : n > 500
  · have hr : b = false := by rw [← hb.out, show decide (n ≤ 500) = false by simp; omega]; simp
    subst hr
    go_wp2_with fail
    go_ret
    exact ⟨rfl, fX⟩
  by_cases i3 : i < 0
  · have hr : b = false := by rw [← hb.out, show decide (0 ≤ i) = false by simp; omega]; simp
    subst hr
    go_wp2_with fail
    go_ret
    exact ⟨rfl, fX⟩
  by_cases i4 : i ≥ n
  · have hr : b = false := by rw [← hb.out, show decide (i < n) = false by simp; omega]; simp
    subst hr
    go_wp2_with fail
    go_ret
    exact ⟨rfl, fX⟩
  by_cases i5 : (N : Int) > 2
  · have hr : b = false := by rw [← hb.out, show decide (N ≤ 2) = false by simp; omega]; simp
    subst hr
    go_wp2_with fail
    go_ret
    exact ⟨rfl, fX⟩
  have hR : spsB t sp = b := by
    rw [← hb.out, show decide (1 ≤ n) = true by simp; omega, show decide (n ≤ 500) = true by simp; omega, show decide (0 ≤ i) = true by simp; omega, show decide (i < n) = true by simp; omega, show decide (N ≤ 2) = true by simp; omega]
    simp
  have hmt : ∀ w', Fr noB (w.alloc (.cells #[.int .i64 a, .int .i64 t, .int .i64 j, .int .i64 i, .int .i64 n, .slice sa N c] 75)) w' → w'.cell? ⟨w.heap.size, 1, none⟩ = some (.int .i64 t) := fun w' f => (f.blk bX (fun q => q)).cell 1
  have hNb : (N : Int) ≤ 2 := by omega
  replace hmt := Lib.hid hmt
  clear hb h1 h2 h3 bX hb1 hb2 hb3
  rw [← hd0.out] at hR
  replace hR := Lib.hid hR
  go_wp2_with fail
  generalize (w.alloc (.cells #[.int .i64 a, .int .i64 t, .int .i64 j, .int .i64 i, .int .i64 n, .slice sa N c] 75)) = wx at *
  generalize w.heap.size = mb at *
  go_loopw [50] (fun vi wr => ∃ k : Nat, k ≤ N ∧ vi = .int .i64 k ∧ Hid (spsB t (sp.drop 0) = spsB t (sp.drop k)) ∧ Fr noB wx wr) (fun vi _ => N - (RowKit.intOf vi).toNat)
  case atStart => exact ⟨0, by omega, rfl, Lib.hid rfl, Fr.refl _ _⟩
  case round =>
    obtain ⟨k, hk, rfl, hE, fr⟩ := hrel
    by_cases hlt : k < N
    · obtain ⟨s, hs⟩ := hget.out k hlt
      obtain ⟨g, o, rfl, c0, c1, c2⟩ := hx3.out k s hs
      have frw := fX.seqN fr
      replace c0 := frw.cell c0 (fun q => q)
      replace c1 := frw.cell c1 (fun q => q)
      replace c2 := frw.cell c2 (fun q => q)
      have hst := hdr.out k s hs
      rw [← hE.out] at hst
      have hb1 : (k : Int) < N := by omega
      have fA := fr.alloc (.cells #[.int .i64 s.t, .int .i64 s.q, .string s.x] 118)
      have bA := Blk.new wr 118 [.int .i64 s.t, .int .i64 s.q, .string s.x]
      have hrt := right_any s
      generalize rightS s = rs at *
      replace hrt := Lib.hid hrt
      replace hs := Lib.hid hs
      clear hE frw
      go_wp2_with fail
      refine (hrt.out _).mono ?_
      rintro e w1 ⟨rfl, f1⟩
      have g1 := fA.seqN f1
      have d0 : w1.cell? ⟨wr.heap.size, 0, none⟩ = some (.int .i64 s.t) := (f1.blk bA (fun q => q)).cell 0
      have d1 := hmt.out w1 g1
      clear fr fA f1 bA c0 c1 c2
      cases rs with
      | false =>
        rw [Bool.false_and, Bool.false_and] at hst
        replace hst := Lib.hid hst
        go_wp2_with fail
        go_ret
        exact ⟨ret_b (by rw [← hR.out, hst.out]), fX.seqN g1⟩
      | true =>
        rw [Bool.true_and] at hst
        cases h1 : s.t == t with
        | false =>
          rw [h1, Bool.false_and] at hst
          have hb : (s.t != t) = true := by simp [bne, h1]
          replace hst := Lib.hid hst
          go_wp2_with fail
          go_ret
          exact ⟨ret_b (by rw [← hR.out, hst.out]), fX.seqN g1⟩
        | true =>
          rw [h1, Bool.true_and] at hst
          have hb : (s.t != t) = false := by simp [bne, h1]
          replace hst := Lib.hid hst
          go_wp2_with fail
          go_roundw
          case rel => exact ⟨k + 1, by omega, by go_num, hst, g1⟩
          case measure => simp [RowKit.intOf]; omega
    · obtain rfl : k = N := by omega
      have hf : spsB t (sp.drop 0) = true := by rw [hE.out, hend.out]
      go_wp2_with fail
      go_ret
      exact ⟨ret_b (by rw [← hR.out, hf]), fX.seqN fr⟩

set_option maxHeartbeats 2000000 in
theorem manifest_any (t j c : Int) (v : Value) (ps : List Pn) (w : World) (hv : RdPs w v ps) :
    Calls Tryz.prog 86 #[.agg #[.int .i64 t, .int .i64 j, .int .i64 c, v]] w fun e w' => e = .returned (.bool (manB t j c ps)) ∧ Fr noB w w' := by
  obtain ⟨b, hb⟩ : ∃ b, manB t j c ps = b := ⟨_, rfl⟩
  rw [hb]
  unfold manB at hb
  have hget : ∀ k, k < ps.length → ∃ m, ps[k]? = some m := fun k hk => ⟨ps[k], List.getElem?_eq_getElem hk⟩
  have hdr := fun last => manF_drop t j last ps
  have hd0 : manF t j (-1) (ps.drop 0) = manF t j (-1) ps := by rw [List.drop_zero]
  have hend : ∀ last, manF t j last (ps.drop ps.length) = true := fun last => by rw [List.drop_length]; rfl
  obtain ⟨sa, sc, rfl, hx1, hx2, hx3⟩ := hv
  obtain ⟨N, hN⟩ : ∃ N, ps.length = N := ⟨_, rfl⟩
  rw [hN] at hget hend hx1 hx2 hb ⊢
  have hNb : (N : Int) ≤ 9223372036854775807 := by omega
  have fX := (Fr.refl noB w).alloc (.cells #[.int .i64 t, .int .i64 j, .int .i64 c, .slice sa N sc] 73)
  have bX := Blk.new w 73 [.int .i64 t, .int .i64 j, .int .i64 c, .slice sa N sc]
  have h1 := isTrace_any t
  have h2 := isJob_any j
  have h3 := isClass_any c
  replace hx3 := Lib.hid hx3
  replace hget := Lib.hid hget
  replace hdr := Lib.hid hdr
  replace hend := Lib.hid hend
  replace hN := Lib.hid hN
  replace h1 := Lib.hid h1
  replace h2 := Lib.hid h2
  replace h3 := Lib.hid h3
  replace hb := Lib.hid hb
  replace hd0 := Lib.hid hd0
  go_enter Tryz.func86, Tryz.ntmps86
  go_wp2_with fail
  refine (h1.out _).mono ?_
  rintro e w1 ⟨rfl, hw1⟩
  obtain rfl := hw1.symm
  cases hb1 : inB 1 65535 t with
  | false =>
    go_wp2_with fail
    go_ret
    exact ⟨ret_b (by rw [← hb.out, hb1]; rfl), fX⟩
  | true =>
  go_wp2_with fail
  refine (h2.out _).mono ?_
  rintro e w1 ⟨rfl, hw1⟩
  obtain rfl := hw1.symm
  cases hb2 : inB 1 1073741824 j with
  | false =>
    go_wp2_with fail
    go_ret
    exact ⟨ret_b (by rw [← hb.out, hb1, hb2]; rfl), fX⟩
  | true =>
  go_wp2_with fail
  refine (h3.out _).mono ?_
  rintro e w1 ⟨rfl, hw1⟩
  obtain rfl := hw1.symm
  cases hb3 : inB 0 3 c with
  | false =>
    go_wp2_with fail
    go_ret
    exact ⟨ret_b (by rw [← hb.out, hb1, hb2, hb3]; rfl), fX⟩
  | true =>
  replace hb := hb.out
  rw [hb1, hb2, hb3, Bool.true_and, Bool.true_and, Bool.true_and] at hb
  replace hb := Lib.hid hb
  by_cases h0 : N = 0
  · have hr : b = false := by rw [← hb.out, h0]; rfl
    subst hr
    subst h0
    go_wp2_with fail
    go_ret
    exact ⟨rfl, fX⟩
  have hR : manF t j (-1) ps = b := by
    rw [← hb.out, show decide (0 < N) = true by simp; omega]
    rfl
  have i0 : ((N : Int) == 0) = false := by simp; omega
  have hmt : ∀ w', Fr noB (w.alloc (.cells #[.int .i64 t, .int .i64 j, .int .i64 c, .slice sa N sc] 73)) w' → w'.cell? ⟨w.heap.size, 0, none⟩ = some (.int .i64 t) ∧ w'.cell? ⟨w.heap.size, 1, none⟩ = some (.int .i64 j) := fun w' f => ⟨(f.blk bX (fun q => q)).cell 0, (f.blk bX (fun q => q)).cell 1⟩
  replace hmt := Lib.hid hmt
  clear hb h1 h2 h3 bX hb1 hb2 hb3
  rw [← hd0.out] at hR
  replace hR := Lib.hid hR
  go_wp2_with fail
  generalize (w.alloc (.cells #[.int .i64 t, .int .i64 j, .int .i64 c, .slice sa N sc] 73)) = wx at *
  generalize w.heap.size = mb at *
  go_loopw [3, 31] (fun vl vi wr => ∃ (k : Nat) (last : Int), k ≤ N ∧ vi = .int .i64 k ∧ vl = .int .i64 last ∧ Hid (manF t j (-1) (ps.drop 0) = manF t j last (ps.drop k)) ∧ Fr noB wx wr) (fun _ vi _ => N - (RowKit.intOf vi).toNat)
  case atStart => exact ⟨0, -1, by omega, rfl, rfl, Lib.hid rfl, Fr.refl _ _⟩
  case round =>
    obtain ⟨k, last, hk, rfl, rfl, hE, fr⟩ := hrel
    by_cases hlt : k < N
    · obtain ⟨p, hs⟩ := hget.out k hlt
      obtain ⟨g, o, ua, uc, rfl, hc, hri⟩ := hx3.out k p hs
      have frw := fX.seqN fr
      have c0 : wr.cell? ⟨g, o + k * 6, none⟩ = some (.int .i64 p.a) := frw.cell (hc 0 _ rfl) (fun q => q)
      have c1 : wr.cell? ⟨g, o + k * 6 + 1, none⟩ = some (.int .i64 p.t) := frw.cell (hc 1 _ rfl) (fun q => q)
      have c2 : wr.cell? ⟨g, o + k * 6 + 2, none⟩ = some (.int .i64 p.j) := frw.cell (hc 2 _ rfl) (fun q => q)
      have c3 : wr.cell? ⟨g, o + k * 6 + 3, none⟩ = some (.int .i64 p.n) := frw.cell (hc 3 _ rfl) (fun q => q)
      have c4 : wr.cell? ⟨g, o + k * 6 + 4, none⟩ = some (.slice ua p.cr.length uc) := frw.cell (hc 4 _ rfl) (fun q => q)
      have c5 : wr.cell? ⟨g, o + k * 6 + 5, none⟩ = some (.bool p.lo) := frw.cell (hc 5 _ rfl) (fun q => q)
      have hst := hdr.out last k p hs
      rw [← hE.out] at hst
      have hb1 : (k : Int) < N := by omega
      have fA := fr.alloc (.cells #[.int .i64 p.a, .int .i64 p.t, .int .i64 p.j, .int .i64 p.n, .slice ua p.cr.length uc, .bool p.lo] 70)
      have bA := Blk.new wr 70 [.int .i64 p.a, .int .i64 p.t, .int .i64 p.j, .int .i64 p.n, .slice ua p.cr.length uc, .bool p.lo]
      have hrt := pinned_any p.a p.t p.j p.n (.slice ua p.cr.length uc) p.lo p.cr _ (hri.frN (fX.seqN fA))
      rw [show pinB p.a p.t p.j p.n p.cr = pnB p from rfl] at hrt
      generalize pnB p = rs at *
      generalize p.cr.length = cl at *
      replace hrt := Lib.hid hrt
      replace hs := Lib.hid hs
      clear hE frw hc hri
      go_wp2_with fail
      refine (hrt.out).mono ?_
      rintro e w1 ⟨rfl, f1⟩
      have g1 := fA.seqN f1
      have d0 : w1.cell? ⟨wr.heap.size, 0, none⟩ = some (.int .i64 p.a) := (f1.blk bA (fun q => q)).cell 0
      have d1 : w1.cell? ⟨wr.heap.size, 1, none⟩ = some (.int .i64 p.t) := (f1.blk bA (fun q => q)).cell 1
      have d2 : w1.cell? ⟨wr.heap.size, 2, none⟩ = some (.int .i64 p.j) := (f1.blk bA (fun q => q)).cell 2
      obtain ⟨m0, m1⟩ := hmt.out w1 g1
      clear fr fA f1 bA c0 c1 c2 c3 c4 c5 hrt
      cases rs with
      | false =>
        rw [Bool.false_and] at hst
        replace hst := Lib.hid hst
        go_wp2_with fail
        go_ret
        exact ⟨ret_b (by rw [← hR.out, hst.out]), fX.seqN g1⟩
      | true =>
      rw [Bool.true_and] at hst
      cases h1 : p.t == t with
      | false =>
        rw [h1, Bool.false_and] at hst
        have hb : (p.t != t) = true := by simp [bne, h1]
        replace hst := Lib.hid hst
        go_wp2_with fail
        go_ret
        exact ⟨ret_b (by rw [← hR.out, hst.out]), fX.seqN g1⟩
      | true =>
      rw [h1, Bool.true_and] at hst
      have hb : (p.t != t) = false := by simp [bne, h1]
      cases h2 : p.j == j with
      | false =>
        rw [h2, Bool.false_and] at hst
        have hb2 : (p.j != j) = true := by simp [bne, h2]
        replace hst := Lib.hid hst
        go_wp2_with fail
        go_ret
        exact ⟨ret_b (by rw [← hR.out, hst.out]), fX.seqN g1⟩
      | true =>
      rw [h2, Bool.true_and] at hst
      have hb2 : (p.j != j) = false := by simp [bne, h2]
      by_cases hle : p.a ≤ last
      · have hd : decide (p.a ≤ last) = true := by simpa using hle
        rw [show decide (last < p.a) = false by simp; omega, Bool.false_and] at hst
        replace hst := Lib.hid hst
        go_wp2_with fail
        go_ret
        exact ⟨ret_b (by rw [← hR.out, hst.out]), fX.seqN g1⟩
      · have hd : decide (p.a ≤ last) = false := by simpa using hle
        rw [show decide (last < p.a) = true by simp; omega, Bool.true_and] at hst
        replace hst := Lib.hid hst
        go_wp2_with fail
        go_roundw
        case rel => exact ⟨k + 1, p.a, by omega, by go_num, rfl, hst, g1⟩
        case measure => simp [RowKit.intOf]; omega
    · obtain rfl : k = N := by omega
      have hf : manF t j (-1) (ps.drop 0) = true := by rw [hE.out, hend.out]
      go_wp2_with fail
      go_ret
      exact ⟨ret_b (by rw [← hR.out, hf]), fX.seqN fr⟩

theorem mayBe_Chunk (a t j i n : Int) (v : Value) (sp : List Sp) (w : World) (hv : RdSp w v sp) :
    Calls Tryz.prog 62 #[mChunk a t j i n v] w fun e w' => e = .returned (.bool (chunkB a t j i n sp)) ∧ Fr noB w w' := by
  have hv0 := hv
  obtain ⟨sa, c, rfl, _⟩ := hv
  unfold mChunk
  obtain ⟨N, hN⟩ : ∃ N, sp.length = N := ⟨_, rfl⟩
  have fX := (Fr.refl noB w).alloc (.cells #[.int .i64 a, .int .i64 t, .int .i64 j, .int .i64 i, .int .i64 n, .slice sa sp.length c] 75)
  have h1 := chunk_any a t j i n _ sp _ (hv0.frN fX)
  rw [hN] at h1 fX ⊢
  have q0 := as_Chunk_Trigger
  have q1 := as_Chunk_Pin
  have q2 := as_Chunk_Pinned
  have q3 := as_Chunk_Gone
  have q4 := as_Chunk_Collect
  have q5 := as_Chunk_Chunk
  replace h1 := Lib.hid h1
  replace hv0 := Lib.hid hv0
  replace hN := Lib.hid hN
  go_enter Tryz.func62, Tryz.ntmps62
  go_wp2_with fail
  refine h1.out.mono ?_
  rintro e w1 ⟨rfl, f1⟩
  have g1 := fX.seqN f1
  clear fX f1
  go_wp2_with fail
  go_ret
  exact ⟨rfl, g1⟩
theorem mayBe_Manifest (t j c : Int) (v : Value) (ps : List Pn) (w : World) (hv : RdPs w v ps) :
    Calls Tryz.prog 62 #[mManifest t j c v] w fun e w' => e = .returned (.bool (manB t j c ps)) ∧ Fr noB w w' := by
  have hv0 := hv
  obtain ⟨sa, sc, rfl, _⟩ := hv
  unfold mManifest
  obtain ⟨N, hN⟩ : ∃ N, ps.length = N := ⟨_, rfl⟩
  have fX := (Fr.refl noB w).alloc (.cells #[.int .i64 t, .int .i64 j, .int .i64 c, .slice sa ps.length sc] 73)
  have h1 := manifest_any t j c _ ps _ (hv0.frH fX.toH)
  rw [hN] at h1 fX ⊢
  have q0 := as_Manifest_Trigger
  have q1 := as_Manifest_Pin
  have q2 := as_Manifest_Pinned
  have q3 := as_Manifest_Gone
  have q4 := as_Manifest_Collect
  have q5 := as_Manifest_Chunk
  have q6 := as_Manifest_Manifest
  replace h1 := Lib.hid h1
  replace hv0 := Lib.hid hv0
  replace hN := Lib.hid hN
  go_enter Tryz.func62, Tryz.ntmps62
  go_wp2_with fail
  refine h1.out.mono ?_
  rintro e w1 ⟨rfl, f1⟩
  have g1 := fX.seqN f1
  clear fX f1
  go_wp2_with fail
  go_ret
  exact ⟨rfl, g1⟩
theorem mayBe_ms (v : Value) (m : Ms) (w : World) (h : MsW w v m) : Calls Tryz.prog 62 #[v] w fun e w' => e = .returned (.bool m.ok) ∧ Fr noB w w' := by
  cases m with
  | trigger a t c => obtain rfl := h; exact mayBe_Trigger a t c w
  | pin t j => obtain rfl := h; exact mayBe_Pin t j w
  | pinned p => obtain ⟨u, rfl, h1⟩ := h; exact mayBe_Pinned p.a p.t p.j p.n u p.lo p.cr w h1
  | gone a t j => obtain rfl := h; exact mayBe_Gone a t j w
  | collect t j => obtain rfl := h; exact mayBe_Collect t j w
  | chunk a t j i n sp => obtain ⟨u, rfl, h1⟩ := h; exact mayBe_Chunk a t j i n u sp w h1
  | manifest t j c ps => obtain ⟨u, rfl, h1⟩ := h; exact mayBe_Manifest t j c u ps w h1
  | stored t j => obtain rfl := h; exact mayBe_Stored t j w
  | unpin t j => obtain rfl := h; exact mayBe_Unpin t j w
  | unpinned a t j => obtain rfl := h; exact mayBe_Unpinned a t j w
theorem right_ms (v : Value) (m : Ms) (w : World) (h : MsW w v m) : Calls Tryz.prog 40 #[v] w fun e w' => e = .returned (.bool m.ok) ∧ Fr noB w w' := right_of (mayBe_ms v m w h)
end Go.Proofs.YtdmhnoffejjpnaaGreatDoor
end

section
set_option linter.unusedVariables false
set_option linter.unusedSimpArgs false
set_option maxRecDepth 100000
set_option maxRecDepth 100000
namespace Go.Proofs.YtdmhnoffejjpnaaGreatDoor
open Go.RowKit Go Go.Lib

def I8 (x : Int) : Prop := -9223372036854775808 ≤ x ∧ x ≤ 9223372036854775807
theorem Wr.nw {w w' : World} {p B : Nat} {v : Value} {T : List UInt8} (h : Wr w p v B T) : p < w.heap.size := h.1.lt
theorem RdI.toN {w0 w : World} {B : Nat} {v : Value} {xs : List Int} (h : RdI w0 v xs) (hB : w0.heap.size = B) (f : Fr (hiB B) w0 w) : RdN w B B v xs := by
  subst hB
  have h1 := h.frH f
  obtain ⟨a, c, rfl, _, h2, h3⟩ := h1
  refine ⟨a, c, rfl, h2, fun i hi => ?_⟩
  obtain ⟨g, o, e, h4⟩ := h3 i hi
  obtain ⟨a', c', e', _, _, h3'⟩ := h
  cases e'
  obtain ⟨g', o', e2, h5⟩ := h3' i hi
  rw [e] at e2
  cases e2
  have hlt := lt_of_cell h5
  refine ⟨g, o, e, ?_, h4⟩
  rintro (q | ⟨q, _⟩) <;> omega

theorem nums_app (a b : List Int) : numsL (a ++ b) = numsL a ++ numsL b := by unfold numsL; rw [List.flatMap_append]
end Go.Proofs.YtdmhnoffejjpnaaGreatDoor
end

section
set_option linter.unusedVariables false
set_option linter.unusedSimpArgs false
set_option maxRecDepth 100000
set_option maxRecDepth 100000
namespace Go.Proofs.YtdmhnoffejjpnaaGreatDoor
open Go.RowKit Go Go.Lib

theorem Fr.hiN' {B : Nat} {a b : World} (h : Fr (hiB B) a b) (hB : a.heap.size = B) : Fr noB a b := by subst hB; exact h.hiN
theorem inB_lim' {lo hi n : Int} (h : inB lo hi n = true) : lo ≤ n ∧ n ≤ hi := by
  unfold inB at h
  simpa using h
theorem crF_lim : ∀ (xs : List Int) (last : Int), -1 ≤ last → last ≤ 3 → crF last xs = true → (xs.length : Int) ≤ 3 - last ∧ ∀ x ∈ xs, 0 ≤ x ∧ x ≤ 3
  | [], last, h0, h1, _ => ⟨by simp; omega, fun x hx => by simp at hx⟩
  | x :: r, last, h0, h1, h => by
    unfold crF at h
    simp only [Bool.and_eq_true, decide_eq_true_eq] at h
    obtain ⟨h2, h3, h4⟩ := h
    have := inB_lim' h2
    obtain ⟨h5, h6⟩ := crF_lim r x (by omega) (by omega) h4
    refine ⟨by simp only [List.length_cons]; omega, fun y hy => ?_⟩
    rcases List.mem_cons.1 hy with rfl | hy
    · omega
    · exact h6 y hy
structure PtOk (tr : Int) (p : Pt) : Prop where
  a : 0 ≤ p.a ∧ p.a ≤ 3
  l : p.S.length ≤ 1000
  w : rowF tr 0 p.S = true
  r : ∀ s ∈ p.S, rightS s = true
  c : ∀ x ∈ p.cr, 0 ≤ x ∧ x ≤ 3
  n : p.cr.length ≤ 4
  f : crF (-1) p.cr = true
theorem pt_ok {tr : Int} {p : Pt} (h : okPt tr p = true) : PtOk tr p := by
  unfold okPt at h
  simp only [Bool.and_eq_true, decide_eq_true_eq] at h
  obtain ⟨h1, h2, h3, h4, h5⟩ := h
  obtain ⟨h6, h7⟩ := crF_lim p.cr (-1) (by omega) (by omega) h5
  exact ⟨inB_lim' h1, h2, h3, fun s hs => List.all_eq_true.1 h4 s hs, h7, by omega, h5⟩
theorem psF_lim (tr : Int) : ∀ (L : List Pt) (last : Int), -1 ≤ last → last ≤ 3 → psF tr last L = true → (L.length : Int) ≤ 3 - last ∧ ∀ p ∈ L, PtOk tr p
  | [], last, h0, h1, _ => ⟨by simp; omega, fun x hx => by simp at hx⟩
  | p :: r, last, h0, h1, h => by
    unfold psF at h
    simp only [Bool.and_eq_true, decide_eq_true_eq] at h
    obtain ⟨h2, h3, h4⟩ := h
    have ho := pt_ok h2
    have := ho.a
    obtain ⟨h5, h6⟩ := psF_lim tr r p.a (by omega) (by omega) h4
    refine ⟨by simp only [List.length_cons]; omega, fun y hy => ?_⟩
    rcases List.mem_cons.1 hy with rfl | hy
    · exact ho
    · exact h6 y hy
structure RcOk (r : RC) : Prop where
  tr : 1 ≤ r.tr ∧ r.tr ≤ 65535
  jb : 1 ≤ r.jb ∧ r.jb ≤ 1073741824
  cl : 0 ≤ r.cl ∧ r.cl ≤ 3
  ps : ∀ p ∈ r.ps, PtOk r.tr p
  f : psF r.tr (-1) r.ps = true
  n : 0 < r.ps.length ∧ r.ps.length ≤ 4
  wh : r.wh = !lostP r.ps
theorem rc_ok {r : RC} (h : okRc r = true) : RcOk r := by
  unfold okRc at h
  simp only [Bool.and_eq_true, decide_eq_true_eq, beq_iff_eq] at h
  obtain ⟨h1, h2, h3, h4, h5, h6⟩ := h
  obtain ⟨h7, h8⟩ := psF_lim r.tr r.ps (-1) (by omega) (by omega) h4
  exact ⟨inB_lim' h1, inB_lim' h2, inB_lim' h3, h8, h4, ⟨h5, by omega⟩, h6⟩
def partT (p : Pt) : List UInt8 := numsL [p.a] ++ (textL (printL p.S) ++ (numsL [(p.cr.length : Int)] ++ (numsL p.cr ++ numsL [boolI p.lo])))
def recT (r : RC) : List UInt8 := numsL [r.tr, r.jb, r.cl, (r.ps.length : Int)] ++ r.ps.flatMap partT
theorem printL_len (L : List Sp) : (printL L).length ≤ 564028 := by
  by_cases h : decide (L.length ≤ 1000) && L.all rightS
  · simp only [Bool.and_eq_true, decide_eq_true_eq] at h
    have hr : ∀ (i : Nat) (m : Sp), i < L.length → L[i]? = some m → rightS m = true := fun i m _ hm => List.all_eq_true.1 h.2 m (List.mem_of_getElem? hm)
    rw [print_yes L h.1 hr]
    exact pre_len L L.length (fun i m hi hm => hr i m hi hm) h.1
  · unfold printL
    rw [if_neg h]
    simp
theorem partT_len {tr : Int} {p : Pt} (h : PtOk tr p) : (partT p).length ≤ 6800000 := by
  have h1 := nums_len [p.a]
  have h2 := nums_len [(p.cr.length : Int)]
  have h3 := nums_len p.cr
  have h4 := nums_len [boolI p.lo]
  have h5 := text_len (printL p.S)
  have h6 := quote_len (printL p.S)
  have h7 := printL_len p.S
  have h8 := h.n
  simp only [List.length_cons, List.length_nil] at h1 h2 h4
  unfold partT
  simp only [List.length_append]
  omega
theorem parts_len {tr : Int} (L : List Pt) (h : ∀ p ∈ L, PtOk tr p) : (L.flatMap partT).length ≤ 6800000 * L.length := by
  induction L with
  | nil => simp
  | cons p L ih =>
    have h1 := partT_len (h p (by simp))
    have h2 := ih (fun q hq => h q (by simp [hq]))
    rw [List.flatMap_cons, List.length_append, List.length_cons]
    omega
theorem pts_take (ps : List Pt) (k : Nat) (p : Pt) (h : ps[k]? = some p) : (ps.take (k + 1)).flatMap partT = (ps.take k).flatMap partT ++ partT p := by
  rw [List.take_add_one, h]
  simp
theorem one_lim {x : Int} (h : -9223372036854775808 ≤ x ∧ x ≤ 9223372036854775807) : ∀ y ∈ [x], -9223372036854775808 ≤ y ∧ y ≤ 9223372036854775807 := by
  intro y hy
  simp only [List.mem_cons, List.not_mem_nil, or_false] at hy
  subst hy
  exact h
set_option maxHeartbeats 16000000 in
theorem sgText_any (r : RC) (u : Value) (w : World) (hg : Gl w) (h : RdPt w u r.ps) (hok : RcOk r) :
    Calls Tryz.prog 114 #[rcV r u] w fun e w' => e = .returned (.string (strB (recT r))) ∧ Fr noB w w' := by
  obtain ⟨tr, jb, cl, wh, L⟩ := r
  unfold rcV
  obtain ⟨l1, l2, l3, l4, _, l5, _⟩ := hok
  simp only at h l1 l2 l3 l4 l5 ⊢
  have hget : ∀ k, k < L.length → ∃ m, L[k]? = some m := fun k hk => ⟨L[k], List.getElem?_eq_getElem hk⟩
  have hst := pts_take L
  have h0 : (L.take 0).flatMap partT = [] := rfl
  have hend : recT ⟨tr, jb, cl, wh, L⟩ = ([] ++ numsL [tr, jb, cl, (L.length : Int)]) ++ (L.take L.length).flatMap partT := by rw [List.take_length]; rfl
  have hlen : ∀ k, ((L.take k).flatMap partT).length ≤ 27200000 := fun k => by
    have h1 := parts_len (L.take k) (fun p hp => l4 p (List.mem_of_mem_take hp))
    have h2 : (L.take k).length ≤ 4 := by rw [List.length_take]; omega
    omega
  have hnl := nums_len [tr, jb, cl, (L.length : Int)]
  have hx4 : ∀ x ∈ [tr, jb, cl, (L.length : Int)], -9223372036854775808 ≤ x ∧ x ≤ 9223372036854775807 := by
    intro x hq
    simp only [List.mem_cons, List.not_mem_nil, or_false] at hq
    rcases hq with q | q | q | q <;> omega
  obtain ⟨a, c, rfl, h1, h2, h3⟩ := h
  obtain ⟨n, hn⟩ : ∃ n, L.length = n := ⟨_, rfl⟩
  obtain ⟨Rr, hRr⟩ : ∃ q, recT ⟨tr, jb, cl, wh, L⟩ = q := ⟨_, rfl⟩
  rw [hRr] at hend ⊢
  rw [hn] at h1 h2 hget hend hnl hx4 l5 ⊢
  have fX := (Fr.refl noB w).alloc (.cells #[.int .i64 tr, .int .i64 jb, .int .i64 cl, .bool wh, .slice a n c] 63)
  have bX := Blk.new w 63 [.int .i64 tr, .int .i64 jb, .int .i64 cl, .bool wh, .slice a n c]
  have hTl2 : ∀ k, (([] ++ numsL [tr, jb, cl, (n : Int)]) ++ (L.take k).flatMap partT).length ≤ 27300000 := fun k => by
    have := hlen k
    rw [List.length_append, List.length_append]
    simp only [List.length_cons, List.length_nil] at hnl ⊢
    omega
  replace h3 := Lib.hid h3
  replace hget := Lib.hid hget
  replace hst := Lib.hid hst
  replace h0 := Lib.hid h0
  replace hend := Lib.hid hend
  replace hn := Lib.hid hn
  replace hRr := Lib.hid hRr
  replace hTl2 := Lib.hid hTl2
  replace l4 := Lib.hid l4
  clear hlen hnl
  go_enter Tryz.func114, Tryz.ntmps114
  go_upto_region 1 with fail
  obtain ⟨gX, hgX⟩ : ∃ g, w.heap.size = g := ⟨_, rfl⟩
  rw [hgX] at bX
  try rw [hgX]
  generalize (w.alloc (.cells #[.int .i64 tr, .int .i64 jb, .int .i64 cl, .bool wh, .slice a n c] 63)) = wX at *
  replace hgX := Lib.hid hgX
  obtain ⟨B, hB⟩ : ∃ B, wX.heap.size = B := ⟨_, rfl⟩
  have gb := (hg.fr fX).low
  rw [hB] at gb
  have hXB : gX < B := by rw [← hB]; exact bX.lt
  have bp := Blk.new wX 202 [.slice none 0 0]
  have f2 : Fr (hiB B) wX (wX.alloc (.cells #[Value.slice none 0 0] 202)) := (Fr.refl _ wX).alloc _
  have s2 : (wX.alloc (.cells #[Value.slice none 0 0] 202)).heap.size = B + 1 := by rw [size_alloc, hB]
  rw [hB] at bp
  have hW0 := wr_new bp (B := B) (by omega)
  have hpr := fun (S : List Sp) (v : Value) (hv : RdSp wX v S) (w' : World) (f : Fr (hiB B) wX w') => print_any v S w' (gb.hi f).gl (hv.frH (by rw [hB]; exact f))
  have htn := fun (xs : List Int) (v : Value) (hv : RdI wX v xs) (w' : World) (f : Fr (hiB B) wX w') => hv.toN hB f
  have h3X : ∀ (i : Nat) (x : Pt), L[i]? = some x → ∃ g o sa sc ca cc, a = some ⟨g, o, none⟩ ∧ (∀ w', Fr (hiB B) wX w' → w'.cell? ⟨g, o + i * 4, none⟩ = some (.int .i64 x.a) ∧ w'.cell? ⟨g, o + i * 4 + 1, none⟩ = some (.slice sa x.S.length sc) ∧ w'.cell? ⟨g, o + i * 4 + 2, none⟩ = some (.slice ca x.cr.length cc) ∧ w'.cell? ⟨g, o + i * 4 + 3, none⟩ = some (.bool x.lo)) ∧ RdSp wX (.slice sa x.S.length sc) x.S ∧ RdI wX (.slice ca x.cr.length cc) x.cr := fun i x hx => by
    obtain ⟨g, o, sa, sc, ca, cc, e1, c0, c1, c2, c3, r1, r2⟩ := h3.out i x hx
    have q0 := fX.cell c0 (fun q => q)
    have q1 := fX.cell c1 (fun q => q)
    have q2 := fX.cell c2 (fun q => q)
    have q3 := fX.cell c3 (fun q => q)
    have hlt := lt_of_cell q0
    exact ⟨g, o, sa, sc, ca, cc, e1, fun w' f => ⟨f.cell q0 (by unfold hiB; omega), f.cell q1 (by unfold hiB; omega), f.cell q2 (by unfold hiB; omega), f.cell q3 (by unfold hiB; omega)⟩, r1.frN fX, r2.frN fX⟩
  have hiX : ∀ w', Fr (hiB B) wX w' → w'.cell? ⟨gX, 0, none⟩ = some (.int .i64 tr) ∧ w'.cell? ⟨gX, 1, none⟩ = some (.int .i64 jb) ∧ w'.cell? ⟨gX, 2, none⟩ = some (.int .i64 cl) ∧ w'.cell? ⟨gX, 4, none⟩ = some (.slice a n c) := fun w' f => by
    have b := f.blk bX (by unfold hiB; omega)
    exact ⟨b.cell 0, b.cell 1, b.cell 2, b.cell 4⟩
  obtain ⟨e0, e1, e2, e4⟩ := hiX _ f2
  replace gb := Lib.hid gb
  replace hpr := Lib.hid hpr
  replace htn := Lib.hid htn
  replace h3X := Lib.hid h3X
  replace hiX := Lib.hid hiX
  replace hB := Lib.hid hB
  replace bX := Lib.hid bX
  clear bp h3 hg
  go_upto_region 2 with fail
  try rw [hB.out]
  generalize (wX.alloc (.cells #[Value.slice none 0 0] 202)) = w1 at *
  replace f2 := Lib.hid f2
  go_wp2_with fail
  go_fit (wint_new B B (B + 1) _ [] [tr, jb, cl, (n : Int)] w1 hW0 s2 hx4 (by simp))
  rintro e w2 ⟨rfl, u1, hW1, f3⟩
  have f4 := f2.out.hiW f3 (Nat.le_refl _)
  obtain ⟨_, _, _, e4⟩ := hiX.out _ f4
  replace f4 := Lib.hid f4
  replace hW1 := Lib.hid hW1
  clear hW0 f3 f2 s2 e0 e1 e2
  rename_i e4o
  clear e4o
  go_wp2_with fail
  clear e4
  replace hx4 := ()
  go_loopw [21] (fun i wr => ∃ (k : Nat) (uk : Value), k ≤ n ∧ i = .int .i64 k ∧ Hid (Wr wr B uk B (([] ++ numsL [tr, jb, cl, (n : Int)]) ++ (L.take k).flatMap partT)) ∧ Hid (Fr (hiB B) wX wr)) (fun i _ => n - (RowKit.intOf i).toNat)
  case atStart => exact ⟨0, u1, by omega, rfl, Lib.hid (by rw [h0.out, List.append_nil]; exact hW1.out), f4⟩
  case round =>
    obtain ⟨k, uk, hk, rfl, hW, fr⟩ := hrel
    clear hW1 f4
    by_cases hlt : k < n
    · obtain ⟨x, hx⟩ := hget.out k hlt
      obtain ⟨g, o, sa, sc, ca, cc, rfl, hc4, r1, r2⟩ := h3X.out k x hx
      obtain ⟨c0, c1, c2, c3⟩ := hc4 wr fr.out
      have hst1 := hst.out k x hx
      have hT0 := hTl2.out k
      have hT1 := hTl2.out (k + 1)
      rw [hst1] at hT1
      have hpx := hpr.out x.S _ r1
      have hnx := htn.out x.cr _ r2
      have hpo := l4.out x (List.mem_of_getElem? hx)
      have hxa : ∀ y ∈ [x.a], -9223372036854775808 ≤ y ∧ y ≤ 9223372036854775807 := one_lim (by have := hpo.a; omega)
      have hxn : ∀ y ∈ [(x.cr.length : Int)], -9223372036854775808 ≤ y ∧ y ≤ 9223372036854775807 := one_lim (by have := hpo.n; omega)
      have hxc : ∀ y ∈ x.cr, -9223372036854775808 ≤ y ∧ y ≤ 9223372036854775807 := fun y hy => by have := hpo.c y hy; omega
      have hxl := hpo.n
      have hpl := printL_len x.S
      obtain ⟨T, hT⟩ : ∃ T, ([] ++ numsL [tr, jb, cl, (n : Int)]) ++ (L.take k).flatMap partT = T := ⟨_, rfl⟩
      have hTn : ([] ++ numsL [tr, jb, cl, (n : Int)]) ++ (L.take (k + 1)).flatMap partT = ((((T ++ numsL [x.a]) ++ textL (printL x.S)) ++ numsL [(x.cr.length : Int)]) ++ numsL x.cr) ++ numsL [boolI x.lo] := by
        rw [hst1, ← List.append_assoc, hT]
        unfold partT
        simp only [List.append_assoc]
      rw [← List.append_assoc, hT] at hT1
      rw [hT] at hT0
      have q1 : T.length + 28 * [x.a].length ≤ 100000000 := by simp; omega
      have hl1 := nums_len [x.a]
      have hl2 := nums_len [(x.cr.length : Int)]
      have hl3 := nums_len x.cr
      have hl4 := text_len (printL x.S)
      have hl5 := quote_len (printL x.S)
      simp only [List.length_cons, List.length_nil] at hl1 hl2
      have q2 : (T ++ numsL [x.a]).length ≤ 50000000 := by rw [List.length_append]; omega
      have q3 : ((T ++ numsL [x.a]) ++ textL (printL x.S)).length + 28 * [(x.cr.length : Int)].length ≤ 100000000 := by rw [List.length_append, List.length_append]; simp; omega
      have q4 : (((T ++ numsL [x.a]) ++ textL (printL x.S)) ++ numsL [(x.cr.length : Int)]).length + 28 * x.cr.length ≤ 100000000 := by rw [List.length_append, List.length_append, List.length_append]; omega
      have q5 : ((((T ++ numsL [x.a]) ++ textL (printL x.S)) ++ numsL [(x.cr.length : Int)]) ++ numsL x.cr).length + 28 * [boolI x.lo].length ≤ 100000000 := by rw [List.length_append, List.length_append, List.length_append, List.length_append]; simp; omega
      rw [hT] at hW
      have hb1 : (k : Int) < n := by omega
      have fY0 := (Fr.refl noB wr).alloc (.cells #[.int .i64 x.a, .slice sa x.S.length sc, .slice ca x.cr.length cc, .bool x.lo] 112)
      have bY := Blk.new wr 112 [.int .i64 x.a, .slice sa x.S.length sc, .slice ca x.cr.length cc, .bool x.lo]
      have hWY := hW.out.frN fY0
      have fY := fr.out.hi0 fY0
      have hBw : B < wr.heap.size := hW.out.1.lt
      clear hst1 hT0 hT1 hl1 hl2 hl3 hl4 hl5 hpo r1 r2 hc4 hW fr
      replace hT := Lib.hid hT
      replace hTn := Lib.hid hTn
      replace q2 := Lib.hid q2
      replace q3 := Lib.hid q3
      replace q4 := Lib.hid q4
      replace q5 := Lib.hid q5
      replace hpl := Lib.hid hpl
      replace hpx := Lib.hid hpx
      replace hnx := Lib.hid hnx
      replace hxc := Lib.hid hxc
      replace hxn := Lib.hid hxn
      replace hx := Lib.hid hx
      generalize hxs : x.S.length = xs at *
      generalize hxc0 : x.cr.length = xc at *
      replace hxs := Lib.hid hxs
      replace hxc0 := Lib.hid hxc0
      replace fY0 := ()
      go_upto_region 6 with fail
      obtain ⟨gY, hgY⟩ : ∃ q, wr.heap.size = q := ⟨_, rfl⟩
      rw [hgY] at bY hBw
      try rw [hgY]
      generalize (wr.alloc (.cells #[.int .i64 x.a, .slice sa xs sc, .slice ca xc cc, .bool x.lo] 112)) = wY at *
      have y0 : wY.cell? ⟨gY, 0, none⟩ = some (.int .i64 x.a) := bY.cell 0
      obtain ⟨g1, hg1⟩ : ∃ q, wY.heap.size = q := ⟨_, rfl⟩
      have hnw : gY ≠ B := by omega
      replace hgY := Lib.hid hgY
      replace bY := Lib.hid bY
      replace fY := Lib.hid fY
      clear c0 c1 c2 c3
      go_wp2_with fail
      go_fit (wint_new B B g1 uk T [x.a] wY hWY hg1 hxa q1)
      rintro e w3 ⟨rfl, u3, hW3, f3⟩
      have b3 := f3.blk bY.out (bY.out.notW (by decide) hnw)
      have f3' := fY.out.hiW f3 (Nat.le_refl _)
      have d1 : w3.cell? ⟨gY, 1, none⟩ = some (.slice sa xs sc) := b3.cell 1
      have hp1 := hpx.out w3 f3'
      clear f3 hWY hg1 y0 hxa q1 bY fY
      replace b3 := Lib.hid b3
      replace hW3 := Lib.hid hW3
      replace hp1 := Lib.hid hp1
      replace f3' := Lib.hid f3'
      go_wp2_with fail
      go_fit hp1.out
      rintro e w4 ⟨rfl, f4⟩
      have hW4 := hW3.out.frN f4
      have f4' := f3'.out.hi0 f4
      have b4 := f4.blk b3.out (fun q => q)
      obtain ⟨g4, hg4⟩ : ∃ g, w4.heap.size = g := ⟨_, rfl⟩
      have gb4 := gb.out.hi f4'
      replace gb4 := Lib.hid gb4
      replace b4 := Lib.hid b4
      replace f4' := Lib.hid f4'
      clear f4 f3' hW3 hp1 d1 b3
      generalize hPP : strB (printL x.S) = PP at *
      have hsz : PP.size ≤ 600000 := by rw [← hPP, strB_size]; have := hpl.out; omega
      have hPL : textL PP.data.toList = textL (printL x.S) := by rw [← hPP, strB_list]
      replace hPP := Lib.hid hPP
      replace hPL := Lib.hid hPL
      go_wp2_with fail
      go_fit (wtext_new B B B g4 u3 _ PP w4 hW4 hg4 gb4.out (Nat.le_refl _) (Nat.le_refl _) hsz q2.out)
      rintro e w5 ⟨rfl, u5, hW5, f5⟩
      rw [hPL.out] at hW5
      have b5 := f5.blk b4.out (b4.out.notW (by decide) hnw)
      have f5' := f4'.out.hiW f5 (Nat.le_refl _)
      have d2 : w5.cell? ⟨gY, 2, none⟩ = some (.slice ca xc cc) := b5.cell 2
      obtain ⟨g5, hg5⟩ : ∃ g, w5.heap.size = g := ⟨_, rfl⟩
      clear f5 hW4 hg4 gb4 hsz b4 f4'
      replace b5 := Lib.hid b5
      replace f5' := Lib.hid f5'
      go_wp2_with fail
      go_fit (wint_new B B g5 u5 _ [(xc : Int)] w5 hW5 hg5 hxn.out q3.out)
      rintro e w6 ⟨rfl, u6, hW6, f6⟩
      have b6 := f6.blk b5.out (b5.out.notW (by decide) hnw)
      have f6' := f5'.out.hiW f6 (Nat.le_refl _)
      have d2b : w6.cell? ⟨gY, 2, none⟩ = some (.slice ca xc cc) := b6.cell 2
      have hn6 := hnx.out w6 f6'
      clear f6 hW5 hg5 b5 f5' d2
      replace b6 := Lib.hid b6
      replace f6' := Lib.hid f6'
      replace hW6 := Lib.hid hW6
      replace hn6 := Lib.hid hn6
      go_wp2_with fail
      go_fit (wint_any B B u6 _ _ x.cr w6 hW6.out hn6.out hxc.out (by rw [hxc0.out]; exact q4.out))
      rintro e w7 ⟨rfl, u7, hW7, f7⟩
      have b7 := f7.blk b6.out (b6.out.notW (by decide) hnw)
      have f7' := f6'.out.hiW f7 (Nat.le_refl _)
      have d3 : w7.cell? ⟨gY, 3, none⟩ = some (.bool x.lo) := b7.cell 3
      obtain ⟨g7, hg7⟩ : ∃ g, w7.heap.size = g := ⟨_, rfl⟩
      clear f7 hW6 b6 f6' d2b hn6
      replace b7 := Lib.hid b7
      replace f7' := Lib.hid f7'
      have hxb : ∀ y ∈ [boolI x.lo], -9223372036854775808 ≤ y ∧ y ≤ 9223372036854775807 := one_lim (by unfold boolI; split <;> omega)
      cases hlo : x.lo with
      | true =>
        rw [hlo] at d3 hxb hTn q5
        rw [show boolI true = 1 from rfl] at hxb hTn q5
        go_wp2_with fail
        go_fit (wint_new B B g7 u7 _ [1] w7 hW7 hg7 hxb q5.out)
        rintro e w8 ⟨rfl, u8, hW8, f8⟩
        have f8' := Lib.hid (f7'.out.hiW f8 (Nat.le_refl _))
        have hW9 : Hid (Wr w8 B u8 B (([] ++ numsL [tr, jb, cl, (n : Int)]) ++ (L.take (k + 1)).flatMap partT)) := Lib.hid (by rw [hTn.out]; exact hW8)
        clear f8 hW8 hW7 hg7 hxb d3
        go_wp2_with fail
        go_roundw
        case rel => exact ⟨k + 1, u8, by omega, by go_num, hW9, f8'⟩
        case measure => simp [RowKit.intOf]; omega
      | false =>
        rw [hlo] at d3 hxb hTn q5
        rw [show boolI false = 0 from rfl] at hxb hTn q5
        go_wp2_with fail
        go_fit (wint_new B B g7 u7 _ [0] w7 hW7 hg7 hxb q5.out)
        rintro e w8 ⟨rfl, u8, hW8, f8⟩
        have f8' := Lib.hid (f7'.out.hiW f8 (Nat.le_refl _))
        have hW9 : Hid (Wr w8 B u8 B (([] ++ numsL [tr, jb, cl, (n : Int)]) ++ (L.take (k + 1)).flatMap partT)) := Lib.hid (by rw [hTn.out]; exact hW8)
        clear f8 hW8 hW7 hg7 hxb d3
        go_wp2_with fail
        go_roundw
        case rel => exact ⟨k + 1, u8, by omega, by go_num, hW9, f8'⟩
        case measure => simp [RowKit.intOf]; omega
    · obtain rfl : k = n := by omega
      have hW2 := hW.out
      rw [← hend.out] at hW2
      have hst := wstr_any B B uk Rr wr hW2
      have hF := fr.out.hiN' (by exact hB.out)
      replace hst := Lib.hid hst
      replace hF := Lib.hid hF
      clear hW hW2
      go_wp2_with fail
      go_fit hst.out
      rintro e w9 ⟨rfl, hw⟩
      obtain rfl := hw.symm
      clear hw
      go_wp2_with fail
      go_ret
      exact ⟨rfl, fX.seqN hF.out⟩
end Go.Proofs.YtdmhnoffejjpnaaGreatDoor
end
