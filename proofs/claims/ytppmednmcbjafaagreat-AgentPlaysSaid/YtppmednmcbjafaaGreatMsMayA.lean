/-
  Messages: may a chunk, a manifest be; may any message be.
-/
import Derived.Test.YtppmednmcbjafaaGreatMsT
set_option linter.unusedVariables false
set_option linter.unusedSimpArgs false
set_option maxRecDepth 100000
set_option maxRecDepth 100000
namespace Go.Proofs.YtppmednmcbjafaaGreat
open Go.RowKit Go Go.Lib

theorem spsB_drop (t : Int) (L : List Sp) (k : Nat) (s : Sp) (h : L[k]? = some s) : spsB t (L.drop k) = ((rightS s && s.t == t) && spsB t (L.drop (k + 1))) := by
  obtain ⟨hk, rfl⟩ := List.getElem?_eq_some_iff.1 h
  rw [List.drop_eq_getElem_cons hk]
  rfl
theorem manF_drop (t j last : Int) (L : List Pn) (k : Nat) (p : Pn) (h : L[k]? = some p) : manF t j last (L.drop k) = (pnB p && (p.t == t && (p.j == j && (decide (last < p.a) && manF t j p.a (L.drop (k + 1)))))) := by
  obtain ⟨hk, rfl⟩ := List.getElem?_eq_some_iff.1 h
  rw [List.drop_eq_getElem_cons hk]
  rfl
theorem ret_b {a b : Bool} (h : a = b) : Ending.returned (.bool a) = .returned (.bool b) := by rw [h]

set_option maxHeartbeats 2000000 in
theorem chunk_any (a t j i n : Int) (v : Value) (sp : List Sp) (w : World) (hv : RdSp w v sp) :
    Calls Tryz.prog 124 #[.agg #[.int .i64 a, .int .i64 t, .int .i64 j, .int .i64 i, .int .i64 n, v]] w fun e w' => e = .returned (.bool (chunkB a t j i n sp)) ∧ Fr noB w w' := by
  obtain ⟨b, hb⟩ : ∃ b, chunkB a t j i n sp = b := ⟨_, rfl⟩
  rw [hb]
  unfold chunkB at hb
  have hget : ∀ k, k < sp.length → ∃ m, sp[k]? = some m := fun k hk => ⟨sp[k], List.getElem?_eq_getElem hk⟩
  have hdr := spsB_drop t sp
  have hd0 : spsB t (sp.drop 0) = spsB t sp := by rw [List.drop_zero]
  have hend : spsB t (sp.drop sp.length) = true := by rw [List.drop_length]; rfl
  obtain ⟨sa, c, rfl, hx1, hx2, _, hx3⟩ := hv
  clear hx2
  obtain ⟨N, hN⟩ : ∃ N, sp.length = N := ⟨_, rfl⟩
  rw [hN] at hget hend hx1 hb ⊢
  have fX := (Fr.refl noB w).alloc (.cells #[.int .i64 a, .int .i64 t, .int .i64 j, .int .i64 i, .int .i64 n, .slice sa N c] 138)
  have bX := Blk.new w 138 [.int .i64 a, .int .i64 t, .int .i64 j, .int .i64 i, .int .i64 n, .slice sa N c]
  have h1 := isAgent_any a
  have h2 := isTrace_any t
  have h3 := isJob_any j
  replace hx3 := Lib.hid hx3
  replace hget := Lib.hid hget
  replace hdr := Lib.hid hdr
  replace hend := Lib.hid hend
  replace hN := Lib.hid hN
  replace h1 := Lib.hid h1
  replace h2 := Lib.hid h2
  replace h3 := Lib.hid h3
  replace hb := Lib.hid hb
  replace hd0 := Lib.hid hd0
  go_enter Tryz.func124, Tryz.ntmps124
  go_wp2_with fail
  refine (h1.out _).mono ?_
  rintro e w1 ⟨rfl, hw1⟩
  obtain rfl := hw1.symm
  cases hb1 : inB 0 3 a with
  | false =>
    go_wp2_with fail
    go_ret
    exact ⟨ret_b (by rw [← hb.out, hb1]; rfl), fX⟩
  | true =>
  go_wp2_with fail
  refine (h2.out _).mono ?_
  rintro e w1 ⟨rfl, hw1⟩
  obtain rfl := hw1.symm
  cases hb2 : inB 1 65535 t with
  | false =>
    go_wp2_with fail
    go_ret
    exact ⟨ret_b (by rw [← hb.out, hb1, hb2]; rfl), fX⟩
  | true =>
  go_wp2_with fail
  refine (h3.out _).mono ?_
  rintro e w1 ⟨rfl, hw1⟩
  obtain rfl := hw1.symm
  cases hb3 : inB 1 1073741824 j with
  | false =>
    go_wp2_with fail
    go_ret
    exact ⟨ret_b (by rw [← hb.out, hb1, hb2, hb3]; rfl), fX⟩
  | true =>
  replace hb := hb.out
  rw [hb1, hb2, hb3, Bool.true_and, Bool.true_and, Bool.true_and] at hb
  replace hb := Lib.hid hb
  by_cases i1 : n < 1
  · have hr : b = false := by rw [← hb.out, show decide (1 ≤ n) = false by simp; omega]; rfl
    subst hr
    go_wp2_with fail
    go_ret
    exact ⟨rfl, fX⟩
  by_cases i2 : n > 500
  · have hr : b = false := by rw [← hb.out, show decide (n ≤ 500) = false by simp; omega]; simp
    subst hr
    go_wp2_with fail
    go_ret
    exact ⟨rfl, fX⟩
  by_cases i3 : i < 0
  · have hr : b = false := by rw [← hb.out, show decide (0 ≤ i) = false by simp; omega]; simp
    subst hr
    go_wp2_with fail
    go_ret
    exact ⟨rfl, fX⟩
  by_cases i4 : i ≥ n
  · have hr : b = false := by rw [← hb.out, show decide (i < n) = false by simp; omega]; simp
    subst hr
    go_wp2_with fail
    go_ret
    exact ⟨rfl, fX⟩
  by_cases i5 : (N : Int) > 2
  · have hr : b = false := by rw [← hb.out, show decide (N ≤ 2) = false by simp; omega]; simp
    subst hr
    go_wp2_with fail
    go_ret
    exact ⟨rfl, fX⟩
  have hR : spsB t sp = b := by
    rw [← hb.out, show decide (1 ≤ n) = true by simp; omega, show decide (n ≤ 500) = true by simp; omega, show decide (0 ≤ i) = true by simp; omega, show decide (i < n) = true by simp; omega, show decide (N ≤ 2) = true by simp; omega]
    simp
  have hmt : ∀ w', Fr noB (w.alloc (.cells #[.int .i64 a, .int .i64 t, .int .i64 j, .int .i64 i, .int .i64 n, .slice sa N c] 138)) w' → w'.cell? ⟨w.heap.size, 1, none⟩ = some (.int .i64 t) := fun w' f => (f.blk bX (fun q => q)).cell 1
  have hNb : (N : Int) ≤ 2 := by omega
  replace hmt := Lib.hid hmt
  clear hb h1 h2 h3 bX hb1 hb2 hb3
  rw [← hd0.out] at hR
  replace hR := Lib.hid hR
  go_wp2_with fail
  generalize (w.alloc (.cells #[.int .i64 a, .int .i64 t, .int .i64 j, .int .i64 i, .int .i64 n, .slice sa N c] 138)) = wx at *
  generalize w.heap.size = mb at *
  go_loopw [50] (fun vi wr => ∃ k : Nat, k ≤ N ∧ vi = .int .i64 k ∧ Hid (spsB t (sp.drop 0) = spsB t (sp.drop k)) ∧ Fr noB wx wr) (fun vi _ => N - (RowKit.intOf vi).toNat)
  case atStart => exact ⟨0, by omega, rfl, Lib.hid rfl, Fr.refl _ _⟩
  case round =>
    obtain ⟨k, hk, rfl, hE, fr⟩ := hrel
    by_cases hlt : k < N
    · obtain ⟨s, hs⟩ := hget.out k hlt
      obtain ⟨g, o, rfl, c0, c1, c2⟩ := hx3.out k s hs
      have frw := fX.seqN fr
      replace c0 := frw.cell c0 (fun q => q)
      replace c1 := frw.cell c1 (fun q => q)
      replace c2 := frw.cell c2 (fun q => q)
      have hst := hdr.out k s hs
      rw [← hE.out] at hst
      have hb1 : (k : Int) < N := by omega
      have fA := fr.alloc (.cells #[.int .i64 s.t, .int .i64 s.q, .string s.x] 38)
      have bA := Blk.new wr 38 [.int .i64 s.t, .int .i64 s.q, .string s.x]
      have hrt := right_any s
      generalize rightS s = rs at *
      replace hrt := Lib.hid hrt
      replace hs := Lib.hid hs
      clear hE frw
      go_wp2_with fail
      refine (hrt.out _).mono ?_
      rintro e w1 ⟨rfl, f1⟩
      have g1 := fA.seqN f1
      have d0 : w1.cell? ⟨wr.heap.size, 0, none⟩ = some (.int .i64 s.t) := (f1.blk bA (fun q => q)).cell 0
      have d1 := hmt.out w1 g1
      clear fr fA f1 bA c0 c1 c2
      cases rs with
      | false =>
        rw [Bool.false_and, Bool.false_and] at hst
        replace hst := Lib.hid hst
        go_wp2_with fail
        go_ret
        exact ⟨ret_b (by rw [← hR.out, hst.out]), fX.seqN g1⟩
      | true =>
        rw [Bool.true_and] at hst
        cases h1 : s.t == t with
        | false =>
          rw [h1, Bool.false_and] at hst
          have hb : (s.t != t) = true := by simp [bne, h1]
          replace hst := Lib.hid hst
          go_wp2_with fail
          go_ret
          exact ⟨ret_b (by rw [← hR.out, hst.out]), fX.seqN g1⟩
        | true =>
          rw [h1, Bool.true_and] at hst
          have hb : (s.t != t) = false := by simp [bne, h1]
          replace hst := Lib.hid hst
          go_wp2_with fail
          go_roundw
          case rel => exact ⟨k + 1, by omega, by go_num, hst, g1⟩
          case measure => simp [RowKit.intOf]; omega
    · obtain rfl : k = N := by omega
      have hf : spsB t (sp.drop 0) = true := by rw [hE.out, hend.out]
      go_wp2_with fail
      go_ret
      exact ⟨ret_b (by rw [← hR.out, hf]), fX.seqN fr⟩

set_option maxHeartbeats 2000000 in
theorem manifest_any (t j c : Int) (v : Value) (ps : List Pn) (w : World) (hv : RdPs w v ps) :
    Calls Tryz.prog 125 #[.agg #[.int .i64 t, .int .i64 j, .int .i64 c, v]] w fun e w' => e = .returned (.bool (manB t j c ps)) ∧ Fr noB w w' := by
  obtain ⟨b, hb⟩ : ∃ b, manB t j c ps = b := ⟨_, rfl⟩
  rw [hb]
  unfold manB at hb
  have hget : ∀ k, k < ps.length → ∃ m, ps[k]? = some m := fun k hk => ⟨ps[k], List.getElem?_eq_getElem hk⟩
  have hdr := fun last => manF_drop t j last ps
  have hd0 : manF t j (-1) (ps.drop 0) = manF t j (-1) ps := by rw [List.drop_zero]
  have hend : ∀ last, manF t j last (ps.drop ps.length) = true := fun last => by rw [List.drop_length]; rfl
  obtain ⟨sa, sc, rfl, hx1, hx2, hx3⟩ := hv
  obtain ⟨N, hN⟩ : ∃ N, ps.length = N := ⟨_, rfl⟩
  rw [hN] at hget hend hx1 hx2 hb ⊢
  have hNb : (N : Int) ≤ 9223372036854775807 := by omega
  have fX := (Fr.refl noB w).alloc (.cells #[.int .i64 t, .int .i64 j, .int .i64 c, .slice sa N sc] 141)
  have bX := Blk.new w 141 [.int .i64 t, .int .i64 j, .int .i64 c, .slice sa N sc]
  have h1 := isTrace_any t
  have h2 := isJob_any j
  have h3 := isClass_any c
  replace hx3 := Lib.hid hx3
  replace hget := Lib.hid hget
  replace hdr := Lib.hid hdr
  replace hend := Lib.hid hend
  replace hN := Lib.hid hN
  replace h1 := Lib.hid h1
  replace h2 := Lib.hid h2
  replace h3 := Lib.hid h3
  replace hb := Lib.hid hb
  replace hd0 := Lib.hid hd0
  go_enter Tryz.func125, Tryz.ntmps125
  go_wp2_with fail
  refine (h1.out _).mono ?_
  rintro e w1 ⟨rfl, hw1⟩
  obtain rfl := hw1.symm
  cases hb1 : inB 1 65535 t with
  | false =>
    go_wp2_with fail
    go_ret
    exact ⟨ret_b (by rw [← hb.out, hb1]; rfl), fX⟩
  | true =>
  go_wp2_with fail
  refine (h2.out _).mono ?_
  rintro e w1 ⟨rfl, hw1⟩
  obtain rfl := hw1.symm
  cases hb2 : inB 1 1073741824 j with
  | false =>
    go_wp2_with fail
    go_ret
    exact ⟨ret_b (by rw [← hb.out, hb1, hb2]; rfl), fX⟩
  | true =>
  go_wp2_with fail
  refine (h3.out _).mono ?_
  rintro e w1 ⟨rfl, hw1⟩
  obtain rfl := hw1.symm
  cases hb3 : inB 0 3 c with
  | false =>
    go_wp2_with fail
    go_ret
    exact ⟨ret_b (by rw [← hb.out, hb1, hb2, hb3]; rfl), fX⟩
  | true =>
  replace hb := hb.out
  rw [hb1, hb2, hb3, Bool.true_and, Bool.true_and, Bool.true_and] at hb
  replace hb := Lib.hid hb
  by_cases h0 : N = 0
  · have hr : b = false := by rw [← hb.out, h0]; rfl
    subst hr
    subst h0
    go_wp2_with fail
    go_ret
    exact ⟨rfl, fX⟩
  have hR : manF t j (-1) ps = b := by
    rw [← hb.out, show decide (0 < N) = true by simp; omega]
    rfl
  have i0 : ((N : Int) == 0) = false := by simp; omega
  have hmt : ∀ w', Fr noB (w.alloc (.cells #[.int .i64 t, .int .i64 j, .int .i64 c, .slice sa N sc] 141)) w' → w'.cell? ⟨w.heap.size, 0, none⟩ = some (.int .i64 t) ∧ w'.cell? ⟨w.heap.size, 1, none⟩ = some (.int .i64 j) := fun w' f => ⟨(f.blk bX (fun q => q)).cell 0, (f.blk bX (fun q => q)).cell 1⟩
  replace hmt := Lib.hid hmt
  clear hb h1 h2 h3 bX hb1 hb2 hb3
  rw [← hd0.out] at hR
  replace hR := Lib.hid hR
  go_wp2_with fail
  generalize (w.alloc (.cells #[.int .i64 t, .int .i64 j, .int .i64 c, .slice sa N sc] 141)) = wx at *
  generalize w.heap.size = mb at *
  go_loopw [3, 31] (fun vl vi wr => ∃ (k : Nat) (last : Int), k ≤ N ∧ vi = .int .i64 k ∧ vl = .int .i64 last ∧ Hid (manF t j (-1) (ps.drop 0) = manF t j last (ps.drop k)) ∧ Fr noB wx wr) (fun _ vi _ => N - (RowKit.intOf vi).toNat)
  case atStart => exact ⟨0, -1, by omega, rfl, rfl, Lib.hid rfl, Fr.refl _ _⟩
  case round =>
    obtain ⟨k, last, hk, rfl, rfl, hE, fr⟩ := hrel
    by_cases hlt : k < N
    · obtain ⟨p, hs⟩ := hget.out k hlt
      obtain ⟨g, o, ua, uc, rfl, hc, hri⟩ := hx3.out k p hs
      have frw := fX.seqN fr
      have c0 : wr.cell? ⟨g, o + k * 6, none⟩ = some (.int .i64 p.a) := frw.cell (hc 0 _ rfl) (fun q => q)
      have c1 : wr.cell? ⟨g, o + k * 6 + 1, none⟩ = some (.int .i64 p.t) := frw.cell (hc 1 _ rfl) (fun q => q)
      have c2 : wr.cell? ⟨g, o + k * 6 + 2, none⟩ = some (.int .i64 p.j) := frw.cell (hc 2 _ rfl) (fun q => q)
      have c3 : wr.cell? ⟨g, o + k * 6 + 3, none⟩ = some (.int .i64 p.n) := frw.cell (hc 3 _ rfl) (fun q => q)
      have c4 : wr.cell? ⟨g, o + k * 6 + 4, none⟩ = some (.slice ua p.cr.length uc) := frw.cell (hc 4 _ rfl) (fun q => q)
      have c5 : wr.cell? ⟨g, o + k * 6 + 5, none⟩ = some (.bool p.lo) := frw.cell (hc 5 _ rfl) (fun q => q)
      have hst := hdr.out last k p hs
      rw [← hE.out] at hst
      have hb1 : (k : Int) < N := by omega
      have fA := fr.alloc (.cells #[.int .i64 p.a, .int .i64 p.t, .int .i64 p.j, .int .i64 p.n, .slice ua p.cr.length uc, .bool p.lo] 133)
      have bA := Blk.new wr 133 [.int .i64 p.a, .int .i64 p.t, .int .i64 p.j, .int .i64 p.n, .slice ua p.cr.length uc, .bool p.lo]
      have hrt := pinned_any p.a p.t p.j p.n (.slice ua p.cr.length uc) p.lo p.cr _ (hri.frN (fX.seqN fA))
      rw [show pinB p.a p.t p.j p.n p.cr = pnB p from rfl] at hrt
      generalize pnB p = rs at *
      generalize p.cr.length = cl at *
      replace hrt := Lib.hid hrt
      replace hs := Lib.hid hs
      clear hE frw hc hri
      go_wp2_with fail
      refine (hrt.out).mono ?_
      rintro e w1 ⟨rfl, f1⟩
      have g1 := fA.seqN f1
      have d0 : w1.cell? ⟨wr.heap.size, 0, none⟩ = some (.int .i64 p.a) := (f1.blk bA (fun q => q)).cell 0
      have d1 : w1.cell? ⟨wr.heap.size, 1, none⟩ = some (.int .i64 p.t) := (f1.blk bA (fun q => q)).cell 1
      have d2 : w1.cell? ⟨wr.heap.size, 2, none⟩ = some (.int .i64 p.j) := (f1.blk bA (fun q => q)).cell 2
      obtain ⟨m0, m1⟩ := hmt.out w1 g1
      clear fr fA f1 bA c0 c1 c2 c3 c4 c5 hrt
      cases rs with
      | false =>
        rw [Bool.false_and] at hst
        replace hst := Lib.hid hst
        go_wp2_with fail
        go_ret
        exact ⟨ret_b (by rw [← hR.out, hst.out]), fX.seqN g1⟩
      | true =>
      rw [Bool.true_and] at hst
      cases h1 : p.t == t with
      | false =>
        rw [h1, Bool.false_and] at hst
        have hb : (p.t != t) = true := by simp [bne, h1]
        replace hst := Lib.hid hst
        go_wp2_with fail
        go_ret
        exact ⟨ret_b (by rw [← hR.out, hst.out]), fX.seqN g1⟩
      | true =>
      rw [h1, Bool.true_and] at hst
      have hb : (p.t != t) = false := by simp [bne, h1]
      cases h2 : p.j == j with
      | false =>
        rw [h2, Bool.false_and] at hst
        have hb2 : (p.j != j) = true := by simp [bne, h2]
        replace hst := Lib.hid hst
        go_wp2_with fail
        go_ret
        exact ⟨ret_b (by rw [← hR.out, hst.out]), fX.seqN g1⟩
      | true =>
      rw [h2, Bool.true_and] at hst
      have hb2 : (p.j != j) = false := by simp [bne, h2]
      by_cases hle : p.a ≤ last
      · have hd : decide (p.a ≤ last) = true := by simpa using hle
        rw [show decide (last < p.a) = false by simp; omega, Bool.false_and] at hst
        replace hst := Lib.hid hst
        go_wp2_with fail
        go_ret
        exact ⟨ret_b (by rw [← hR.out, hst.out]), fX.seqN g1⟩
      · have hd : decide (p.a ≤ last) = false := by simpa using hle
        rw [show decide (last < p.a) = true by simp; omega, Bool.true_and] at hst
        replace hst := Lib.hid hst
        go_wp2_with fail
        go_roundw
        case rel => exact ⟨k + 1, p.a, by omega, by go_num, rfl, hst, g1⟩
        case measure => simp [RowKit.intOf]; omega
    · obtain rfl : k = N := by omega
      have hf : manF t j (-1) (ps.drop 0) = true := by rw [hE.out, hend.out]
      go_wp2_with fail
      go_ret
      exact ⟨ret_b (by rw [← hR.out, hf]), fX.seqN fr⟩

theorem mayBe_Chunk (a t j i n : Int) (v : Value) (sp : List Sp) (w : World) (hv : RdSp w v sp) :
    Calls Tryz.prog 93 #[mChunk a t j i n v] w fun e w' => e = .returned (.bool (chunkB a t j i n sp)) ∧ Fr noB w w' := by
  have hv0 := hv
  obtain ⟨sa, c, rfl, _⟩ := hv
  unfold mChunk
  obtain ⟨N, hN⟩ : ∃ N, sp.length = N := ⟨_, rfl⟩
  have fX := (Fr.refl noB w).alloc (.cells #[.int .i64 a, .int .i64 t, .int .i64 j, .int .i64 i, .int .i64 n, .slice sa sp.length c] 138)
  have h1 := chunk_any a t j i n _ sp _ (hv0.frN fX)
  rw [hN] at h1 fX ⊢
  have q0 := as_Chunk_Trigger
  have q1 := as_Chunk_Pin
  have q2 := as_Chunk_Pinned
  have q3 := as_Chunk_Gone
  have q4 := as_Chunk_Collect
  have q5 := as_Chunk_Chunk
  replace h1 := Lib.hid h1
  replace hv0 := Lib.hid hv0
  replace hN := Lib.hid hN
  go_enter Tryz.func93, Tryz.ntmps93
  go_wp2_with fail
  refine h1.out.mono ?_
  rintro e w1 ⟨rfl, f1⟩
  have g1 := fX.seqN f1
  clear fX f1
  go_wp2_with fail
  go_ret
  exact ⟨rfl, g1⟩
theorem mayBe_Manifest (t j c : Int) (v : Value) (ps : List Pn) (w : World) (hv : RdPs w v ps) :
    Calls Tryz.prog 93 #[mManifest t j c v] w fun e w' => e = .returned (.bool (manB t j c ps)) ∧ Fr noB w w' := by
  have hv0 := hv
  obtain ⟨sa, sc, rfl, _⟩ := hv
  unfold mManifest
  obtain ⟨N, hN⟩ : ∃ N, ps.length = N := ⟨_, rfl⟩
  have fX := (Fr.refl noB w).alloc (.cells #[.int .i64 t, .int .i64 j, .int .i64 c, .slice sa ps.length sc] 141)
  have h1 := manifest_any t j c _ ps _ (hv0.frH fX.toH)
  rw [hN] at h1 fX ⊢
  have q0 := as_Manifest_Trigger
  have q1 := as_Manifest_Pin
  have q2 := as_Manifest_Pinned
  have q3 := as_Manifest_Gone
  have q4 := as_Manifest_Collect
  have q5 := as_Manifest_Chunk
  have q6 := as_Manifest_Manifest
  replace h1 := Lib.hid h1
  replace hv0 := Lib.hid hv0
  replace hN := Lib.hid hN
  go_enter Tryz.func93, Tryz.ntmps93
  go_wp2_with fail
  refine h1.out.mono ?_
  rintro e w1 ⟨rfl, f1⟩
  have g1 := fX.seqN f1
  clear fX f1
  go_wp2_with fail
  go_ret
  exact ⟨rfl, g1⟩
theorem mayBe_ms (v : Value) (m : Ms) (w : World) (h : MsW w v m) : Calls Tryz.prog 93 #[v] w fun e w' => e = .returned (.bool m.ok) ∧ Fr noB w w' := by
  cases m with
  | trigger a t c => obtain rfl := h; exact mayBe_Trigger a t c w
  | pin t j => obtain rfl := h; exact mayBe_Pin t j w
  | pinned p => obtain ⟨u, rfl, h1⟩ := h; exact mayBe_Pinned p.a p.t p.j p.n u p.lo p.cr w h1
  | gone a t j => obtain rfl := h; exact mayBe_Gone a t j w
  | collect t j => obtain rfl := h; exact mayBe_Collect t j w
  | chunk a t j i n sp => obtain ⟨u, rfl, h1⟩ := h; exact mayBe_Chunk a t j i n u sp w h1
  | manifest t j c ps => obtain ⟨u, rfl, h1⟩ := h; exact mayBe_Manifest t j c u ps w h1
  | stored t j => obtain rfl := h; exact mayBe_Stored t j w
  | unpin t j => obtain rfl := h; exact mayBe_Unpin t j w
  | unpinned a t j => obtain rfl := h; exact mayBe_Unpinned a t j w
theorem right_ms (v : Value) (m : Ms) (w : World) (h : MsW w v m) : Calls Tryz.prog 62 #[v] w fun e w' => e = .returned (.bool m.ok) ∧ Fr noB w w' := right_of (mayBe_ms v m w h)
end Go.Proofs.YtppmednmcbjafaaGreat
