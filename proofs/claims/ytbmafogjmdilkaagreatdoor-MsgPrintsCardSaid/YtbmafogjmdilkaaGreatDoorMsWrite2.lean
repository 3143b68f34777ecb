/-
  msg: a message's fields written; Print.
-/
import Derived.Test.YtbmafogjmdilkaaGreatDoorMsWrite
set_option linter.unusedVariables false
set_option linter.unusedSimpArgs false
set_option maxRecDepth 100000
set_option maxRecDepth 100000
namespace Go.Proofs.YtbmafogjmdilkaaGreatDoor
open Go.RowKit Go Go.Lib

theorem inB_lim {lo hi n : Int} (h : inB lo hi n = true) : lo ≤ n ∧ n ≤ hi := by
  unfold inB at h
  simpa using h
theorem risB_lim : ∀ (xs : List Int) (last : Int), -1 ≤ last → last ≤ 3 → risB last xs = true → (xs.length : Int) ≤ 3 - last ∧ ∀ x ∈ xs, 0 ≤ x ∧ x ≤ 3
  | [], last, h0, h1, _ => ⟨by simp; omega, by simp⟩
  | x :: r, last, h0, h1, h => by
    unfold risB at h
    rw [Bool.and_eq_true, Bool.and_eq_true] at h
    obtain ⟨⟨h2, h3⟩, h4⟩ := h
    have h5 := inB_lim h2
    have h6 : last < x := by simpa using h3
    obtain ⟨h7, h8⟩ := risB_lim r x (by omega) (by omega) h4
    refine ⟨by rw [List.length_cons]; omega, fun y hy => ?_⟩
    rcases List.mem_cons.1 hy with rfl | hy
    · exact h5
    · exact h8 y hy
structure PnOk (p : Pn) : Prop where
  a : 0 ≤ p.a ∧ p.a ≤ 3
  t : 1 ≤ p.t ∧ p.t ≤ 65535
  j : 1 ≤ p.j ∧ p.j ≤ 1073741824
  n : 0 ≤ p.n ∧ p.n ≤ 1000
  l : p.cr.length ≤ 4
  c : ∀ x ∈ p.cr, 0 ≤ x ∧ x ≤ 3
theorem pn_ok {p : Pn} (h : pnB p = true) : PnOk p := by
  unfold pnB pinB at h
  simp only [Bool.and_eq_true, decide_eq_true_eq] at h
  obtain ⟨h1, h2, h3, h4, h5, h6⟩ := h
  obtain ⟨h7, h8⟩ := risB_lim p.cr (-1) (by omega) (by omega) h6
  exact ⟨inB_lim h1, inB_lim h2, inB_lim h3, ⟨h4, h5⟩, by omega, h8⟩
theorem man_ok (t j : Int) : ∀ (ps : List Pn) (last : Int), -1 ≤ last → last ≤ 3 → manF t j last ps = true → (ps.length : Int) ≤ 3 - last ∧ ∀ p ∈ ps, PnOk p
  | [], last, h0, h1, _ => ⟨by simp; omega, by simp⟩
  | p :: r, last, h0, h1, h => by
    unfold manF at h
    simp only [Bool.and_eq_true, decide_eq_true_eq] at h
    obtain ⟨h2, h3, h4, h5, h6⟩ := h
    have h7 := pn_ok h2
    have := h7.a
    obtain ⟨h8, h9⟩ := man_ok t j r p.a (by omega) (by omega) h6
    refine ⟨by rw [List.length_cons]; omega, fun y hy => ?_⟩
    rcases List.mem_cons.1 hy with rfl | hy
    · exact h7
    · exact h9 y hy
theorem pinT_len {p : Pn} (h : PnOk p) : (pinT p).length ≤ 280 := by
  unfold pinT
  have h1 := nums_len [p.a, p.t, p.j, p.n, (p.cr.length : Int)]
  have h2 := nums_len p.cr
  have h3 := nums_len [boolI p.lo]
  have h4 := h.l
  rw [List.length_append, List.length_append]
  simp only [List.length_cons, List.length_nil] at h1 h3
  omega
theorem pins_len (ps : List Pn) (h : ∀ p ∈ ps, PnOk p) : (ps.flatMap pinT).length ≤ 280 * ps.length := by
  induction ps with
  | nil => simp
  | cons p r ih =>
    have h1 := pinT_len (h p (by simp))
    have h2 := ih (fun x hx => h x (by simp [hx]))
    rw [List.flatMap_cons, List.length_append, List.length_cons]
    omega

set_option maxHeartbeats 1000000 in
theorem wf_Pinned (B : Nat) (u : Value) (T : List UInt8) (p : Pn) (v : Value) (w0 w : World) (hB : w0.heap.size = B) (f0 : Fr (hiB B) w0 w) (h : Wr w B u B T) (hv : RdI w0 v p.cr) (hp : PnOk p) (hT : T.length ≤ 100000) :
    Calls Tryz.prog 23 #[.pointer (some ⟨B, 0, none⟩), mPinned p.a p.t p.j p.n v p.lo] w fun e w' => e = .returned (.tuple #[]) ∧ ∃ u', Wr w' B u' B (T ++ pinT p) ∧ Fr (hiB B) w0 w' := by
  have hv0 := hv
  obtain ⟨sa, sc, rfl, _⟩ := hv
  unfold mPinned
  obtain ⟨cl, hcl⟩ : ∃ cl, p.cr.length = cl := ⟨_, rfl⟩
  have hw := fun w' f0 h' => wpin_any B u T p _ w0 w' hB f0 h' hv0 (by
    intro x hq
    simp only [List.mem_cons, List.not_mem_nil, or_false] at hq
    have := hp.a; have := hp.t; have := hp.j; have := hp.n
    rcases hq with q | q | q | q <;> omega) (fun x hx => by have := hp.c x hx; omega) (by have := hp.l; omega) (by omega)
  have fX := (Fr.refl noB w).alloc (.cells #[.int .i64 p.a, .int .i64 p.t, .int .i64 p.j, .int .i64 p.n, .slice sa p.cr.length sc, .bool p.lo] 63)
  have hX := h.frN fX
  have f1 := f0.hi0 fX
  simp only [hcl] at hw fX hX f1 ⊢
  replace hw := Lib.hid hw
  replace hcl := Lib.hid hcl
  clear hv0 hp hT h f0 fX
  have q0 := as_Pinned_Trigger
  have q1 := as_Pinned_Pin
  have q2 := as_Pinned_Pinned
  go_enter Tryz.func23, Tryz.ntmps23
  go_wp2_with fail
  go_fit (hw.out _ f1 hX)
  rintro e w1 ⟨rfl, u1, h1, f2⟩
  go_wp2_with fail
  go_end0
  exact ⟨rfl, u1, h1, f2⟩

set_option maxHeartbeats 1000000 in
theorem wf_Chunk (B : Nat) (u : Value) (T : List UInt8) (a t j i n : Int) (sp : List Sp) (v : Value) (w0 w : World) (hg : Gl w0) (hB : w0.heap.size = B) (f0 : Fr (hiB B) w0 w) (h : Wr w B u B T) (hv : RdSp w0 v sp) (hx : ∀ x ∈ [a, t, j, i, n], -9223372036854775808 ≤ x ∧ x ≤ 9223372036854775807) (hpl : (printL sp).length ≤ 10000) (hT : T.length ≤ 100000) :
    Calls Tryz.prog 23 #[.pointer (some ⟨B, 0, none⟩), mChunk a t j i n v] w fun e w' => e = .returned (.tuple #[]) ∧ ∃ u', Wr w' B u' B (T ++ (numsL [a, t, j, i, n] ++ textL (printL sp))) ∧ Fr (hiB B) w0 w' := by
  have hv0 := hv
  obtain ⟨sa, sc, rfl, _⟩ := hv
  unfold mChunk
  rw [← List.append_assoc]
  obtain ⟨N, hN⟩ : ∃ N, sp.length = N := ⟨_, rfl⟩
  have gb := hg.low
  rw [hB] at gb
  have hpr := fun w' (f : Fr (hiB B) w0 w') => print_any _ sp w' (gb.hi f).gl (hv0.frH (by rw [hB]; exact f))
  have hnl := nums_len [a, t, j, i, n]
  have fX := (Fr.refl noB w).alloc (.cells #[.int .i64 a, .int .i64 t, .int .i64 j, .int .i64 i, .int .i64 n, .slice sa sp.length sc] 66)
  have bX := Blk.new w 66 [.int .i64 a, .int .i64 t, .int .i64 j, .int .i64 i, .int .i64 n, .slice sa sp.length sc]
  have hX := h.frN fX
  have f1 := f0.hi0 fX
  have hBl : B < w.heap.size := h.1.lt
  simp only [hN] at hpr fX bX hX f1 ⊢
  obtain ⟨g, hgg⟩ : ∃ g, (w.alloc (.cells #[.int .i64 a, .int .i64 t, .int .i64 j, .int .i64 i, .int .i64 n, .slice sa N sc] 66)).heap.size = g := ⟨_, rfl⟩
  obtain ⟨gx, hgx⟩ : ∃ gx, w.heap.size = gx := ⟨_, rfl⟩
  rw [hgx] at bX hBl
  have hnw : gx ≠ B := by omega
  have hTl : T.length + 28 * [a, t, j, i, n].length ≤ 100000000 := by simp; omega
  have hTl2 : (T ++ numsL [a, t, j, i, n]).length ≤ 10000000 := by rw [List.length_append]; simp only [List.length_cons, List.length_nil] at hnl; omega
  have e0 : (w.alloc (.cells #[.int .i64 a, .int .i64 t, .int .i64 j, .int .i64 i, .int .i64 n, .slice sa N sc] 66)).cell? ⟨gx, 0, none⟩ = some (.int .i64 a) := bX.cell 0
  have e1 : (w.alloc (.cells #[.int .i64 a, .int .i64 t, .int .i64 j, .int .i64 i, .int .i64 n, .slice sa N sc] 66)).cell? ⟨gx, 1, none⟩ = some (.int .i64 t) := bX.cell 1
  have e2 : (w.alloc (.cells #[.int .i64 a, .int .i64 t, .int .i64 j, .int .i64 i, .int .i64 n, .slice sa N sc] 66)).cell? ⟨gx, 2, none⟩ = some (.int .i64 j) := bX.cell 2
  have e3 : (w.alloc (.cells #[.int .i64 a, .int .i64 t, .int .i64 j, .int .i64 i, .int .i64 n, .slice sa N sc] 66)).cell? ⟨gx, 3, none⟩ = some (.int .i64 i) := bX.cell 3
  have e4 : (w.alloc (.cells #[.int .i64 a, .int .i64 t, .int .i64 j, .int .i64 i, .int .i64 n, .slice sa N sc] 66)).cell? ⟨gx, 4, none⟩ = some (.int .i64 n) := bX.cell 4
  replace hpr := Lib.hid hpr
  replace hN := Lib.hid hN
  replace gb := Lib.hid gb
  replace hTl2 := Lib.hid hTl2
  replace hpl := Lib.hid hpl
  clear hv0 hT h f0 fX hnl
  have q0 := as_Chunk_Trigger
  have q1 := as_Chunk_Pin
  have q2 := as_Chunk_Pinned
  have q3 := as_Chunk_Gone
  have q4 := as_Chunk_Collect
  have q5 := as_Chunk_Chunk
  go_enter Tryz.func23, Tryz.ntmps23
  go_wp2_with fail
  generalize (w.alloc (.cells #[.int .i64 a, .int .i64 t, .int .i64 j, .int .i64 i, .int .i64 n, .slice sa N sc] 66)) = wx at *
  go_fit (wint_new B B g u T [a, t, j, i, n] wx hX hgg hx hTl)
  rintro e w1 ⟨rfl, u1, h1, f2⟩
  have b1 := f2.blk bX (bX.notW (by decide) hnw)
  have f3 := f1.hiW f2 (Nat.le_refl _)
  have d5 : w1.cell? ⟨gx, 5, none⟩ = some (.slice sa N sc) := b1.cell 5
  have hp1 := hpr.out w1 f3
  clear f1 f2 bX hX hx hTl e0 e1 e2 e3 e4 b1 hgg hgx
  replace h1 := Lib.hid h1
  replace hp1 := Lib.hid hp1
  go_wp2_with fail
  go_fit hp1.out
  rintro e w2 ⟨rfl, f4⟩
  have h2 := h1.out.frN f4
  have f5 := f3.hi0 f4
  obtain ⟨g2, hg2⟩ : ∃ g, w2.heap.size = g := ⟨_, rfl⟩
  have gb2 := gb.out.hi f5
  replace gb2 := Lib.hid gb2
  clear f4 f3 h1 hp1 d5
  generalize hPP : strB (printL sp) = PP at *
  have hsz : PP.size ≤ 100000 := by rw [← hPP, strB_size]; have := hpl.out; omega
  have hPL : textL PP.data.toList = textL (printL sp) := by rw [← hPP, strB_list]
  replace hPP := Lib.hid hPP
  replace hPL := Lib.hid hPL
  go_wp2_with fail
  go_fit (wtext_new B B B g2 u1 _ PP w2 h2 hg2 gb2.out (Nat.le_refl _) (Nat.le_refl _) hsz hTl2.out)
  rintro e w3 ⟨rfl, u3, h3, f6⟩
  rw [hPL.out] at h3
  go_wp2_with fail
  go_end0
  exact ⟨rfl, u3, h3, f5.hiW f6 (Nat.le_refl _)⟩

theorem parts_take (ps : List Pn) (k : Nat) (p : Pn) (h : ps[k]? = some p) : (ps.take (k + 1)).flatMap pinT = (ps.take k).flatMap pinT ++ pinT p := by
  rw [List.take_add_one, h]
  simp

set_option maxHeartbeats 1000000 in
theorem wf_Manifest (B : Nat) (u : Value) (T : List UInt8) (t j c : Int) (ps : List Pn) (v : Value) (w0 w : World) (hB : w0.heap.size = B) (f0 : Fr (hiB B) w0 w) (h : Wr w B u B T) (hv : RdPs w0 v ps) (hx : ∀ x ∈ [t, j, c], -9223372036854775808 ≤ x ∧ x ≤ 9223372036854775807) (hps : ∀ p ∈ ps, PnOk p) (hl : ps.length ≤ 4) (hT : T.length ≤ 1000) :
    Calls Tryz.prog 23 #[.pointer (some ⟨B, 0, none⟩), mManifest t j c v] w fun e w' => e = .returned (.tuple #[]) ∧ ∃ u', Wr w' B u' B (T ++ (numsL [t, j, c, (ps.length : Int)] ++ ps.flatMap pinT)) ∧ Fr (hiB B) w0 w' := by
  rw [← List.append_assoc]
  have hget : ∀ k, k < ps.length → ∃ m, ps[k]? = some m := fun k hk => ⟨ps[k], List.getElem?_eq_getElem hk⟩
  have hst := parts_take ps
  have h0 : (ps.take 0).flatMap pinT = [] := rfl
  have hend : (ps.take ps.length).flatMap pinT = ps.flatMap pinT := by rw [List.take_length]
  have hlen : ∀ k, ((ps.take k).flatMap pinT).length ≤ 1120 := fun k => by
    have h1 := pins_len (ps.take k) (fun p hp => hps p (List.mem_of_mem_take hp))
    have h2 : (ps.take k).length ≤ 4 := by rw [List.length_take]; omega
    omega
  have hnl := nums_len [t, j, c, (ps.length : Int)]
  have hx4 : ∀ x ∈ [t, j, c, (ps.length : Int)], -9223372036854775808 ≤ x ∧ x ≤ 9223372036854775807 := by
    intro x hq
    simp only [List.mem_cons, List.not_mem_nil, or_false] at hq
    rcases hq with q | q | q | q
    · exact hx x (by simp [q])
    · exact hx x (by simp [q])
    · exact hx x (by simp [q])
    · omega
  have hv0 := hv
  obtain ⟨sa, sc, rfl, hx1, hx2, _⟩ := hv
  unfold mManifest
  have hcell : ∀ k p, ps[k]? = some p → ∀ w', Fr (hiB B) w0 w' → ∃ g o ua uc, sa = some ⟨g, o, none⟩ ∧ (∀ q x, (pnC p (.slice ua p.cr.length uc))[q]? = some x → w'.cell? ⟨g, o + (k * 6 + q), none⟩ = some x) ∧ RdI w0 (.slice ua p.cr.length uc) p.cr := fun k p hk w' f => by
    obtain ⟨a', c', e1, _, _, h3⟩ := hv0
    cases e1
    obtain ⟨g, o, ua, uc, e2, h4, h5⟩ := h3 k p hk
    exact ⟨g, o, ua, uc, e2, fun q x hq => f.cell (h4 q x hq) (by have := lt_of_cell (h4 q x hq); unfold hiB; omega), h5⟩
  have hpin := fun k p (hk : ps[k]? = some p) (w' : World) u' T' vv f0 h' hri hT' => wpin_any B u' T' p vv w0 w' hB f0 h' hri (by
    have hp := hps p (List.mem_of_getElem? hk)
    intro x hq
    simp only [List.mem_cons, List.not_mem_nil, or_false] at hq
    have := hp.a; have := hp.t; have := hp.j; have := hp.n
    rcases hq with q | q | q | q <;> omega) (fun x hx => by have := (hps p (List.mem_of_getElem? hk)).c x hx; omega) (by have := (hps p (List.mem_of_getElem? hk)).l; omega) hT'
  obtain ⟨N, hN⟩ : ∃ N, ps.length = N := ⟨_, rfl⟩
  have fX := (Fr.refl noB w).alloc (.cells #[.int .i64 t, .int .i64 j, .int .i64 c, .slice sa ps.length sc] 69)
  have bX := Blk.new w 69 [.int .i64 t, .int .i64 j, .int .i64 c, .slice sa ps.length sc]
  have hX := h.frN fX
  have f1 := f0.hi0 fX
  have hBl : B < w.heap.size := h.1.lt
  simp only [hN] at hget hend hnl hx4 hx1 hx2 hl fX bX hX f1 ⊢
  obtain ⟨g, hgg⟩ : ∃ g, (w.alloc (.cells #[.int .i64 t, .int .i64 j, .int .i64 c, .slice sa N sc] 69)).heap.size = g := ⟨_, rfl⟩
  obtain ⟨gx, hgx⟩ : ∃ gx, w.heap.size = gx := ⟨_, rfl⟩
  rw [hgx] at bX hBl
  have hnw : gx ≠ B := by omega
  have hTl : T.length + 28 * [t, j, c, (N : Int)].length ≤ 100000000 := by simp; omega
  have hTl2 : ∀ k, ((T ++ numsL [t, j, c, (N : Int)]) ++ (ps.take k).flatMap pinT).length ≤ 1000000 := fun k => by
    have := hlen k
    rw [List.length_append, List.length_append]
    simp only [List.length_cons, List.length_nil] at hnl
    omega
  have e0 : (w.alloc (.cells #[.int .i64 t, .int .i64 j, .int .i64 c, .slice sa N sc] 69)).cell? ⟨gx, 0, none⟩ = some (.int .i64 t) := bX.cell 0
  have e1 : (w.alloc (.cells #[.int .i64 t, .int .i64 j, .int .i64 c, .slice sa N sc] 69)).cell? ⟨gx, 1, none⟩ = some (.int .i64 j) := bX.cell 1
  have e2 : (w.alloc (.cells #[.int .i64 t, .int .i64 j, .int .i64 c, .slice sa N sc] 69)).cell? ⟨gx, 2, none⟩ = some (.int .i64 c) := bX.cell 2
  have e3 : (w.alloc (.cells #[.int .i64 t, .int .i64 j, .int .i64 c, .slice sa N sc] 69)).cell? ⟨gx, 3, none⟩ = some (.slice sa N sc) := bX.cell 3
  replace hget := Lib.hid hget
  replace hst := Lib.hid hst
  replace h0 := Lib.hid h0
  replace hend := Lib.hid hend
  replace hlen := Lib.hid hlen
  replace hcell := Lib.hid hcell
  replace hpin := Lib.hid hpin
  replace hN := Lib.hid hN
  replace hTl2 := Lib.hid hTl2
  clear hv0 hT h f0 fX hnl hps hx
  have q0 := as_Manifest_Trigger
  have q1 := as_Manifest_Pin
  have q2 := as_Manifest_Pinned
  have q3 := as_Manifest_Gone
  have q4 := as_Manifest_Collect
  have q5 := as_Manifest_Chunk
  have q6 := as_Manifest_Manifest
  go_enter Tryz.func23, Tryz.ntmps23
  go_wp2_with fail
  generalize (w.alloc (.cells #[.int .i64 t, .int .i64 j, .int .i64 c, .slice sa N sc] 69)) = wx at *
  go_fit (wint_new B B g u T [t, j, c, (N : Int)] wx hX hgg hx4 hTl)
  rintro e w1 ⟨rfl, u1, h1, f2⟩
  have b1 := f2.blk bX (bX.notW (by decide) hnw)
  have f3 := f1.hiW f2 (Nat.le_refl _)
  have d3 : w1.cell? ⟨gx, 3, none⟩ = some (.slice sa N sc) := b1.cell 3
  clear f1 f2 bX hX hx4 hTl e0 e1 e2 e3 b1 hgg hgx
  generalize hTT : T ++ numsL [t, j, c, (N : Int)] = TT at *
  replace hTT := Lib.hid hTT
  replace h1 := Lib.hid h1
  go_wp2_with fail
  go_loopg [107] N (fun gk vi wr => ∃ (k : Nat) (u' : Value), k + gk = N ∧ vi = .int .i64 k ∧ Hid (Wr wr B u' B (TT ++ (ps.take k).flatMap pinT)) ∧ Fr (hiB B) w0 wr)
  case atStart => exact ⟨0, u1, by omega, rfl, Lib.hid (by rw [h0.out, List.append_nil]; exact h1.out), f3⟩
  case round =>
    clear f3 d3 h1
    obtain ⟨k, u', hkn, rfl, hw, fr⟩ := hrel
    by_cases hlt : k < N
    · obtain ⟨p, hs⟩ := hget.out k hlt
      obtain ⟨g', o, ua, uc, rfl, hc, hri⟩ := hcell.out k p hs wr fr
      have c0 : wr.cell? ⟨g', o + k * 6, none⟩ = some (.int .i64 p.a) := hc 0 _ rfl
      have c1 : wr.cell? ⟨g', o + k * 6 + 1, none⟩ = some (.int .i64 p.t) := hc 1 _ rfl
      have c2 : wr.cell? ⟨g', o + k * 6 + 2, none⟩ = some (.int .i64 p.j) := hc 2 _ rfl
      have c3 : wr.cell? ⟨g', o + k * 6 + 3, none⟩ = some (.int .i64 p.n) := hc 3 _ rfl
      have c4 : wr.cell? ⟨g', o + k * 6 + 4, none⟩ = some (.slice ua p.cr.length uc) := hc 4 _ rfl
      have c5 : wr.cell? ⟨g', o + k * 6 + 5, none⟩ = some (.bool p.lo) := hc 5 _ rfl
      have hst1 := hst.out k p hs
      have fA : Fr noB wr (wr.alloc (.cells #[.int .i64 p.a, .int .i64 p.t, .int .i64 p.j, .int .i64 p.n, .slice ua p.cr.length uc, .bool p.lo] 63)) := (Fr.refl _ _).alloc _
      have hpp := hpin.out k p hs _ u' _ (.slice ua p.cr.length uc) (fr.hi0 fA) (hw.out.frN fA) hri (hTl2.out k)
      rw [List.append_assoc, ← hst1] at hpp
      have hb1 : (k : Int) < N := by omega
      have hmeas : N - (k + 1) < gk := by omega
      have hkn2 : k + 1 + (N - (k + 1)) = N := by omega
      generalize p.cr.length = cl at *
      replace hpp := Lib.hid hpp
      replace hs := Lib.hid hs
      replace hst1 := Lib.hid hst1
      replace hmeas := Lib.hid hmeas
      replace hkn2 := Lib.hid hkn2
      clear hc hri fA
      go_wp2_with fail
      go_fit hpp.out
      rintro e w4 ⟨rfl, u4, h4, f4⟩
      go_wp2_with fail
      go_roundg (N - (k + 1))
      case rel => exact ⟨k + 1, u4, hkn2.out, by go_num, Lib.hid h4, f4⟩
      case measure => exact hmeas.out
    · obtain rfl : k = N := by omega
      rw [hend.out] at hw
      go_wp2_with fail
      go_end0
      exact ⟨rfl, u', by rw [hTT.out]; exact hw.out, fr⟩
end Go.Proofs.YtbmafogjmdilkaaGreatDoor
