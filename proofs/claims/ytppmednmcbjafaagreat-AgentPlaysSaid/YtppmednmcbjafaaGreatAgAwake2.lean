/-
  Stage 12's awake, walked.
-/
import Derived.Test.YtppmednmcbjafaaGreatAgA3
set_option linter.unusedVariables false
set_option linter.unusedSimpArgs false
set_option maxRecDepth 100000
set_option maxRecDepth 100000
set_option maxRecDepth 100000
namespace Go.Proofs.YtppmednmcbjafaaGreat
open Go.RowKit Go Go.Maps Go.Lib

section
variable (w0 w : World) (p : Nat) (col : Nat → Nat)
theorem aw_span1 (h : AgIn w0 w p col 0 AA0) : Calls Tryz.prog 13 #[.pointer (some ⟨p, 0, none⟩), .int .i64 7, .string (ByteArray.mk #[120])] w fun e w' => e = .returned (.tuple #[.agg #[.int .i64 7, .int .i64 1, .string (ByteArray.mk #[120])], .int .i64 0]) ∧ ∃ c2, ATo w w' p col 1 AA1 c2 := by
  obtain ⟨a, ha⟩ := h.ag
  have := ag_span p col 0 AA0 a 7 sx w ha (by decide)
  rw [aw1, aw1b] at this
  exact this
theorem aw_crumb (h : AgIn w0 w p col 1 AA1) : Calls Tryz.prog 15 #[.pointer (some ⟨p, 0, none⟩), .int .i64 7, .int .i64 2] w fun e w' => e = .returned (.int .i64 0) ∧ ∃ c2, ATo w w' p col 2 AA2 c2 := by
  obtain ⟨a, ha⟩ := h.ag
  have := ag_crumb p col 1 AA1 a 7 2 w ha (okI_of (by decide) (by decide)) (by decide)
  rw [aw2] at this
  exact this
theorem aw_trig (h : AgIn w0 w p col 2 AA2) : Calls Tryz.prog 17 #[.pointer (some ⟨p, 0, none⟩), .int .i64 7, .int .i64 1] w fun e w' => e = .returned (.tuple #[.agg #[.int .i64 1, .int .i64 7, .int .i64 1], .int .i64 0]) ∧ ATo w w' p col 3 AA3 col := by
  obtain ⟨a, ha⟩ := h.ag
  have := ag_trigger p col 2 AA2 a 7 1 w ha (by decide)
  rw [aw3, aw3b] at this
  exact this
theorem aw_pin (h : AgIn w0 w p col 3 AA3) : Calls Tryz.prog 23 #[.pointer (some ⟨p, 0, none⟩), .iface 94 (.agg #[.int .i64 7, .int .i64 4])] w fun e w' => ∃ g o c a2 n2 k c2, e = .returned (.tuple #[.slice (some ⟨g, o, none⟩) 1 c, .slice a2 n2 k]) ∧ 1 ≤ c ∧ ATo w w' p col 4 AA4 c2 ∧ ∃ x, Held w' c2 (fun u => u.cell? ⟨g, o, none⟩ = some x ∧ MsW u x (.pinned ⟨1, 7, 4, 1, [2], false⟩)) := by
  obtain ⟨a, ha⟩ := h.ag
  refine (ag_hear p col 3 AA3 a (mPin 7 4) (.pin 7 4) w ha (by decide) rfl).mono ?_
  rintro e w' ⟨vu, vo, c2, rfl, hto, hk⟩
  rw [aw4] at hk
  obtain ⟨g, o, c, x, rfl, h1, _⟩ := hk.now.1.get1
  obtain ⟨a2, n2, k, rfl⟩ := hk.now.2.shape
  refine ⟨g, o, c, a2, n2, k, c2, rfl, h1, hto, ?_⟩
  refine Held.cell ((Held.mk hk).imp fun u hu => ?_)
  obtain ⟨g', o', c', x', e', _, hx, hm⟩ := hu.1.get1
  cases e'
  exact ⟨x', hx, hm⟩
theorem aw_span2 (h : AgIn w0 w p col 4 AA4) : Calls Tryz.prog 13 #[.pointer (some ⟨p, 0, none⟩), .int .i64 7, .string (ByteArray.mk #[121])] w fun e w' => (∃ a b x, e = .returned (.tuple #[.agg #[.int .i64 a, .int .i64 b, .string x], .int .i64 12])) ∧ ∃ c2, ATo w w' p col 5 AA5 c2 := by
  obtain ⟨a, ha⟩ := h.ag
  have := ag_span p col 4 AA4 a 7 sy w ha (by decide)
  rw [aw5] at this
  exact this.mono fun e w' ⟨h1, h2⟩ => ⟨⟨_, _, _, h1⟩, h2⟩
theorem aw_coll (h : AgIn w0 w p col 5 AA5) : Calls Tryz.prog 23 #[.pointer (some ⟨p, 0, none⟩), .iface 99 (.agg #[.int .i64 7, .int .i64 4])] w fun e w' => ∃ g o c a2 n2 k c2, e = .returned (.tuple #[.slice a2 n2 k, .slice (some ⟨g, o, none⟩) 1 c]) ∧ 1 ≤ c ∧ ATo w w' p col 6 AA6 c2 ∧ ∃ x, Held w' c2 (fun u => u.cell? ⟨g, o, none⟩ = some x ∧ MsW u x (.chunk 1 7 4 0 1 [⟨7, 1, sx⟩])) := by
  obtain ⟨a, ha⟩ := h.ag
  refine (ag_hear p col 5 AA5 a (mCollect 7 4) (.collect 7 4) w ha (by decide) rfl).mono ?_
  rintro e w' ⟨vu, vo, c2, rfl, hto, hk⟩
  rw [aw6] at hk
  obtain ⟨g, o, c, x, rfl, h1, _⟩ := hk.now.2.get1
  obtain ⟨a2, n2, k, rfl⟩ := hk.now.1.shape
  refine ⟨g, o, c, a2, n2, k, c2, rfl, h1, hto, ?_⟩
  refine Held.cell ((Held.mk hk).imp fun u hu => ?_)
  obtain ⟨g', o', c', x', e', _, hx, hm⟩ := hu.2.get1
  cases e'
  exact ⟨x', hx, hm⟩
theorem aw_more (h : AgIn w0 w p col 6 AA6) : Calls Tryz.prog 23 #[.pointer (some ⟨p, 0, none⟩), .iface 99 (.agg #[.int .i64 7, .int .i64 5])] w fun e w' => ∃ g o c a2 n2 k c2, e = .returned (.tuple #[.slice (some ⟨g, o, none⟩) 1 c, .slice a2 n2 k]) ∧ 1 ≤ c ∧ ATo w w' p col 7 AA7 c2 ∧ Held w' c2 (fun u => u.cell? ⟨g, o, none⟩ = some (mGone 1 7 5)) := by
  obtain ⟨a, ha⟩ := h.ag
  refine (ag_hear p col 6 AA6 a (mCollect 7 5) (.collect 7 5) w ha (by decide) rfl).mono ?_
  rintro e w' ⟨vu, vo, c2, rfl, hto, hk⟩
  rw [aw7] at hk
  obtain ⟨g, o, c, x, rfl, h1, _⟩ := hk.now.1.get1
  obtain ⟨a2, n2, k, rfl⟩ := hk.now.2.shape
  refine ⟨g, o, c, a2, n2, k, c2, rfl, h1, hto, ?_⟩
  obtain ⟨N, q1, q2⟩ := Held.mk hk
  refine ⟨N, fun w2 f2 => ?_, q2⟩
  obtain ⟨g', o', c', x', e', _, hx, hm⟩ := (q1 w2 f2).1.get1
  cases e'
  rw [hx, show x' = mGone 1 7 5 from hm]
theorem aw_free (h : AgIn w0 w p col 7 AA7) : Calls Tryz.prog 23 #[.pointer (some ⟨p, 0, none⟩), .iface 95 (.agg #[.int .i64 7, .int .i64 4])] w fun e w' => ∃ g o c a2 n2 k c2, e = .returned (.tuple #[.slice (some ⟨g, o, none⟩) 1 c, .slice a2 n2 k]) ∧ 1 ≤ c ∧ ATo w w' p col 8 AA8 c2 ∧ Held w' c2 (fun u => u.cell? ⟨g, o, none⟩ = some (mUnpinned 1 7 4)) := by
  obtain ⟨a, ha⟩ := h.ag
  refine (ag_hear p col 7 AA7 a (mUnpin 7 4) (.unpin 7 4) w ha (by decide) rfl).mono ?_
  rintro e w' ⟨vu, vo, c2, rfl, hto, hk⟩
  rw [aw8] at hk
  obtain ⟨g, o, c, x, rfl, h1, _⟩ := hk.now.1.get1
  obtain ⟨a2, n2, k, rfl⟩ := hk.now.2.shape
  refine ⟨g, o, c, a2, n2, k, c2, rfl, h1, hto, ?_⟩
  obtain ⟨N, q1, q2⟩ := Held.mk hk
  refine ⟨N, fun w2 f2 => ?_, q2⟩
  obtain ⟨g', o', c', x', e', _, hx, hm⟩ := (q1 w2 f2).1.get1
  cases e'
  rw [hx, show x' = mUnpinned 1 7 4 from hm]
end

theorem lk_pin (ua : Option Addr) (uc : Nat) (w : World) : Calls Tryz.prog 25 #[.iface 133 (.agg #[.int .i64 1, .int .i64 7, .int .i64 4, .int .i64 1, .slice ua 1 uc, .bool false])] w fun e w' => e = .returned (.agg #[.int .i64 3, .int .i64 0, .int .i64 0, .int .i64 0, .int .i64 0, .int .i64 0, .int .i64 0, .int .i64 1, .int .i64 7, .int .i64 4, .int .i64 1, .slice ua 1 uc, .bool false, .slice none 0 0, .slice none 0 0]) ∧ Fr noB w w' := like_Pinned 1 7 4 1 ua 1 uc false w
theorem lk_chunk (sa : Option Addr) (sc : Nat) (w : World) : Calls Tryz.prog 25 #[.iface 138 (.agg #[.int .i64 1, .int .i64 7, .int .i64 4, .int .i64 0, .int .i64 1, .slice sa 1 sc])] w fun e w' => e = .returned (.agg #[.int .i64 6, .int .i64 1, .int .i64 7, .int .i64 4, .int .i64 0, .int .i64 0, .int .i64 1, .int .i64 0, .int .i64 0, .int .i64 0, .int .i64 0, .slice none 0 0, .bool false, .slice none 0 0, .slice sa 1 sc]) ∧ Fr noB w w' := like_Chunk 1 7 4 0 1 sa 1 sc w
theorem aw_job4 (w0 w : World) (p : Nat) (col : Nat → Nat) (h : AgIn w0 w p col 7 AA7) : Calls Tryz.prog 32 #[.pointer (some ⟨p, 0, none⟩), .int .i64 7] w fun e w' => e = .returned (.int .i64 4) ∧ w' = w := by
  obtain ⟨a, ha⟩ := h.ag
  have := ag_job p col 7 AA7 a 7 w ha (okI_of (by decide) (by decide))
  rw [aw7b] at this
  exact this
theorem aw_job0 (w0 w : World) (p : Nat) (col : Nat → Nat) (h : AgIn w0 w p col 8 AA8) : Calls Tryz.prog 32 #[.pointer (some ⟨p, 0, none⟩), .int .i64 7] w fun e w' => e = .returned (.int .i64 0) ∧ w' = w := by
  obtain ⟨a, ha⟩ := h.ag
  have := ag_job p col 8 AA8 a 7 w ha (okI_of (by decide) (by decide))
  rw [aw9] at this
  exact this
theorem aw_spans0 (w0 w : World) (p : Nat) (col : Nat → Nat) (h : AgIn w0 w p col 8 AA8) : Calls Tryz.prog 28 #[.pointer (some ⟨p, 0, none⟩), .int .i64 7] w fun e w' => (∃ sa sc, e = .returned (.slice sa 0 sc)) ∧ Fr noB w w' := by
  obtain ⟨a, ha⟩ := h.ag
  have := ag_spans p col 8 AA8 a 7 w ha
  rw [aw9b] at this
  refine this.mono ?_
  rintro e w' ⟨u, rfl, o, f⟩
  obtain ⟨x, y, rfl⟩ := ownsRow_slice o
  exact ⟨⟨x, y, rfl⟩, f⟩
theorem aw_used0 (w0 w : World) (p : Nat) (col : Nat → Nat) (h : AgIn w0 w p col 8 AA8) : Calls Tryz.prog 36 #[.pointer (some ⟨p, 0, none⟩)] w fun e w' => e = .returned (.int .i64 0) ∧ Fr noB w w' := by
  obtain ⟨a, ha⟩ := h.ag
  have := ag_used p col 8 AA8 a w ha
  rw [aw9c] at this
  exact this
theorem free_col {w0 w : World} {p n : Nat} {col : Nat → Nat} {A : AG} (h : AgIn w0 w p col n A) : col w.heap.size = 0 := by
  obtain ⟨a, ha⟩ := h.ag
  rcases Nat.eq_zero_or_pos (col w.heap.size) with e | e
  · exact e
  · have := ha.low w.heap.size (by omega); omega

set_option maxHeartbeats 8000000 in
theorem awake_any (w : World) : Calls Tryz.prog 8 #[] w fun e w' => e = .returned (.bool true) ∧ Fr noB w w' := by
  have hcf := cfg_any
  have hnew := fun w' => ag_new 1 cfA w' (by unfold Cf.may cfA; decide) cfA_u64
  have hbad := fun w' => ag_new_id 3 cfA w' (by unfold cfA; decide) cfA_u64 (by decide) (by decide)
  unfold Cf.cs cfA at hnew hbad
  simp only at hnew hbad
  replace hcf := Lib.hid hcf
  replace hnew := Lib.hid hnew
  replace hbad := Lib.hid hbad
  go_enter Tryz.func8, Tryz.ntmps8
  go_wp2_with fail
  go_fit (hcf.out w)
  rintro e w1 ⟨rfl, f1⟩
  go_wp2_with fail
  go_fit (hnew.out w1)
  rintro e w2 ⟨p, col, rfl, ha, f2, hc⟩
  have h2 : AgIn w w2 p col 0 AA0 := AgIn.begin f1 ha f2 hc
  replace h2 := Lib.hid h2
  clear ha f1 f2 hc
  go_wp2_with fail
  go_fit (hcf.out w2)
  rintro e w3 ⟨rfl, f3⟩
  go_wp2_with fail
  go_fit (hbad.out w3)
  rintro e w4 ⟨rfl, f4⟩
  have h4 := Lib.hid ((h2.out.frN f3).frN f4)
  clear h2 f3 f4 hnew hbad hcf
  go_wp2_with fail
  go_fit (aw_span1 w w4 p col h4.out)
  rintro e w5 ⟨rfl, c5, hto⟩
  have h5 := h4.out.step hto
  have f6 := (Fr.refl noB w5).alloc (.cells #[.int .i64 7, .int .i64 1, .string (ByteArray.mk #[120])] 38)
  have b6 := Blk.new w5 38 [.int .i64 7, .int .i64 1, .string (ByteArray.mk #[120])]
  obtain ⟨a5, ha5⟩ := h5.ag
  have z5 : c5 w5.heap.size = 0 := by
    rcases Nat.eq_zero_or_pos (c5 w5.heap.size) with e | e
    · exact e
    · have := ha5.low w5.heap.size (by omega); omega
  have H5 := Lib.hid (Held.blk b6 z5)
  have h6 := Lib.hid (h5.frN f6)
  obtain ⟨g5, hg5⟩ : ∃ g, w5.heap.size = g := ⟨_, rfl⟩
  rw [hg5] at H5
  clear h4 hto h5 f6 b6 ha5 z5
  go_wp2_with fail
  try rw [hg5]
  replace hg5 := Lib.hid hg5
  generalize (w5.alloc (.cells #[.int .i64 7, .int .i64 1, .string (ByteArray.mk #[120])] 38)) = w6 at *
  go_fit (aw_crumb w w6 p c5 h6.out)
  rintro e w7 ⟨rfl, c7, hto⟩
  have h7 := Lib.hid (h6.out.step hto)
  have H7 := Lib.hid (H5.out.call hto)
  clear h6 H5 hto
  go_wp2_with fail
  go_fit (aw_trig w w7 p c7 h7.out)
  rintro e w8 ⟨rfl, hto⟩
  have h8 := h7.out.step hto
  have H8 := H7.out.call hto
  have f9 := (Fr.refl noB w8).alloc (.cells #[.int .i64 1, .int .i64 7, .int .i64 1] 53)
  have b9 := Blk.new w8 53 [.int .i64 1, .int .i64 7, .int .i64 1]
  obtain ⟨a8, ha8⟩ := h8.ag
  have z8 : c7 w8.heap.size = 0 := by
    rcases Nat.eq_zero_or_pos (c7 w8.heap.size) with e | e
    · exact e
    · have := ha8.low w8.heap.size (by omega); omega
  have T8 := Lib.hid (Held.blk b9 z8)
  have H9 := Lib.hid (H8.frN f9)
  have h9 := Lib.hid (h8.frN f9)
  obtain ⟨g8, hg8⟩ : ∃ g, w8.heap.size = g := ⟨_, rfl⟩
  rw [hg8] at T8
  clear h7 H7 hto h8 H8 f9 b9 ha8 z8
  go_wp2_with fail
  try rw [hg8]
  replace hg8 := Lib.hid hg8
  generalize (w8.alloc (.cells #[.int .i64 1, .int .i64 7, .int .i64 1] 53)) = w9 at *
  go_fit (aw_pin w w9 p c7 h9.out)
  rintro e wA ⟨gu, ou, cu, xa, xn, xk, cA, rfl, hcu, hto, xu, U0⟩
  have hA := Lib.hid (h9.out.step hto)
  have HA := Lib.hid (H9.out.call hto)
  have TA := Lib.hid (T8.out.call hto)
  replace U0 := Lib.hid U0
  clear h9 H9 T8 hto
  go_wp2_with fail
  go_fit (aw_span2 w wA p cA hA.out)
  rintro e wB ⟨⟨z1, z2, z3, rfl⟩, cB, hto⟩
  have fB := (Fr.refl noB wB).alloc (.cells #[.int .i64 z1, .int .i64 z2, .string z3] 38)
  have hB := Lib.hid ((hA.out.step hto).frN fB)
  have HB := Lib.hid ((HA.out.call hto).frN fB)
  have TB := Lib.hid ((TA.out.call hto).frN fB)
  have UB := Lib.hid ((U0.out.call hto).frN fB)
  clear hA HA TA U0 hto fB
  go_wp2_with fail
  generalize (wB.alloc (.cells #[.int .i64 z1, .int .i64 z2, .string z3] 38)) = wC at *
  go_fit (aw_coll w wC p cB hB.out)
  rintro e wD ⟨go, oo, co, ya, yn, yk, cD, rfl, hco, hto, xo, O0⟩
  have hD := Lib.hid (hB.out.step hto)
  have HD := Lib.hid (HB.out.call hto)
  have TD := Lib.hid (TB.out.call hto)
  have UD := Lib.hid (UB.out.call hto)
  replace O0 := Lib.hid O0
  clear hB HB TB UB hto
  go_wp2_with fail
  go_fit (aw_more w wD p cD hD.out)
  rintro e wE ⟨gm, om, cm, ta, tn, tk, cE, rfl, hcm, hto, M0⟩
  have hE := Lib.hid (hD.out.step hto)
  have HE := Lib.hid (HD.out.call hto)
  have TE := Lib.hid (TD.out.call hto)
  have UE := Lib.hid (UD.out.call hto)
  have OE := Lib.hid (O0.out.call hto)
  replace M0 := Lib.hid M0
  clear hD HD TD UD O0 hto
  obtain ⟨ku, mu⟩ := UE.out.now
  obtain ⟨u1, rfl, hu1⟩ := mu
  obtain ⟨ua, uc, rfl, _⟩ := hu1
  have RE : Held wE cE (fun u => RdI u (.slice ua 1 uc) [2]) := UE.out.imp fun u hu => by
    obtain ⟨_, u2, e2, h2⟩ := hu
    cases e2
    exact h2
  obtain ⟨ko, mo⟩ := OE.out.now
  obtain ⟨u1, rfl, hu1⟩ := mo
  obtain ⟨sa, sc, rfl, _⟩ := hu1
  unfold mPinned at ku
  unfold mChunk at ko
  replace RE := Lib.hid RE
  replace ko := Lib.hid ko
  clear UE
  go_wp2_with fail
  go_fit (lk_pin ua uc wE)
  rintro e wF ⟨rfl, fF⟩
  have fG := (Fr.refl noB wF).alloc (.cells #[.int .i64 3, .int .i64 0, .int .i64 0, .int .i64 0, .int .i64 0, .int .i64 0, .int .i64 0, .int .i64 1, .int .i64 7, .int .i64 4, .int .i64 1, .slice ua 1 uc, .bool false, .slice none 0 0, .slice none 0 0] 73)
  have bG := Blk.new wF 73 [.int .i64 3, .int .i64 0, .int .i64 0, .int .i64 0, .int .i64 0, .int .i64 0, .int .i64 0, .int .i64 1, .int .i64 7, .int .i64 4, .int .i64 1, .slice ua 1 uc, .bool false, .slice none 0 0, .slice none 0 0]
  have hF := hE.out.frN fF
  have zF := free_col hF
  have PG := Held.blk bG zF
  have hG := Lib.hid (hF.frN fG)
  have HG := Lib.hid ((HE.out.frN fF).frN fG)
  have TG := Lib.hid ((TE.out.frN fF).frN fG)
  have MG := Lib.hid ((M0.out.frN fF).frN fG)
  have RG := Lib.hid ((RE.out.frN fF).frN fG)
  have kG := (ko.out |> fun h => (fF.seqN fG).cell h (fun q => q))
  obtain ⟨gp, hgp⟩ : ∃ g, wF.heap.size = g := ⟨_, rfl⟩
  rw [hgp] at PG
  replace PG := Lib.hid PG
  clear hE HE TE M0 RE ko ku fF fG bG hF zF OE
  go_wp2_with fail
  try rw [hgp]
  replace hgp := Lib.hid hgp
  generalize (wF.alloc (.cells #[.int .i64 3, .int .i64 0, .int .i64 0, .int .i64 0, .int .i64 0, .int .i64 0, .int .i64 0, .int .i64 1, .int .i64 7, .int .i64 4, .int .i64 1, .slice ua 1 uc, .bool false, .slice none 0 0, .slice none 0 0] 73)) = wG at *
  go_fit (lk_chunk sa sc wG)
  rintro e wH ⟨rfl, fH⟩
  have fI := (Fr.refl noB wH).alloc (.cells #[.int .i64 6, .int .i64 1, .int .i64 7, .int .i64 4, .int .i64 0, .int .i64 0, .int .i64 1, .int .i64 0, .int .i64 0, .int .i64 0, .int .i64 0, .slice none 0 0, .bool false, .slice none 0 0, .slice sa 1 sc] 73)
  have bI := Blk.new wH 73 [.int .i64 6, .int .i64 1, .int .i64 7, .int .i64 4, .int .i64 0, .int .i64 0, .int .i64 1, .int .i64 0, .int .i64 0, .int .i64 0, .int .i64 0, .slice none 0 0, .bool false, .slice none 0 0, .slice sa 1 sc]
  have hH := hG.out.frN fH
  have zH := free_col hH
  have CI := Held.blk bI zH
  have hI := Lib.hid (hH.frN fI)
  have HI := Lib.hid ((HG.out.frN fH).frN fI)
  have TI := Lib.hid ((TG.out.frN fH).frN fI)
  have MI := Lib.hid ((MG.out.frN fH).frN fI)
  have RI := Lib.hid ((RG.out.frN fH).frN fI)
  have PI := Lib.hid ((PG.out.frN fH).frN fI)
  obtain ⟨gc, hgc⟩ : ∃ g, wH.heap.size = g := ⟨_, rfl⟩
  rw [hgc] at CI
  replace CI := Lib.hid CI
  clear hG HG TG MG RG PG kG fH fI bI hH zH
  go_wp2_with fail
  try rw [hgc]
  replace hgc := Lib.hid hgc
  generalize (wH.alloc (.cells #[.int .i64 6, .int .i64 1, .int .i64 7, .int .i64 4, .int .i64 0, .int .i64 0, .int .i64 1, .int .i64 0, .int .i64 0, .int .i64 0, .int .i64 0, .slice none 0 0, .bool false, .slice none 0 0, .slice sa 1 sc] 73)) = wI at *
  go_fit (aw_job4 w wI p cE hI.out)
  rintro e wJ ⟨rfl, hwJ⟩
  obtain rfl := hwJ.symm
  clear hwJ
  go_wp2_with fail
  go_fit (aw_free w wI p cE hI.out)
  rintro e wK ⟨gf, ofr, cf, ra, rn, rk, cK, rfl, hcf, hto, F0⟩
  have hK := Lib.hid (hI.out.step hto)
  have HK := HI.out.call hto
  have TK := TI.out.call hto
  have MK := Lib.hid (MI.out.call hto)
  have RK := Lib.hid (RI.out.call hto)
  have PK := PI.out.call hto
  have CK := Lib.hid (CI.out.call hto)
  have s1 : wK.cell? ⟨g5, 1, none⟩ = some (.int .i64 1) := HK.now.cell 1
  have t0 : wK.cell? ⟨g8, 0, none⟩ = some (.int .i64 1) := TK.now.cell 0
  have t1 : wK.cell? ⟨g8, 1, none⟩ = some (.int .i64 7) := TK.now.cell 1
  have t2 : wK.cell? ⟨g8, 2, none⟩ = some (.int .i64 1) := TK.now.cell 2
  have p0 : wK.cell? ⟨gp, 0, none⟩ = some (.int .i64 3) := PK.now.cell 0
  have p10 : wK.cell? ⟨gp, 10, none⟩ = some (.int .i64 1) := PK.now.cell 10
  have p11 : wK.cell? ⟨gp, 11, none⟩ = some (.slice ua 1 uc) := PK.now.cell 11
  replace F0 := Lib.hid F0
  have hsi : ∀ w' g, Fr noB wK w' → Blk w' g 3 [.int .i64 2] → Calls Tryz.prog 19 #[.slice ua 1 uc, .slice (some ⟨g, 0, none⟩) 1 1] w' fun e w'' => e = .returned (.bool true) ∧ ∃ q, w'' = w'.drewN q := fun w' g f b => by
    have h1 := (RK.out.frN f).now
    have h2 : RdI w' (.slice (some ⟨g, 0, none⟩) 1 1) [2] := ⟨_, 1, rfl, by simp, by simp, fun i hi => ⟨g, 0, rfl, by
      have : i = 0 := by simp at hi; exact hi
      subst this
      exact b.cell 0⟩⟩
    have := sameInts_any _ _ [2] [2] w' h1 h2
    rwa [show decide (([2] : List Int) = [2]) = true from rfl] at this
  replace hsi := Lib.hid hsi
  have fL := (Fr.refl noB wK).alloc (.cells #[.int .i64 2] 3)
  have bL := Blk.new wK 3 [.int .i64 2]
  clear hI HI TI MI RI PI CI hto HK TK PK
  go_wp2_with fail
  go_fit (hsi.out _ _ fL bL)
  rintro e wL ⟨rfl, qL, hwL⟩
  have fLL : Fr noB wK wL := by rw [hwL]; exact fL.drewN qL
  have CL := Lib.hid (CK.out.frN fLL)
  have ML := Lib.hid (MK.out.frN fLL)
  have FL := Lib.hid (F0.out.frN fLL)
  have hL := Lib.hid (hK.out.frN fLL)
  have c0 : wL.cell? ⟨gc, 0, none⟩ = some (.int .i64 6) := CL.out.now.cell 0
  have c14 : wL.cell? ⟨gc, 14, none⟩ = some (.slice sa 1 sc) := CL.out.now.cell 14
  have m0 : wL.cell? ⟨gm, om, none⟩ = some (mGone 1 7 5) := ML.out.now
  unfold mGone at m0
  clear hwL fL bL s1 t0 t1 t2 p0 p10 p11 hsi CK MK F0 hK fLL RK
  go_wp2_with fail
  go_fit (kind_Gone 1 7 5 wL)
  rintro e wM ⟨rfl, fM⟩
  have hM := Lib.hid (hL.out.frN fM)
  have l0 : wM.cell? ⟨gf, ofr, none⟩ = some (mUnpinned 1 7 4) := (FL.out.frN fM).now
  unfold mUnpinned at l0
  clear c0 c14 m0 CL ML FL hL fM
  go_wp2_with fail
  go_fit (kind_Unpinned 1 7 4 wM)
  rintro e wN ⟨rfl, fN⟩
  have hN := Lib.hid (hM.out.frN fN)
  clear l0 hM fN
  go_wp2_with fail
  go_fit (aw_job0 w wN p cK hN.out)
  rintro e wO ⟨rfl, hwO⟩
  obtain rfl := hwO.symm
  clear hwO
  go_wp2_with fail
  go_fit (aw_spans0 w wN p cK hN.out)
  rintro e wP ⟨⟨ba, bc, rfl⟩, fP⟩
  have hP := Lib.hid (hN.out.frN fP)
  clear hN fP
  go_wp2_with fail
  go_fit (aw_used0 w wP p cK hP.out)
  rintro e wQ ⟨rfl, fQ⟩
  go_wp2_with fail
  go_ret
  exact ⟨rfl, (hP.out.frN fQ).fr⟩
end Go.Proofs.YtppmednmcbjafaaGreat
