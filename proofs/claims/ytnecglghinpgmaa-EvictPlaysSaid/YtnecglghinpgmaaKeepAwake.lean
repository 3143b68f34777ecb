/-
  Awake: the answers that the document fixes.
-/
import Derived.Test.YtnecglghinpgmaaKeepDo
set_option linter.unusedVariables false
set_option linter.unusedSimpArgs false
namespace Go.Proofs.Ytnecglghinpgmaa
open Go.RowKit Go Go.Maps Go.Lib

/-- A step of a keeper whose blocks are among S, S holding all new ones. -/
theorem kstep {w w' : World} {k g bp bl B N : Nat} {wa : Option Addr} {K' : KS} {S : Nat → Prop} (kt : KTo w w' k g bp bl B N wa K') (hS : ∀ q, kpS k g bp bl wa q → S q) (hn : ∀ q, w.heap.size ≤ q → S q) :
    ∃ wa' wc', Kp w' k g bp bl B N wa' wc' K' ∧ (∀ q, kpS k g bp bl wa' q → S q) ∧ Fr S w w' := by
  obtain ⟨wa', wc', h, F, hs⟩ := kt
  refine ⟨wa', wc', h, fun q hq => ?_, F.mono (fun q _ e => hS q e)⟩
  rcases Nat.lt_or_ge q w.heap.size with h1 | h1
  · exact hS q (hs q h1 hq)
  · exact hn q h1

def sx : ByteArray := ByteArray.mk #[120]
def sy : ByteArray := ByteArray.mk #[121]
def sz : ByteArray := ByteArray.mk #[122]
def KA0 : KS := ⟨5, [], [], [], []⟩
def KA1 : KS := ⟨5, [(2, [sx])], [], [], []⟩
def KA2 : KS := ⟨5, [(1, [sy])], [], [2], [2]⟩
def KA3 : KS := ⟨5, [(1, [sy])], [1], [2], [2]⟩
def KA4 : KS := ⟨5, [(1, [sy])], [1], [2, 9], [2]⟩
theorem al : leastS 5 [1, 2] = 2 := by decide +kernel
theorem ag : goes KA1 1 = 2 := by decide +kernel
theorem a1 : KA0.wr 1 2 sx = KA1 ∧ KA0.we 1 2 sx = 0 ∧ KA0.ws 1 2 sx = ⟨2, 1, sx⟩ := ⟨rfl, rfl, rfl⟩
theorem noRoom1 : noRoom 1 KA1.P 1 := ⟨rfl, rfl⟩
theorem a2e : KA1.we 1 1 sy = 0 := by
  unfold KS.we
  rw [if_neg (by decide), if_neg (by decide), if_neg (by decide), if_pos noRoom1, if_neg (by decide), ag]; rfl
theorem a2 : KA1.wr 1 1 sy = KA2 ∧ KA1.ws 1 1 sy = ⟨1, 1, sy⟩ := by
  refine ⟨?_, ?_⟩
  · unfold KS.wr
    rw [if_neg (by decide), if_neg (by decide), if_neg (by decide), if_pos noRoom1, if_neg (by decide), ag]; rfl
  · unfold KS.ws
    rw [if_pos a2e]; rfl
theorem a3 : KA2.wr 1 2 sz = KA2 ∧ KA2.we 1 2 sz = 10 ∧ KA2.ws 1 2 sz = sp0 := ⟨rfl, rfl, rfl⟩
theorem a4 : KA3.wr 1 1 sy = KA3 ∧ KA3.we 1 1 sy = 12 ∧ KA3.ws 1 1 sy = sp0 := ⟨rfl, rfl, rfl⟩
theorem a5 : KA3.wr 1 9 sy = KA4 ∧ KA3.we 1 9 sy = 6 ∧ KA3.ws 1 9 sy = sp0 := ⟨rfl, rfl, rfl⟩

theorem RdI.one {w : World} {g : Nat} {t : TypeId} {x : Int} (b : Blk w g t [.int .i64 x]) : RdI w (.slice (some ⟨g, 0, Option.none⟩) 1 1) [x] :=
  ⟨_, 1, rfl, by simp, by simp, fun i hi => ⟨g, 0, rfl, by
    simp at hi; subst hi
    exact b.cell 0⟩⟩

set_option maxHeartbeats 4000000 in
set_option maxRecDepth 10000 in
theorem awake_any (w : World) : Calls Try.prog 8 #[] w fun e w' => e = .returned (.bool true) ∧ Fr noB w w' := by
  have hsd : U64 5 := by unfold U64; omega
  have hn := knew_any 1 5 w (by omega) (by omega) hsd
  have o2 : okI 2 := okI_of (by omega) (by omega)
  have o1 : okI 1 := okI_of (by omega) (by omega)
  have o9 : okI 9 := okI_of (by omega) (by omega)
  go_enter Try.func8, Try.ntmps8
  go_wp2_with fail
  refine hn.mono ?_
  rintro e w1 ⟨k, g, bp, bl, B, rfl, h1, f1, hk, hg, hp, hl⟩
  clear hn
  have h0 := fun w' => knew_no 0 5 w' (Or.inl (by omega))
  go_wp2_with fail
  refine (h0 _).mono ?_
  rintro e w2 ⟨rfl, hw2⟩
  obtain rfl := hw2.symm
  clear h0 hw2
  have bI := Blk.new w1 3 [.int .i64 1, .int .i64 2]
  have fI := (Fr.refl noB w1).alloc (.cells #[.int .i64 1, .int .i64 2] 3)
  have oI := own_new w1 3 [.int .i64 1, .int .i64 2] 1 2 rfl (by unfold maxLen; omega)
  have hle := rleast_any 5 (.slice (some ⟨w1.heap.size, 0, none⟩) 2 2) [1, 2] _ hsd (Ints.own (xs := [1, 2]) oI (fun t ht => by simp at ht; unfold I64; omega))
  rw [al] at hle
  have h2 := h1.frN fI
  clear bI oI
  go_wp2_with fail
  refine hle.mono ?_
  rintro e w3 ⟨rfl, f3⟩
  clear hle
  have h3 := h2.frN f3
  have g3 := (f1.seqN fI).seqN f3
  have hS3 : ∀ q, kpS k g bp bl none q → w.heap.size ≤ q := fun q hq => by
    rcases hq with e | e | e | e | ⟨o, e⟩
    · omega
    · omega
    · omega
    · omega
    · cases e
  have hc := kwrite_any k g bp bl B 1 0 none KA0 2 sx w3 h3 (by decide) (by decide)
  rw [a1.1, a1.2.1, a1.2.2] at hc
  unfold spV sx at hc
  clear h1 h2 f1 fI f3
  replace h3 := Lib.hid h3
  go_wp2_with fail
  refine hc.mono ?_
  rintro e w4 ⟨rfl, kt⟩
  clear hc h3
  obtain ⟨wa4, wc4, h4, hS4, f4⟩ := kstep kt hS3 (fun q hq => by have := g3.size; omega)
  have g4 : Fr (fun q => w.heap.size ≤ q) w w4 := g3.trans f4 (fun _ _ q => False.elim q) (fun _ _ q => q)
  have fa := (Fr.refl noB w4).alloc (.cells #[.int .i64 2, .int .i64 1, .string (ByteArray.mk #[120])] 35)
  have h4a := h4.frN fa
  have hc := kwrite_any k g bp bl B 1 wc4 wa4 KA1 1 sy _ h4a (by decide) (by decide)
  rw [a2.1, a2.2, a2e] at hc
  unfold spV sy at hc
  have g4a : Fr (fun q => w.heap.size ≤ q) w _ := g4.seqN fa
  clear kt h4 f4 g3 hS3 fa g4
  replace h4a := Lib.hid h4a
  go_wp2_with fail
  refine hc.mono ?_
  rintro e w5 ⟨rfl, kt⟩
  clear hc h4a
  obtain ⟨wa5, wc5, h5, hS5, f5⟩ := kstep kt hS4 (fun q hq => by have := g4a.size; omega)
  have g5 : Fr (fun q => w.heap.size ≤ q) w w5 := g4a.trans f5 (fun _ _ q => q) (fun _ _ q => q)
  have fb := (Fr.refl noB w5).alloc (.cells #[.int .i64 1, .int .i64 1, .string (ByteArray.mk #[121])] 35)
  have bS := Blk.new w5 35 [.int .i64 1, .int .i64 1, .string (ByteArray.mk #[121])]
  have h5a := h5.frN fb
  have g5a : Fr (fun q => w.heap.size ≤ q) w _ := g5.seqN fb
  have hS5b : ∀ q, kpS k g bp bl wa5 q → w.heap.size ≤ q ∧ q ≠ w5.heap.size := fun q hq => ⟨hS5 q hq, by have := h5.low hq; omega⟩
  have hsw : w5.heap.size < (w5.alloc (.cells #[.int .i64 1, .int .i64 1, .string (ByteArray.mk #[121])] 35)).heap.size := bS.lt
  have hc := kwrite_any k g bp bl B 1 wc5 wa5 KA2 2 sz _ h5a (by decide) (by decide)
  rw [a3.1, a3.2.1, a3.2.2] at hc
  unfold spV sz at hc
  clear kt h5 f5 hS5 fb g5 hS4 g4a
  replace h5a := Lib.hid h5a
  go_wp2_with fail
  refine hc.mono ?_
  rintro e w6 ⟨rfl, kt⟩
  clear hc h5a
  obtain ⟨wa6, wc6, h6, hS6, f6⟩ := kstep kt hS5b (fun q hq => ⟨by have := g5a.size; omega, by omega⟩)
  have g6 : Fr (fun q => w.heap.size ≤ q) w w6 := g5a.trans f6 (fun _ _ q => q) (fun _ _ q => q.1)
  have bS6 := f6.blk bS (fun q => q.2 rfl)
  have fc := (Fr.refl noB w6).alloc (.cells #[.int .i64 0, .int .i64 0, .string (ByteArray.mk #[])] 35)
  have h6a := h6.frN fc
  have g6a : Fr (fun q => w.heap.size ≤ q) w _ := g6.seqN fc
  have bS6a := fc.blk bS6 (fun q => q)
  have hs6 := bS6a.lt
  have hc := kpin_any k g bp bl B 1 wc6 wa6 KA2 1 _ h6a o1 (by decide)
  clear kt h6 f6 hS5b fc g6 g5a bS bS6 hsw
  replace h6a := Lib.hid h6a
  go_wp2_with fail
  refine hc.mono ?_
  rintro e w7 ⟨rfl, kt⟩
  clear hc h6a
  obtain ⟨wa7, wc7, h7, hS7, f7⟩ := kstep kt hS6 (fun q hq => ⟨by have := g6a.size; omega, by omega⟩)
  replace h7 : Kp w7 k g bp bl B 1 wa7 wc7 KA3 := h7
  have g7 : Fr (fun q => w.heap.size ≤ q) w w7 := g6a.trans f7 (fun _ _ q => q) (fun _ _ q => q.1)
  have bS7 := f7.blk bS6a (fun q => q.2 rfl)
  have hs7 := bS7.lt
  have hc := kwrite_any k g bp bl B 1 wc7 wa7 KA3 1 sy _ h7 (by decide) (by decide)
  rw [a4.1, a4.2.1, a4.2.2] at hc
  unfold spV sy at hc
  clear kt f7 hS6 g6a bS6a hs6
  replace h7 := Lib.hid h7
  go_wp2_with fail
  refine hc.mono ?_
  rintro e w8 ⟨rfl, kt⟩
  clear hc h7
  obtain ⟨wa8, wc8, h8, hS8, f8⟩ := kstep kt hS7 (fun q hq => ⟨by have := g7.size; omega, by omega⟩)
  have g8 : Fr (fun q => w.heap.size ≤ q) w w8 := g7.trans f8 (fun _ _ q => q) (fun _ _ q => q.1)
  have fd := (Fr.refl noB w8).alloc (.cells #[.int .i64 0, .int .i64 0, .string (ByteArray.mk #[])] 35)
  have bS8 := fd.blk (f8.blk bS7 (fun q => q.2 rfl)) (fun q => q)
  have h8a := h8.frN fd
  have g8a : Fr (fun q => w.heap.size ≤ q) w _ := g8.seqN fd
  have hs8 := bS8.lt
  have hc := kwrite_any k g bp bl B 1 wc8 wa8 KA3 9 sy _ h8a (by decide) (by decide)
  rw [a5.1, a5.2.1, a5.2.2] at hc
  unfold spV sy at hc
  clear kt f8 h8 hS7 g7 bS7 hs7 fd g8
  replace h8a := Lib.hid h8a
  go_wp2_with fail
  refine hc.mono ?_
  rintro e w9 ⟨rfl, kt⟩
  clear hc h8a
  obtain ⟨wa9, wc9, h9, hS9, f9⟩ := kstep kt hS8 (fun q hq => ⟨by have := g8a.size; omega, by omega⟩)
  have g9 : Fr (fun q => w.heap.size ≤ q) w w9 := g8a.trans f9 (fun _ _ q => q) (fun _ _ q => q.1)
  have fe := (Fr.refl noB w9).alloc (.cells #[.int .i64 0, .int .i64 0, .string (ByteArray.mk #[])] 35)
  have bS9 := fe.blk (f9.blk bS8 (fun q => q.2 rfl)) (fun q => q)
  have h9a := h9.frN fe
  have g9a : Fr (fun q => w.heap.size ≤ q) w _ := g9.seqN fe
  have hev := kevicted_any k g bp bl B 1 wc9 wa9 KA4 _ h9a (by decide)
  clear kt f9 h9 hS8 hS9 bS8 hs8 fe g8a g9
  go_wp2_with fail
  refine hev.mono ?_
  rintro e w10 ⟨u, rfl, o10, f10⟩
  clear hev
  have h10 := h9a.frN f10
  have b10 := f10.blk bS9 (fun q => q)
  have g10 := g9a.seqN f10
  have c0 : w10.cell? ⟨w5.heap.size, 0, none⟩ = some (.int .i64 1) := b10.cell 0
  have r10 := RdI.of_own (xs := [2]) o10
  clear h9a bS9 f10 g9a o10 b10
  have q1 := klost_any k g bp bl B 1 wc9 wa9 KA4 9 w10 h10 o9
  rw [show decide ((9 : Int) ∈ KA4.loss) = true from by decide] at q1
  replace h10 := Lib.hid h10
  go_wp2_with fail
  refine q1.mono ?_
  rintro e w11 ⟨rfl, f11⟩
  have h11 := h10.out.frN f11
  have r11 := r10.fr f11 (fun _ _ _ _ _ q => q)
  have g11 := g10.seqN f11
  clear q1 h10 f11 r10 g10
  have q1 := klost_any k g bp bl B 1 wc9 wa9 KA4 2 w11 h11 o2
  rw [show decide ((2 : Int) ∈ KA4.loss) = true from by decide] at q1
  replace h11 := Lib.hid h11
  go_wp2_with fail
  refine q1.mono ?_
  rintro e w12 ⟨rfl, f12⟩
  have h12 := h11.out.frN f12
  have r12 := r11.fr f12 (fun _ _ _ _ _ q => q)
  have g12 := g11.seqN f12
  clear q1 h11 f12 r11 g11
  have q1 := kpinned_any k g bp bl B 1 wc9 wa9 KA4 1 w12 h12 o1
  rw [show decide ((1 : Int) ∈ KA4.pins) = true from by decide] at q1
  replace h12 := Lib.hid h12
  go_wp2_with fail
  refine q1.mono ?_
  rintro e w13 ⟨rfl, f13⟩
  have fL := (Fr.refl noB w13).alloc (.cells #[.int .i64 2] 3)
  have bL := Blk.new w13 3 [.int .i64 2]
  have h13 := (h12.out.frN f13).frN fL
  have r13 := (r12.fr f13 (fun _ _ _ _ _ q => q)).fr fL (fun _ _ _ _ _ q => q)
  have g13 := (g12.seqN f13).seqN fL
  clear q1 h12 f13 r12 g12
  have q1 := sameInts_any u _ [2] [2] _ r13 (RdI.one bL)
  rw [show decide ([(2 : Int)] = [2]) = true from by decide] at q1
  clear bL fL r13
  replace h13 := Lib.hid h13
  go_wp2_with fail
  refine q1.mono ?_
  rintro e w14 ⟨rfl, qn, hw14⟩
  have f14 : Fr noB _ w14 := hw14 ▸ (Fr.refl noB _).drewN qn
  have h14 := h13.out.frN f14
  have g14 := g13.seqN f14
  clear q1 h13 f14 g13 hw14
  have q1 := kused_any k g bp bl B 1 wc9 wa9 KA4 w14 h14
  rw [show ((used KA4.P : Nat) : Int) = 1 from rfl] at q1
  replace h14 := Lib.hid h14
  go_wp2_with fail
  refine q1.mono ?_
  rintro e w15 ⟨rfl, f15⟩
  have h15 := h14.out.frN f15
  have g15 := g14.seqN f15
  clear q1 h14 f15 g14
  have q1 := kspans_any k g bp bl B 1 wc9 wa9 KA4 1 w15 h15
  replace h15 := Lib.hid h15
  go_wp2_with fail
  refine q1.mono ?_
  rintro e w16 ⟨v16, rfl, o16, f16⟩
  have h16 := h15.out.frN f16
  have g16 := g15.seqN f16
  obtain ⟨a16, c16, rfl⟩ := ownsRow_slice o16
  rw [show (txt KA4.P 1).length = 1 from rfl]
  clear q1 h15 f16 g15 o16
  have q1 := ktraces_any k g bp bl B 1 wc9 wa9 KA4 w16 h16
  clear h16
  go_wp2_with fail
  refine q1.mono ?_
  rintro e w17 ⟨v17, rfl, o17, f17⟩
  have g17 := g16.seqN f17
  obtain ⟨a17, c17, rfl⟩ := ownsRow_slice o17
  rw [show (KA4.P.map (·.1)).length = 1 from rfl]
  clear q1 f17 g16 o17
  go_wp2_with fail
  go_ret
  exact ⟨rfl, ⟨g17.os, g17.tape, g17.output, g17.size, fun q hq _ => g17.block q hq (by omega)⟩⟩
end Go.Proofs.Ytnecglghinpgmaa
