/-
  Stage 12: an agent that is none.
-/
import Derived.Test.YtppmednmcbjafaaGreatAgL
import Derived.Test.YtppmednmcbjafaaGreatAgA3
set_option linter.unusedVariables false
set_option linter.unusedSimpArgs false
set_option maxRecDepth 100000
set_option maxRecDepth 100000
set_option maxRecDepth 100000
namespace Go.Proofs.YtppmednmcbjafaaGreat
open Go.RowKit Go Go.Maps Go.Lib

set_option maxHeartbeats 4000000 in
theorem agentNil_any (m : OpA) (w : World) (h : IsOpA w (opC m) m) :
    Calls Tryz.prog 4 #[.agg #[.int .i64 m.k, .int .i64 m.t, .int .i64 m.n, .string m.s]] w fun e w' => e = .returned (.bool true) ∧ Fr noB w w' := by
  obtain ⟨_, _, _, _, hsm⟩ := h
  have hmsg := message_any m
  generalize m.msv = v at *
  obtain ⟨k, t, n, s⟩ := m
  simp only at hsm hmsg ⊢
  have fX := (Fr.refl noB w).alloc (.cells #[.int .i64 k, .int .i64 t, .int .i64 n, .string s] 36)
  have bX := Blk.new w 36 [.int .i64 k, .int .i64 t, .int .i64 n, .string s]
  replace hmsg := Lib.hid hmsg
  by_cases hs : s.size ≤ 100
  · have hd : decide (100 < (s.size : Int)) = false := by simp; omega
    go_enter Tryz.func4, Tryz.ntmps4
    go_wp2_with fail
    generalize (w.alloc (.cells #[.int .i64 k, .int .i64 t, .int .i64 n, .string s] 36)) = wX at *
    obtain ⟨g, hg⟩ : ∃ g, w.heap.size = g := ⟨_, rfl⟩
    rw [hg] at bX
    try rw [hg]
    replace hg := Lib.hid hg
    go_fit (nil_Span t s wX)
    rintro e w1 ⟨rfl, f1⟩
    have f2 := (Fr.refl noB w1).alloc (.cells #[.int .i64 0, .int .i64 0, .string (ByteArray.mk #[])] 38)
    have f12 := fX.seqN (f1.seqN f2)
    have b2 := (f1.seqN f2).blk bX (fun q => q)
    have c1 : (w1.alloc (.cells #[.int .i64 0, .int .i64 0, .string (ByteArray.mk #[])] 38)).cell? ⟨g, 1, none⟩ = some (.int .i64 t) := b2.cell 1
    have c2 : (w1.alloc (.cells #[.int .i64 0, .int .i64 0, .string (ByteArray.mk #[])] 38)).cell? ⟨g, 2, none⟩ = some (.int .i64 n) := b2.cell 2
    unfold span0
    clear f1 f2 fX bX
    go_wp2_with fail
    generalize (w1.alloc (.cells #[.int .i64 0, .int .i64 0, .string (ByteArray.mk #[])] 38)) = w2 at *
    go_fit (nil_Trigger t n w2)
    rintro e w3 ⟨rfl, f3⟩
    have f4 := (Fr.refl noB w3).alloc (.cells #[.int .i64 0, .int .i64 0, .int .i64 0] 53)
    have f14 := f12.seqN (f3.seqN f4)
    have b4 := (f3.seqN f4).blk b2 (fun q => q)
    have d0 : (w3.alloc (.cells #[.int .i64 0, .int .i64 0, .int .i64 0] 53)).cell? ⟨g, 0, none⟩ = some (.int .i64 k) := b4.cell 0
    have d1 : (w3.alloc (.cells #[.int .i64 0, .int .i64 0, .int .i64 0] 53)).cell? ⟨g, 1, none⟩ = some (.int .i64 t) := b4.cell 1
    have d2 : (w3.alloc (.cells #[.int .i64 0, .int .i64 0, .int .i64 0] 53)).cell? ⟨g, 2, none⟩ = some (.int .i64 n) := b4.cell 2
    have d3 : (w3.alloc (.cells #[.int .i64 0, .int .i64 0, .int .i64 0] 53)).cell? ⟨g, 3, none⟩ = some (.string s) := b4.cell 3
    clear f12 f3 f4 b2 c1 c2
    go_wp2_with fail
    generalize (w3.alloc (.cells #[.int .i64 0, .int .i64 0, .int .i64 0] 53)) = w4 at *
    go_fit (hmsg.out w4)
    rintro e w5 ⟨rfl, f5⟩
    have g5 := f14.seqN f5
    have b5 := f5.blk b4 (fun q => q)
    clear d0 d1 d2 d3 f14 f5 b4
    go_wp2_with fail
    go_fit (nil_Hear v w5)
    rintro e w6 ⟨rfl, f6⟩
    have g6 := g5.seqN f6
    have b6 := f6.blk b5 (fun q => q)
    clear g5 f6 b5
    go_wp2_with fail
    go_fit (awake_any w6)
    rintro e w7 ⟨rfl, f7⟩
    have g7 := g6.seqN f7
    have b7 := f7.blk b6 (fun q => q)
    have c1 : w7.cell? ⟨g, 1, none⟩ = some (.int .i64 t) := b7.cell 1
    have c2 : w7.cell? ⟨g, 2, none⟩ = some (.int .i64 n) := b7.cell 2
    clear g6 f7 b6 b7
    go_wp2_with fail
    go_fit (nil_Crumb t n w7)
    rintro e w8 ⟨rfl, f8⟩
    have g8 := g7.seqN f8
    clear g7 f8 c1 c2
    go_wp2_with fail
    go_fit (nil_Tick w8)
    rintro e w9 ⟨rfl, f9⟩
    have g9 := g8.seqN f9
    clear g8 f9
    go_wp2_with fail
    go_fit (nil_Spans 1 w9)
    rintro e wA ⟨rfl, fA⟩
    have gA := g9.seqN fA
    clear g9 fA
    go_wp2_with fail
    go_fit (nil_Crumbs 1 wA)
    rintro e wB ⟨rfl, fB⟩
    have gB := gA.seqN fB
    clear gA fB
    go_wp2_with fail
    go_fit (nil_Job 1 wB)
    rintro e wC ⟨rfl, fC⟩
    have gC := gB.seqN fC
    clear gB fC
    go_wp2_with fail
    go_fit (nil_Lost 1 wC)
    rintro e wD ⟨rfl, fD⟩
    have gD := gC.seqN fD
    clear gC fD
    go_wp2_with fail
    go_fit (nil_Used wD)
    rintro e wE ⟨rfl, fE⟩
    have gE := gD.seqN fE
    clear gD fE
    go_wp2_with fail
    go_fit (nil_Evicted wE)
    rintro e wF ⟨rfl, fF⟩
    have gF := gE.seqN fF
    clear gE fF
    go_wp2_with fail
    go_ret
    exact ⟨rfl, gF⟩
  · have hd : decide (100 < (s.size : Int)) = true := by simp; omega
    clear bX
    go_enter Tryz.func4, Tryz.ntmps4
    go_wp2_with fail
    go_fit (awake_any _)
    rintro e w1 ⟨rfl, f1⟩
    have g1 := fX.seqN f1
    go_wp2_with fail
    go_ret
    exact ⟨rfl, g1⟩
theorem agentNil_cs (cs : Array Value) (m : OpA) (w : World) (h : IsOpA w cs.toList m) :
    Calls Tryz.prog 4 #[.agg cs] w fun e w' => e = .returned (.bool true) ∧ Fr noB w w' := by
  have h0 := h.1
  obtain ⟨cs⟩ := cs
  simp only at h0
  subst h0
  exact agentNil_any m w h
end Go.Proofs.YtppmednmcbjafaaGreat
