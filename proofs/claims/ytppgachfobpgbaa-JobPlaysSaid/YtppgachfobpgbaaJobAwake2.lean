/-
  What the layer's laws ask first: answers that are fixed.
-/
import Derived.Test.YtppgachfobpgbaaJobAwake
set_option linter.unusedVariables false
set_option linter.unusedSimpArgs false
set_option maxRecDepth 100000
namespace Go.Proofs.Ytppgachfobpgbaa
open Go.RowKit Go Go.Lib

def JA (a b : Vis) (ph : Int) (st : Bool) : JS := ⟨5, 7, 2, 3, a, b, vis0, vis0, ph, st⟩
def vA : Vis := ⟨true, false, false, told0⟩
def vP (t : Told) : Vis := ⟨true, true, false, t⟩
def vF (t : Told) : Vis := ⟨true, true, true, t⟩
theorem s0 : JS.new 5 7 2 3 0 = JA vA vis0 1 false := rfl
theorem s1 (T : Told) : (JA vA vis0 1 false).pin 0 T [1] = JA (vP T) vA 1 false := rfl
theorem s2 (T U : Told) : (JA (vP T) vA 1 false).pin 1 U [] = JA (vP T) (vP U) 2 false := rfl
theorem s3 (T U : Told) : (JA (vP T) (vP U) 2 false).sto = JA (vP T) (vP U) 3 true := rfl
theorem s4 (T U : Told) : (JA (vP T) (vP U) 3 true).unp 0 = JA (vF T) (vP U) 3 true := rfl
theorem s5 (T U : Told) : (JA (vF T) (vP U) 3 true).unp 1 = JA (vF T) (vF U) 4 true := rfl

set_option maxHeartbeats 4000000 in
set_option maxRecDepth 10000 in
theorem awake_any (w : World) : Calls Try.prog 8 #[] w fun e w' => e = .returned (.bool true) ∧ Fr noB w w' := by
  have n1 := new_0 5 7 2 3 w (by decide) (by omega) (by omega) (by omega) (by omega)
  have n2 := fun w => new_low 0 3 0 7 0 w (by decide) (by omega)
  replace n1 : Calls Try.prog 10 #[.int .i64 5, .int .i64 3, .agg #[.int .i64 0, .int .i64 7, .int .i64 2]] w fun e w' => ∃ p, e = .returned (.pointer (some ⟨p, 0, none⟩)) ∧ w.heap.size ≤ p ∧ Jb w' p (JS.new 5 7 2 3 0) ∧ Fr noB w w' := n1
  replace n2 := Lib.hid n2
  go_enter Try.func8, Try.ntmps8
  go_wp2_with fail
  refine n1.mono ?_
  rintro e w1 ⟨p, rfl, hp, j1, f1⟩
  clear n1
  have hnp : ¬ p < w.heap.size := by omega
  replace hnp := Lib.hid hnp
  clear hp
  go_wp2_with fail
  refine (n2.out _).mono ?_
  rintro e w2 ⟨rfl, f2⟩
  have j2 := j1.frN f2
  have g2 := f1.seqN f2
  clear j1 f1 f2 n2
  rw [s0] at j2
  go_wp2_with fail
  refine (say_1 p (JA vA vis0 1 false) w2 0 [] j2 (by rfl) (by rfl)).mono ?_
  rintro e w3 ⟨uA, rfl, gAb, kA, rfl, hA, cA, f3⟩
  have j3 := j2.frN f3
  have g3 := g2.seqN f3
  replace hA := Lib.hid hA
  clear j2 g2 f3
  go_wp2_with fail
  have bL := Blk.new w3 3 [.int .i64 1]
  have fL := (Fr.refl noB w3).alloc (.cells #[.int .i64 1] 3)
  have jL := j3.frN fL
  have rL : RdI (w3.alloc (.cells #[.int .i64 1] 3)) (.slice (some ⟨w3.heap.size, 0, none⟩) 1 1) [1] := RdI.one bL
  have hjp := j3.lt
  refine (hear_Pinned p (JA vA vis0 1 false) 0 7 5 1 (some ⟨w3.heap.size, 0, none⟩) 1 false [1] _ jL rL (by decide) (by show 3 ≤ 4; omega) (fun g o e => by cases e; omega) (by rfl) (by rfl)).mono ?_
  rintro e w4 ⟨rfl, f4, w4a, f4a, q4⟩
  obtain ⟨ta, tc, rt, ht, j4⟩ := q4.yes (by rfl) (by rfl) (by rfl)
  have htp : ∀ g o, ta = some ⟨g, o, none⟩ → g ≠ p := fun g o e => by have := ht g o e; have := f4a.size; have := fL.size; omega
  have g4 := (g3.seqN fL).seqB f4 (fun q => absurd q hnp.out)
  have cA := f4.cell (fL.cell cA (fun q => q)) hA.out
  replace htp := Lib.hid htp
  replace j4 : Jb w4 p (JA (vP ⟨0, 7, 5, 1, ta, 1, tc, false⟩) vA 1 false) := Eq.subst (motive := fun J => Jb w4 p J) (s1 ⟨0, 7, 5, 1, ta, 1, tc, false⟩) j4
  clear q4 f4 f4a bL fL jL rL hjp ht g3 j3
  go_wp2_with fail
  refine (say_1 p (JA (vP ⟨0, 7, 5, 1, ta, 1, tc, false⟩) vA 1 false) w4 1 [] j4 (by rfl) (by rfl)).mono ?_
  rintro e w5 ⟨uB, rfl, gBb, kB, rfl, hB, cB, f5⟩
  have j5 := j4.frN f5
  have g5 := g4.seqN f5
  have cA := f5.cell cA (fun q => q)
  replace hB := Lib.hid hB
  have rt := rt.fr f5 (fun _ _ _ _ _ q => q)
  clear j4 g4 f5
  go_wp2_with fail
  refine (manifest_no p (JA (vP ⟨0, 7, 5, 1, ta, 1, tc, false⟩) vA 1 false) w5 j5 (by show (1 : Int) < 2; omega)).mono ?_
  rintro e w6 ⟨rfl, f6⟩
  have fM := f6.alloc (.cells #[.int .i64 0, .int .i64 0, .int .i64 0, .slice none 0 0] 62)
  have j7 := j5.frN fM
  have g7 := g5.seqN fM
  have cA := fM.cell cA (fun q => q)
  have cB := fM.cell cB (fun q => q)
  have rt := rt.fr fM (fun _ _ _ _ _ q => q)
  clear j5 g5 f6
  go_wp2_with fail
  obtain ⟨w7, hw7⟩ : ∃ w7, w7 = w6.alloc (.cells #[.int .i64 0, .int .i64 0, .int .i64 0, .slice none 0 0] 62) := ⟨_, rfl⟩
  rw [← hw7] at j7 g7 cA cB rt ⊢
  clear hw7 fM
  refine (hear_Pinned p (JA (vP ⟨0, 7, 5, 1, ta, 1, tc, false⟩) vA 1 false) 1 7 5 0 none 0 false [] _ j7 (RdI.none _) (by decide) (by show (3 : Nat) ≤ 4; omega) (fun g o e => by cases e) (by rfl) (by rfl)).mono ?_
  rintro e w8 ⟨rfl, f8, w8a, f8a, q8⟩
  obtain ⟨tb, td, rb, hb, j8⟩ := q8.yes (by rfl) (by rfl) (by rfl)
  have g8 := g7.seqB f8 (fun q => absurd q hnp.out)
  have cA := f8.cell cA hA.out
  have cB := f8.cell cB hB.out
  have hbp : ∀ g o, tb = some ⟨g, o, none⟩ → g ≠ p := fun g o e => by have := hb g o e; have := f8a.size; have := j7.lt; omega
  have rt := rt.fr f8 (fun g o n c e q => by cases e; exact htp.out g o rfl q)
  replace hbp := Lib.hid hbp
  replace j8 : Jb w8 p (JA (vP ⟨0, 7, 5, 1, ta, 1, tc, false⟩) (vP ⟨1, 7, 5, 0, tb, 0, td, false⟩) 2 false) := Eq.subst (motive := fun J => Jb w8 p J) (s2 ⟨0, 7, 5, 1, ta, 1, tc, false⟩ ⟨1, 7, 5, 0, tb, 0, td, false⟩) j8
  have hX : ∀ w', Fr noB w8 w' → ∀ a, a < 4 → ∃ xs, RdI w' (.slice ((JA (vP ⟨0, 7, 5, 1, ta, 1, tc, false⟩) (vP ⟨1, 7, 5, 0, tb, 0, td, false⟩) 2 false).at a).t.a ((JA (vP ⟨0, 7, 5, 1, ta, 1, tc, false⟩) (vP ⟨1, 7, 5, 0, tb, 0, td, false⟩) 2 false).at a).t.n ((JA (vP ⟨0, 7, 5, 1, ta, 1, tc, false⟩) (vP ⟨1, 7, 5, 0, tb, 0, td, false⟩) 2 false).at a).t.c) xs ∧ xs.length ≤ 1000 := by
    intro w' f a ha
    rcases (show a = 0 ∨ a = 1 ∨ a = 2 ∨ a = 3 by omega) with rfl | rfl | rfl | rfl
    · exact ⟨[1], rt.fr f (fun _ _ _ _ _ q => q), by decide⟩
    · exact ⟨[], rb.fr f (fun _ _ _ _ _ q => q), by decide⟩
    · exact ⟨[], RdI.none _, by decide⟩
    · exact ⟨[], RdI.none _, by decide⟩
  replace hX := Lib.hid hX
  clear q8 f8 f8a hb g7 j7 rt rb
  have hall : noneL (fun v => !v.p) (JA (vP ⟨0, 7, 5, 1, ta, 1, tc, false⟩) (vP ⟨1, 7, 5, 0, tb, 0, td, false⟩) 2 false) = true := by rfl
  have hwl : whichL (fun _ => true) (JA (vP ⟨0, 7, 5, 1, ta, 1, tc, false⟩) (vP ⟨1, 7, 5, 0, tb, 0, td, false⟩) 2 false) 4 = [0, 1] := by rfl
  have hm := manifest_any p (JA (vP ⟨0, 7, 5, 1, ta, 1, tc, false⟩) (vP ⟨1, 7, 5, 0, tb, 0, td, false⟩) 2 false) w8 j8 (by show (2 : Int) ≤ 2; omega) hall (hX.out w8 (Fr.refl _ _))
  have hs2 := fun w' (f : Fr noB w8 w') => say_2 p (JA (vP ⟨0, 7, 5, 1, ta, 1, tc, false⟩) (vP ⟨1, 7, 5, 0, tb, 0, td, false⟩) 2 false) w' (j8.frN f) (by rfl) hall (hX.out w' f)
  have htr : (JA (vP ⟨0, 7, 5, 1, ta, 1, tc, false⟩) (vP ⟨1, 7, 5, 0, tb, 0, td, false⟩) 2 false).tr = 7 ∧ (JA (vP ⟨0, 7, 5, 1, ta, 1, tc, false⟩) (vP ⟨1, 7, 5, 0, tb, 0, td, false⟩) 2 false).id = 5 ∧ (JA (vP ⟨0, 7, 5, 1, ta, 1, tc, false⟩) (vP ⟨1, 7, 5, 0, tb, 0, td, false⟩) 2 false).cl = 2 := by exact ⟨rfl, rfl, rfl⟩
  rw [htr.1, htr.2.1, htr.2.2, hwl] at hm
  rw [hwl] at hs2
  replace hm : Calls Try.prog 25 #[.pointer (some ⟨p, 0, none⟩)] w8 fun e w' => ∃ pa pc cs, e = .returned (.tuple #[.agg #[.int .i64 7, .int .i64 5, .int .i64 2, .slice pa 2 pc], .bool true]) ∧ w'.ownsRow w8.heap.size 72 6 (.slice pa 2 pc) 2 cs ∧ Fr noB w8 w' := hm
  replace hs2 : ∀ w', Fr noB w8 w' → Calls Try.prog 17 #[.pointer (some ⟨p, 0, none⟩)] w' fun e w'' => ∃ u, e = .returned u ∧ SayTo w' p 3 (-1) u w'' := hs2
  replace hs2 := Lib.hid hs2
  clear hX hall htr hwl
  go_wp2_with fail
  refine hm.mono ?_
  rintro e w9 ⟨pa, pc, cs, rfl, o9, f9⟩
  clear hm o9
  have bM := Blk.new w9 62 [.int .i64 7, .int .i64 5, .int .i64 2, .slice pa 2 pc]
  have fM := f9.alloc (.cells #[.int .i64 7, .int .i64 5, .int .i64 2, .slice pa 2 pc] 62)
  have cM : (w9.alloc (.cells #[.int .i64 7, .int .i64 5, .int .i64 2, .slice pa 2 pc] 62)).cell? ⟨w9.heap.size, 3, none⟩ = some (.slice pa 2 pc) := bM.cell 3
  have hM : w9.heap.size ≠ p := by have := j8.lt; have := f9.size; omega
  have j10 := j8.frN fM
  have g10 := g8.seqN fM
  have cA := fM.cell cA (fun q => q)
  have cB := fM.cell cB (fun q => q)
  have hs2' := hs2.out _ fM
  replace hM := Lib.hid hM
  clear j8 g8 f9 hs2 bM fM
  go_wp2_with fail
  obtain ⟨w10, hw10⟩ : ∃ w10, w10 = w9.alloc (.cells #[.int .i64 7, .int .i64 5, .int .i64 2, .slice pa 2 pc] 62) := ⟨_, rfl⟩
  rw [← hw10] at cM j10 g10 cA cB hs2' ⊢
  generalize w9.heap.size = mb at *
  clear hw10
  refine hs2'.mono ?_
  rintro e w11 ⟨uC, rfl, gCb, kC, rfl, hC, cC, f11⟩
  have j11 := j10.frN f11
  have g11 := g10.seqN f11
  have cA := f11.cell cA (fun q => q)
  have cB := f11.cell cB (fun q => q)
  have cM := f11.cell cM (fun q => q)
  replace hC := Lib.hid hC
  clear j10 g10 f11 hs2'
  go_wp2_with fail
  have hph := phase_any p (JA (vP ⟨0, 7, 5, 1, ta, 1, tc, false⟩) (vP ⟨1, 7, 5, 0, tb, 0, td, false⟩) 2 false) w11 j11
  rw [show (JA (vP ⟨0, 7, 5, 1, ta, 1, tc, false⟩) (vP ⟨1, 7, 5, 0, tb, 0, td, false⟩) 2 false).ph = 2 by rfl] at hph
  refine hph.mono ?_
  rintro e w12 ⟨rfl, hw12⟩
  obtain rfl := hw12.symm
  clear hph
  go_wp2_with fail
  refine (hear_Stored p (JA (vP ⟨0, 7, 5, 1, ta, 1, tc, false⟩) (vP ⟨1, 7, 5, 0, tb, 0, td, false⟩) 2 false) 7 5 w11 j11 (by decide) (by rfl) (by rfl)).mono ?_
  rintro e w13 ⟨rfl, f13, j13⟩
  have g13 := g11.seqB f13 (fun q => absurd q hnp.out)
  have cA := f13.cell cA hA.out
  have cB := f13.cell cB hB.out
  have cC := f13.cell cC hC.out
  have cM := f13.cell cM hM.out
  replace j13 : Jb w13 p (JA (vP ⟨0, 7, 5, 1, ta, 1, tc, false⟩) (vP ⟨1, 7, 5, 0, tb, 0, td, false⟩) 3 true) := Eq.subst (motive := fun J => Jb w13 p J) (s3 ⟨0, 7, 5, 1, ta, 1, tc, false⟩ ⟨1, 7, 5, 0, tb, 0, td, false⟩) j13
  clear f13 g11 j11
  go_wp2_with fail
  refine (hear_Unpinned p (JA (vP ⟨0, 7, 5, 1, ta, 1, tc, false⟩) (vP ⟨1, 7, 5, 0, tb, 0, td, false⟩) 3 true) 0 7 5 w13 j13 (by decide) (by rfl) (by rfl)).mono ?_
  rintro e w14 ⟨rfl, f14, j14⟩
  have g14 := g13.seqB f14 (fun q => absurd q hnp.out)
  have cA := f14.cell cA hA.out
  have cB := f14.cell cB hB.out
  have cC := f14.cell cC hC.out
  have cM := f14.cell cM hM.out
  replace j14 : Jb w14 p (JA (vF ⟨0, 7, 5, 1, ta, 1, tc, false⟩) (vP ⟨1, 7, 5, 0, tb, 0, td, false⟩) 3 true) := Eq.subst (motive := fun J => Jb w14 p J) (s4 ⟨0, 7, 5, 1, ta, 1, tc, false⟩ ⟨1, 7, 5, 0, tb, 0, td, false⟩) j14
  clear f14 g13 j13
  go_wp2_with fail
  refine (say_3 p (JA (vF ⟨0, 7, 5, 1, ta, 1, tc, false⟩) (vP ⟨1, 7, 5, 0, tb, 0, td, false⟩) 3 true) w14 1 [] j14 (by rfl) (by rfl)).mono ?_
  rintro e w15 ⟨uD, rfl, gDb, kD, rfl, hD, cD, f15⟩
  have j15 := j14.frN f15
  have g15 := g14.seqN f15
  have cA := f15.cell cA (fun q => q)
  have cB := f15.cell cB (fun q => q)
  have cC := f15.cell cC (fun q => q)
  have cM := f15.cell cM (fun q => q)
  replace hD := Lib.hid hD
  clear j14 g14 f15
  go_wp2_with fail
  refine (hear_Unpinned p (JA (vF ⟨0, 7, 5, 1, ta, 1, tc, false⟩) (vP ⟨1, 7, 5, 0, tb, 0, td, false⟩) 3 true) 1 7 5 w15 j15 (by decide) (by rfl) (by rfl)).mono ?_
  rintro e w16 ⟨rfl, f16, j16⟩
  have g16 := g15.seqB f16 (fun q => absurd q hnp.out)
  have cA := f16.cell cA hA.out
  have cB := f16.cell cB hB.out
  have cC := f16.cell cC hC.out
  have cD := f16.cell cD hD.out
  have cM := f16.cell cM hM.out
  replace j16 : Jb w16 p (JA (vF ⟨0, 7, 5, 1, ta, 1, tc, false⟩) (vF ⟨1, 7, 5, 0, tb, 0, td, false⟩) 4 true) := Eq.subst (motive := fun J => Jb w16 p J) (s5 ⟨0, 7, 5, 1, ta, 1, tc, false⟩ ⟨1, 7, 5, 0, tb, 0, td, false⟩) j16
  have e5 : (JA (vF ⟨0, 7, 5, 1, ta, 1, tc, false⟩) (vF ⟨1, 7, 5, 0, tb, 0, td, false⟩) 4 true).ph = 4 ∧ (JA (vF ⟨0, 7, 5, 1, ta, 1, tc, false⟩) (vF ⟨1, 7, 5, 0, tb, 0, td, false⟩) 4 true).st = true ∧ (JA (vF ⟨0, 7, 5, 1, ta, 1, tc, false⟩) (vF ⟨1, 7, 5, 0, tb, 0, td, false⟩) 4 true).tr = 7 ∧ whichL (fun _ => true) (JA (vF ⟨0, 7, 5, 1, ta, 1, tc, false⟩) (vF ⟨1, 7, 5, 0, tb, 0, td, false⟩) 4 true) 4 = [0, 1] := by exact ⟨rfl, rfl, rfl, rfl⟩
  replace e5 := Lib.hid e5
  clear f16 g15 j15
  go_wp2_with fail
  have hp5 := phase_any p (JA (vF ⟨0, 7, 5, 1, ta, 1, tc, false⟩) (vF ⟨1, 7, 5, 0, tb, 0, td, false⟩) 4 true) w16 j16
  rw [e5.out.1] at hp5
  refine hp5.mono ?_
  rintro e w17 ⟨rfl, hw17⟩
  obtain rfl := hw17.symm
  clear hp5
  go_wp2_with fail
  have hp5 := stored_any p (JA (vF ⟨0, 7, 5, 1, ta, 1, tc, false⟩) (vF ⟨1, 7, 5, 0, tb, 0, td, false⟩) 4 true) w16 j16
  rw [e5.out.2.1] at hp5
  refine hp5.mono ?_
  rintro e w17 ⟨rfl, hw17⟩
  obtain rfl := hw17.symm
  clear hp5
  go_wp2_with fail
  have hp5 := trace_any p (JA (vF ⟨0, 7, 5, 1, ta, 1, tc, false⟩) (vF ⟨1, 7, 5, 0, tb, 0, td, false⟩) 4 true) w16 j16
  rw [e5.out.2.2.1] at hp5
  refine hp5.mono ?_
  rintro e w17 ⟨rfl, hw17⟩
  obtain rfl := hw17.symm
  clear hp5
  go_wp2_with fail
  have hp5 := visited_any p (JA (vF ⟨0, 7, 5, 1, ta, 1, tc, false⟩) (vF ⟨1, 7, 5, 0, tb, 0, td, false⟩) 4 true) w16 j16
  rw [e5.out.2.2.2] at hp5
  refine hp5.mono ?_
  rintro e w18 ⟨v18, rfl, o18, f18⟩
  have r18 : RdI w18 v18 [0, 1] := RdI.of_own o18
  have j18 := j16.frN f18
  have g18 := g16.seqN f18
  clear hp5 o18 f18 j16 g16
  go_wp2_with fail
  have rB : RdI (w18.alloc (.cells #[.int .i64 0, .int .i64 1] 3)) v18 [0, 1] := r18.fr ((Fr.refl noB w18).alloc _) (fun _ _ _ _ _ q => q)
  have rC : RdI (w18.alloc (.cells #[.int .i64 0, .int .i64 1] 3)) (.slice (some ⟨w18.heap.size, 0, none⟩) 2 2) [0, 1] := RdI.of_own (own_new w18 3 [.int .i64 0, .int .i64 1] 1 2 rfl (by unfold maxLen; omega))
  refine (sameInts_any _ _ [0, 1] [0, 1] _ rB rC).mono ?_
  rintro e w19 ⟨rfl, q19, hw19⟩
  have f19 : Fr noB w18 w19 := by rw [hw19]; exact ((Fr.refl noB w18).alloc _).drewN q19
  have j19 := j18.frN f19
  have g19 := g18.seqN f19
  clear rB rC hw19 f19 j18 g18 r18
  simp only [decide_true]
  go_wp2_with fail
  refine (outs_4 p (JA (vF ⟨0, 7, 5, 1, ta, 1, tc, false⟩) (vF ⟨1, 7, 5, 0, tb, 0, td, false⟩) 4 true) w19 j19 e5.out.1).mono ?_
  rintro e w20 ⟨rfl, hw20⟩
  obtain rfl := hw20.symm
  go_wp2_with fail
  go_ret
  exact ⟨rfl, g19⟩
end Go.Proofs.Ytppgachfobpgbaa
