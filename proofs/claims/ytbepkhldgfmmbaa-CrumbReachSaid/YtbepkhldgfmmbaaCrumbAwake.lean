/-
  What the layer's laws ask first: answers that are fixed; and where nobody is.
-/
import Derived.Test.YtbepkhldgfmmbaaCrumbAdd
import Derived.Test.YtbepkhldgfmmbaaTraces
import Derived.Test.YtbepkhldgfmmbaaReachAll
set_option linter.unusedVariables false
set_option linter.unusedSimpArgs false
namespace Go.Proofs.Ytbepkhldgfmmbaa
open Go.RowKit Go Go.Maps Go.Lib

theorem up_eq {A B : List Int} (ha : A.Pairwise (· < ·)) (hb : B.Pairwise (· < ·)) (h : ∀ i, i ∈ A ↔ i ∈ B) : A = B :=
  sorted_eq (ha.imp (fun q => by omega)) (hb.imp (fun q => by omega)) ((List.perm_ext_iff_of_nodup (ha.imp (fun q => by omega)) (hb.imp (fun q => by omega))).2 h)

theorem cmB_low {w : World} {g bm B n L : Nat} {N : Int} {X : Int → List Int} {M : List (Int × SV)} (h : Cm w g bm B n N X M) (h1 : L ≤ g) (h2 : L ≤ bm) (h3 : L ≤ B) : ∀ k, cmB w g bm B M k → L ≤ k := by
  rintro k (rfl | rfl | ⟨p, hp, hk⟩)
  · exact h1
  · exact h2
  · have := ((h.row p hp).1.lt k hk).1; omega

theorem rch_lit (i : Int) : Rch [[1], [2], [], []] 0 i ↔ i ∈ [(0 : Int), 1, 2] := by
  constructor
  · intro h
    induction h with
    | base _ _ => simp
    | step _ hx _ _ ih =>
      simp only [List.mem_cons, List.not_mem_nil, or_false] at ih
      rcases ih with rfl | rfl | rfl
      · simp at hx; subst hx; simp
      · simp at hx; subst hx; simp
      · simp at hx
  · intro h
    have r0 : Rch [[1], [2], [], []] 0 0 := Rch.base (by simp) (by simp)
    have r1 : Rch [[1], [2], [], []] 0 1 := Rch.step r0 (by simp) (by simp) (by simp)
    have r2 : Rch [[1], [2], [], []] 0 2 := Rch.step r1 (by simp) (by simp) (by simp)
    simp only [List.mem_cons, List.not_mem_nil, or_false] at h
    rcases h with rfl | rfl | rfl
    · exact r0
    · exact r1
    · exact r2

theorem RdI.one {w : World} {g : Nat} {t : TypeId} {x : Int} (b : Blk w g t [.int .i64 x]) : RdI w (.slice (some ⟨g, 0, none⟩) 1 1) [x] :=
  ⟨_, 1, rfl, by simp, by simp, fun i hi => ⟨g, 0, rfl, by
    simp at hi; subst hi
    exact b.cell 0⟩⟩
theorem RdI.none (w : World) : RdI w (.slice Option.none 0 0) [] := ⟨Option.none, 0, rfl, by simp, by simp, fun i hi => by simp at hi⟩
theorem Nm.lit {w : World} {g g1 g2 : Nat} {t t1 t2 : TypeId} (b : Blk w g t [.slice (some ⟨g1, 0, Option.none⟩) 1 1, .slice (some ⟨g2, 0, Option.none⟩) 1 1, .slice Option.none 0 0, .slice Option.none 0 0]) (b1 : Blk w g1 t1 [.int .i64 1]) (b2 : Blk w g2 t2 [.int .i64 2]) :
    Nm w (.slice (some ⟨g, 0, Option.none⟩) 4 4) [[1], [2], [], []] := by
  refine ⟨_, 4, rfl, by simp, fun i hi => ?_⟩
  match i, hi with
  | 0, _ => exact ⟨g, 0, _, rfl, b.cell 0, RdI.one b1⟩
  | 1, _ => exact ⟨g, 0, _, rfl, b.cell 1, RdI.one b2⟩
  | 2, _ => exact ⟨g, 0, _, rfl, b.cell 2, RdI.none _⟩
  | 3, _ => exact ⟨g, 0, _, rfl, b.cell 3, RdI.none _⟩
  | n + 4, hi => simp at hi; omega

/-- names that are nil -/
theorem Nm.nil (w : World) : Nm w (.slice none 0 0) [] := ⟨none, 0, rfl, Nat.le_refl _, fun i hi => absurd hi (Nat.not_lt_zero _)⟩

set_option maxHeartbeats 2000000 in
set_option maxRecDepth 10000 in
theorem awake_any (w : World) : Calls Try.prog 7 #[] w fun e w' => e = .returned (.bool true) ∧ Fr noB w w' := by
  go_enter Try.func7, Try.ntmps7
  go_wp2_with fail
  refine (cnew_any 3 w (by omega) (by omega)).mono ?_
  rintro e w1 ⟨rfl, l1, f1⟩
  generalize hg : w.heap.size + 1 = g at *
  generalize hB : w.heap.size + 2 = B at *
  generalize hbm : w.heap.size = bm at *
  have hno : ∀ (a b : World) (n : Nat) (X : Int → List Int) (M : List (Int × SV)), Cm a g bm B n 3 X M → Fr noB w a → Fr (cmB a g bm B M) a b → Fr noB w b := fun a b n X M hc h k => h.trans k (fun _ _ q => q) (fun i hi q => by have := cmB_low (L := bm) hc (by omega) (by omega) (by omega) i q; omega)
  replace hno := Lib.hid hno
  clear hg hbm hB
  go_wp2_with fail
  refine (cnew_no 5 w1 (by omega)).mono ?_
  rintro e w2 ⟨rfl, hw2⟩
  obtain rfl := hw2.symm
  go_wp2_with fail
  refine (cadd_ok g bm B 0 3 7 2 _ _ w1 l1 (by omega) (by omega) (by omega) (by omega) (by simp) (by omega)).mono ?_
  rintro e w2 ⟨rfl, ⟨s2, l2, _⟩, f2⟩
  have g2 := hno.out _ _ _ _ _ l1 f1 f2
  clear l1 f1 f2
  go_wp2_with fail
  refine (cadd_ok g bm B 1 3 7 0 _ _ w2 l2 (by omega) (by omega) (by omega) (by omega) (by simp [addX, insAt]) (by omega)).mono ?_
  rintro e w3 ⟨rfl, ⟨s3, l3, _⟩, f3⟩
  have g3 := hno.out _ _ _ _ _ l2 g2 f3
  clear l2 g2 f3
  have hX : addX (addX (fun _ => []) 7 2) 7 0 7 = [0, 2] := by decide
  have hM : (withKey (withKey ([] : List (Int × SV)) 7 s2) 7 s3) = [(7, s3)] := by simp [withKey, without]
  rw [hM] at l3
  generalize addX (addX (fun _ => []) 7 2) 7 0 = X at *
  replace hX := Lib.hid hX
  clear hM
  go_wp2_with fail
  refine (cadd_once g bm B 2 3 7 2 _ _ w3 l3 (by omega) (by omega) (by omega) (by omega) (by rw [hX.out]; simp)).mono ?_
  rintro e w4 ⟨rfl, f4⟩
  have l4 := l3.frN f4
  have g4 := g3.seqN f4
  clear l3 g3 f4
  go_wp2_with fail
  refine (cadd_range g bm B 2 3 7 3 _ _ w4 l4 (by omega) (by omega) (by omega)).mono ?_
  rintro e w5 ⟨rfl, hw5⟩
  obtain rfl := hw5.symm
  go_wp2_with fail
  refine (cof_any g bm B 2 3 7 _ _ w4 l4 (okI_of (by omega) (by omega))).mono ?_
  rintro e w5 ⟨v5, rfl, o5, f5⟩
  rw [hX.out] at o5
  have r5 : RdI w5 v5 [0, 2] := RdI.of_own o5
  have l5 := l4.frN f5
  have g5 := g4.seqN f5
  clear l4 g4 f5 o5
  go_wp2_with fail
  have r6 : RdI (w5.alloc (.cells #[.int .i64 0, .int .i64 2] 3)) v5 [0, 2] := r5.fr ((Fr.refl noB w5).alloc _) (fun _ _ _ _ _ q => q)
  have r7 : RdI (w5.alloc (.cells #[.int .i64 0, .int .i64 2] 3)) (.slice (some ⟨w5.heap.size, 0, none⟩) 2 2) [0, 2] := RdI.of_own (own_new w5 3 [.int .i64 0, .int .i64 2] 1 2 rfl (by unfold maxLen; omega))
  refine (sameInts_any _ _ [0, 2] [0, 2] _ r6 r7).mono ?_
  rintro e w6 ⟨rfl, q6, hw6⟩
  have f6 : Fr noB w5 w6 := by rw [hw6]; exact ((Fr.refl noB w5).alloc _).drewN q6
  have l6 := l5.frN f6
  have g6 := g5.seqN f6
  clear r6 r7 hw6 f6 l5 g5 r5
  simp only [decide_true]
  go_wp2_with fail
  refine (ctraces_any g bm B 2 3 _ _ w6 l6 (by simp)).mono ?_
  rintro e w7 ⟨v7, rfl, o7, f7⟩
  have hs7 : sortI (List.map (fun x => x.fst) [((7 : Int), s3)]) = [7] := sortI_eq (by simp) (List.Perm.refl _)
  rw [hs7] at o7
  have r7 : RdI w7 v7 [7] := RdI.of_own o7
  have g7 := g6.seqN f7
  clear l6 g6 f7 o7
  go_wp2_with fail
  have r8 : RdI (w7.alloc (.cells #[.int .i64 7] 3)) v7 [7] := r7.fr ((Fr.refl noB w7).alloc _) (fun _ _ _ _ _ q => q)
  have r9 : RdI (w7.alloc (.cells #[.int .i64 7] 3)) (.slice (some ⟨w7.heap.size, 0, none⟩) 1 1) [7] := RdI.of_own (own_new w7 3 [.int .i64 7] 1 1 rfl (by unfold maxLen; omega))
  refine (sameInts_any _ _ [7] [7] _ r8 r9).mono ?_
  rintro e w8 ⟨rfl, q8, hw8⟩
  have f8 : Fr noB w7 w8 := by rw [hw8]; exact ((Fr.refl noB w7).alloc _).drewN q8
  have g8 := g7.seqN f8
  clear r8 r9 hw8 f8 g7 r7 hno hX
  simp only [decide_true]
  go_wp2_with fail
  have s1 : (w8.alloc (.cells #[.int .i64 1] 3)).heap.size = w8.heap.size + 1 := by simp
  have s2 : ((w8.alloc (.cells #[.int .i64 1] 3)).alloc (.cells #[.int .i64 2] 3)).heap.size = w8.heap.size + 1 + 1 := by simp
  have b1 := Blk.new w8 3 [.int .i64 1]
  have b2 := Blk.new (w8.alloc (.cells #[.int .i64 1] 3)) 3 [.int .i64 2]
  rw [s1] at b2
  have b3 := Blk.new ((w8.alloc (.cells #[.int .i64 1] 3)).alloc (.cells #[.int .i64 2] 3)) 27 [.slice (some ⟨w8.heap.size, 0, none⟩) 1 1, .slice (some ⟨w8.heap.size + 1, 0, none⟩) 1 1, .slice none 0 0, .slice none 0 0]
  rw [s2] at b3
  have h1 := (Fr.refl noB w8).alloc (.cells #[.int .i64 1] 3)
  have h2 := (Fr.refl noB (w8.alloc (.cells #[.int .i64 1] 3))).alloc (.cells #[.int .i64 2] 3)
  have h3 := (Fr.refl noB ((w8.alloc (.cells #[.int .i64 1] 3)).alloc (.cells #[.int .i64 2] 3))).alloc (.cells #[.slice (some ⟨w8.heap.size, 0, none⟩) 1 1, .slice (some ⟨w8.heap.size + 1, 0, none⟩) 1 1, .slice none 0 0, .slice none 0 0] 27)
  have hnm := Nm.lit b3 ((h2.seqN h3).blk b1 (fun q => q)) (h3.blk b2 (fun q => q))
  have g9 := ((g8.seqN h1).seqN h2).seqN h3
  refine (creach_any 0 _ _ _ hnm (okI_of (by omega) (by omega)) (by simp) (by
    intro l hl
    simp only [List.mem_cons, List.not_mem_nil, or_false] at hl
    rcases hl with rfl | rfl | rfl | rfl
    · exact ⟨by simp, fun x hx => by simp at hx; subst hx; exact okI_of (by omega) (by omega)⟩
    · exact ⟨by simp, fun x hx => by simp at hx; subst hx; exact okI_of (by omega) (by omega)⟩
    · exact ⟨by simp, fun x hx => by simp at hx⟩
    · exact ⟨by simp, fun x hx => by simp at hx⟩)).mono ?_
  rintro e wA ⟨vA, A, rfl, oA, pA, mA, fA⟩
  have hA : A = [0, 1, 2] := up_eq pA (by simp) (fun i => (mA i).trans (rch_lit i))
  subst hA
  have rA : RdI wA vA [0, 1, 2] := RdI.of_own oA
  have gA := g9.seqN fA
  clear oA pA mA fA g9 hnm h1 h2 h3 b1 b2 b3 s1 s2 g8
  go_wp2_with fail
  have rB : RdI (wA.alloc (.cells #[.int .i64 0, .int .i64 1, .int .i64 2] 3)) vA [0, 1, 2] := rA.fr ((Fr.refl noB wA).alloc _) (fun _ _ _ _ _ q => q)
  have rC : RdI (wA.alloc (.cells #[.int .i64 0, .int .i64 1, .int .i64 2] 3)) (.slice (some ⟨wA.heap.size, 0, none⟩) 3 3) [0, 1, 2] := RdI.of_own (own_new wA 3 [.int .i64 0, .int .i64 1, .int .i64 2] 1 3 rfl (by unfold maxLen; omega))
  refine (sameInts_any _ _ [0, 1, 2] [0, 1, 2] _ rB rC).mono ?_
  rintro e wD ⟨rfl, qD, hwD⟩
  have gD : Fr noB w wD := gA.seqN (by rw [hwD]; exact ((Fr.refl noB wA).alloc _).drewN qD)
  clear rB rC hwD gA rA
  simp only [decide_true]
  go_wp2_with fail
  go_ret
  exact ⟨rfl, gD⟩

set_option maxHeartbeats 1000000 in
set_option maxRecDepth 10000 in
theorem nil_any (t a : Int) (w : World) (ht : (Lit.int .i64 t).wf = true) (ha : (Lit.int .i64 a).wf = true) : Calls Try.prog 5 #[.int .i64 t, .int .i64 a] w fun e w' => e = .returned (.bool true) ∧ Fr noB w w' := by
  go_enter Try.func5, Try.ntmps5
  go_wp2_with fail
  refine (cdrop_nil t w).mono ?_
  rintro e w1 ⟨rfl, hw1⟩
  obtain rfl := hw1.symm
  go_wp2_with fail
  refine (awake_any w).mono ?_
  rintro e w2 ⟨rfl, f2⟩
  go_wp2_with fail
  refine (cadd_nil t a w2).mono ?_
  rintro e w3 ⟨rfl, hw3⟩
  obtain rfl := hw3.symm
  go_wp2_with fail
  refine (cof_nil t w2).mono ?_
  rintro e w3 ⟨rfl, hw3⟩
  obtain rfl := hw3.symm
  go_wp2_with fail
  refine (ctraces_nil w2).mono ?_
  rintro e w3 ⟨rfl, hw3⟩
  obtain rfl := hw3.symm
  go_wp2_with fail
  refine (creach_any a _ [] w2 (Nm.nil w2) ha (by simp) (by simp)).mono ?_
  rintro e w4 ⟨v4, A, rfl, o4, p4, m4, f4⟩
  have hA : A = [] := List.eq_nil_iff_forall_not_mem.2 (fun i hi => by
    have := ((m4 i).1 hi).range
    simp at this
    omega)
  subst hA
  obtain ⟨a4, c4, rfl⟩ := ownsRow_slice o4
  have g4 := f2.seqN f4
  clear o4 p4 m4 f4 f2
  simp only [List.length_nil]
  go_wp2_with fail
  go_ret
  exact ⟨rfl, g4⟩
end Go.Proofs.Ytbepkhldgfmmbaa
