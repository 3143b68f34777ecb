import Derived.Test.YtomgkegjdkkhoaaTick
import Derived.Test.YtomgkegjdkkhoaaInts
set_option linter.unusedVariables false
set_option linter.unusedSimpArgs false
namespace Go.Proofs.Ytomgkegjdkkhoaa
open Go.RowKit Go Go.Lib

theorem Ticked.eq {H : List (Int × (Int × Int))} {O : List (Int × Int)} {nw : Int} {E : List Int} {O2 : List (Int × Int)} (h : Ticked H O nw E O2) {F : List Int} (hs : F.Pairwise (· ≤ ·)) (hn : F.Nodup) (hF : ∀ k, k ∈ F ↔ ∃ x, look H k = some x ∧ x.2 ≤ nw) : E = F :=
  sorted_eq h.es hs ((List.perm_ext_iff_of_nodup h.en hn).2 fun k => by rw [h.e k, hF k])
theorem look_one (t k : Int) (x : Int × Int) : look [(t, x)] k = if t = k then some x else none := by
  unfold look
  by_cases h : t = k <;> simp [h]
theorem ticked_stay {t j e nw : Int} {O O2 : List (Int × Int)} {E : List Int} (h : Ticked [(t, (j, e))] O nw E O2) (he : nw < e) : E = [] ∧ (∀ k, (look O2 k).getD 0 = (look O k).getD 0) ∧ goneOf [(t, (j, e))] nw = [(t, (j, e))] := by
  have h1 : E = [] := h.eq List.Pairwise.nil List.nodup_nil (fun k => by
    rw [look_one]
    constructor
    · intro h; cases h
    · rintro ⟨x, hx, h2⟩
      split at hx
      · cases hx; simp only at h2; omega
      · cases hx)
  subst h1
  exact ⟨rfl, fun k => by simpa using h.o k, by simp [goneOf, he]⟩
theorem ticked_gone {t j e nw : Int} {O O2 : List (Int × Int)} {E : List Int} (h : Ticked [(t, (j, e))] O nw E O2) (he : e ≤ nw) : E = [t] ∧ (look O2 t).getD 0 = max j ((look O t).getD 0) ∧ goneOf [(t, (j, e))] nw = [] := by
  have h1 : E = [t] := h.eq (by simp) (by simp) (fun k => by
    rw [look_one]
    constructor
    · intro h
      have : k = t := by simpa using h
      subst this
      exact ⟨(j, e), by simp, he⟩
    · rintro ⟨x, hx, h2⟩
      split at hx
      · rename_i h3; simp [h3]
      · cases hx)
  subst h1
  have h2 := h.o t
  rw [if_pos (by simp)] at h2
  refine ⟨rfl, ?_, ?_⟩
  · rw [h2]; simp [jobOf, look_one]
  · simp [goneOf, he]
theorem okI_lit (k : Int) (h : (Lit.int .i64 k).wf = true) : okI k := h

set_option maxHeartbeats 1000000 in
set_option maxRecDepth 10000 in
theorem awake_any (w : World) : Calls Try.prog 6 #[] w fun e w' => e = .returned (.bool true) ∧ Fr noB w w' := by
  go_enter Try.func6, Try.ntmps6
  go_wp2_with fail
  refine (lnew_any 2 w (by omega) (by omega)).mono ?_
  rintro e w1 ⟨rfl, l1, f1⟩
  generalize hg : w.heap.size + 2 = g at *
  generalize hbh : w.heap.size + 1 = bo at *
  generalize hbo : w.heap.size = bh at *
  have hno : ∀ a b : World, Fr noB w a → Fr (lsB g bh bo) a b → Fr noB w b := fun _ _ h k => h.trans k (fun _ _ q => q) (fun i hi q => by rcases q with rfl | rfl | rfl <;> omega)
  replace hno := Lib.hid hno
  clear hg hbh hbo
  go_wp2_with fail
  refine (lnew_no 0 w1 (by omega)).mono ?_
  rintro e w2 ⟨rfl, hw2⟩
  obtain rfl := hw2.symm
  go_wp2_with fail
  refine (lgrant_any g bh bo _ 2 0 7 3 _ _ w1 l1 (okI_lit _ (by decide)) (by simp)).mono ?_
  rintro e w2 ⟨rfl, l2, f2⟩
  have g2 := hno.out _ _ f1 f2
  replace l2 : Ls w2 g bh bo [7] 2 0 [((7 : Int), ((3 : Int), (2 : Int)))] [] := l2
  clear l1 f1 f2
  go_wp2_with fail
  refine (ltick_any g bh bo _ 2 0 _ _ w2 l2 (by omega)).mono ?_
  rintro e w3 ⟨v3, E3, O3, rfl, o3, l3, f3, t3⟩
  obtain ⟨rfl, hO3a, hg3⟩ := ticked_stay t3 (by omega)
  have hO3 : (look O3 7).getD 0 = 0 := hO3a 7
  rw [hg3] at l3
  clear hO3a hg3
  replace l3 : Ls w3 g bh bo [7] 2 1 [((7 : Int), ((3 : Int), (2 : Int)))] O3 := l3
  have g3 := hno.out _ _ g2 f3
  obtain ⟨a3, c3, hv3⟩ := ownsRow_slice o3
  subst hv3
  clear l2 g2 f3 t3 o3
  simp only [List.length_nil]
  go_wp2_with fail
  refine (ljob_any g bh bo _ 2 1 7 _ _ w3 l3 (okI_lit _ (by decide))).mono ?_
  rintro e w4 ⟨rfl, hw4⟩
  obtain rfl := hw4.symm
  rw [look_one, if_pos rfl]
  go_wp2_with fail
  refine (lleft_any g bh bo _ 2 1 7 _ _ w3 l3 (okI_lit _ (by decide)) (fun x hx => by rw [look_one] at hx; simp at hx; subst hx; simp)).mono ?_
  rintro e w4 ⟨rfl, f4⟩
  rw [look_one, if_pos rfl]
  have l4 := l3.fr f4 (fun _ _ q => q)
  have g4 := g3.seqN f4
  clear l3 f4 g3
  simp only [leftOf, Option.getD_some]
  go_wp2_with fail
  refine (ltick_any g bh bo _ 2 1 _ _ w4 l4 (by omega)).mono ?_
  rintro e w5 ⟨v5, E5, O5, rfl, o5, l5, f5, t5⟩
  obtain ⟨rfl, hO5, hg5⟩ := ticked_gone t5 (by omega)
  rw [hO3, show max (3 : Int) 0 = 3 by decide] at hO5
  rw [hg5] at l5
  clear hg5
  replace l5 : Ls w5 g bh bo [7] 2 2 [] O5 := l5
  have g5 := hno.out _ _ g4 f5
  have r5 := RdI.of_own o5
  clear l4 g4 f5 t5 o5 hO3
  go_wp2_with fail
  have r6 : RdI (w5.alloc (.cells #[.int .i64 7] 3)) v5 [7] := r5.fr ((Fr.refl noB w5).alloc _) (fun _ _ _ _ _ q => q)
  have r7 : RdI (w5.alloc (.cells #[.int .i64 7] 3)) (.slice (some ⟨w5.heap.size, 0, none⟩) 1 1) [7] := RdI.of_own (own_new w5 3 [.int .i64 7] 1 1 rfl (by unfold maxLen; omega))
  refine (sameInts_any _ _ [7] [7] _ r6 r7).mono ?_
  rintro e w6 ⟨rfl, q6, hw6⟩
  have f6 : Fr noB w5 w6 := by rw [hw6]; exact ((Fr.refl noB w5).alloc _).drewN q6
  have l6 := l5.fr f6 (fun _ _ q => q)
  have g6 := g5.seqN f6
  clear r6 r7 hw6 f6 l5 g5 r5
  simp only [decide_true]
  go_wp2_with fail
  refine (ljob_any g bh bo _ 2 2 7 _ _ w6 l6 (okI_lit _ (by decide))).mono ?_
  rintro e w7 ⟨rfl, hw7⟩
  obtain rfl := hw7.symm
  rw [show ((look ([] : List (Int × (Int × Int))) 7).getD (0, 0)).1 = 0 from rfl]
  go_wp2_with fail
  refine (lover_any g bh bo _ 2 2 7 _ _ w6 l6 (okI_lit _ (by decide))).mono ?_
  rintro e w7 ⟨rfl, hw7⟩
  obtain rfl := hw7.symm
  rw [hO5]
  clear hO5
  go_wp2_with fail
  refine (llen_any g bh bo _ 2 2 _ _ w6 l6).mono ?_
  rintro e w7 ⟨rfl, hw7⟩
  obtain rfl := hw7.symm
  simp only [List.length_nil]
  go_wp2_with fail
  go_ret
  exact ⟨rfl, g6⟩

theorem umodv (b m : Int) (h0 : 0 < m) (h1 : m ≤ 9223372036854775807) (v : Int) (hv : v = m) : ∃ q, wrap64 ((IntKind.u64.wrap b).tmod (IntKind.u64.wrap v)) = q ∧ 0 ≤ q ∧ q < m := by
  subst hv
  rw [show IntKind.u64.wrap v = v by rw [IntKind.wrap_u64]; omega]
  exact umod b v h0 h1

set_option maxHeartbeats 1000000 in
set_option maxRecDepth 10000 in
theorem time_any (t a : Int) (w : World) (ht : (Lit.int .i64 t).wf = true) (ha : (Lit.int .i64 a).wf = true) :
    Calls Try.prog 4 #[.int .i64 t, .int .i64 a] w fun e w' => e = .returned (.bool true) ∧ Fr noB w w' := by
  obtain ⟨z, hz, z0, z1⟩ := umod t 50 (by omega) (by omega)
  obtain ⟨y, hy, y0, y1⟩ := umodv a (1 + z) (by omega) (by omega) (1 + z) rfl
  obtain ⟨T, hT⟩ : ∃ T : Nat, 1 + z = T := ⟨(1 + z).toNat, by omega⟩
  obtain ⟨A, rfl⟩ : ∃ A : Nat, y = A := ⟨y.toNat, by omega⟩
  have hu : IntKind.u64.wrap (1 + z) = 1 + z := by rw [IntKind.wrap_u64]; omega
  rw [hu] at hy
  have hnz : ¬ (1 + z = 0) := by omega
  have hnz2 : ((1 : Int) + z == 0) = false := by simp; omega
  replace hT := Lib.hid hT
  go_enter Try.func4, Try.ntmps4
  go_wp2_with fail
  have hT2 := hT.out
  rw [hT2] at hy
  clear hz hu hnz hnz2 hT y0
  rw [hT2, hy]
  clear hy
  replace hT2 := Lib.hid hT2
  have hAT : A < T := by have := hT2.out; omega
  have hT0 : 1 ≤ T := by have := hT2.out; omega
  have hT50 : T ≤ 50 := by have := hT2.out; omega
  clear hT2 y1 z0 z1
  refine (lnew_any T w (by omega) (by omega)).mono ?_
  rintro e w1 ⟨rfl, l1, f1⟩
  generalize hg : w.heap.size + 2 = g at *
  generalize hbh : w.heap.size + 1 = bo at *
  generalize hbo : w.heap.size = bh at *
  have hno : ∀ a b : World, Fr noB w a → Fr (lsB g bh bo) a b → Fr noB w b := fun _ _ h k => h.trans k (fun _ _ q => q) (fun i hi q => by rcases q with rfl | rfl | rfl <;> omega)
  replace hno := Lib.hid hno
  clear hg hbh hbo
  go_wp2_with fail
  refine (awake_any w1).mono ?_
  rintro e w2 ⟨rfl, f2⟩
  have l2 := l1.fr f2 (fun _ _ q => q)
  have g2 := f1.seqN f2
  clear l1 f1 f2
  go_wp2_with fail
  refine (lgrant_any g bh bo _ T 0 1 5 _ _ w2 l2 (okI_lit _ (by decide)) (by simp)).mono ?_
  rintro e w3 ⟨rfl, l3, f3⟩
  have g3 := hno.out _ _ g2 f3
  replace l3 : Ls w3 g bh bo [1] T (0 : Nat) [((1 : Int), ((5 : Int), (T : Int)))] [] := by have := l3; simpa [withKey, without] using this
  clear l2 g2 f3
  go_wp2_with fail
  go_loopw [34] (fun i wr => ∃ (k : Nat) (O : List (Int × Int)), k ≤ A ∧ i = .int .i64 k ∧ Ls wr g bh bo [1] T k [((1 : Int), ((5 : Int), (T : Int)))] O ∧ Fr noB w wr ∧ Hid (∀ j, (look O j).getD 0 = 0)) (fun i _ => A - (RowKit.intOf i).toNat)
  case atStart => exact ⟨0, [], by omega, rfl, l3, g3, Lib.hid (fun j => rfl)⟩
  case round =>
    clear l3 g3
    obtain ⟨k, O, hk, rfl, l, gr, hO⟩ := hrel
    by_cases hlt : k < A
    · go_wp2_with fail
      refine (ltick_any g bh bo _ T k _ _ _ l (by omega)).mono ?_
      rintro e w5 ⟨v5, E5, O5, rfl, o5, l5, f5, t5⟩
      obtain ⟨_, hO5, hg5⟩ := ticked_stay t5 (by omega)
      rw [hg5] at l5
      have g5 := hno.out _ _ gr f5
      replace l5 : Ls w5 g bh bo [1] T ((k + 1 : Nat) : Int) [((1 : Int), ((5 : Int), (T : Int)))] O5 := l5
      replace hO5 : Hid (∀ j, (look O5 j).getD 0 = 0) := Lib.hid (fun j => (hO5 j).trans (hO.out j))
      clear hg5 f5 t5 o5 l gr hO
      go_wp2_with fail
      go_roundw
      case rel => exact ⟨k + 1, O5, by omega, by go_num, l5, g5, hO5⟩
      case measure => simp [RowKit.intOf]; omega
    · obtain rfl : k = A := by omega
      go_wp2_with fail
      refine (lgrant_any g bh bo _ T k 1 6 _ _ _ l (okI_lit _ (by decide)) (by simp)).mono ?_
      rintro e w3 ⟨rfl, l3, f3⟩
      have g3 := hno.out _ _ gr f3
      replace l3 : Ls w3 g bh bo [1, 1] T ((k + 0 : Nat) : Int) [((1 : Int), ((6 : Int), ((k + T : Nat) : Int)))] O := by have := l3; simpa [withKey, without] using this
      clear l gr f3
      go_wp2_with fail
      go_loopw [42] (fun i wr => ∃ (j : Nat) (H : List (Int × (Int × Int))) (O : List (Int × Int)), j ≤ T ∧ i = .int .i64 j ∧ Ls wr g bh bo [1, 1] T ((k + j : Nat) : Int) H O ∧ Fr noB w wr ∧ Hid (j < T → H = [((1 : Int), ((6 : Int), ((k + T : Nat) : Int)))] ∧ (look O 1).getD 0 = 0) ∧ Hid (j = T → H = [] ∧ (look O 1).getD 0 = 6)) (fun i _ => T - (RowKit.intOf i).toNat)
      case atStart => exact ⟨0, _, O, by omega, rfl, l3, g3, Lib.hid (fun _ => ⟨rfl, hO.out 1⟩), Lib.hid (fun h => by omega)⟩
      case round =>
        clear l3 g3 hO hlt hk O
        rename_i wr2
        obtain ⟨j, H, O, hj, rfl, l, gr, h1, h2⟩ := hrel
        by_cases hlt : j < T
        · obtain ⟨rfl, hO⟩ := h1.out hlt
          clear h1 h2
          go_wp2_with fail
          refine (ljob_any g bh bo _ T _ 1 _ _ _ l (okI_lit _ (by decide))).mono ?_
          rintro e w4 ⟨rfl, hw4⟩
          obtain rfl := hw4.symm
          rw [look_one, if_pos rfl]
          simp only [Option.getD_some]
          go_wp2_with fail
          refine (lleft_any g bh bo _ T _ 1 _ _ _ l (okI_lit _ (by decide)) (fun x hx => by rw [look_one] at hx; simp at hx; subst hx; simp; omega)).mono ?_
          rintro e w4 ⟨rfl, f4⟩
          rw [look_one, if_pos rfl]
          have l4 := l.fr f4 (fun _ _ q => q)
          have g4 := gr.seqN f4
          clear l gr f4
          rw [show leftOf ((k + j : Nat) : Int) (some ((6 : Int), ((k + T : Nat) : Int))) = (T : Int) - j by simp [leftOf]; omega]
          go_wp2_with fail
          refine (ltick_any g bh bo _ T _ _ _ _ l4 (by omega)).mono ?_
          rintro e w5 ⟨v5, E5, O5, rfl, o5, l5, f5, t5⟩
          have g5 := hno.out _ _ g4 f5
          have h5 : Hid (j + 1 < T → goneOf [((1 : Int), ((6 : Int), ((k + T : Nat) : Int)))] (((k + j : Nat) : Int) + 1) = [((1 : Int), ((6 : Int), ((k + T : Nat) : Int)))] ∧ (look O5 1).getD 0 = 0) := Lib.hid (fun h => by
            obtain ⟨_, hO5, hg5⟩ := ticked_stay t5 (by omega)
            exact ⟨hg5, (hO5 1).trans hO⟩)
          have h6 : Hid (j + 1 = T → goneOf [((1 : Int), ((6 : Int), ((k + T : Nat) : Int)))] (((k + j : Nat) : Int) + 1) = [] ∧ (look O5 1).getD 0 = 6) := Lib.hid (fun h => by
            obtain ⟨_, hO5, hg5⟩ := ticked_gone t5 (by omega)
            refine ⟨hg5, ?_⟩
            rw [hO5, hO]; rfl)
          replace l5 : Ls w5 g bh bo [1, 1] T ((k + (j + 1) : Nat) : Int) (goneOf [((1 : Int), ((6 : Int), ((k + T : Nat) : Int)))] (((k + j : Nat) : Int) + 1)) O5 := l5
          generalize goneOf [((1 : Int), ((6 : Int), ((k + T : Nat) : Int)))] (((k + j : Nat) : Int) + 1) = H5 at *
          clear f5 t5 o5 l4 g4 hO
          go_wp2_with fail
          go_roundw
          case rel => exact ⟨j + 1, H5, O5, by omega, by go_num, l5, g5, h5, h6⟩
          case measure => simp [RowKit.intOf]; omega
        · obtain rfl : j = T := by omega
          obtain ⟨rfl, hO⟩ := h2.out rfl
          clear h1 h2
          go_wp2_with fail
          refine (lgrant_nil 1 1 _).mono ?_
          rintro e w4 ⟨rfl, hw4⟩
          obtain rfl := hw4.symm
          go_wp2_with fail
          refine (lend_nil 1 _).mono ?_
          rintro e w4 ⟨rfl, hw4⟩
          obtain rfl := hw4.symm
          go_wp2_with fail
          refine (ljob_any g bh bo _ j _ 1 _ _ _ l (okI_lit _ (by decide))).mono ?_
          rintro e w4 ⟨rfl, hw4⟩
          obtain rfl := hw4.symm
          rw [show ((look ([] : List (Int × (Int × Int))) 1).getD (0, 0)).1 = 0 from rfl]
          go_wp2_with fail
          refine (lover_any g bh bo _ j _ 1 _ _ _ l (okI_lit _ (by decide))).mono ?_
          rintro e w4 ⟨rfl, hw4⟩
          obtain rfl := hw4.symm
          rw [hO]
          clear hO
          go_wp2_with fail
          refine (ljob_nil 1 _).mono ?_
          rintro e w4 ⟨rfl, hw4⟩
          obtain rfl := hw4.symm
          go_wp2_with fail
          refine (lleft_nil 1 _).mono ?_
          rintro e w4 ⟨rfl, hw4⟩
          obtain rfl := hw4.symm
          go_wp2_with fail
          refine (ltick_nil _).mono ?_
          rintro e w4 ⟨rfl, hw4⟩
          obtain rfl := hw4.symm
          go_wp2_with fail
          refine (lover_nil 1 _).mono ?_
          rintro e w4 ⟨rfl, hw4⟩
          obtain rfl := hw4.symm
          go_wp2_with fail
          refine (llen_nil _).mono ?_
          rintro e w4 ⟨rfl, hw4⟩
          obtain rfl := hw4.symm
          go_wp2_with fail
          go_ret
          exact ⟨rfl, gr⟩
end Go.Proofs.Ytomgkegjdkkhoaa
