/-
  Stage 5's laws: SpanPrints, SpanChunks, SpanRows.
-/
import Derived.Test.YtgdpaoodfnabjaaDoorSpanAwake
import Derived.Test.YtgdpaoodfnabjaaDoorSpanRef
set_option linter.unusedVariables false
set_option linter.unusedSimpArgs false
set_option maxRecDepth 100000
namespace Go.Proofs.YtgdpaoodfnabjaaDoor
open Go.RowKit Go Go.Lib

theorem few_len {L : List Sp} (h : fewS L = true) : L.length ≤ 100 ∧ ∀ s ∈ L, s.x.size ≤ 100 := by
  unfold fewS at h
  rw [Bool.and_eq_true] at h
  refine ⟨by simpa using h.2, fun s hs => ?_⟩
  have := List.all_eq_true.1 h.1 s hs
  simpa using this
theorem printL_bytes {L : List Sp} (h : fewS L = true) : (printL L).length ≤ 200000 := by
  obtain ⟨h1, _⟩ := few_len h
  unfold printL
  split
  · rename_i hq
    rw [Bool.and_eq_true] at hq
    have h2 := (num_len L.length).2
    have h3 := spans_len L (fun s hs => List.all_eq_true.1 hq.2 s hs)
    rw [List.length_append]
    omega
  · simp
theorem print_right {L : List Sp} (h1 : L.length ≤ 1000) (h : printL L ≠ []) : ∀ (i : Nat) (m : Sp), L[i]? = some m → rightS m = true := by
  intro i m hm
  cases hr : rightS m with
  | true => rfl
  | false => exact absurd (print_no L i m hm hr) h
theorem print_ne {L : List Sp} (h1 : L.length ≤ 1000) (h : printL L ≠ []) : printL L = pre L L.length := print_yes L h1 (fun i m _ hm => print_right h1 h i m hm)
/-- a slice that came in, cloned by append([]T{}, list...) -/
theorem RdSp.app {w : World} {v : Value} {L : List Sp} (h : RdSp w v L) : (v = .slice none 0 0 ∧ L.length = 0 ∧ L.flatMap spC = []) ∨ ∃ ad c, v = .slice (some ad) L.length c ∧ ∀ j q, (L.flatMap spC)[j]? = some q → w.cell? (ad.add j) = some q := h.or

/-- a row of k spans -/
def rowSp (tr : Int) : Nat → List Sp
  | 0 => []
  | k + 1 => rowSp tr k ++ [⟨tr, (k : Int) + 1, ByteArray.mk #[]⟩]
theorem rowSp_len (tr : Int) : ∀ k, (rowSp tr k).length = k
  | 0 => rfl
  | k + 1 => by rw [rowSp, List.length_append, rowSp_len tr k]; rfl
theorem rowF_app (tr : Int) : ∀ (l m : List Sp) (k : Nat), rowF tr k (l ++ m) = (rowF tr k l && rowF tr (k + l.length) m)
  | [], m, k => by simp [rowF]
  | s :: l, m, k => by
    rw [List.cons_append, rowF, rowF_app tr l m (k + 1), rowF, List.length_cons, show k + 1 + l.length = k + (l.length + 1) by omega]
    simp only [Bool.and_assoc]
theorem rowSp_row (tr : Int) : ∀ k, rowF tr 0 (rowSp tr k) = true
  | 0 => rfl
  | k + 1 => by
    rw [rowSp, rowF_app, rowSp_row tr k, rowSp_len]
    simp [rowF]
theorem rowSp_head (tr : Int) : ∀ k, (rowSp tr (k + 1))[0]? = some ⟨tr, 1, ByteArray.mk #[]⟩
  | 0 => by simp [rowSp]
  | k + 1 => by
    rw [rowSp, List.getElem?_append_left (by rw [rowSp_len]; omega), rowSp_head tr k]
theorem rowSp_drop (tr : Int) (k : Nat) : rowF tr 0 ((rowSp tr (k + 1)).drop 1) = !decide (k + 1 > 1) := by
  cases k with
  | zero => simp [rowSp, rowF]
  | succ k =>
    have h : ∀ j, (rowSp tr (j + 2))[1]? = some ⟨tr, 2, ByteArray.mk #[]⟩ := fun j => by
      induction j with
      | zero => simp [rowSp]
      | succ j ih => rw [rowSp, List.getElem?_append_left (by rw [rowSp_len]; omega), ih]
    have h1 := h k
    rw [show (!decide (k + 1 + 1 > 1)) = false by simp]
    have h2 : ((rowSp tr (k + 1 + 1)).drop 1)[0]? = some ⟨tr, 2, ByteArray.mk #[]⟩ := by rw [List.getElem?_drop]; exact h1
    match hm : (rowSp tr (k + 1 + 1)).drop 1, h2 with
    | s :: l, h2 =>
      simp at h2
      subst h2
      simp [rowF]
theorem rowSp_again (tr : Int) (k : Nat) : rowF tr 0 (rowSp tr (k + 1) ++ [⟨tr, 1, ByteArray.mk #[]⟩]) = false := by
  rw [rowF_app, rowSp_row, rowSp_len]
  simp [rowF]
  omega

set_option maxHeartbeats 4000000 in
theorem rows_any (n tr : Int) (w : World) (hn : (Lit.int .i64 n).wf = true) (ht : (Lit.int .i64 tr).wf = true) (hg : Gl w) :
    Calls Tryd.prog 5 #[.int .i64 n, .int .i64 tr] w fun e w' => e = .returned (.bool true) ∧ Fr noB w w' := by
  obtain ⟨N0, hN, n1, n2⟩ := umod n 40 (by decide) (by decide)
  obtain ⟨T0, hT, t1, t2⟩ := umod tr 65535 (by decide) (by decide)
  have hT1 : wrap64 (1 + T0) = 1 + T0 := IntWalk.wrap64_in _ (by omega)
  obtain ⟨N, rfl⟩ : ∃ N : Nat, N0 = (N : Int) := ⟨N0.toNat, by omega⟩
  obtain ⟨T, hTT⟩ : ∃ T, 1 + T0 = T := ⟨_, rfl⟩
  rw [hTT] at hT1
  obtain ⟨i0, hi, hz0, hz1, hz2⟩ := info_parts Tryd.infoSpan
  obtain ⟨B, hB⟩ : ∃ B, w.heap.size = B := ⟨_, rfl⟩
  have hNb : N ≤ 40 := by omega
  have hTT2 : wrap64 (1 + T0) = T := by rw [hTT]; exact hT1
  clear n1 n2 hTT hT1 t1 t2 hn ht
  go_enter Tryd.func5, Tryd.ntmps5
  go_wp2_with fail
  try rw [hN]
  try rw [hT]
  try rw [hTT2]
  replace hN := Lib.hid hN
  replace hT := Lib.hid hT
  replace hTT2 := Lib.hid hTT2
  go_loopg [5, 17] N (fun gk vl vi w3 => ∃ k : Nat, k + gk = N ∧ vi = .int .i64 k ∧ Hid (w3.ownsRow B 30 3 vl k ((rowSp T k).flatMap spC)) ∧ Fr noB w w3)
  case atStart => exact ⟨0, by omega, rfl, Lib.hid (World.ownsRow_nil _ _ _ _), Fr.refl _ _⟩
  case round =>
    obtain ⟨k, hkn, rfl, hown, fr⟩ := hrel
    have hB3 : B ≤ wr.heap.size := by have := fr.size; omega
    have hrd : RdSp wr u5 (rowSp T k) := RdSp.of_own hown.out (rowSp_len T k)
    have hrow := row_any u5 (rowSp T k) T wr hrd
    rw [rowSp_row] at hrow
    by_cases hlt : k < N
    · have hb1 : (k : Int) < N := by omega
      have hmeas : N - (k + 1) < gk := by omega
      have hkn2 : k + 1 + (N - (k + 1)) = N := by omega
      have hkb : k < 40 := by omega
      have i2 : wrap64 ((k : Int) + 1) = (k : Int) + 1 := IntWalk.wrap64_in _ (by omega)
      replace hmeas := Lib.hid hmeas
      replace hkn2 := Lib.hid hkn2
      replace hrd := Lib.hid hrd
      replace hrow := Lib.hid hrow
      clear hlt hkn
      go_wp2_with fail
      refine hrow.out.mono ?_
      rintro e w6 ⟨rfl, f6⟩
      have ow6 := ownsRow_fr hown.out f6 (fun _ _ h => h)
      have b6 := news_at w6 30 (spC ⟨T, (k : Int) + 1, ByteArray.mk #[]⟩)
      have f7 : Fr noB w6 (w6.alloc (.cells #[.int .i64 T, .int .i64 ((k : Int) + 1), .string (ByteArray.mk #[])] 30)) := (Fr.refl _ _).alloc _
      have hB6 : B ≤ (w6.alloc (.cells #[.int .i64 T, .int .i64 ((k : Int) + 1), .string (ByteArray.mk #[])] 30)).heap.size := by have := (fr.seqN f6).size; have := f7.size; omega
      obtain ⟨g6, hg6⟩ : ∃ g, w6.heap.size = g := ⟨_, rfl⟩
      rw [hg6] at b6
      go_wp2_with (first
        | (at_builtin; go_must (refine wpList_append_at _ rfl (.tmp 24) (.tmp 29) 22 rfl B 30 i0 _ 3 32 Tryd.underlying22 hi hz0 hz1 hz2 rfl (by decide) _ k _ rfl (ownsRow_fr ow6 f7 (fun _ _ h => h)) ⟨g6, 0, none⟩ 1 1 (spC ⟨T, (k : Int) + 1, ByteArray.mk #[]⟩) rfl rfl b6 (spC_one _) ?_ ?_ hB6 ?_))
        | fail)
      · unfold maxLen; omega
      · omega
      intro v8 w8 o8 gr8 _
      have f8 : Fr (rowB u5) (w6.alloc (.cells #[.int .i64 T, .int .i64 ((k : Int) + 1), .string (ByteArray.mk #[])] 30)) w8 := (Fr.refl (rowB u5) _).grown gr8 (fun k hk _ => hk)
      have fr8 : Fr noB w w8 := ((fr.seqN f6).seqN f7).trans f8 (fun _ _ q => q) (fun i hi q => by have := (hown.out.lt i q).1; omega)
      have o9 : w8.ownsRow B 30 3 v8 (k + 1) ((rowSp T (k + 1)).flatMap spC) := by
        rw [show rowSp T (k + 1) = rowSp T k ++ [⟨T, (k : Int) + 1, ByteArray.mk #[]⟩] from rfl, List.flatMap_append]
        simpa using o8
      replace o9 := Lib.hid o9
      clear o8 gr8 f8 b6 ow6 f7 f6 hB6
      go_wp2_with fail
      go_roundg (N - (k + 1))
      case rel => exact ⟨k + 1, hkn2.out, by go_num, o9, fr8⟩
      case measure => exact hmeas.out
    · obtain rfl : k = N := by omega
      have haw := awake_any wr (hg.fr fr)
      have hrow1 := fun w' (f : Fr noB wr w') => row_any u5 (rowSp T k) T w' (hrd.frN f)
      rw [rowSp_row] at hrow1
      replace haw := Lib.hid haw
      replace hrow := Lib.hid hrow
      replace hrow1 := Lib.hid hrow1
      go_wp2_with fail
      refine haw.out.mono ?_
      rintro e w6 ⟨rfl, f6⟩
      have fr6 := fr.seqN f6
      go_wp2_with fail
      refine (hrow1.out w6 f6).mono ?_
      rintro e w7 ⟨rfl, f7⟩
      have fr7 := fr6.seqN f7
      have f67 := f6.seqN f7
      by_cases h0 : k = 0
      · subst h0
        go_wp2_with fail
        go_ret
        exact ⟨rfl, fr7⟩
      · obtain ⟨j, rfl⟩ : ∃ j, k = j + 1 := ⟨k - 1, by omega⟩
        obtain ⟨g, cap, hv, hgB⟩ := ownsRow_some hown.out (by omega)
        have hd := rowSp_drop T j
        have hag := rowSp_again T j
        have hhd := rowSp_head T j
        rw [hv] at hrd hown hrow1 hrow ⊢
        have ht7 := ((hrd.frN f67).tail (by omega))
        obtain ⟨_, _, e1, hc1, hc2, _, hc3⟩ := hrd.frN f67
        rw [rowSp_len] at hc1 e1
        cases e1
        obtain ⟨g', o', e2, d0, d1, d2⟩ := hc3 0 _ hhd
        cases e2
        have ht8 := row_any _ _ T w7 ht7
        have i3 : ¬ (((j + 1 : Nat) : Int) = 0) := by omega
        have i4 : (((j + 1 : Nat) : Int) == 0) = false := by simp; omega
        have hcase : ∃ X b, Calls Tryd.prog 16 #[X, .int .i64 T] w7 (fun e w' => e = .returned (.bool b) ∧ Fr noB w7 w') ∧ ((cap = 1 ∧ Hid (j = 0) ∧ X = .slice (some ⟨g, 0, none⟩) 0 0 ∧ b = true ∧ ¬ ((j + 1 : Nat) : Int) > 1) ∨ (1 < cap ∧ X = .slice (some ⟨g, 3, none⟩) j (cap - 1) ∧ b = true ∧ ¬ ((j + 1 : Nat) : Int) > 1) ∨ (1 < cap ∧ X = .slice (some ⟨g, 3, none⟩) j (cap - 1) ∧ b = false ∧ ((j + 1 : Nat) : Int) > 1)) := by
          by_cases hj : j = 0
          · subst hj
            by_cases hcap : cap = 1
            · subst hcap
              exact ⟨_, _, row_any (.slice (some ⟨g, 0, none⟩) 0 0) [] T w7 ⟨some ⟨g, 0, none⟩, 0, rfl, by simp, by simp [maxLen], (fun q => by cases q), fun i s hi => by simp at hi⟩, Or.inl ⟨rfl, Lib.hid rfl, rfl, rfl, by decide⟩⟩
            · rw [hd] at ht8
              exact ⟨_, _, ht8, Or.inr (Or.inl ⟨by omega, by simp, by simp, by decide⟩)⟩
          · rw [hd] at ht8
            exact ⟨_, _, ht8, Or.inr (Or.inr ⟨by omega, by simp, by simp; omega, by omega⟩)⟩
        clear ht8
        obtain ⟨X, b, ht8, hcase⟩ := hcase
        have own7 := ownsRow_fr hown.out f67 (fun _ _ h => h)
        clear hc2 hc3
        replace ht7 := Lib.hid ht7
        replace hrd := Lib.hid hrd
        replace hag := Lib.hid hag
        rcases hcase with ⟨rfl, _, rfl, rfl, i5⟩ | ⟨i6, rfl, rfl, i5⟩ | ⟨i6, rfl, rfl, i5⟩
        all_goals (
          try (have i7 : ¬ cap - 1 = 0 := by omega)
          have i8 : ((j : Int) + 1 == 0) = false := by simp; omega
          first
            | (have i9 : decide (1 < (j : Int) + 1) = false := by simp; omega)
            | (have i9 : decide (1 < (j : Int) + 1) = true := by simp; omega)
          replace ht8 := Lib.hid ht8
          go_wp2_with fail
          go_fit ht8.out
          rintro e w8 ⟨rfl, f8⟩
          have fr8 := fr7.seqN f8
          have c0 : w8.cell? ⟨g, 0, none⟩ = some (.int .i64 T) := f8.cell d0 (fun q => q)
          have c1 : w8.cell? ⟨g, 1, none⟩ = some (.int .i64 1) := f8.cell d1 (fun q => q)
          have c2 : w8.cell? ⟨g, 2, none⟩ = some (.string (ByteArray.mk #[])) := f8.cell d2 (fun q => q)
          have ow8 := ownsRow_fr own7 f8 (fun _ _ h => h)
          have b9 := news_at w8 30 (spC ⟨T, 1, ByteArray.mk #[]⟩)
          have f9 : Fr noB w8 (w8.alloc (.cells #[.int .i64 T, .int .i64 1, .string (ByteArray.mk #[])] 30)) := (Fr.refl _ _).alloc _
          have hB9 : B ≤ (w8.alloc (.cells #[.int .i64 T, .int .i64 1, .string (ByteArray.mk #[])] 30)).heap.size := by have := fr8.size; have := f9.size; omega
          obtain ⟨g9, hg9⟩ : ∃ g, w8.heap.size = g := ⟨_, rfl⟩
          rw [hg9] at b9
          go_wp2_with (first
            | (at_builtin; go_must (refine wpList_append_at _ rfl (.tmp 56) (.tmp 60) 22 rfl B 30 i0 _ 3 32 Tryd.underlying22 hi hz0 hz1 hz2 rfl (by decide) _ (j + 1) _ rfl (ownsRow_fr ow8 f9 (fun _ _ h => h)) ⟨g9, 0, none⟩ 1 1 (spC ⟨T, 1, ByteArray.mk #[]⟩) rfl rfl b9 (spC_one _) ?_ ?_ hB9 ?_))
            | fail)
          · unfold maxLen; omega
          · omega
          intro vA wA oA grA _
          have fA : Fr noB w wA := (fr8.seqN f9).trans ((Fr.refl (rowB (.slice (some ⟨g, 0, none⟩) (j + 1) _)) _).grown grA (fun k hk _ => hk)) (fun _ _ q => q) (fun i hi q => by have := (hown.out.lt i q).1; omega)
          have rdA : RdSp wA vA (rowSp T (j + 1) ++ [⟨T, 1, ByteArray.mk #[]⟩]) := RdSp.of_own (n := j + 1 + 1) (by rw [List.flatMap_append]; simpa using oA) (by rw [List.length_append, rowSp_len]; rfl)
          have hrA := row_any _ _ T wA rdA
          rw [hag.out] at hrA
          replace hrA := Lib.hid hrA
          clear oA grA rdA b9 f9 hB9
          go_wp2_with fail
          refine hrA.out.mono ?_
          rintro e wB ⟨rfl, fB⟩
          go_wp2_with fail
          go_ret
          exact ⟨rfl, fA.seqN fB⟩)

end Go.Proofs.YtgdpaoodfnabjaaDoor
