/-
  The reference's ints, Print of a Pin; Of, Agent; stage 9's awake.
-/
import Derived.Test.YtbmafogjmdilkaaGreatDoorMsRead5
import Derived.Test.YtbmafogjmdilkaaGreatDoorWireRef
set_option linter.unusedVariables false
set_option linter.unusedSimpArgs false
set_option maxRecDepth 100000
namespace Go.Proofs.YtbmafogjmdilkaaGreatDoor
open Go.RowKit Go Go.Lib

set_option maxHeartbeats 1000000 in
theorem rints_any (v : Value) (xs : List Int) (w : World) (hv : RdI w v xs) (hx : ∀ x ∈ xs, -9223372036854775808 ≤ x ∧ x ≤ 9223372036854775807) (hl : xs.length ≤ 100) :
    Calls Tryz.prog 35 #[v] w fun e w' => e = .returned (.string (strB (numsL xs))) ∧ Fr noB w w' := by
  obtain ⟨a, c, rfl, h1, h2, h3⟩ := hv
  have hst := nums_take xs
  have h0 : numsL (xs.take 0) = [] := rfl
  have hend : numsL (xs.take xs.length) = numsL xs := by rw [List.take_length]
  have hnl : ∀ k, (numsL (xs.take k)).length ≤ 2800 := fun k => by
    have := nums_len (xs.take k)
    rw [List.length_take] at this
    omega
  have hb : ∀ k, k < xs.length → -9223372036854775808 ≤ xs.getD k 0 ∧ xs.getD k 0 ≤ 9223372036854775807 := fun k hk => hx _ (by
    rw [List.getD_eq_getElem?_getD, List.getElem?_eq_getElem hk]
    exact List.getElem_mem hk)
  generalize hn : xs.length = n at *
  replace h3 := Lib.hid h3
  replace hst := Lib.hid hst
  replace h0 := Lib.hid h0
  replace hend := Lib.hid hend
  replace hnl := Lib.hid hnl
  replace hb := Lib.hid hb
  replace hx := Lib.hid hx
  replace hn := Lib.hid hn
  go_enter Tryz.func35, Tryz.ntmps35
  go_wp2_with fail
  go_loopg [3, 4] n (fun gk vs vi w3 => ∃ k : Nat, k + gk = n ∧ vi = .int .i64 k ∧ vs = .string (strB (numsL (xs.take k))) ∧ Fr noB w w3)
  case atStart => exact ⟨0, by omega, rfl, by rw [h0.out]; rfl, Fr.refl _ _⟩
  case round =>
    obtain ⟨k, hkn, rfl, rfl, fr⟩ := hrel
    by_cases hlt : k < n
    · obtain ⟨g, o, rfl, hc⟩ := h3.out k hlt
      have c0 := fr.cell hc (fun q => q)
      have hst1 := hst.out k hlt
      have hb1 : (k : Int) < n := by omega
      have hmeas : n - (k + 1) < gk := by omega
      have hkn2 : k + 1 + (n - (k + 1)) = n := by omega
      obtain ⟨b1, b2⟩ := hb.out k hlt
      have hri := fun w => refint_any (xs.getD k 0) w b1 b2
      have hl1 := hnl.out (k + 1)
      rw [hst1, List.length_append] at hl1
      have ad1 := fun w => run_string_add_sum (P := Tryz.prog) (w := w) (strB (numsL (xs.take k))) (strB (numL (xs.getD k 0).toNat)) (by rw [strB_size, strB_size]; omega)
      have hcat : strB (numsL (xs.take k)) ++ strB (numL (xs.getD k 0).toNat) = strB (numsL (xs.take (k + 1))) := by rw [hst1, strB_append]
      have hsz : (strB (numsL (xs.take k))).size + (strB (numL (xs.getD k 0).toNat)).size ≤ 9223372036854775807 := by rw [strB_size, strB_size]; omega
      generalize xs.getD k 0 = x at *
      generalize strB (numL x.toNat) = X at *
      generalize strB (numsL (xs.take k)) = S at *
      replace hst1 := Lib.hid hst1
      replace hri := Lib.hid hri
      replace hcat := Lib.hid hcat
      replace hmeas := Lib.hid hmeas
      replace hkn2 := Lib.hid hkn2
      clear hl1 b1 b2
      go_wp2_with fail
      go_fit (hri.out _)
      rintro e w4 ⟨rfl, f4⟩
      go_wp2_with fail
      go_roundg (n - (k + 1))
      case rel => exact ⟨k + 1, hkn2.out, by go_num, by rw [← hcat.out], fr.seqN f4⟩
      case measure => exact hmeas.out
    · obtain rfl : k = n := by omega
      rw [hend.out]
      go_wp2_with fail
      go_ret
      exact ⟨rfl, fr⟩
theorem rints_new (xs : List Int) (g : Nat) (w : World) (hg : w.heap.size = g) (hx : ∀ x ∈ xs, -9223372036854775808 ≤ x ∧ x ≤ 9223372036854775807) (hl : xs.length ≤ 100) :
    Calls Tryz.prog 35 #[.slice (some ⟨g, 0, none⟩) xs.length xs.length] (w.alloc (.cells (xs.map (Value.int .i64)).toArray 3)) fun e w' => e = .returned (.string (strB (numsL xs))) ∧ Fr noB w w' := by
  subst hg
  have hb : Blk (w.alloc (.cells (xs.map (Value.int .i64)).toArray 3)) w.heap.size 3 (xs.map (Value.int .i64)) := Blk.new _ _ _
  refine (rints_any _ xs _ ⟨_, _, rfl, by omega, Nat.le_refl _, fun i hi => ⟨_, 0, rfl, ?_⟩⟩ hx hl).mono ?_
  · rw [hb.cell]; simp [List.getD, hi]
  · rintro e w' ⟨rfl, f⟩
    exact ⟨rfl, ((Fr.refl noB w).alloc _).seqN f⟩

set_option maxHeartbeats 2000000 in
theorem rprint_2 (t j : Int) (w : World) (ht : 0 ≤ t ∧ t ≤ 1073741824) (hj : 0 ≤ j ∧ j ≤ 1073741824) :
    Calls Tryz.prog 16 #[.agg #[.int .i64 2, .int .i64 0, .int .i64 t, .int .i64 j, .int .i64 0, .int .i64 0, .int .i64 0, .int .i64 0, .int .i64 0, .int .i64 0, .int .i64 0, .slice none 0 0, .bool false, .slice none 0 0, .slice none 0 0]] w fun e w' => e = .returned (.string (strB (Ms.body (.pin t j) ++ sums (checkL (Ms.body (.pin t j)))))) ∧ Fr noB w w' := by
  have fX := (Fr.refl noB w).alloc (.cells #[.int .i64 2, .int .i64 0, .int .i64 t, .int .i64 j, .int .i64 0, .int .i64 0, .int .i64 0, .int .i64 0, .int .i64 0, .int .i64 0, .int .i64 0, .slice none 0 0, .bool false, .slice none 0 0, .slice none 0 0] 35)
  have bX := Blk.new w 35 [.int .i64 2, .int .i64 0, .int .i64 t, .int .i64 j, .int .i64 0, .int .i64 0, .int .i64 0, .int .i64 0, .int .i64 0, .int .i64 0, .int .i64 0, .slice none 0 0, .bool false, .slice none 0 0, .slice none 0 0]
  obtain ⟨gx, hgx⟩ : ∃ g, w.heap.size = g := ⟨_, rfl⟩
  rw [hgx] at bX
  have hbe : Ms.body (.pin t j) = numL (2 : Int).toNat ++ numsL [t, j] := by
    show numsL [2] ++ numsL [t, j] = _
    rw [nums_cons, nums_nil, List.append_nil]
  have hbody : strB (numL (2 : Int).toNat) ++ strB (numsL [t, j]) = strB (Ms.body (.pin t j)) := by
    rw [strB_append, hbe]
  have hbl : (Ms.body (.pin t j)).length ≤ 1000 := by
    rw [hbe]
    have h1 := (num_len (2 : Int).toNat).2
    have h2 := nums_len [t, j]
    simp only [List.length_cons, List.length_nil] at h2
    rw [List.length_append]
    omega
  clear hbe
  have hl0 := (num_len (2 : Int).toNat).2
  have hl1 := nums_len [t, j]
  simp only [List.length_cons, List.length_nil] at hl1
  have ad1 := fun w => run_string_add_sum (P := Tryz.prog) (w := w) (strB (numL (2 : Int).toNat)) (strB (numsL [t, j])) (by rw [strB_size, strB_size]; omega)
  have hch := fun w => rcheck_any (strB (Ms.body (.pin t j))) w (by rw [strB_size]; unfold maxLen; omega)
  rw [strB_list] at hch
  have hbd := checkL_bd (Ms.body (.pin t j))
  have hls : (sums (checkL (Ms.body (.pin t j)))).length ≤ 56 := by
    unfold sums
    have h2 := nums_len [checkL (Ms.body (.pin t j)) / 65536, checkL (Ms.body (.pin t j)) % 65536]
    simp only [List.length_cons, List.length_nil] at h2
    omega
  have ad2 := fun w => run_string_add_sum (P := Tryz.prog) (w := w) (strB (Ms.body (.pin t j))) (strB (sums (checkL (Ms.body (.pin t j))))) (by rw [strB_size, strB_size]; omega)
  have hfin : strB (Ms.body (.pin t j)) ++ strB (sums (checkL (Ms.body (.pin t j)))) = strB (Ms.body (.pin t j) ++ sums (checkL (Ms.body (.pin t j)))) := strB_append _ _
  rw [← hfin]
  rw [hbody] at ad1
  have hri := fun w => refint_any 2 w (by omega) (by omega)
  unfold sums at *
  generalize checkL (Ms.body (.pin t j)) = ck at *
  generalize strB (Ms.body (.pin t j)) = BD at *
  generalize strB (numL (2 : Int).toNat) = N2 at *
  replace hri := Lib.hid hri
  replace hch := Lib.hid hch
  replace hbody := Lib.hid hbody
  clear hbl hl0 hl1 hls hfin
  obtain ⟨k0, k1⟩ := hbd
  have e0 : (w.alloc (.cells #[.int .i64 2, .int .i64 0, .int .i64 t, .int .i64 j, .int .i64 0, .int .i64 0, .int .i64 0, .int .i64 0, .int .i64 0, .int .i64 0, .int .i64 0, .slice none 0 0, .bool false, .slice none 0 0, .slice none 0 0] 35)).cell? ⟨gx, 0, none⟩ = some (.int .i64 2) := bX.cell 0
  go_enter Tryz.func16, Tryz.ntmps16
  go_wp2_with fail
  generalize (w.alloc (.cells #[.int .i64 2, .int .i64 0, .int .i64 t, .int .i64 j, .int .i64 0, .int .i64 0, .int .i64 0, .int .i64 0, .int .i64 0, .int .i64 0, .int .i64 0, .slice none 0 0, .bool false, .slice none 0 0, .slice none 0 0] 35)) = wx at *
  go_fit (hri.out _)
  rintro e w1 ⟨rfl, f1⟩
  have b1 := f1.blk bX (fun q => q)
  have d0 : w1.cell? ⟨gx, 0, none⟩ = some (.int .i64 2) := b1.cell 0
  have d2 : w1.cell? ⟨gx, 2, none⟩ = some (.int .i64 t) := b1.cell 2
  have d3 : w1.cell? ⟨gx, 3, none⟩ = some (.int .i64 j) := b1.cell 3
  have fr1 := fX.seqN f1
  obtain ⟨g1, hg1⟩ : ∃ g, w1.heap.size = g := ⟨_, rfl⟩
  clear fX f1 bX e0 b1
  go_wp2_with fail
  go_fit (rints_new [t, j] g1 w1 hg1 (by intro x hx; simp at hx; omega) (by simp))
  rintro e w2 ⟨rfl, f2⟩
  have fr2 := fr1.seqN f2
  clear f2 fr1 d0 d2 d3 hg1
  go_wp2_with fail
  go_fit (hch.out _)
  rintro e w3 ⟨rfl, hw3⟩
  obtain rfl := hw3.symm
  obtain ⟨g2, hg2⟩ : ∃ g, w2.heap.size = g := ⟨_, rfl⟩
  go_wp2_with fail
  go_fit (rints_new [ck / 65536, ck % 65536] g2 w2 hg2 (by intro x hx; simp at hx; omega) (by simp))
  rintro e w4 ⟨rfl, f4⟩
  go_wp2_with fail
  go_ret
  exact ⟨rfl, fr2.seqN f4⟩

def OFO (v : Value) : Prop := True
theorem of_none (w : World) : Calls Tryz.prog 29 #[.nilIface] w fun e w' => e = .returned (.tuple #[.int .i64 0, .int .i64 0, .bool false]) ∧ Fr noB w w' := by
  have q0 := as_nil_Trigger
  have q1 := as_nil_Pin
  have q2 := as_nil_Pinned
  have q3 := as_nil_Gone
  have q4 := as_nil_Collect
  have q5 := as_nil_Chunk
  have q6 := as_nil_Manifest
  have q7 := as_nil_Stored
  have q8 := as_nil_Unpin
  have q9 := as_nil_Unpinned
  have fY := (Fr.refl noB w).alloc (.cells #[.int .i64 0, .int .i64 0, .int .i64 0] 58)
  go_enter Tryz.func29, Tryz.ntmps29
  go_wp2_with fail
  first
    | (go_quiet (fail); go_wp2_with fail)
    | skip
  go_ret3
  first | exact ⟨rfl, Fr.refl _ _⟩ | exact ⟨rfl, fY⟩ | exact ⟨rfl, fY.drewN _⟩
theorem of_nil (w : World) : Calls Tryz.prog 13 #[.nilIface] w fun e w' => e = .returned (.tuple #[.int .i64 0, .int .i64 0, .bool false]) ∧ Fr noB w w' := by
  have h := of_none w
  replace h := Lib.hid h
  go_enter Tryz.func13, Tryz.ntmps13
  go_wp2_with fail
  refine h.out.mono ?_
  rintro e w1 ⟨rfl, f1⟩
  go_wp2_with fail
  go_ret3
  exact ⟨rfl, f1⟩
theorem sender_Gone (a t j : Int) (w : World) : Calls Tryz.prog 30 #[mGone a t j] w fun e w' => e = .returned (.tuple #[.int .i64 a, .bool true]) ∧ Fr noB w w' := by
  unfold mGone
  have q0 := as_Gone_Trigger
  have q2 := as_Gone_Pinned
  have q3 := as_Gone_Gone
  have fX := (Fr.refl noB w).alloc (.cells #[.int .i64 a, .int .i64 t, .int .i64 j] 60)
  go_enter Tryz.func30, Tryz.ntmps30
  go_wp2_with fail
  go_ret2
  first | exact ⟨rfl, fX⟩ | exact ⟨rfl, Fr.refl _ _⟩
theorem sender_Pin (t j : Int) (w : World) : Calls Tryz.prog 30 #[mPin t j] w fun e w' => e = .returned (.tuple #[.int .i64 0, .bool false]) ∧ Fr noB w w' := by
  unfold mPin
  have q0 := as_Pin_Trigger
  have q2 := as_Pin_Pinned
  have q3 := as_Pin_Gone
  have q4 := as_Pin_Chunk
  have q5 := as_Pin_Unpinned
  go_enter Tryz.func30, Tryz.ntmps30
  go_wp2_with fail
  go_ret2
  exact ⟨rfl, Fr.refl _ _⟩
theorem agent_of {m : Value} {a : Int} {b : Bool} {w : World} (h : Calls Tryz.prog 30 #[m] w fun e w' => e = .returned (.tuple #[.int .i64 a, .bool b]) ∧ Fr noB w w') :
    Calls Tryz.prog 14 #[m] w fun e w' => e = .returned (.tuple #[.int .i64 a, .bool b]) ∧ Fr noB w w' := by
  replace h := Lib.hid h
  go_enter Tryz.func14, Tryz.ntmps14
  go_wp2_with fail
  refine h.out.mono ?_
  rintro e w1 ⟨rfl, f1⟩
  go_wp2_with fail
  go_ret2
  exact ⟨rfl, f1⟩
theorem right_nil (w : World) : Calls Tryz.prog 9 #[.nilIface] w fun e w' => e = .returned (.bool false) ∧ Fr noB w w' := right_of ((mayBe_nil w).mono fun e w' ⟨h1, h2⟩ => ⟨h1, by rw [h2]; exact Fr.refl _ _⟩)
end Go.Proofs.YtbmafogjmdilkaaGreatDoor
