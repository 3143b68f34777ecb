/-
  The reference's ints, Print of a Pin; Of, Agent; stage 9's awake.
  A message as the document has it: spoorlaw09.Like by kind.
  How the law reads a message: a Pinned, and none.
  spoorlaw09.Like of a Manifest.
  msg: who sent it, of what it is, of any message.
  The reference's partText.
  The reference's Print of messages of numbers alone.
  The reference's Print of a Pinned, a Chunk, a Manifest.
  The reference's Print of a Manifest.
  Like, and the reference's Print, of any message.
  The law's samePart, Same: two alike.
-/
import Derived.Test.YtbmafogjmdilkaaGreatDoorMsRead5
import Derived.Test.YtbmafogjmdilkaaGreatDoorWireRef
import Derived.Test.YtbmafogjmdilkaaGreatDoorMsg
import Derived.Handy
import Derived.Test.YtbmafogjmdilkaaGreatDoorMsRead2
import Derived.Deep.RegionHeld3
import Derived.Test.YtbmafogjmdilkaaGreatDoorSpanRef
section
set_option linter.unusedVariables false
set_option linter.unusedSimpArgs false
set_option maxRecDepth 100000
set_option maxRecDepth 100000
namespace Go.Proofs.YtbmafogjmdilkaaGreatDoor
open Go.RowKit Go Go.Lib

set_option maxHeartbeats 1000000 in
theorem rints_any (v : Value) (xs : List Int) (w : World) (hv : RdI w v xs) (hx : ∀ x ∈ xs, -9223372036854775808 ≤ x ∧ x ≤ 9223372036854775807) (hl : xs.length ≤ 100) :
    Calls Tryz.prog 35 #[v] w fun e w' => e = .returned (.string (strB (numsL xs))) ∧ Fr noB w w' := by
  obtain ⟨a, c, rfl, h1, h2, h3⟩ := hv
  have hst := nums_take xs
  have h0 : numsL (xs.take 0) = [] := rfl
  have hend : numsL (xs.take xs.length) = numsL xs := by rw [List.take_length]
  have hnl : ∀ k, (numsL (xs.take k)).length ≤ 2800 := fun k => by
    have := nums_len (xs.take k)
    rw [List.length_take] at this
    omega
  have hb : ∀ k, k < xs.length → -9223372036854775808 ≤ xs.getD k 0 ∧ xs.getD k 0 ≤ 9223372036854775807 := fun k hk => hx _ (by
    rw [List.getD_eq_getElem?_getD, List.getElem?_eq_getElem hk]
    exact List.getElem_mem hk)
  generalize hn : xs.length = n at *
  replace h3 := Lib.hid h3
  replace hst := Lib.hid hst
  replace h0 := Lib.hid h0
  replace hend := Lib.hid hend
  replace hnl := Lib.hid hnl
  replace hb := Lib.hid hb
  replace hx := Lib.hid hx
  replace hn := Lib.hid hn
  go_enter Tryz.func35, Tryz.ntmps35
  go_wp2_with fail
  go_loopg [3, 4] n (fun gk vs vi w3 => ∃ k : Nat, k + gk = n ∧ vi = .int .i64 k ∧ vs = .string (strB (numsL (xs.take k))) ∧ Fr noB w w3)
  case atStart => exact ⟨0, by omega, rfl, by rw [h0.out]; rfl, Fr.refl _ _⟩
  case round =>
    obtain ⟨k, hkn, rfl, rfl, fr⟩ := hrel
    by_cases hlt : k < n
    · obtain ⟨g, o, rfl, hc⟩ := h3.out k hlt
      have c0 := fr.cell hc (fun q => q)
      have hst1 := hst.out k hlt
      have hb1 : (k : Int) < n := by omega
      have hmeas : n - (k + 1) < gk := by omega
      have hkn2 : k + 1 + (n - (k + 1)) = n := by omega
      obtain ⟨b1, b2⟩ := hb.out k hlt
      have hri := fun w => refint_any (xs.getD k 0) w b1 b2
      have hl1 := hnl.out (k + 1)
      rw [hst1, List.length_append] at hl1
      have ad1 := fun w => run_string_add_sum (P := Tryz.prog) (w := w) (strB (numsL (xs.take k))) (strB (numL (xs.getD k 0).toNat)) (by rw [strB_size, strB_size]; omega)
      have hcat : strB (numsL (xs.take k)) ++ strB (numL (xs.getD k 0).toNat) = strB (numsL (xs.take (k + 1))) := by rw [hst1, strB_append]
      have hsz : (strB (numsL (xs.take k))).size + (strB (numL (xs.getD k 0).toNat)).size ≤ 9223372036854775807 := by rw [strB_size, strB_size]; omega
      generalize xs.getD k 0 = x at *
      generalize strB (numL x.toNat) = X at *
      generalize strB (numsL (xs.take k)) = S at *
      replace hst1 := Lib.hid hst1
      replace hri := Lib.hid hri
      replace hcat := Lib.hid hcat
      replace hmeas := Lib.hid hmeas
      replace hkn2 := Lib.hid hkn2
      clear hl1 b1 b2
      go_wp2_with fail
      go_fit (hri.out _)
      rintro e w4 ⟨rfl, f4⟩
      go_wp2_with fail
      go_roundg (n - (k + 1))
      case rel => exact ⟨k + 1, hkn2.out, by go_num, by rw [← hcat.out], fr.seqN f4⟩
      case measure => exact hmeas.out
    · obtain rfl : k = n := by omega
      rw [hend.out]
      go_wp2_with fail
      go_ret
      exact ⟨rfl, fr⟩
theorem rints_new (xs : List Int) (g : Nat) (w : World) (hg : w.heap.size = g) (hx : ∀ x ∈ xs, -9223372036854775808 ≤ x ∧ x ≤ 9223372036854775807) (hl : xs.length ≤ 100) :
    Calls Tryz.prog 35 #[.slice (some ⟨g, 0, none⟩) xs.length xs.length] (w.alloc (.cells (xs.map (Value.int .i64)).toArray 3)) fun e w' => e = .returned (.string (strB (numsL xs))) ∧ Fr noB w w' := by
  subst hg
  have hb : Blk (w.alloc (.cells (xs.map (Value.int .i64)).toArray 3)) w.heap.size 3 (xs.map (Value.int .i64)) := Blk.new _ _ _
  refine (rints_any _ xs _ ⟨_, _, rfl, by omega, Nat.le_refl _, fun i hi => ⟨_, 0, rfl, ?_⟩⟩ hx hl).mono ?_
  · rw [hb.cell]; simp [List.getD, hi]
  · rintro e w' ⟨rfl, f⟩
    exact ⟨rfl, ((Fr.refl noB w).alloc _).seqN f⟩

set_option maxHeartbeats 2000000 in
theorem rprint_2 (t j : Int) (w : World) (ht : 0 ≤ t ∧ t ≤ 1073741824) (hj : 0 ≤ j ∧ j ≤ 1073741824) :
    Calls Tryz.prog 16 #[.agg #[.int .i64 2, .int .i64 0, .int .i64 t, .int .i64 j, .int .i64 0, .int .i64 0, .int .i64 0, .int .i64 0, .int .i64 0, .int .i64 0, .int .i64 0, .slice none 0 0, .bool false, .slice none 0 0, .slice none 0 0]] w fun e w' => e = .returned (.string (strB (Ms.body (.pin t j) ++ sums (checkL (Ms.body (.pin t j)))))) ∧ Fr noB w w' := by
  have fX := (Fr.refl noB w).alloc (.cells #[.int .i64 2, .int .i64 0, .int .i64 t, .int .i64 j, .int .i64 0, .int .i64 0, .int .i64 0, .int .i64 0, .int .i64 0, .int .i64 0, .int .i64 0, .slice none 0 0, .bool false, .slice none 0 0, .slice none 0 0] 35)
  have bX := Blk.new w 35 [.int .i64 2, .int .i64 0, .int .i64 t, .int .i64 j, .int .i64 0, .int .i64 0, .int .i64 0, .int .i64 0, .int .i64 0, .int .i64 0, .int .i64 0, .slice none 0 0, .bool false, .slice none 0 0, .slice none 0 0]
  obtain ⟨gx, hgx⟩ : ∃ g, w.heap.size = g := ⟨_, rfl⟩
  rw [hgx] at bX
  have hbe : Ms.body (.pin t j) = numL (2 : Int).toNat ++ numsL [t, j] := by
    show numsL [2] ++ numsL [t, j] = _
    rw [nums_cons, nums_nil, List.append_nil]
  have hbody : strB (numL (2 : Int).toNat) ++ strB (numsL [t, j]) = strB (Ms.body (.pin t j)) := by
    rw [strB_append, hbe]
  have hbl : (Ms.body (.pin t j)).length ≤ 1000 := by
    rw [hbe]
    have h1 := (num_len (2 : Int).toNat).2
    have h2 := nums_len [t, j]
    simp only [List.length_cons, List.length_nil] at h2
    rw [List.length_append]
    omega
  clear hbe
  have hl0 := (num_len (2 : Int).toNat).2
  have hl1 := nums_len [t, j]
  simp only [List.length_cons, List.length_nil] at hl1
  have ad1 := fun w => run_string_add_sum (P := Tryz.prog) (w := w) (strB (numL (2 : Int).toNat)) (strB (numsL [t, j])) (by rw [strB_size, strB_size]; omega)
  have hch := fun w => rcheck_any (strB (Ms.body (.pin t j))) w (by rw [strB_size]; unfold maxLen; omega)
  rw [strB_list] at hch
  have hbd := checkL_bd (Ms.body (.pin t j))
  have hls : (sums (checkL (Ms.body (.pin t j)))).length ≤ 56 := by
    unfold sums
    have h2 := nums_len [checkL (Ms.body (.pin t j)) / 65536, checkL (Ms.body (.pin t j)) % 65536]
    simp only [List.length_cons, List.length_nil] at h2
    omega
  have ad2 := fun w => run_string_add_sum (P := Tryz.prog) (w := w) (strB (Ms.body (.pin t j))) (strB (sums (checkL (Ms.body (.pin t j))))) (by rw [strB_size, strB_size]; omega)
  have hfin : strB (Ms.body (.pin t j)) ++ strB (sums (checkL (Ms.body (.pin t j)))) = strB (Ms.body (.pin t j) ++ sums (checkL (Ms.body (.pin t j)))) := strB_append _ _
  rw [← hfin]
  rw [hbody] at ad1
  have hri := fun w => refint_any 2 w (by omega) (by omega)
  unfold sums at *
  generalize checkL (Ms.body (.pin t j)) = ck at *
  generalize strB (Ms.body (.pin t j)) = BD at *
  generalize strB (numL (2 : Int).toNat) = N2 at *
  replace hri := Lib.hid hri
  replace hch := Lib.hid hch
  replace hbody := Lib.hid hbody
  clear hbl hl0 hl1 hls hfin
  obtain ⟨k0, k1⟩ := hbd
  have e0 : (w.alloc (.cells #[.int .i64 2, .int .i64 0, .int .i64 t, .int .i64 j, .int .i64 0, .int .i64 0, .int .i64 0, .int .i64 0, .int .i64 0, .int .i64 0, .int .i64 0, .slice none 0 0, .bool false, .slice none 0 0, .slice none 0 0] 35)).cell? ⟨gx, 0, none⟩ = some (.int .i64 2) := bX.cell 0
  go_enter Tryz.func16, Tryz.ntmps16
  go_wp2_with fail
  generalize (w.alloc (.cells #[.int .i64 2, .int .i64 0, .int .i64 t, .int .i64 j, .int .i64 0, .int .i64 0, .int .i64 0, .int .i64 0, .int .i64 0, .int .i64 0, .int .i64 0, .slice none 0 0, .bool false, .slice none 0 0, .slice none 0 0] 35)) = wx at *
  go_fit (hri.out _)
  rintro e w1 ⟨rfl, f1⟩
  have b1 := f1.blk bX (fun q => q)
  have d0 : w1.cell? ⟨gx, 0, none⟩ = some (.int .i64 2) := b1.cell 0
  have d2 : w1.cell? ⟨gx, 2, none⟩ = some (.int .i64 t) := b1.cell 2
  have d3 : w1.cell? ⟨gx, 3, none⟩ = some (.int .i64 j) := b1.cell 3
  have fr1 := fX.seqN f1
  obtain ⟨g1, hg1⟩ : ∃ g, w1.heap.size = g := ⟨_, rfl⟩
  clear fX f1 bX e0 b1
  go_wp2_with fail
  go_fit (rints_new [t, j] g1 w1 hg1 (by intro x hx; simp at hx; omega) (by simp))
  rintro e w2 ⟨rfl, f2⟩
  have fr2 := fr1.seqN f2
  clear f2 fr1 d0 d2 d3 hg1
  go_wp2_with fail
  go_fit (hch.out _)
  rintro e w3 ⟨rfl, hw3⟩
  obtain rfl := hw3.symm
  obtain ⟨g2, hg2⟩ : ∃ g, w2.heap.size = g := ⟨_, rfl⟩
  go_wp2_with fail
  go_fit (rints_new [ck / 65536, ck % 65536] g2 w2 hg2 (by intro x hx; simp at hx; omega) (by simp))
  rintro e w4 ⟨rfl, f4⟩
  go_wp2_with fail
  go_ret
  exact ⟨rfl, fr2.seqN f4⟩

def OFO (v : Value) : Prop := True
theorem of_none (w : World) : Calls Tryz.prog 29 #[.nilIface] w fun e w' => e = .returned (.tuple #[.int .i64 0, .int .i64 0, .bool false]) ∧ Fr noB w w' := by
  have q0 := as_nil_Trigger
  have q1 := as_nil_Pin
  have q2 := as_nil_Pinned
  have q3 := as_nil_Gone
  have q4 := as_nil_Collect
  have q5 := as_nil_Chunk
  have q6 := as_nil_Manifest
  have q7 := as_nil_Stored
  have q8 := as_nil_Unpin
  have q9 := as_nil_Unpinned
  have fY := (Fr.refl noB w).alloc (.cells #[.int .i64 0, .int .i64 0, .int .i64 0] 58)
  go_enter Tryz.func29, Tryz.ntmps29
  go_wp2_with fail
  first
    | (go_quiet (fail); go_wp2_with fail)
    | skip
  go_ret3
  first | exact ⟨rfl, Fr.refl _ _⟩ | exact ⟨rfl, fY⟩ | exact ⟨rfl, fY.drewN _⟩
theorem of_nil (w : World) : Calls Tryz.prog 13 #[.nilIface] w fun e w' => e = .returned (.tuple #[.int .i64 0, .int .i64 0, .bool false]) ∧ Fr noB w w' := by
  have h := of_none w
  replace h := Lib.hid h
  go_enter Tryz.func13, Tryz.ntmps13
  go_wp2_with fail
  refine h.out.mono ?_
  rintro e w1 ⟨rfl, f1⟩
  go_wp2_with fail
  go_ret3
  exact ⟨rfl, f1⟩
theorem sender_Gone (a t j : Int) (w : World) : Calls Tryz.prog 30 #[mGone a t j] w fun e w' => e = .returned (.tuple #[.int .i64 a, .bool true]) ∧ Fr noB w w' := by
  unfold mGone
  have q0 := as_Gone_Trigger
  have q2 := as_Gone_Pinned
  have q3 := as_Gone_Gone
  have fX := (Fr.refl noB w).alloc (.cells #[.int .i64 a, .int .i64 t, .int .i64 j] 60)
  go_enter Tryz.func30, Tryz.ntmps30
  go_wp2_with fail
  go_ret2
  first | exact ⟨rfl, fX⟩ | exact ⟨rfl, Fr.refl _ _⟩
theorem sender_Pin (t j : Int) (w : World) : Calls Tryz.prog 30 #[mPin t j] w fun e w' => e = .returned (.tuple #[.int .i64 0, .bool false]) ∧ Fr noB w w' := by
  unfold mPin
  have q0 := as_Pin_Trigger
  have q2 := as_Pin_Pinned
  have q3 := as_Pin_Gone
  have q4 := as_Pin_Chunk
  have q5 := as_Pin_Unpinned
  go_enter Tryz.func30, Tryz.ntmps30
  go_wp2_with fail
  go_ret2
  exact ⟨rfl, Fr.refl _ _⟩
theorem agent_of {m : Value} {a : Int} {b : Bool} {w : World} (h : Calls Tryz.prog 30 #[m] w fun e w' => e = .returned (.tuple #[.int .i64 a, .bool b]) ∧ Fr noB w w') :
    Calls Tryz.prog 14 #[m] w fun e w' => e = .returned (.tuple #[.int .i64 a, .bool b]) ∧ Fr noB w w' := by
  replace h := Lib.hid h
  go_enter Tryz.func14, Tryz.ntmps14
  go_wp2_with fail
  refine h.out.mono ?_
  rintro e w1 ⟨rfl, f1⟩
  go_wp2_with fail
  go_ret2
  exact ⟨rfl, f1⟩
theorem right_nil (w : World) : Calls Tryz.prog 9 #[.nilIface] w fun e w' => e = .returned (.bool false) ∧ Fr noB w w' := right_of ((mayBe_nil w).mono fun e w' ⟨h1, h2⟩ => ⟨h1, by rw [h2]; exact Fr.refl _ _⟩)
end Go.Proofs.YtbmafogjmdilkaaGreatDoor
end

section
set_option linter.unusedVariables false
set_option linter.unusedSimpArgs false
set_option maxRecDepth 100000
namespace Go.Proofs.YtbmafogjmdilkaaGreatDoor
open Go.RowKit Go Go.Lib

/-- a message's fields, of all kinds -/
structure MR where
  k : Int := 0
  a : Int := 0
  t : Int := 0
  j : Int := 0
  c : Int := 0
  i : Int := 0
  n : Int := 0
  pa : Int := 0
  pt : Int := 0
  pj : Int := 0
  pc : Int := 0
  ua : Option Addr := none
  un : Nat := 0
  uc : Nat := 0
  lo : Bool := false
  qa : Option Addr := none
  qn : Nat := 0
  qc : Nat := 0
  sa : Option Addr := none
  sn : Nat := 0
  sc : Nat := 0
def mrC (m : MR) : List Value := [.int .i64 m.k, .int .i64 m.a, .int .i64 m.t, .int .i64 m.j, .int .i64 m.c, .int .i64 m.i, .int .i64 m.n, .int .i64 m.pa, .int .i64 m.pt, .int .i64 m.pj, .int .i64 m.pc, .slice m.ua m.un m.uc, .bool m.lo, .slice m.qa m.qn m.qc, .slice m.sa m.sn m.sc]
def mrV (m : MR) : Value := .agg (mrC m).toArray

theorem part_any (a t j c : Int) (ua : Option Addr) (un uc : Nat) (lo : Bool) (w : World) :
    Calls Tryz.prog 25 #[.agg #[.int .i64 a, .int .i64 t, .int .i64 j, .int .i64 c, .slice ua un uc, .bool lo]] w fun e w' => e = .returned (.agg #[.int .i64 a, .int .i64 t, .int .i64 j, .int .i64 c, .slice ua un uc, .bool lo]) ∧ Fr noB w w' := by
  have fX := ((Fr.refl noB w).alloc (.cells #[.int .i64 a, .int .i64 t, .int .i64 j, .int .i64 c, .slice ua un uc, .bool lo] 63)).alloc (.cells #[.int .i64 a, .int .i64 t, .int .i64 j, .int .i64 c, .slice ua un uc, .bool lo] 32)
  go_enter Tryz.func25, Tryz.ntmps25
  go_wp2_with fail
  go_returns
  exact ⟨rfl, fX⟩
set_option maxHeartbeats 1000000 in
set_option maxRecDepth 10000 in
theorem like_Trigger (a t c : Int) (w : World) :
    Calls Tryz.prog 11 #[mTrigger a t c] w fun e w' => e = .returned (mrV { k := 1, a := a, t := t, c := c }) ∧ Fr noB w w' := by
  unfold mTrigger mrV mrC
  have fX := ((Fr.refl noB w).alloc (.cells (mrC { k := 1, a := a, t := t, c := c }).toArray 35)).alloc (.cells #[.int .i64 a, .int .i64 t, .int .i64 c] 58)
  unfold mrC at fX
  have q0 := as_Trigger_Trigger
  go_enter Tryz.func11, Tryz.ntmps11
  go_wp2_with fail
  go_returns
  exact ⟨rfl, fX⟩
set_option maxHeartbeats 1000000 in
set_option maxRecDepth 10000 in
theorem like_Pin (t j : Int) (w : World) :
    Calls Tryz.prog 11 #[mPin t j] w fun e w' => e = .returned (mrV { k := 2, t := t, j := j }) ∧ Fr noB w w' := by
  unfold mPin mrV mrC
  have fX := ((Fr.refl noB w).alloc (.cells (mrC { k := 2, t := t, j := j }).toArray 35)).alloc (.cells #[.int .i64 t, .int .i64 j] 56)
  unfold mrC at fX
  have q0 := as_Pin_Trigger
  have q1 := as_Pin_Pin
  go_enter Tryz.func11, Tryz.ntmps11
  go_wp2_with fail
  go_returns
  exact ⟨rfl, fX⟩
set_option maxHeartbeats 1000000 in
set_option maxRecDepth 10000 in
theorem like_Gone (a t j : Int) (w : World) :
    Calls Tryz.prog 11 #[mGone a t j] w fun e w' => e = .returned (mrV { k := 4, a := a, t := t, j := j }) ∧ Fr noB w w' := by
  unfold mGone mrV mrC
  have fX := ((Fr.refl noB w).alloc (.cells (mrC { k := 4, a := a, t := t, j := j }).toArray 35)).alloc (.cells #[.int .i64 a, .int .i64 t, .int .i64 j] 60)
  unfold mrC at fX
  have q0 := as_Gone_Trigger
  have q1 := as_Gone_Pin
  have q2 := as_Gone_Pinned
  have q3 := as_Gone_Gone
  go_enter Tryz.func11, Tryz.ntmps11
  go_wp2_with fail
  go_returns
  exact ⟨rfl, fX⟩
set_option maxHeartbeats 1000000 in
set_option maxRecDepth 10000 in
theorem like_Collect (t j : Int) (w : World) :
    Calls Tryz.prog 11 #[mCollect t j] w fun e w' => e = .returned (mrV { k := 5, t := t, j := j }) ∧ Fr noB w w' := by
  unfold mCollect mrV mrC
  have fX := ((Fr.refl noB w).alloc (.cells (mrC { k := 5, t := t, j := j }).toArray 35)).alloc (.cells #[.int .i64 t, .int .i64 j] 64)
  unfold mrC at fX
  have q0 := as_Collect_Trigger
  have q1 := as_Collect_Pin
  have q2 := as_Collect_Pinned
  have q3 := as_Collect_Gone
  have q4 := as_Collect_Collect
  go_enter Tryz.func11, Tryz.ntmps11
  go_wp2_with fail
  go_returns
  exact ⟨rfl, fX⟩
set_option maxHeartbeats 1000000 in
set_option maxRecDepth 10000 in
theorem like_Chunk (a t j i n : Int) (sa : Option Addr) (sn sc : Nat) (w : World) :
    Calls Tryz.prog 11 #[mChunk a t j i n (.slice sa sn sc)] w fun e w' => e = .returned (mrV { k := 6, a := a, t := t, j := j, i := i, n := n, sa := sa, sn := sn, sc := sc }) ∧ Fr noB w w' := by
  unfold mChunk mrV mrC
  have fX := ((Fr.refl noB w).alloc (.cells (mrC { k := 6, a := a, t := t, j := j, i := i, n := n, sa := sa, sn := sn, sc := sc }).toArray 35)).alloc (.cells #[.int .i64 a, .int .i64 t, .int .i64 j, .int .i64 i, .int .i64 n, .slice sa sn sc] 66)
  unfold mrC at fX
  have q0 := as_Chunk_Trigger
  have q1 := as_Chunk_Pin
  have q2 := as_Chunk_Pinned
  have q3 := as_Chunk_Gone
  have q4 := as_Chunk_Collect
  have q5 := as_Chunk_Chunk
  go_enter Tryz.func11, Tryz.ntmps11
  go_wp2_with fail
  go_returns
  exact ⟨rfl, fX⟩
set_option maxHeartbeats 1000000 in
set_option maxRecDepth 10000 in
theorem like_Stored (t j : Int) (w : World) :
    Calls Tryz.prog 11 #[mStored t j] w fun e w' => e = .returned (mrV { k := 8, t := t, j := j }) ∧ Fr noB w w' := by
  unfold mStored mrV mrC
  have fX := ((Fr.refl noB w).alloc (.cells (mrC { k := 8, t := t, j := j }).toArray 35)).alloc (.cells #[.int .i64 t, .int .i64 j] 70)
  unfold mrC at fX
  have q0 := as_Stored_Trigger
  have q1 := as_Stored_Pin
  have q2 := as_Stored_Pinned
  have q3 := as_Stored_Gone
  have q4 := as_Stored_Collect
  have q5 := as_Stored_Chunk
  have q6 := as_Stored_Manifest
  have q7 := as_Stored_Stored
  go_enter Tryz.func11, Tryz.ntmps11
  go_wp2_with fail
  go_returns
  exact ⟨rfl, fX⟩
set_option maxHeartbeats 1000000 in
set_option maxRecDepth 10000 in
theorem like_Unpin (t j : Int) (w : World) :
    Calls Tryz.prog 11 #[mUnpin t j] w fun e w' => e = .returned (mrV { k := 9, t := t, j := j }) ∧ Fr noB w w' := by
  unfold mUnpin mrV mrC
  have fX := ((Fr.refl noB w).alloc (.cells (mrC { k := 9, t := t, j := j }).toArray 35)).alloc (.cells #[.int .i64 t, .int .i64 j] 71)
  unfold mrC at fX
  have q0 := as_Unpin_Trigger
  have q1 := as_Unpin_Pin
  have q2 := as_Unpin_Pinned
  have q3 := as_Unpin_Gone
  have q4 := as_Unpin_Collect
  have q5 := as_Unpin_Chunk
  have q6 := as_Unpin_Manifest
  have q7 := as_Unpin_Stored
  have q8 := as_Unpin_Unpin
  go_enter Tryz.func11, Tryz.ntmps11
  go_wp2_with fail
  go_returns
  exact ⟨rfl, fX⟩
set_option maxHeartbeats 1000000 in
set_option maxRecDepth 10000 in
theorem like_Unpinned (a t j : Int) (w : World) :
    Calls Tryz.prog 11 #[mUnpinned a t j] w fun e w' => e = .returned (mrV { k := 10, a := a, t := t, j := j }) ∧ Fr noB w w' := by
  unfold mUnpinned mrV mrC
  have fX := ((Fr.refl noB w).alloc (.cells (mrC { k := 10, a := a, t := t, j := j }).toArray 35)).alloc (.cells #[.int .i64 a, .int .i64 t, .int .i64 j] 72)
  unfold mrC at fX
  have q0 := as_Unpinned_Trigger
  have q1 := as_Unpinned_Pin
  have q2 := as_Unpinned_Pinned
  have q3 := as_Unpinned_Gone
  have q4 := as_Unpinned_Collect
  have q5 := as_Unpinned_Chunk
  have q6 := as_Unpinned_Manifest
  have q7 := as_Unpinned_Stored
  have q8 := as_Unpinned_Unpin
  have q9 := as_Unpinned_Unpinned
  go_enter Tryz.func11, Tryz.ntmps11
  go_wp2_with fail
  go_returns
  exact ⟨rfl, fX⟩
end Go.Proofs.YtbmafogjmdilkaaGreatDoor
end

section
set_option linter.unusedVariables false
set_option linter.unusedSimpArgs false
set_option maxRecDepth 100000
namespace Go.Proofs.YtbmafogjmdilkaaGreatDoor
open Go.RowKit Go Go.Lib

def pnArr (a t j c : Int) (v : Value) (lo : Bool) : Array Value := #[.int .i64 a, .int .i64 t, .int .i64 j, .int .i64 c, v, .bool lo]
theorem part_is (a t j c : Int) (ua : Option Addr) (un uc : Nat) (lo : Bool) (w : World) :
    Calls Tryz.prog 25 #[.agg #[.int .i64 a, .int .i64 t, .int .i64 j, .int .i64 c, .slice ua un uc, .bool lo]] w fun e w' => e = .returned (.agg #[.int .i64 a, .int .i64 t, .int .i64 j, .int .i64 c, .slice ua un uc, .bool lo]) ∧ w' = (w.alloc (.cells #[.int .i64 a, .int .i64 t, .int .i64 j, .int .i64 c, .slice ua un uc, .bool lo] 63)).alloc (.cells #[.int .i64 a, .int .i64 t, .int .i64 j, .int .i64 c, .slice ua un uc, .bool lo] 32) := by
  go_enter Tryz.func25, Tryz.ntmps25
  go_wp2_with fail
  go_returns
  exact ⟨rfl, rfl⟩
set_option maxHeartbeats 1000000 in
set_option maxRecDepth 10000 in
theorem like_Pinned (a t j c : Int) (ua : Option Addr) (un uc : Nat) (lo : Bool) (w : World) :
    Calls Tryz.prog 11 #[mPinned a t j c (.slice ua un uc) lo] w fun e w' => e = .returned (mrV { k := 3, pa := a, pt := t, pj := j, pc := c, ua := ua, un := un, uc := uc, lo := lo }) ∧ Fr noB w w' := by
  unfold mPinned mrV mrC
  have fX := ((((Fr.refl noB w).alloc (.cells (mrC { k := 3, pa := a, pt := t, pj := j, pc := c, ua := ua, un := un, uc := uc, lo := lo }).toArray 35)).alloc (.cells #[.int .i64 a, .int .i64 t, .int .i64 j, .int .i64 c, .slice ua un uc, .bool lo] 63)).alloc (.cells #[.int .i64 a, .int .i64 t, .int .i64 j, .int .i64 c, .slice ua un uc, .bool lo] 63)).alloc (.cells #[.int .i64 a, .int .i64 t, .int .i64 j, .int .i64 c, .slice ua un uc, .bool lo] 32)
  unfold mrC at fX
  have q0 := as_Pinned_Trigger
  have q1 := as_Pinned_Pin
  have q2 := as_Pinned_Pinned
  have k := part_is a t j c ua un uc lo
  go_enter Tryz.func11, Tryz.ntmps11
  go_wp2_with fail
  refine (k _).mono ?_
  rintro e w1 ⟨rfl, rfl⟩
  clear k
  go_wp2_with fail
  go_returns
  exact ⟨rfl, fX⟩
end Go.Proofs.YtbmafogjmdilkaaGreatDoor
end

section
set_option linter.unusedVariables false
set_option linter.unusedSimpArgs false
set_option maxRecDepth 100000
set_option maxRecDepth 100000
namespace Go.Proofs.YtbmafogjmdilkaaGreatDoor
open Go.RowKit Go Go.Lib

/-- a whole block is written over -/
theorem setCells_blk : ∀ (vs : List Value) (w : World) (g i : Nat) (t : TypeId) (cs : List Value), Blk w g t cs → i + vs.length ≤ cs.length → Blk (w.setCells g i vs) g t (cs.take i ++ vs ++ cs.drop (i + vs.length))
  | [], w, g, i, t, cs, h, _ => by simpa [World.setCells] using h
  | v :: vs, w, g, i, t, cs, h, hl => by
    simp only [World.setCells]
    rw [List.length_cons] at hl
    have h1 := setCells_blk vs (w.setCell ⟨g, i, none⟩ v) g (i + 1) t (cs.set i v) (h.set i v) (by rw [List.length_set]; omega)
    have e : (cs.set i v).take (i + 1) ++ vs ++ (cs.set i v).drop (i + 1 + vs.length) = cs.take i ++ (v :: vs) ++ cs.drop (i + (v :: vs).length) := by
      rw [List.take_add_one, List.take_set_of_le (Nat.le_refl _), List.getElem?_set_self (by omega), List.drop_set_of_lt (by omega), List.length_cons, show i + (vs.length + 1) = i + 1 + vs.length by omega]
      simp
    rw [e] at h1
    exact h1
theorem setCells_fr : ∀ (vs : List Value) (w : World) (g i : Nat), Fr (onlyB g) w (w.setCells g i vs)
  | [], w, g, i => by simpa [World.setCells] using Fr.refl _ _
  | v :: vs, w, g, i => by
    simp only [World.setCells]
    exact (((Fr.refl (onlyB g) w).store rfl)).trans (setCells_fr vs _ g (i + 1)) (fun _ _ q => q) (fun _ _ q => q)
theorem store_all (w : World) (g : Nat) (vs : Array Value) : ∃ w2, w2 = w.setCells g 0 vs.toList ∧ Fr (onlyB g) w w2 ∧ ∀ t cs, Blk w g t cs → cs.length = vs.size → Blk w2 g t vs.toList :=
  ⟨_, rfl, setCells_fr _ _ _ _, fun t cs h hl => by
    have h1 := setCells_blk vs.toList w g 0 t cs h (by simp [hl])
    have e : cs.take 0 ++ vs.toList ++ cs.drop (0 + vs.toList.length) = vs.toList := by
      rw [List.take_zero, List.nil_append, List.drop_eq_nil_of_le (by simp [hl]), List.append_nil]
    rw [e] at h1
    exact h1⟩
theorem RdPs.of_rd {w : World} {B n : Nat} {e : TypeId} {v : Value} {P : List PU} {ps : List Pn} (h : w.ownsRow B e 6 v n (P.flatMap PU.cs)) (ho : ∀ q ∈ P, RdI w q.v q.p.cr) (hp : P.map PU.p = ps) (hn : P.length = n) (hb : n ≤ 1000000) : RdPs w v ps := by
  have hl : ps.length = n := by rw [← hp, List.length_map]; exact hn
  rcases h.2 with ⟨rfl, h1⟩ | ⟨g, cap, cur, rfl, hb, hg, hnc, hcm, hcs, htake⟩
  · refine ⟨none, 0, by rw [hl, h1], by omega, by omega, fun i p hi => ?_⟩
    rw [List.eq_nil_of_length_eq_zero (by omega : ps.length = 0)] at hi
    simp at hi
  · refine ⟨_, cap, by rw [hl], by omega, by omega, fun i p hi => ?_⟩
    rw [← hp, List.getElem?_map] at hi
    cases hq : P[i]? with
    | none => rw [hq] at hi; cases hi
    | some u =>
      rw [hq] at hi
      simp at hi
      subst hi
      refine ⟨g, 0, u.a, u.c, rfl, fun q x hx => ?_, ho u (List.mem_of_getElem? hq)⟩
      have hq6 : q < 6 := (List.getElem?_eq_some_iff.1 hx).1
      have h2 := PU.get P i q u hq hq6
      have h3 := h.cells (g := g) rfl (i * 6 + q) x (by rw [h2]; exact hx)
      rw [add_none] at h3
      exact h3
theorem Tryz.infoPart : (Tryz.prog.info? 32).map (fun i => (i.zero, i.size, i.bytes)) = some (some (.agg #[.int .i64 0, .int .i64 0, .int .i64 0, .int .i64 0, .slice none 0 0, .bool false]), 6, 64) := by kernel_rfl
theorem size_msg : (Tryz.prog.info? 35).map (·.size) = some 15 := by kernel_rfl
theorem mr_one (m : MR) : ((mrC m).toArray).all (·.oneCell') = true :=
  all_oneCell_toArray (cs := mrC m) (fun v hv => by
    unfold mrC at hv
    simp only [List.mem_cons, List.not_mem_nil, or_false] at hv
    rcases hv with rfl | rfl | rfl | rfl | rfl | rfl | rfl | rfl | rfl | rfl | rfl | rfl | rfl | rfl | rfl <;> rfl)

theorem part_fr (a t j n : Int) (ua : Option Addr) (un uc : Nat) (lo : Bool) (w : World) :
    Calls Tryz.prog 25 #[.agg #[.int .i64 a, .int .i64 t, .int .i64 j, .int .i64 n, .slice ua un uc, .bool lo]] w fun e w' => e = .returned (.agg #[.int .i64 a, .int .i64 t, .int .i64 j, .int .i64 n, .slice ua un uc, .bool lo]) ∧ Fr noB w w' := by
  refine (part_is a t j n ua un uc lo w).mono ?_
  rintro e w' ⟨rfl, rfl⟩
  exact ⟨rfl, by first | exact (((Fr.refl _ _).alloc _).alloc _) | exact (Fr.refl _ _).alloc _⟩
set_option maxHeartbeats 2000000 in
theorem like_Manifest (t j c : Int) (v : Value) (ps : List Pn) (w : World) (hv : RdPs w v ps) (hl : ps.length ≤ 100) :
    Calls Tryz.prog 11 #[mManifest t j c v] w fun e w' => ∃ a cc, e = .returned (mrV { k := 7, t := t, j := j, c := c, qa := a, qn := ps.length, qc := cc }) ∧ RdPs w' (.slice a ps.length cc) ps ∧ Fr noB w w' := by
  obtain ⟨i0, hi, hz0, hz1, hz2⟩ := info_parts Tryz.infoPart
  have hget : ∀ k, k < ps.length → ∃ m, ps[k]? = some m := fun k hk => ⟨ps[k], List.getElem?_eq_getElem hk⟩
  have hv0 := hv
  obtain ⟨sa, sc, rfl, hx1, hx2, hx3⟩ := hv
  obtain ⟨N, hN⟩ : ∃ N, ps.length = N := ⟨_, rfl⟩
  obtain ⟨B, hB⟩ : ∃ B, w.heap.size = B := ⟨_, rfl⟩
  rw [hN] at hget hx1 hx2 hl ⊢
  unfold mManifest
  have b0 := Blk.new w 35 (mrC {})
  have f0 : Fr noB w (w.alloc (.cells (mrC {}).toArray 35)) := (Fr.refl _ w).alloc _
  have hs1 : (w.alloc (.cells (mrC {}).toArray 35)).heap.size = B + 1 := by rw [size_alloc, hB]
  rw [hB] at b0
  unfold mrC at b0 f0 hs1
  have q0 := as_Manifest_Trigger
  have q1 := as_Manifest_Pin
  have q2 := as_Manifest_Pinned
  have q3 := as_Manifest_Gone
  have q4 := as_Manifest_Collect
  have q5 := as_Manifest_Chunk
  have q6 := as_Manifest_Manifest
  have hpart := fun (p : Pn) ua cl uc w' => part_fr p.a p.t p.j p.n ua cl uc p.lo w'
  replace hpart := Lib.hid hpart
  go_enter Tryz.func11, Tryz.ntmps11
  go_wp2_with fail
  generalize (w.alloc (.cells #[.int .i64 0, .int .i64 0, .int .i64 0, .int .i64 0, .int .i64 0, .int .i64 0, .int .i64 0, .int .i64 0, .int .i64 0, .int .i64 0, .int .i64 0, .slice none 0 0, .bool false, .slice none 0 0, .slice none 0 0] 35)) = w1 at *
  have bm := Blk.new w1 69 [.int .i64 t, .int .i64 j, .int .i64 c, .slice sa N sc]
  have f1 : Fr noB w1 (w1.alloc (.cells #[.int .i64 t, .int .i64 j, .int .i64 c, .slice sa N sc] 69)) := (Fr.refl _ _).alloc _
  have hs2 : (w1.alloc (.cells #[.int .i64 t, .int .i64 j, .int .i64 c, .slice sa N sc] 69)).heap.size = B + 2 := by rw [size_alloc, hs1]
  rw [hs1] at bm
  have b02 := f1.blk b0 (fun q => q)
  generalize (w1.alloc (.cells #[.int .i64 t, .int .i64 j, .int .i64 c, .slice sa N sc] 69)) = w2 at *
  have own3 := own_new w2 32 [] 6 0 rfl (Nat.zero_le _)
  have f3 : Fr noB w2 (w2.alloc (.cells #[] 32)) := (Fr.refl _ _).alloc _
  have b03 := f3.blk b02 (fun q => q)
  have bm3 := f3.blk bm (fun q => q)
  rw [hs2] at own3
  have fr3 := (f0.seqN f1).seqN f3
  have own3b := ownsRow_mono own3 (show B ≤ B + 2 by omega)
  replace hv0 := Lib.hid hv0
  replace hx3 := Lib.hid hx3
  replace hget := Lib.hid hget
  replace hN := Lib.hid hN
  clear b0 f0 b02 bm f1 f3 own3 q0 q1 q2 q3 q4 q5 q6
  go_loopg [10, 82] N (fun gk vl vi wr => ∃ (k : Nat) (P : List PU), k + gk = N ∧ vi = .int .i64 k ∧ Hid (P.map PU.p = ps.take k) ∧ Hid (P.length = k) ∧ Hid (∀ q ∈ P, RdI w q.v q.p.cr) ∧ Hid (wr.ownsRow B 32 6 vl k (P.flatMap PU.cs)) ∧ Hid (Blk wr B 35 [.int .i64 0, .int .i64 0, .int .i64 0, .int .i64 0, .int .i64 0, .int .i64 0, .int .i64 0, .int .i64 0, .int .i64 0, .int .i64 0, .int .i64 0, .slice none 0 0, .bool false, .slice none 0 0, .slice none 0 0]) ∧ Hid (Blk wr (B + 1) 69 [.int .i64 t, .int .i64 j, .int .i64 c, .slice sa N sc]) ∧ Fr noB w wr)
  case atStart => exact ⟨0, [], by omega, by first | rfl | trivial, Lib.hid rfl, Lib.hid rfl, Lib.hid (fun q hq => by simp at hq), Lib.hid own3b, Lib.hid b03, Lib.hid bm3, fr3⟩
  case round =>
    clear own3b b03 bm3 fr3 hs1 hs2
    obtain ⟨k, P, hkn, rfl, hPf, hPl, hPr, hown, hb0, hbm, fr⟩ := hrel
    by_cases hlt : k < N
    · obtain ⟨p, hs⟩ := hget.out k hlt
      obtain ⟨g', o, ua, uc, rfl, hc, hri2⟩ := hx3.out k p hs
      have c0 : wr.cell? ⟨g', o + k * 6, none⟩ = some (.int .i64 p.a) := fr.cell (hc 0 _ rfl) (fun q => q)
      have c1 : wr.cell? ⟨g', o + k * 6 + 1, none⟩ = some (.int .i64 p.t) := fr.cell (hc 1 _ rfl) (fun q => q)
      have c2 : wr.cell? ⟨g', o + k * 6 + 2, none⟩ = some (.int .i64 p.j) := fr.cell (hc 2 _ rfl) (fun q => q)
      have c3 : wr.cell? ⟨g', o + k * 6 + 3, none⟩ = some (.int .i64 p.n) := fr.cell (hc 3 _ rfl) (fun q => q)
      have c4 : wr.cell? ⟨g', o + k * 6 + 4, none⟩ = some (.slice ua p.cr.length uc) := fr.cell (hc 4 _ rfl) (fun q => q)
      have c5 : wr.cell? ⟨g', o + k * 6 + 5, none⟩ = some (.bool p.lo) := fr.cell (hc 5 _ rfl) (fun q => q)
      have hb1 : (k : Int) < N := by omega
      have hmeas : N - (k + 1) < gk := by omega
      have hkn2 : k + 1 + (N - (k + 1)) = N := by omega
      have hk1 : k ≤ 100 := by omega
      have hBr : B ≤ wr.heap.size := by have := fr.size; omega
      obtain ⟨cl, hcl⟩ : ∃ cl, p.cr.length = cl := ⟨_, rfl⟩
      have hpu : PU.cs (PU.mk p ua uc) = [.int .i64 p.a, .int .i64 p.t, .int .i64 p.j, .int .i64 p.n, .slice ua p.cr.length uc, .bool p.lo] := rfl
      have hri3 : RdI w (PU.v (PU.mk p ua uc)) p.cr := hri2
      rw [hcl] at c4 hpu
      have fA : Fr noB wr (wr.alloc (.cells #[.int .i64 p.a, .int .i64 p.t, .int .i64 p.j, .int .i64 p.n, .slice ua cl uc, .bool p.lo] 63)) := (Fr.refl _ _).alloc _
      have hpp := hpart.out p ua cl uc (wr.alloc (.cells #[.int .i64 p.a, .int .i64 p.t, .int .i64 p.j, .int .i64 p.n, .slice ua cl uc, .bool p.lo] 63))
      replace hpp := Lib.hid hpp
      replace hri3 := Lib.hid hri3
      replace hpu := Lib.hid hpu
      replace hs := Lib.hid hs
      replace hcl := Lib.hid hcl
      replace hmeas := Lib.hid hmeas
      replace hkn2 := Lib.hid hkn2
      clear hc hri2 hkn hlt
      go_wp2_with fail
      go_fit hpp.out
      rintro e w4 ⟨rfl, f4⟩
      have f5 : Fr noB w4 (w4.alloc (.cells #[.int .i64 p.a, .int .i64 p.t, .int .i64 p.j, .int .i64 p.n, .slice ua cl uc, .bool p.lo] 32)) := (Fr.refl _ _).alloc _
      have f45 := (fA.seqN f4).seqN f5
      have ow5 := ownsRow_fr hown.out f45 (fun _ _ q => q)
      have b05 := f45.blk hb0.out (fun q => q)
      have bm5 := f45.blk hbm.out (fun q => q)
      have hB5 : B ≤ (w4.alloc (.cells #[.int .i64 p.a, .int .i64 p.t, .int .i64 p.j, .int .i64 p.n, .slice ua cl uc, .bool p.lo] 32)).heap.size := by have := f45.size; omega
      have b6 := news_at w4 32 [.int .i64 p.a, .int .i64 p.t, .int .i64 p.j, .int .i64 p.n, .slice ua cl uc, .bool p.lo]
      replace b05 := Lib.hid b05
      replace bm5 := Lib.hid bm5
      clear hpp fA f4 f5
      go_wp2_with (first
        | (at_builtin; go_must (refine wpList_append_at _ rfl (.tmp 86) (.tmp 89) 33 rfl B 32 i0 _ 6 64 Tryz.underlying33 hi hz0 hz1 hz2 rfl (by decide) _ k _ rfl ow5 ⟨w4.heap.size, 0, none⟩ 1 1 [.int .i64 p.a, .int .i64 p.t, .int .i64 p.j, .int .i64 p.n, .slice ua cl uc, .bool p.lo] rfl rfl b6 (by intro u hu; simp only [List.mem_cons, List.not_mem_nil, or_false] at hu; rcases hu with rfl | rfl | rfl | rfl | rfl | rfl <;> rfl) ?_ ?_ hB5 ?_))
        | fail)
      · unfold maxLen; omega
      · omega
      intro v8 w8 o8 gr8 _
      have f8 : Fr (rowB u10) (w4.alloc (.cells #[.int .i64 p.a, .int .i64 p.t, .int .i64 p.j, .int .i64 p.n, .slice ua cl uc, .bool p.lo] 32)) w8 := (Fr.refl _ _).grown gr8 (fun k hk _ => hk)
      have b08 := f8.blk b05.out (row_not ow5 b05.out (by decide))
      have bm8 := f8.blk bm5.out (row_not ow5 bm5.out (by decide))
      have fr8 : Fr noB w w8 := (fr.seqN f45).trans f8 (fun _ _ q => q) (fun i hi q => by have := (hown.out.lt i q).1; omega)
      rw [show P.flatMap PU.cs ++ [.int .i64 p.a, .int .i64 p.t, .int .i64 p.j, .int .i64 p.n, .slice ua cl uc, .bool p.lo] = (P ++ [PU.mk p ua uc]).flatMap PU.cs by rw [List.flatMap_append, ← hpu.out]; simp] at o8
      have hPf2 : (P ++ [PU.mk p ua uc]).map PU.p = ps.take (k + 1) := by rw [List.map_append, hPf.out, List.take_add_one, hs.out]; rfl
      have hPl2 : (P ++ [PU.mk p ua uc]).length = k + 1 := by rw [List.length_append, hPl.out]; rfl
      have hPr2 : ∀ q ∈ P ++ [PU.mk p ua uc], RdI w q.v q.p.cr := fun q hq => by
        rcases List.mem_append.1 hq with hq | hq
        · exact hPr.out q hq
        · simp at hq; subst hq; exact hri3.out
      replace o8 := Lib.hid o8
      replace b08 := Lib.hid b08
      replace bm8 := Lib.hid bm8
      replace hPf2 := Lib.hid hPf2
      replace hPl2 := Lib.hid hPl2
      replace hPr2 := Lib.hid hPr2
      clear gr8 f8 f45 ow5 b05 bm5 b6 hB5
      go_wp2_with fail
      go_roundg (N - (k + 1))
      case rel => exact ⟨k + 1, P ++ [PU.mk p ua uc], hkn2.out, by go_num, hPf2, hPl2, hPr2, o8, b08, bm8, fr8⟩
      case measure => exact hmeas.out
    · obtain rfl : k = N := by omega
      obtain ⟨qa, qc, rfl⟩ := ownsRow_slice hown.out
      have d0 : wr.cell? ⟨B + 1, 0, none⟩ = some (.int .i64 t) := hbm.out.cell 0
      have d1 : wr.cell? ⟨B + 1, 1, none⟩ = some (.int .i64 j) := hbm.out.cell 1
      have d2 : wr.cell? ⟨B + 1, 2, none⟩ = some (.int .i64 c) := hbm.out.cell 2
      have t1a : Hid (wr.there B 0 (#[.int .i64 7, .int .i64 0, .int .i64 t, .int .i64 j, .int .i64 c, .int .i64 0, .int .i64 0, .int .i64 0, .int .i64 0, .int .i64 0, .int .i64 0, .slice none 0 0, .bool false, .slice qa k qc, .slice none 0 0] : Array Value).size) := Lib.hid (there6m hb0.out (by simp))
      have hsz : (Tryz.prog.info? 35).map (·.size) = some (#[.int .i64 7, .int .i64 0, .int .i64 t, .int .i64 j, .int .i64 c, .int .i64 0, .int .i64 0, .int .i64 0, .int .i64 0, .int .i64 0, .int .i64 0, .slice none 0 0, .bool false, .slice qa k qc, .slice none 0 0] : Array Value).size := size_msg
      have hon : (#[.int .i64 7, .int .i64 0, .int .i64 t, .int .i64 j, .int .i64 c, .int .i64 0, .int .i64 0, .int .i64 0, .int .i64 0, .int .i64 0, .int .i64 0, .slice none 0 0, .bool false, .slice qa k qc, .slice none 0 0] : Array Value).all (·.oneCell') = true := mr_one { k := 7, t := t, j := j, c := c, qa := qa, qn := k, qc := qc }
      have hfull : ps.take k = ps := by rw [← hN.out, List.take_length]
      have hbl0 := hb0
      replace hsz := Lib.hid hsz
      replace hon := Lib.hid hon
      replace hfull := Lib.hid hfull
      go_wp2_with (first
        | (refine wpList_store_mid rfl 35 (.tmp 2) (.tmp 99) rfl B 0 #[.int .i64 7, .int .i64 0, .int .i64 t, .int .i64 j, .int .i64 c, .int .i64 0, .int .i64 0, .int .i64 0, .int .i64 0, .int .i64 0, .int .i64 0, .slice none 0 0, .bool false, .slice qa k qc, .slice none 0 0] rfl rfl t1a.out hsz.out hon.out ?_; obtain ⟨w10, hw10, f10, h10⟩ := store_all wr B #[.int .i64 7, .int .i64 0, .int .i64 t, .int .i64 j, .int .i64 c, .int .i64 0, .int .i64 0, .int .i64 0, .int .i64 0, .int .i64 0, .int .i64 0, .slice none 0 0, .bool false, .slice qa k qc, .slice none 0 0]; rw [← hw10]; clear hw10; have h10 := h10 _ _ hb0.out rfl; have f10 := Lib.hid f10)
        | fail)
      have r0 : w10.cell? ⟨B, 0, none⟩ = some (.int .i64 7) := h10.cell 0
      have r1 : w10.cell? ⟨B, 1, none⟩ = some (.int .i64 0) := h10.cell 1
      have r2 : w10.cell? ⟨B, 2, none⟩ = some (.int .i64 t) := h10.cell 2
      have r3 : w10.cell? ⟨B, 3, none⟩ = some (.int .i64 j) := h10.cell 3
      have r4 : w10.cell? ⟨B, 4, none⟩ = some (.int .i64 c) := h10.cell 4
      have r5 : w10.cell? ⟨B, 5, none⟩ = some (.int .i64 0) := h10.cell 5
      have r6 : w10.cell? ⟨B, 6, none⟩ = some (.int .i64 0) := h10.cell 6
      have r7 : w10.cell? ⟨B, 7, none⟩ = some (.int .i64 0) := h10.cell 7
      have r8 : w10.cell? ⟨B, 8, none⟩ = some (.int .i64 0) := h10.cell 8
      have r9 : w10.cell? ⟨B, 9, none⟩ = some (.int .i64 0) := h10.cell 9
      have r10 : w10.cell? ⟨B, 10, none⟩ = some (.int .i64 0) := h10.cell 10
      have r11 : w10.cell? ⟨B, 11, none⟩ = some (.slice none 0 0) := h10.cell 11
      have r12 : w10.cell? ⟨B, 12, none⟩ = some (.bool false) := h10.cell 12
      have r13 : w10.cell? ⟨B, 13, none⟩ = some (.slice qa k qc) := h10.cell 13
      have r14 : w10.cell? ⟨B, 14, none⟩ = some (.slice none 0 0) := h10.cell 14
      have frA : Fr noB w w10 := fr.trans f10.out (fun _ _ q => q) (fun i hi q => by unfold onlyB at q; omega)
      have owA := ownsRow_fr hown.out f10.out (fun g hg q => by
        unfold onlyB at q
        subst q
        exact row_not hown.out hb0.out (by decide) hg)
      have hrp : RdPs w10 (.slice qa k qc) ps := RdPs.of_rd owA (fun q hq => (hPr.out q hq).frN frA) (by rw [hPf.out, hfull.out]) hPl.out (by omega)
      clear h10 f10 t1a hsz hon d0 d1 d2 owA
      replace hrp := Lib.hid hrp
      try go_wp2_with fail
      refine bodyPost_ret (by simp [results, Tryz.results11, go_sem, r0, r1, r2, r3, r4, r5, r6, r7, r8, r9, r10, r11, r12, r13, r14]; try rfl) rfl ?_
      exact ⟨qa, qc, rfl, hrp.out, frA⟩
end Go.Proofs.YtbmafogjmdilkaaGreatDoor
end

section
set_option linter.unusedVariables false
set_option linter.unusedSimpArgs false
set_option maxRecDepth 100000
set_option maxRecDepth 100000
namespace Go.Proofs.YtbmafogjmdilkaaGreatDoor
open Go.RowKit Go Go.Lib

theorem sentBy_Trigger (a t c : Int) (w : World) : Calls Tryz.prog 30 #[mTrigger a t c] w fun e w' => e = .returned (.tuple #[.int .i64 a, .bool true]) ∧ Fr noB w w' := by
  unfold mTrigger
  have q0 := as_Trigger_Trigger
  have fX := (Fr.refl noB w).alloc (.cells #[.int .i64 a, .int .i64 t, .int .i64 c] 58)
  go_enter Tryz.func30, Tryz.ntmps30
  go_wp2_with fail
  go_ret2
  first | exact ⟨rfl, fX⟩ | exact ⟨rfl, Fr.refl _ _⟩
theorem sentBy_Pin (t j : Int) (w : World) : Calls Tryz.prog 30 #[mPin t j] w fun e w' => e = .returned (.tuple #[.int .i64 0, .bool false]) ∧ Fr noB w w' := by
  unfold mPin
  have q0 := as_Pin_Trigger
  have q1 := as_Pin_Pinned
  have q2 := as_Pin_Gone
  have q3 := as_Pin_Chunk
  have q4 := as_Pin_Unpinned
  go_enter Tryz.func30, Tryz.ntmps30
  go_wp2_with fail
  go_ret2
  exact ⟨rfl, Fr.refl _ _⟩
theorem sentBy_Pinned (a t j n : Int) (sa : Option Addr) (sn sc : Nat) (l : Bool) (w : World) : Calls Tryz.prog 30 #[mPinned a t j n (.slice sa sn sc) l] w fun e w' => e = .returned (.tuple #[.int .i64 a, .bool true]) ∧ Fr noB w w' := by
  unfold mPinned
  have q0 := as_Pinned_Trigger
  have q1 := as_Pinned_Pinned
  have fX := (Fr.refl noB w).alloc (.cells #[.int .i64 a, .int .i64 t, .int .i64 j, .int .i64 n, .slice sa sn sc, .bool l] 63)
  go_enter Tryz.func30, Tryz.ntmps30
  go_wp2_with fail
  go_ret2
  first | exact ⟨rfl, fX⟩ | exact ⟨rfl, Fr.refl _ _⟩
theorem sentBy_Gone (a t j : Int) (w : World) : Calls Tryz.prog 30 #[mGone a t j] w fun e w' => e = .returned (.tuple #[.int .i64 a, .bool true]) ∧ Fr noB w w' := by
  unfold mGone
  have q0 := as_Gone_Trigger
  have q1 := as_Gone_Pinned
  have q2 := as_Gone_Gone
  have fX := (Fr.refl noB w).alloc (.cells #[.int .i64 a, .int .i64 t, .int .i64 j] 60)
  go_enter Tryz.func30, Tryz.ntmps30
  go_wp2_with fail
  go_ret2
  first | exact ⟨rfl, fX⟩ | exact ⟨rfl, Fr.refl _ _⟩
theorem sentBy_Collect (t j : Int) (w : World) : Calls Tryz.prog 30 #[mCollect t j] w fun e w' => e = .returned (.tuple #[.int .i64 0, .bool false]) ∧ Fr noB w w' := by
  unfold mCollect
  have q0 := as_Collect_Trigger
  have q1 := as_Collect_Pinned
  have q2 := as_Collect_Gone
  have q3 := as_Collect_Chunk
  have q4 := as_Collect_Unpinned
  go_enter Tryz.func30, Tryz.ntmps30
  go_wp2_with fail
  go_ret2
  exact ⟨rfl, Fr.refl _ _⟩
theorem sentBy_Chunk (a t j i n : Int) (sa : Option Addr) (sn sc : Nat) (w : World) : Calls Tryz.prog 30 #[mChunk a t j i n (.slice sa sn sc)] w fun e w' => e = .returned (.tuple #[.int .i64 a, .bool true]) ∧ Fr noB w w' := by
  unfold mChunk
  have q0 := as_Chunk_Trigger
  have q1 := as_Chunk_Pinned
  have q2 := as_Chunk_Gone
  have q3 := as_Chunk_Chunk
  have fX := (Fr.refl noB w).alloc (.cells #[.int .i64 a, .int .i64 t, .int .i64 j, .int .i64 i, .int .i64 n, .slice sa sn sc] 66)
  go_enter Tryz.func30, Tryz.ntmps30
  go_wp2_with fail
  go_ret2
  first | exact ⟨rfl, fX⟩ | exact ⟨rfl, Fr.refl _ _⟩
theorem sentBy_Manifest (t j c : Int) (sa : Option Addr) (sn sc : Nat) (w : World) : Calls Tryz.prog 30 #[mManifest t j c (.slice sa sn sc)] w fun e w' => e = .returned (.tuple #[.int .i64 0, .bool false]) ∧ Fr noB w w' := by
  unfold mManifest
  have q0 := as_Manifest_Trigger
  have q1 := as_Manifest_Pinned
  have q2 := as_Manifest_Gone
  have q3 := as_Manifest_Chunk
  have q4 := as_Manifest_Unpinned
  go_enter Tryz.func30, Tryz.ntmps30
  go_wp2_with fail
  go_ret2
  exact ⟨rfl, Fr.refl _ _⟩
theorem sentBy_Stored (t j : Int) (w : World) : Calls Tryz.prog 30 #[mStored t j] w fun e w' => e = .returned (.tuple #[.int .i64 0, .bool false]) ∧ Fr noB w w' := by
  unfold mStored
  have q0 := as_Stored_Trigger
  have q1 := as_Stored_Pinned
  have q2 := as_Stored_Gone
  have q3 := as_Stored_Chunk
  have q4 := as_Stored_Unpinned
  go_enter Tryz.func30, Tryz.ntmps30
  go_wp2_with fail
  go_ret2
  exact ⟨rfl, Fr.refl _ _⟩
theorem sentBy_Unpin (t j : Int) (w : World) : Calls Tryz.prog 30 #[mUnpin t j] w fun e w' => e = .returned (.tuple #[.int .i64 0, .bool false]) ∧ Fr noB w w' := by
  unfold mUnpin
  have q0 := as_Unpin_Trigger
  have q1 := as_Unpin_Pinned
  have q2 := as_Unpin_Gone
  have q3 := as_Unpin_Chunk
  have q4 := as_Unpin_Unpinned
  go_enter Tryz.func30, Tryz.ntmps30
  go_wp2_with fail
  go_ret2
  exact ⟨rfl, Fr.refl _ _⟩
theorem sentBy_Unpinned (a t j : Int) (w : World) : Calls Tryz.prog 30 #[mUnpinned a t j] w fun e w' => e = .returned (.tuple #[.int .i64 a, .bool true]) ∧ Fr noB w w' := by
  unfold mUnpinned
  have q0 := as_Unpinned_Trigger
  have q1 := as_Unpinned_Pinned
  have q2 := as_Unpinned_Gone
  have q3 := as_Unpinned_Chunk
  have q4 := as_Unpinned_Unpinned
  have fX := (Fr.refl noB w).alloc (.cells #[.int .i64 a, .int .i64 t, .int .i64 j] 72)
  go_enter Tryz.func30, Tryz.ntmps30
  go_wp2_with fail
  go_ret2
  first | exact ⟨rfl, fX⟩ | exact ⟨rfl, Fr.refl _ _⟩
/-- who sent it -/
def Ms.who : Ms → Int × Bool
  | .trigger a _ _ => (a, true)
  | .pinned p => (p.a, true)
  | .gone a _ _ => (a, true)
  | .chunk a _ _ _ _ _ => (a, true)
  | .unpinned a _ _ => (a, true)
  | _ => (0, false)
/-- of which trace and job it is -/
def Ms.tj : Ms → Int × Int
  | .trigger _ t _ => (t, 0)
  | .pin t j => (t, j)
  | .pinned p => (p.t, p.j)
  | .gone _ t j => (t, j)
  | .collect t j => (t, j)
  | .chunk _ t j _ _ _ => (t, j)
  | .manifest t j _ _ => (t, j)
  | .stored t j => (t, j)
  | .unpin t j => (t, j)
  | .unpinned _ t j => (t, j)
theorem agent_ms (v : Value) (m : Ms) (w : World) (h : MsW w v m) : Calls Tryz.prog 14 #[v] w fun e w' => e = .returned (.tuple #[.int .i64 m.who.1, .bool m.who.2]) ∧ Fr noB w w' := by
  cases m with
  | trigger a t c => obtain rfl := h; exact agent_of (sentBy_Trigger a t c w)
  | pin t j => obtain rfl := h; exact agent_of (sentBy_Pin t j w)
  | pinned p => obtain ⟨u, rfl, h1⟩ := h; obtain ⟨ua, uc, rfl, _⟩ := h1; exact agent_of (sentBy_Pinned p.a p.t p.j p.n ua _ uc p.lo w)
  | gone a t j => obtain rfl := h; exact agent_of (sentBy_Gone a t j w)
  | collect t j => obtain rfl := h; exact agent_of (sentBy_Collect t j w)
  | chunk a t j i n sp => obtain ⟨u, rfl, h1⟩ := h; obtain ⟨ua, uc, rfl, _⟩ := h1; exact agent_of (sentBy_Chunk a t j i n ua _ uc w)
  | manifest t j c ps => obtain ⟨u, rfl, h1⟩ := h; obtain ⟨ua, uc, rfl, _⟩ := h1; exact agent_of (sentBy_Manifest t j c ua _ uc w)
  | stored t j => obtain rfl := h; exact agent_of (sentBy_Stored t j w)
  | unpin t j => obtain rfl := h; exact agent_of (sentBy_Unpin t j w)
  | unpinned a t j => obtain rfl := h; exact agent_of (sentBy_Unpinned a t j w)
theorem of_ms (v : Value) (m : Ms) (w : World) (h : MsW w v m) : Calls Tryz.prog 13 #[v] w fun e w' => e = .returned (.tuple #[.int .i64 m.tj.1, .int .i64 m.tj.2, .bool true]) ∧ Fr noB w w' := by
  cases m with
  | trigger a t c => obtain rfl := h; exact of_of (v := .nilIface) (of_Trigger a t c w)
  | pin t j => obtain rfl := h; exact of_of (v := .nilIface) (of_Pin t j w)
  | pinned p => obtain ⟨u, rfl, h1⟩ := h; obtain ⟨ua, uc, rfl, _⟩ := h1; exact of_of (v := .nilIface) (of_Pinned p.a p.t p.j p.n ua _ uc p.lo w)
  | gone a t j => obtain rfl := h; exact of_of (v := .nilIface) (of_Gone a t j w)
  | collect t j => obtain rfl := h; exact of_of (v := .nilIface) (of_Collect t j w)
  | chunk a t j i n sp => obtain ⟨u, rfl, h1⟩ := h; obtain ⟨ua, uc, rfl, _⟩ := h1; exact of_of (v := .nilIface) (of_Chunk a t j i n ua _ uc w)
  | manifest t j c ps => obtain ⟨u, rfl, h1⟩ := h; obtain ⟨ua, uc, rfl, _⟩ := h1; exact of_of (v := .nilIface) (of_Manifest t j c ua _ uc w)
  | stored t j => obtain rfl := h; exact of_of (v := .nilIface) (of_Stored t j w)
  | unpin t j => obtain rfl := h; exact of_of (v := .nilIface) (of_Unpin t j w)
  | unpinned a t j => obtain rfl := h; exact of_of (v := .nilIface) (of_Unpinned a t j w)
end Go.Proofs.YtbmafogjmdilkaaGreatDoor
end

section
set_option linter.unusedVariables false
set_option linter.unusedSimpArgs false
set_option maxRecDepth 100000
set_option maxRecDepth 100000
namespace Go.Proofs.YtbmafogjmdilkaaGreatDoor
open Go.RowKit Go Go.Lib

theorem rints_drew (xs : List Int) (w : World) (hx : ∀ x ∈ xs, -9223372036854775808 ≤ x ∧ x ≤ 9223372036854775807) (hl : xs.length ≤ 100) :
    Calls Tryz.prog 35 #[.slice (some ⟨w.heap.size, 0, none⟩) xs.length xs.length] (w.alloc (.cells (xs.map (Value.int .i64)).toArray 3)).drew fun e w' => e = .returned (.string (strB (numsL xs))) ∧ Fr noB w w' := by
  have hb : Blk (w.alloc (.cells (xs.map (Value.int .i64)).toArray 3)) w.heap.size 3 (xs.map (Value.int .i64)) := Blk.new _ _ _
  have hb2 := hb.drew
  refine (rints_any _ xs _ ⟨_, _, rfl, by omega, Nat.le_refl _, fun i hi => ⟨_, 0, rfl, ?_⟩⟩ hx hl).mono ?_
  · rw [hb2.cell]; simp [List.getD, hi]
  · rintro e w' ⟨rfl, f⟩
    exact ⟨rfl, (((Fr.refl noB w).alloc _).drew).seqN f⟩

set_option maxHeartbeats 2000000 in
theorem rpart_text (p : Pn) (u : Value) (w : World) (hp : PnOk p) (hu : RdI w u p.cr) :
    Calls Tryz.prog 36 #[.agg #[.int .i64 p.a, .int .i64 p.t, .int .i64 p.j, .int .i64 p.n, u, .bool p.lo]] w fun e w' => e = .returned (.string (strB (pinT p))) ∧ Fr noB w w' := by
  have hu0 := hu
  obtain ⟨ua, uc, rfl, _⟩ := hu
  obtain ⟨cl, hcl⟩ : ∃ cl, p.cr.length = cl := ⟨_, rfl⟩
  have hl4 := hp.l
  have hx5 : ∀ x ∈ [p.a, p.t, p.j, p.n, (p.cr.length : Int)], -9223372036854775808 ≤ x ∧ x ≤ 9223372036854775807 := by
    intro x hq
    have := hp.a; have := hp.t; have := hp.j; have := hp.n
    simp only [List.mem_cons, List.not_mem_nil, or_false] at hq
    rcases hq with q | q | q | q | q <;> omega
  have hxc : ∀ x ∈ p.cr, -9223372036854775808 ≤ x ∧ x ≤ 9223372036854775807 := fun x hx => by have := hp.c x hx; omega
  have hpe : strB (numsL [p.a, p.t, p.j, p.n, (p.cr.length : Int)]) ++ strB (numsL p.cr) ++ strB (numL (boolI p.lo).toNat) = strB (pinT p) := by
    rw [strB_append, strB_append]
    congr 1
    unfold pinT
    simp only [nums_cons, nums_nil, List.append_nil]
  have l1 := nums_len [p.a, p.t, p.j, p.n, (p.cr.length : Int)]
  have l2 := nums_len p.cr
  have l3 := (num_len (boolI p.lo).toNat).2
  simp only [List.length_cons, List.length_nil] at l1
  have ad1 := fun w => run_string_add_sum (P := Tryz.prog) (w := w) (strB (numsL [p.a, p.t, p.j, p.n, (p.cr.length : Int)])) (strB (numsL p.cr)) (by rw [strB_size, strB_size]; omega)
  have ad2 := fun w => run_string_add_sum (P := Tryz.prog) (w := w) (strB (numsL [p.a, p.t, p.j, p.n, (p.cr.length : Int)]) ++ strB (numsL p.cr)) (strB (numL (boolI p.lo).toNat)) (by rw [ByteArray.size_append, strB_size, strB_size, strB_size]; omega)
  have hb := bool01 p.lo
  have hri := fun w => refint_any (boolI p.lo) w (by omega) (by omega)
  have hr5 := fun w => rints_drew [p.a, p.t, p.j, p.n, (p.cr.length : Int)] w hx5 (by simp)
  have hrc := fun w' (f : Fr noB w w') => rints_any _ p.cr w' (hu0.frN f) hxc (by omega)
  rw [hcl] at hx5 hpe ad1 ad2 hr5 hrc ⊢
  have fX := (Fr.refl noB w).alloc (.cells #[.int .i64 p.a, .int .i64 p.t, .int .i64 p.j, .int .i64 p.n, .slice ua cl uc, .bool p.lo] 32)
  have bX := Blk.new w 32 [.int .i64 p.a, .int .i64 p.t, .int .i64 p.j, .int .i64 p.n, .slice ua cl uc, .bool p.lo]
  obtain ⟨gx, hgx⟩ : ∃ g, w.heap.size = g := ⟨_, rfl⟩
  rw [hgx] at bX
  generalize strB (numsL [p.a, p.t, p.j, p.n, (cl : Int)]) = S1 at *
  generalize strB (numsL p.cr) = S2 at *
  generalize strB (numL (boolI p.lo).toNat) = S3 at *
  replace hri := Lib.hid hri
  replace hr5 := Lib.hid hr5
  replace hrc := Lib.hid hrc
  replace hpe := Lib.hid hpe
  replace hp := Lib.hid hp
  replace hu0 := Lib.hid hu0
  replace hx5 := Lib.hid hx5
  replace hxc := Lib.hid hxc
  replace hcl := Lib.hid hcl
  clear l1 l2 l3 hl4
  have e5 : (w.alloc (.cells #[.int .i64 p.a, .int .i64 p.t, .int .i64 p.j, .int .i64 p.n, .slice ua cl uc, .bool p.lo] 32)).cell? ⟨gx, 5, none⟩ = some (.bool p.lo) := bX.cell 5
  cases hlo : p.lo with
  | false =>
    rw [hlo] at e5 fX bX hri hb
    simp only [boolI] at hri
    go_enter Tryz.func36, Tryz.ntmps36
    go_wp2_with fail
    generalize hWX : (w.alloc (.cells #[.int .i64 p.a, .int .i64 p.t, .int .i64 p.j, .int .i64 p.n, .slice ua cl uc, .bool false] 32)) = wx at *
    have hS : ∀ w', Fr noB wx w' → (w'.cell? ⟨gx, 0, none⟩ = some (.int .i64 p.a) ∧ w'.cell? ⟨gx, 1, none⟩ = some (.int .i64 p.t) ∧ w'.cell? ⟨gx, 2, none⟩ = some (.int .i64 p.j) ∧ w'.cell? ⟨gx, 3, none⟩ = some (.int .i64 p.n) ∧ w'.cell? ⟨gx, 4, none⟩ = some (.slice ua cl uc)) := fun w' f => by
      have b := f.blk bX (fun q => q)
      exact ⟨b.cell 0, b.cell 1, b.cell 2, b.cell 3, b.cell 4⟩
    replace hS := Lib.hid hS
    clear e5 hb hWX bX
    have fq := (Fr.refl noB wx).drewN 1
    go_region_held3 (fun w' => w'.cell? ⟨gx, 0, none⟩ = some (.int .i64 p.a) ∧ w'.cell? ⟨gx, 1, none⟩ = some (.int .i64 p.t) ∧ w'.cell? ⟨gx, 2, none⟩ = some (.int .i64 p.j) ∧ w'.cell? ⟨gx, 3, none⟩ = some (.int .i64 p.n) ∧ w'.cell? ⟨gx, 4, none⟩ = some (.slice ua cl uc))
      (first | exact hS.out _ fq | exact hS.out _ (fq.alloc _) | exact hS.out _ ((Fr.refl noB _).drewN 1) | exact hS.out _ (((Fr.refl noB _).drewN 1).alloc _) | exact hS.out _ (((Fr.refl noB _).alloc _).drew) | fail)
      (first
       | (go_at_call 35; have qq := tok1; clear qq; refine (hrc.out _ (fX.seqN fq)).mono ?_; rintro e w5 ⟨rfl, f5⟩; have fq := fq.seqN f5)
       | (go_at_call 35; refine (hr5.out _).mono ?_; rintro e w5 ⟨rfl, fq⟩; have tok1 : True := trivial)
       | (go_at_call 19; refine (hri.out _).mono ?_; rintro e w5 ⟨rfl, f5⟩; have fq := fq.seqN f5)
       | fail)
    all_goals (
      go_wp2_with fail
      go_ret
      exact ⟨ret_str (by rw [hpe.out]), fX.seqN fq⟩)
  | true =>
    rw [hlo] at e5 fX bX hri hb
    simp only [boolI] at hri
    go_enter Tryz.func36, Tryz.ntmps36
    go_wp2_with fail
    generalize hWX : (w.alloc (.cells #[.int .i64 p.a, .int .i64 p.t, .int .i64 p.j, .int .i64 p.n, .slice ua cl uc, .bool true] 32)) = wx at *
    have hS : ∀ w', Fr noB wx w' → (w'.cell? ⟨gx, 0, none⟩ = some (.int .i64 p.a) ∧ w'.cell? ⟨gx, 1, none⟩ = some (.int .i64 p.t) ∧ w'.cell? ⟨gx, 2, none⟩ = some (.int .i64 p.j) ∧ w'.cell? ⟨gx, 3, none⟩ = some (.int .i64 p.n) ∧ w'.cell? ⟨gx, 4, none⟩ = some (.slice ua cl uc)) := fun w' f => by
      have b := f.blk bX (fun q => q)
      exact ⟨b.cell 0, b.cell 1, b.cell 2, b.cell 3, b.cell 4⟩
    replace hS := Lib.hid hS
    clear e5 hb hWX bX
    have fq := (Fr.refl noB wx).drewN 1
    go_region_held3 (fun w' => w'.cell? ⟨gx, 0, none⟩ = some (.int .i64 p.a) ∧ w'.cell? ⟨gx, 1, none⟩ = some (.int .i64 p.t) ∧ w'.cell? ⟨gx, 2, none⟩ = some (.int .i64 p.j) ∧ w'.cell? ⟨gx, 3, none⟩ = some (.int .i64 p.n) ∧ w'.cell? ⟨gx, 4, none⟩ = some (.slice ua cl uc))
      (first | exact hS.out _ fq | exact hS.out _ (fq.alloc _) | exact hS.out _ ((Fr.refl noB _).drewN 1) | exact hS.out _ (((Fr.refl noB _).drewN 1).alloc _) | exact hS.out _ (((Fr.refl noB _).alloc _).drew) | fail)
      (first
       | (go_at_call 35; have qq := tok1; clear qq; refine (hrc.out _ (fX.seqN fq)).mono ?_; rintro e w5 ⟨rfl, f5⟩; have fq := fq.seqN f5)
       | (go_at_call 35; refine (hr5.out _).mono ?_; rintro e w5 ⟨rfl, fq⟩; have tok1 : True := trivial)
       | (go_at_call 19; refine (hri.out _).mono ?_; rintro e w5 ⟨rfl, f5⟩; have fq := fq.seqN f5)
       | fail)
    all_goals (
      go_wp2_with fail
      go_ret
      exact ⟨ret_str (by rw [hpe.out]), fX.seqN fq⟩)
end Go.Proofs.YtbmafogjmdilkaaGreatDoor
end

section
set_option linter.unusedVariables false
set_option linter.unusedSimpArgs false
set_option maxRecDepth 100000
set_option maxRecDepth 100000
namespace Go.Proofs.YtbmafogjmdilkaaGreatDoor
open Go.RowKit Go Go.Lib


set_option maxHeartbeats 2000000 in
theorem rprint_Trigger (a t c : Int) (w : World) (hok : Ms.ok (.trigger a t c) = true) (hx : ∀ x ∈ [a, t, c], -9223372036854775808 ≤ x ∧ x ≤ 9223372036854775807) :
    Calls Tryz.prog 16 #[mrV { k := 1, a := a, t := t, c := c }] w fun e w' => e = .returned (.string (strB (Ms.txt (.trigger a t c)))) ∧ Fr noB w w' := by
  have htx : Ms.txt (.trigger a t c) = Ms.body (.trigger a t c) ++ sums (checkL (Ms.body (.trigger a t c))) := by
    unfold Ms.txt
    rw [hok]
    rfl
  rw [htx]
  unfold mrV mrC
  have fX := (Fr.refl noB w).alloc (.cells #[.int .i64 1, .int .i64 a, .int .i64 t, .int .i64 0, .int .i64 c, .int .i64 0, .int .i64 0, .int .i64 0, .int .i64 0, .int .i64 0, .int .i64 0, .slice none 0 0, .bool false, .slice none 0 0, .slice none 0 0] 35)
  have bX := Blk.new w 35 [.int .i64 1, .int .i64 a, .int .i64 t, .int .i64 0, .int .i64 c, .int .i64 0, .int .i64 0, .int .i64 0, .int .i64 0, .int .i64 0, .int .i64 0, .slice none 0 0, .bool false, .slice none 0 0, .slice none 0 0]
  obtain ⟨gx, hgx⟩ : ∃ g, w.heap.size = g := ⟨_, rfl⟩
  rw [hgx] at bX
  have hbe : Ms.body (.trigger a t c) = numL (1 : Int).toNat ++ numsL [a, t, c] := by
    show numsL [1] ++ numsL [a, t, c] = _
    rw [nums_cons, nums_nil, List.append_nil]
  have hbody : strB (numL (1 : Int).toNat) ++ strB (numsL [a, t, c]) = strB (Ms.body (.trigger a t c)) := by
    rw [strB_append, hbe]
  have hbl : (Ms.body (.trigger a t c)).length ≤ 1000 := by
    rw [hbe]
    have h1 := (num_len (1 : Int).toNat).2
    have h2 := nums_len [a, t, c]
    simp only [List.length_cons, List.length_nil] at h2
    rw [List.length_append]
    omega
  clear hbe htx
  have hl0 := (num_len (1 : Int).toNat).2
  have hl1 := nums_len [a, t, c]
  simp only [List.length_cons, List.length_nil] at hl1
  have ad1 := fun w => run_string_add_sum (P := Tryz.prog) (w := w) (strB (numL (1 : Int).toNat)) (strB (numsL [a, t, c])) (by rw [strB_size, strB_size]; omega)
  have hch := fun w => rcheck_any (strB (Ms.body (.trigger a t c))) w (by rw [strB_size]; unfold maxLen; omega)
  rw [strB_list] at hch
  have hbd := checkL_bd (Ms.body (.trigger a t c))
  have hls : (sums (checkL (Ms.body (.trigger a t c)))).length ≤ 56 := by
    unfold sums
    have h2 := nums_len [checkL (Ms.body (.trigger a t c)) / 65536, checkL (Ms.body (.trigger a t c)) % 65536]
    simp only [List.length_cons, List.length_nil] at h2
    omega
  have ad2 := fun w => run_string_add_sum (P := Tryz.prog) (w := w) (strB (Ms.body (.trigger a t c))) (strB (sums (checkL (Ms.body (.trigger a t c))))) (by rw [strB_size, strB_size]; omega)
  have hfin : strB (Ms.body (.trigger a t c)) ++ strB (sums (checkL (Ms.body (.trigger a t c)))) = strB (Ms.body (.trigger a t c) ++ sums (checkL (Ms.body (.trigger a t c)))) := strB_append _ _
  rw [← hfin]
  rw [hbody] at ad1
  have hri := fun w => refint_any 1 w (by omega) (by omega)
  unfold sums at *
  generalize checkL (Ms.body (.trigger a t c)) = ck at *
  generalize strB (Ms.body (.trigger a t c)) = BD at *
  generalize strB (numL (1 : Int).toNat) = N2 at *
  replace hri := Lib.hid hri
  replace hch := Lib.hid hch
  replace hbody := Lib.hid hbody
  clear hbl hl0 hl1 hls hfin hok
  obtain ⟨k0, k1⟩ := hbd
  have e0 : (w.alloc (.cells #[.int .i64 1, .int .i64 a, .int .i64 t, .int .i64 0, .int .i64 c, .int .i64 0, .int .i64 0, .int .i64 0, .int .i64 0, .int .i64 0, .int .i64 0, .slice none 0 0, .bool false, .slice none 0 0, .slice none 0 0] 35)).cell? ⟨gx, 0, none⟩ = some (.int .i64 1) := bX.cell 0
  go_enter Tryz.func16, Tryz.ntmps16
  go_wp2_with fail
  generalize (w.alloc (.cells #[.int .i64 1, .int .i64 a, .int .i64 t, .int .i64 0, .int .i64 c, .int .i64 0, .int .i64 0, .int .i64 0, .int .i64 0, .int .i64 0, .int .i64 0, .slice none 0 0, .bool false, .slice none 0 0, .slice none 0 0] 35)) = wx at *
  go_fit (hri.out _)
  rintro e w1 ⟨rfl, f1⟩
  have b1 := f1.blk bX (fun q => q)
  have d0 : w1.cell? ⟨gx, 0, none⟩ = some (.int .i64 1) := b1.cell 0
  have d_a : w1.cell? ⟨gx, 1, none⟩ = some (.int .i64 a) := b1.cell 1
  have d_t : w1.cell? ⟨gx, 2, none⟩ = some (.int .i64 t) := b1.cell 2
  have d_c : w1.cell? ⟨gx, 4, none⟩ = some (.int .i64 c) := b1.cell 4
  have fr1 := fX.seqN f1
  obtain ⟨g1, hg1⟩ : ∃ g, w1.heap.size = g := ⟨_, rfl⟩
  clear fX f1 bX e0 b1
  go_wp2_with fail
  go_fit (rints_new [a, t, c] g1 w1 hg1 hx (by simp))
  rintro e w2 ⟨rfl, f2⟩
  have fr2 := fr1.seqN f2
  clear f2 fr1 d0 d_a d_t d_c hg1
  go_wp2_with fail
  go_fit (hch.out _)
  rintro e w3 ⟨rfl, hw3⟩
  obtain rfl := hw3.symm
  obtain ⟨g2, hg2⟩ : ∃ g, w2.heap.size = g := ⟨_, rfl⟩
  go_wp2_with fail
  go_fit (rints_new [ck / 65536, ck % 65536] g2 w2 hg2 (by intro x hx; simp at hx; omega) (by simp))
  rintro e w4 ⟨rfl, f4⟩
  go_wp2_with fail
  go_ret
  exact ⟨rfl, fr2.seqN f4⟩

set_option maxHeartbeats 2000000 in
theorem rprint_Pin (t j : Int) (w : World) (hok : Ms.ok (.pin t j) = true) (hx : ∀ x ∈ [t, j], -9223372036854775808 ≤ x ∧ x ≤ 9223372036854775807) :
    Calls Tryz.prog 16 #[mrV { k := 2, t := t, j := j }] w fun e w' => e = .returned (.string (strB (Ms.txt (.pin t j)))) ∧ Fr noB w w' := by
  have htx : Ms.txt (.pin t j) = Ms.body (.pin t j) ++ sums (checkL (Ms.body (.pin t j))) := by
    unfold Ms.txt
    rw [hok]
    rfl
  rw [htx]
  unfold mrV mrC
  have fX := (Fr.refl noB w).alloc (.cells #[.int .i64 2, .int .i64 0, .int .i64 t, .int .i64 j, .int .i64 0, .int .i64 0, .int .i64 0, .int .i64 0, .int .i64 0, .int .i64 0, .int .i64 0, .slice none 0 0, .bool false, .slice none 0 0, .slice none 0 0] 35)
  have bX := Blk.new w 35 [.int .i64 2, .int .i64 0, .int .i64 t, .int .i64 j, .int .i64 0, .int .i64 0, .int .i64 0, .int .i64 0, .int .i64 0, .int .i64 0, .int .i64 0, .slice none 0 0, .bool false, .slice none 0 0, .slice none 0 0]
  obtain ⟨gx, hgx⟩ : ∃ g, w.heap.size = g := ⟨_, rfl⟩
  rw [hgx] at bX
  have hbe : Ms.body (.pin t j) = numL (2 : Int).toNat ++ numsL [t, j] := by
    show numsL [2] ++ numsL [t, j] = _
    rw [nums_cons, nums_nil, List.append_nil]
  have hbody : strB (numL (2 : Int).toNat) ++ strB (numsL [t, j]) = strB (Ms.body (.pin t j)) := by
    rw [strB_append, hbe]
  have hbl : (Ms.body (.pin t j)).length ≤ 1000 := by
    rw [hbe]
    have h1 := (num_len (2 : Int).toNat).2
    have h2 := nums_len [t, j]
    simp only [List.length_cons, List.length_nil] at h2
    rw [List.length_append]
    omega
  clear hbe htx
  have hl0 := (num_len (2 : Int).toNat).2
  have hl1 := nums_len [t, j]
  simp only [List.length_cons, List.length_nil] at hl1
  have ad1 := fun w => run_string_add_sum (P := Tryz.prog) (w := w) (strB (numL (2 : Int).toNat)) (strB (numsL [t, j])) (by rw [strB_size, strB_size]; omega)
  have hch := fun w => rcheck_any (strB (Ms.body (.pin t j))) w (by rw [strB_size]; unfold maxLen; omega)
  rw [strB_list] at hch
  have hbd := checkL_bd (Ms.body (.pin t j))
  have hls : (sums (checkL (Ms.body (.pin t j)))).length ≤ 56 := by
    unfold sums
    have h2 := nums_len [checkL (Ms.body (.pin t j)) / 65536, checkL (Ms.body (.pin t j)) % 65536]
    simp only [List.length_cons, List.length_nil] at h2
    omega
  have ad2 := fun w => run_string_add_sum (P := Tryz.prog) (w := w) (strB (Ms.body (.pin t j))) (strB (sums (checkL (Ms.body (.pin t j))))) (by rw [strB_size, strB_size]; omega)
  have hfin : strB (Ms.body (.pin t j)) ++ strB (sums (checkL (Ms.body (.pin t j)))) = strB (Ms.body (.pin t j) ++ sums (checkL (Ms.body (.pin t j)))) := strB_append _ _
  rw [← hfin]
  rw [hbody] at ad1
  have hri := fun w => refint_any 2 w (by omega) (by omega)
  unfold sums at *
  generalize checkL (Ms.body (.pin t j)) = ck at *
  generalize strB (Ms.body (.pin t j)) = BD at *
  generalize strB (numL (2 : Int).toNat) = N2 at *
  replace hri := Lib.hid hri
  replace hch := Lib.hid hch
  replace hbody := Lib.hid hbody
  clear hbl hl0 hl1 hls hfin hok
  obtain ⟨k0, k1⟩ := hbd
  have e0 : (w.alloc (.cells #[.int .i64 2, .int .i64 0, .int .i64 t, .int .i64 j, .int .i64 0, .int .i64 0, .int .i64 0, .int .i64 0, .int .i64 0, .int .i64 0, .int .i64 0, .slice none 0 0, .bool false, .slice none 0 0, .slice none 0 0] 35)).cell? ⟨gx, 0, none⟩ = some (.int .i64 2) := bX.cell 0
  go_enter Tryz.func16, Tryz.ntmps16
  go_wp2_with fail
  generalize (w.alloc (.cells #[.int .i64 2, .int .i64 0, .int .i64 t, .int .i64 j, .int .i64 0, .int .i64 0, .int .i64 0, .int .i64 0, .int .i64 0, .int .i64 0, .int .i64 0, .slice none 0 0, .bool false, .slice none 0 0, .slice none 0 0] 35)) = wx at *
  go_fit (hri.out _)
  rintro e w1 ⟨rfl, f1⟩
  have b1 := f1.blk bX (fun q => q)
  have d0 : w1.cell? ⟨gx, 0, none⟩ = some (.int .i64 2) := b1.cell 0
  have d_t : w1.cell? ⟨gx, 2, none⟩ = some (.int .i64 t) := b1.cell 2
  have d_j : w1.cell? ⟨gx, 3, none⟩ = some (.int .i64 j) := b1.cell 3
  have fr1 := fX.seqN f1
  obtain ⟨g1, hg1⟩ : ∃ g, w1.heap.size = g := ⟨_, rfl⟩
  clear fX f1 bX e0 b1
  go_wp2_with fail
  go_fit (rints_new [t, j] g1 w1 hg1 hx (by simp))
  rintro e w2 ⟨rfl, f2⟩
  have fr2 := fr1.seqN f2
  clear f2 fr1 d0 d_t d_j hg1
  go_wp2_with fail
  go_fit (hch.out _)
  rintro e w3 ⟨rfl, hw3⟩
  obtain rfl := hw3.symm
  obtain ⟨g2, hg2⟩ : ∃ g, w2.heap.size = g := ⟨_, rfl⟩
  go_wp2_with fail
  go_fit (rints_new [ck / 65536, ck % 65536] g2 w2 hg2 (by intro x hx; simp at hx; omega) (by simp))
  rintro e w4 ⟨rfl, f4⟩
  go_wp2_with fail
  go_ret
  exact ⟨rfl, fr2.seqN f4⟩

set_option maxHeartbeats 2000000 in
theorem rprint_Gone (a t j : Int) (w : World) (hok : Ms.ok (.gone a t j) = true) (hx : ∀ x ∈ [a, t, j], -9223372036854775808 ≤ x ∧ x ≤ 9223372036854775807) :
    Calls Tryz.prog 16 #[mrV { k := 4, a := a, t := t, j := j }] w fun e w' => e = .returned (.string (strB (Ms.txt (.gone a t j)))) ∧ Fr noB w w' := by
  have htx : Ms.txt (.gone a t j) = Ms.body (.gone a t j) ++ sums (checkL (Ms.body (.gone a t j))) := by
    unfold Ms.txt
    rw [hok]
    rfl
  rw [htx]
  unfold mrV mrC
  have fX := (Fr.refl noB w).alloc (.cells #[.int .i64 4, .int .i64 a, .int .i64 t, .int .i64 j, .int .i64 0, .int .i64 0, .int .i64 0, .int .i64 0, .int .i64 0, .int .i64 0, .int .i64 0, .slice none 0 0, .bool false, .slice none 0 0, .slice none 0 0] 35)
  have bX := Blk.new w 35 [.int .i64 4, .int .i64 a, .int .i64 t, .int .i64 j, .int .i64 0, .int .i64 0, .int .i64 0, .int .i64 0, .int .i64 0, .int .i64 0, .int .i64 0, .slice none 0 0, .bool false, .slice none 0 0, .slice none 0 0]
  obtain ⟨gx, hgx⟩ : ∃ g, w.heap.size = g := ⟨_, rfl⟩
  rw [hgx] at bX
  have hbe : Ms.body (.gone a t j) = numL (4 : Int).toNat ++ numsL [a, t, j] := by
    show numsL [4] ++ numsL [a, t, j] = _
    rw [nums_cons, nums_nil, List.append_nil]
  have hbody : strB (numL (4 : Int).toNat) ++ strB (numsL [a, t, j]) = strB (Ms.body (.gone a t j)) := by
    rw [strB_append, hbe]
  have hbl : (Ms.body (.gone a t j)).length ≤ 1000 := by
    rw [hbe]
    have h1 := (num_len (4 : Int).toNat).2
    have h2 := nums_len [a, t, j]
    simp only [List.length_cons, List.length_nil] at h2
    rw [List.length_append]
    omega
  clear hbe htx
  have hl0 := (num_len (4 : Int).toNat).2
  have hl1 := nums_len [a, t, j]
  simp only [List.length_cons, List.length_nil] at hl1
  have ad1 := fun w => run_string_add_sum (P := Tryz.prog) (w := w) (strB (numL (4 : Int).toNat)) (strB (numsL [a, t, j])) (by rw [strB_size, strB_size]; omega)
  have hch := fun w => rcheck_any (strB (Ms.body (.gone a t j))) w (by rw [strB_size]; unfold maxLen; omega)
  rw [strB_list] at hch
  have hbd := checkL_bd (Ms.body (.gone a t j))
  have hls : (sums (checkL (Ms.body (.gone a t j)))).length ≤ 56 := by
    unfold sums
    have h2 := nums_len [checkL (Ms.body (.gone a t j)) / 65536, checkL (Ms.body (.gone a t j)) % 65536]
    simp only [List.length_cons, List.length_nil] at h2
    omega
  have ad2 := fun w => run_string_add_sum (P := Tryz.prog) (w := w) (strB (Ms.body (.gone a t j))) (strB (sums (checkL (Ms.body (.gone a t j))))) (by rw [strB_size, strB_size]; omega)
  have hfin : strB (Ms.body (.gone a t j)) ++ strB (sums (checkL (Ms.body (.gone a t j)))) = strB (Ms.body (.gone a t j) ++ sums (checkL (Ms.body (.gone a t j)))) := strB_append _ _
  rw [← hfin]
  rw [hbody] at ad1
  have hri := fun w => refint_any 4 w (by omega) (by omega)
  unfold sums at *
  generalize checkL (Ms.body (.gone a t j)) = ck at *
  generalize strB (Ms.body (.gone a t j)) = BD at *
  generalize strB (numL (4 : Int).toNat) = N2 at *
  replace hri := Lib.hid hri
  replace hch := Lib.hid hch
  replace hbody := Lib.hid hbody
  clear hbl hl0 hl1 hls hfin hok
  obtain ⟨k0, k1⟩ := hbd
  have e0 : (w.alloc (.cells #[.int .i64 4, .int .i64 a, .int .i64 t, .int .i64 j, .int .i64 0, .int .i64 0, .int .i64 0, .int .i64 0, .int .i64 0, .int .i64 0, .int .i64 0, .slice none 0 0, .bool false, .slice none 0 0, .slice none 0 0] 35)).cell? ⟨gx, 0, none⟩ = some (.int .i64 4) := bX.cell 0
  go_enter Tryz.func16, Tryz.ntmps16
  go_wp2_with fail
  generalize (w.alloc (.cells #[.int .i64 4, .int .i64 a, .int .i64 t, .int .i64 j, .int .i64 0, .int .i64 0, .int .i64 0, .int .i64 0, .int .i64 0, .int .i64 0, .int .i64 0, .slice none 0 0, .bool false, .slice none 0 0, .slice none 0 0] 35)) = wx at *
  go_fit (hri.out _)
  rintro e w1 ⟨rfl, f1⟩
  have b1 := f1.blk bX (fun q => q)
  have d0 : w1.cell? ⟨gx, 0, none⟩ = some (.int .i64 4) := b1.cell 0
  have d_a : w1.cell? ⟨gx, 1, none⟩ = some (.int .i64 a) := b1.cell 1
  have d_t : w1.cell? ⟨gx, 2, none⟩ = some (.int .i64 t) := b1.cell 2
  have d_j : w1.cell? ⟨gx, 3, none⟩ = some (.int .i64 j) := b1.cell 3
  have fr1 := fX.seqN f1
  obtain ⟨g1, hg1⟩ : ∃ g, w1.heap.size = g := ⟨_, rfl⟩
  clear fX f1 bX e0 b1
  go_wp2_with fail
  go_fit (rints_new [a, t, j] g1 w1 hg1 hx (by simp))
  rintro e w2 ⟨rfl, f2⟩
  have fr2 := fr1.seqN f2
  clear f2 fr1 d0 d_a d_t d_j hg1
  go_wp2_with fail
  go_fit (hch.out _)
  rintro e w3 ⟨rfl, hw3⟩
  obtain rfl := hw3.symm
  obtain ⟨g2, hg2⟩ : ∃ g, w2.heap.size = g := ⟨_, rfl⟩
  go_wp2_with fail
  go_fit (rints_new [ck / 65536, ck % 65536] g2 w2 hg2 (by intro x hx; simp at hx; omega) (by simp))
  rintro e w4 ⟨rfl, f4⟩
  go_wp2_with fail
  go_ret
  exact ⟨rfl, fr2.seqN f4⟩

set_option maxHeartbeats 2000000 in
theorem rprint_Collect (t j : Int) (w : World) (hok : Ms.ok (.collect t j) = true) (hx : ∀ x ∈ [t, j], -9223372036854775808 ≤ x ∧ x ≤ 9223372036854775807) :
    Calls Tryz.prog 16 #[mrV { k := 5, t := t, j := j }] w fun e w' => e = .returned (.string (strB (Ms.txt (.collect t j)))) ∧ Fr noB w w' := by
  have htx : Ms.txt (.collect t j) = Ms.body (.collect t j) ++ sums (checkL (Ms.body (.collect t j))) := by
    unfold Ms.txt
    rw [hok]
    rfl
  rw [htx]
  unfold mrV mrC
  have fX := (Fr.refl noB w).alloc (.cells #[.int .i64 5, .int .i64 0, .int .i64 t, .int .i64 j, .int .i64 0, .int .i64 0, .int .i64 0, .int .i64 0, .int .i64 0, .int .i64 0, .int .i64 0, .slice none 0 0, .bool false, .slice none 0 0, .slice none 0 0] 35)
  have bX := Blk.new w 35 [.int .i64 5, .int .i64 0, .int .i64 t, .int .i64 j, .int .i64 0, .int .i64 0, .int .i64 0, .int .i64 0, .int .i64 0, .int .i64 0, .int .i64 0, .slice none 0 0, .bool false, .slice none 0 0, .slice none 0 0]
  obtain ⟨gx, hgx⟩ : ∃ g, w.heap.size = g := ⟨_, rfl⟩
  rw [hgx] at bX
  have hbe : Ms.body (.collect t j) = numL (5 : Int).toNat ++ numsL [t, j] := by
    show numsL [5] ++ numsL [t, j] = _
    rw [nums_cons, nums_nil, List.append_nil]
  have hbody : strB (numL (5 : Int).toNat) ++ strB (numsL [t, j]) = strB (Ms.body (.collect t j)) := by
    rw [strB_append, hbe]
  have hbl : (Ms.body (.collect t j)).length ≤ 1000 := by
    rw [hbe]
    have h1 := (num_len (5 : Int).toNat).2
    have h2 := nums_len [t, j]
    simp only [List.length_cons, List.length_nil] at h2
    rw [List.length_append]
    omega
  clear hbe htx
  have hl0 := (num_len (5 : Int).toNat).2
  have hl1 := nums_len [t, j]
  simp only [List.length_cons, List.length_nil] at hl1
  have ad1 := fun w => run_string_add_sum (P := Tryz.prog) (w := w) (strB (numL (5 : Int).toNat)) (strB (numsL [t, j])) (by rw [strB_size, strB_size]; omega)
  have hch := fun w => rcheck_any (strB (Ms.body (.collect t j))) w (by rw [strB_size]; unfold maxLen; omega)
  rw [strB_list] at hch
  have hbd := checkL_bd (Ms.body (.collect t j))
  have hls : (sums (checkL (Ms.body (.collect t j)))).length ≤ 56 := by
    unfold sums
    have h2 := nums_len [checkL (Ms.body (.collect t j)) / 65536, checkL (Ms.body (.collect t j)) % 65536]
    simp only [List.length_cons, List.length_nil] at h2
    omega
  have ad2 := fun w => run_string_add_sum (P := Tryz.prog) (w := w) (strB (Ms.body (.collect t j))) (strB (sums (checkL (Ms.body (.collect t j))))) (by rw [strB_size, strB_size]; omega)
  have hfin : strB (Ms.body (.collect t j)) ++ strB (sums (checkL (Ms.body (.collect t j)))) = strB (Ms.body (.collect t j) ++ sums (checkL (Ms.body (.collect t j)))) := strB_append _ _
  rw [← hfin]
  rw [hbody] at ad1
  have hri := fun w => refint_any 5 w (by omega) (by omega)
  unfold sums at *
  generalize checkL (Ms.body (.collect t j)) = ck at *
  generalize strB (Ms.body (.collect t j)) = BD at *
  generalize strB (numL (5 : Int).toNat) = N2 at *
  replace hri := Lib.hid hri
  replace hch := Lib.hid hch
  replace hbody := Lib.hid hbody
  clear hbl hl0 hl1 hls hfin hok
  obtain ⟨k0, k1⟩ := hbd
  have e0 : (w.alloc (.cells #[.int .i64 5, .int .i64 0, .int .i64 t, .int .i64 j, .int .i64 0, .int .i64 0, .int .i64 0, .int .i64 0, .int .i64 0, .int .i64 0, .int .i64 0, .slice none 0 0, .bool false, .slice none 0 0, .slice none 0 0] 35)).cell? ⟨gx, 0, none⟩ = some (.int .i64 5) := bX.cell 0
  go_enter Tryz.func16, Tryz.ntmps16
  go_wp2_with fail
  generalize (w.alloc (.cells #[.int .i64 5, .int .i64 0, .int .i64 t, .int .i64 j, .int .i64 0, .int .i64 0, .int .i64 0, .int .i64 0, .int .i64 0, .int .i64 0, .int .i64 0, .slice none 0 0, .bool false, .slice none 0 0, .slice none 0 0] 35)) = wx at *
  go_fit (hri.out _)
  rintro e w1 ⟨rfl, f1⟩
  have b1 := f1.blk bX (fun q => q)
  have d0 : w1.cell? ⟨gx, 0, none⟩ = some (.int .i64 5) := b1.cell 0
  have d_t : w1.cell? ⟨gx, 2, none⟩ = some (.int .i64 t) := b1.cell 2
  have d_j : w1.cell? ⟨gx, 3, none⟩ = some (.int .i64 j) := b1.cell 3
  have fr1 := fX.seqN f1
  obtain ⟨g1, hg1⟩ : ∃ g, w1.heap.size = g := ⟨_, rfl⟩
  clear fX f1 bX e0 b1
  go_wp2_with fail
  go_fit (rints_new [t, j] g1 w1 hg1 hx (by simp))
  rintro e w2 ⟨rfl, f2⟩
  have fr2 := fr1.seqN f2
  clear f2 fr1 d0 d_t d_j hg1
  go_wp2_with fail
  go_fit (hch.out _)
  rintro e w3 ⟨rfl, hw3⟩
  obtain rfl := hw3.symm
  obtain ⟨g2, hg2⟩ : ∃ g, w2.heap.size = g := ⟨_, rfl⟩
  go_wp2_with fail
  go_fit (rints_new [ck / 65536, ck % 65536] g2 w2 hg2 (by intro x hx; simp at hx; omega) (by simp))
  rintro e w4 ⟨rfl, f4⟩
  go_wp2_with fail
  go_ret
  exact ⟨rfl, fr2.seqN f4⟩

set_option maxHeartbeats 2000000 in
theorem rprint_Stored (t j : Int) (w : World) (hok : Ms.ok (.stored t j) = true) (hx : ∀ x ∈ [t, j], -9223372036854775808 ≤ x ∧ x ≤ 9223372036854775807) :
    Calls Tryz.prog 16 #[mrV { k := 8, t := t, j := j }] w fun e w' => e = .returned (.string (strB (Ms.txt (.stored t j)))) ∧ Fr noB w w' := by
  have htx : Ms.txt (.stored t j) = Ms.body (.stored t j) ++ sums (checkL (Ms.body (.stored t j))) := by
    unfold Ms.txt
    rw [hok]
    rfl
  rw [htx]
  unfold mrV mrC
  have fX := (Fr.refl noB w).alloc (.cells #[.int .i64 8, .int .i64 0, .int .i64 t, .int .i64 j, .int .i64 0, .int .i64 0, .int .i64 0, .int .i64 0, .int .i64 0, .int .i64 0, .int .i64 0, .slice none 0 0, .bool false, .slice none 0 0, .slice none 0 0] 35)
  have bX := Blk.new w 35 [.int .i64 8, .int .i64 0, .int .i64 t, .int .i64 j, .int .i64 0, .int .i64 0, .int .i64 0, .int .i64 0, .int .i64 0, .int .i64 0, .int .i64 0, .slice none 0 0, .bool false, .slice none 0 0, .slice none 0 0]
  obtain ⟨gx, hgx⟩ : ∃ g, w.heap.size = g := ⟨_, rfl⟩
  rw [hgx] at bX
  have hbe : Ms.body (.stored t j) = numL (8 : Int).toNat ++ numsL [t, j] := by
    show numsL [8] ++ numsL [t, j] = _
    rw [nums_cons, nums_nil, List.append_nil]
  have hbody : strB (numL (8 : Int).toNat) ++ strB (numsL [t, j]) = strB (Ms.body (.stored t j)) := by
    rw [strB_append, hbe]
  have hbl : (Ms.body (.stored t j)).length ≤ 1000 := by
    rw [hbe]
    have h1 := (num_len (8 : Int).toNat).2
    have h2 := nums_len [t, j]
    simp only [List.length_cons, List.length_nil] at h2
    rw [List.length_append]
    omega
  clear hbe htx
  have hl0 := (num_len (8 : Int).toNat).2
  have hl1 := nums_len [t, j]
  simp only [List.length_cons, List.length_nil] at hl1
  have ad1 := fun w => run_string_add_sum (P := Tryz.prog) (w := w) (strB (numL (8 : Int).toNat)) (strB (numsL [t, j])) (by rw [strB_size, strB_size]; omega)
  have hch := fun w => rcheck_any (strB (Ms.body (.stored t j))) w (by rw [strB_size]; unfold maxLen; omega)
  rw [strB_list] at hch
  have hbd := checkL_bd (Ms.body (.stored t j))
  have hls : (sums (checkL (Ms.body (.stored t j)))).length ≤ 56 := by
    unfold sums
    have h2 := nums_len [checkL (Ms.body (.stored t j)) / 65536, checkL (Ms.body (.stored t j)) % 65536]
    simp only [List.length_cons, List.length_nil] at h2
    omega
  have ad2 := fun w => run_string_add_sum (P := Tryz.prog) (w := w) (strB (Ms.body (.stored t j))) (strB (sums (checkL (Ms.body (.stored t j))))) (by rw [strB_size, strB_size]; omega)
  have hfin : strB (Ms.body (.stored t j)) ++ strB (sums (checkL (Ms.body (.stored t j)))) = strB (Ms.body (.stored t j) ++ sums (checkL (Ms.body (.stored t j)))) := strB_append _ _
  rw [← hfin]
  rw [hbody] at ad1
  have hri := fun w => refint_any 8 w (by omega) (by omega)
  unfold sums at *
  generalize checkL (Ms.body (.stored t j)) = ck at *
  generalize strB (Ms.body (.stored t j)) = BD at *
  generalize strB (numL (8 : Int).toNat) = N2 at *
  replace hri := Lib.hid hri
  replace hch := Lib.hid hch
  replace hbody := Lib.hid hbody
  clear hbl hl0 hl1 hls hfin hok
  obtain ⟨k0, k1⟩ := hbd
  have e0 : (w.alloc (.cells #[.int .i64 8, .int .i64 0, .int .i64 t, .int .i64 j, .int .i64 0, .int .i64 0, .int .i64 0, .int .i64 0, .int .i64 0, .int .i64 0, .int .i64 0, .slice none 0 0, .bool false, .slice none 0 0, .slice none 0 0] 35)).cell? ⟨gx, 0, none⟩ = some (.int .i64 8) := bX.cell 0
  go_enter Tryz.func16, Tryz.ntmps16
  go_wp2_with fail
  generalize (w.alloc (.cells #[.int .i64 8, .int .i64 0, .int .i64 t, .int .i64 j, .int .i64 0, .int .i64 0, .int .i64 0, .int .i64 0, .int .i64 0, .int .i64 0, .int .i64 0, .slice none 0 0, .bool false, .slice none 0 0, .slice none 0 0] 35)) = wx at *
  go_fit (hri.out _)
  rintro e w1 ⟨rfl, f1⟩
  have b1 := f1.blk bX (fun q => q)
  have d0 : w1.cell? ⟨gx, 0, none⟩ = some (.int .i64 8) := b1.cell 0
  have d_t : w1.cell? ⟨gx, 2, none⟩ = some (.int .i64 t) := b1.cell 2
  have d_j : w1.cell? ⟨gx, 3, none⟩ = some (.int .i64 j) := b1.cell 3
  have fr1 := fX.seqN f1
  obtain ⟨g1, hg1⟩ : ∃ g, w1.heap.size = g := ⟨_, rfl⟩
  clear fX f1 bX e0 b1
  go_wp2_with fail
  go_fit (rints_new [t, j] g1 w1 hg1 hx (by simp))
  rintro e w2 ⟨rfl, f2⟩
  have fr2 := fr1.seqN f2
  clear f2 fr1 d0 d_t d_j hg1
  go_wp2_with fail
  go_fit (hch.out _)
  rintro e w3 ⟨rfl, hw3⟩
  obtain rfl := hw3.symm
  obtain ⟨g2, hg2⟩ : ∃ g, w2.heap.size = g := ⟨_, rfl⟩
  go_wp2_with fail
  go_fit (rints_new [ck / 65536, ck % 65536] g2 w2 hg2 (by intro x hx; simp at hx; omega) (by simp))
  rintro e w4 ⟨rfl, f4⟩
  go_wp2_with fail
  go_ret
  exact ⟨rfl, fr2.seqN f4⟩

set_option maxHeartbeats 2000000 in
theorem rprint_Unpin (t j : Int) (w : World) (hok : Ms.ok (.unpin t j) = true) (hx : ∀ x ∈ [t, j], -9223372036854775808 ≤ x ∧ x ≤ 9223372036854775807) :
    Calls Tryz.prog 16 #[mrV { k := 9, t := t, j := j }] w fun e w' => e = .returned (.string (strB (Ms.txt (.unpin t j)))) ∧ Fr noB w w' := by
  have htx : Ms.txt (.unpin t j) = Ms.body (.unpin t j) ++ sums (checkL (Ms.body (.unpin t j))) := by
    unfold Ms.txt
    rw [hok]
    rfl
  rw [htx]
  unfold mrV mrC
  have fX := (Fr.refl noB w).alloc (.cells #[.int .i64 9, .int .i64 0, .int .i64 t, .int .i64 j, .int .i64 0, .int .i64 0, .int .i64 0, .int .i64 0, .int .i64 0, .int .i64 0, .int .i64 0, .slice none 0 0, .bool false, .slice none 0 0, .slice none 0 0] 35)
  have bX := Blk.new w 35 [.int .i64 9, .int .i64 0, .int .i64 t, .int .i64 j, .int .i64 0, .int .i64 0, .int .i64 0, .int .i64 0, .int .i64 0, .int .i64 0, .int .i64 0, .slice none 0 0, .bool false, .slice none 0 0, .slice none 0 0]
  obtain ⟨gx, hgx⟩ : ∃ g, w.heap.size = g := ⟨_, rfl⟩
  rw [hgx] at bX
  have hbe : Ms.body (.unpin t j) = numL (9 : Int).toNat ++ numsL [t, j] := by
    show numsL [9] ++ numsL [t, j] = _
    rw [nums_cons, nums_nil, List.append_nil]
  have hbody : strB (numL (9 : Int).toNat) ++ strB (numsL [t, j]) = strB (Ms.body (.unpin t j)) := by
    rw [strB_append, hbe]
  have hbl : (Ms.body (.unpin t j)).length ≤ 1000 := by
    rw [hbe]
    have h1 := (num_len (9 : Int).toNat).2
    have h2 := nums_len [t, j]
    simp only [List.length_cons, List.length_nil] at h2
    rw [List.length_append]
    omega
  clear hbe htx
  have hl0 := (num_len (9 : Int).toNat).2
  have hl1 := nums_len [t, j]
  simp only [List.length_cons, List.length_nil] at hl1
  have ad1 := fun w => run_string_add_sum (P := Tryz.prog) (w := w) (strB (numL (9 : Int).toNat)) (strB (numsL [t, j])) (by rw [strB_size, strB_size]; omega)
  have hch := fun w => rcheck_any (strB (Ms.body (.unpin t j))) w (by rw [strB_size]; unfold maxLen; omega)
  rw [strB_list] at hch
  have hbd := checkL_bd (Ms.body (.unpin t j))
  have hls : (sums (checkL (Ms.body (.unpin t j)))).length ≤ 56 := by
    unfold sums
    have h2 := nums_len [checkL (Ms.body (.unpin t j)) / 65536, checkL (Ms.body (.unpin t j)) % 65536]
    simp only [List.length_cons, List.length_nil] at h2
    omega
  have ad2 := fun w => run_string_add_sum (P := Tryz.prog) (w := w) (strB (Ms.body (.unpin t j))) (strB (sums (checkL (Ms.body (.unpin t j))))) (by rw [strB_size, strB_size]; omega)
  have hfin : strB (Ms.body (.unpin t j)) ++ strB (sums (checkL (Ms.body (.unpin t j)))) = strB (Ms.body (.unpin t j) ++ sums (checkL (Ms.body (.unpin t j)))) := strB_append _ _
  rw [← hfin]
  rw [hbody] at ad1
  have hri := fun w => refint_any 9 w (by omega) (by omega)
  unfold sums at *
  generalize checkL (Ms.body (.unpin t j)) = ck at *
  generalize strB (Ms.body (.unpin t j)) = BD at *
  generalize strB (numL (9 : Int).toNat) = N2 at *
  replace hri := Lib.hid hri
  replace hch := Lib.hid hch
  replace hbody := Lib.hid hbody
  clear hbl hl0 hl1 hls hfin hok
  obtain ⟨k0, k1⟩ := hbd
  have e0 : (w.alloc (.cells #[.int .i64 9, .int .i64 0, .int .i64 t, .int .i64 j, .int .i64 0, .int .i64 0, .int .i64 0, .int .i64 0, .int .i64 0, .int .i64 0, .int .i64 0, .slice none 0 0, .bool false, .slice none 0 0, .slice none 0 0] 35)).cell? ⟨gx, 0, none⟩ = some (.int .i64 9) := bX.cell 0
  go_enter Tryz.func16, Tryz.ntmps16
  go_wp2_with fail
  generalize (w.alloc (.cells #[.int .i64 9, .int .i64 0, .int .i64 t, .int .i64 j, .int .i64 0, .int .i64 0, .int .i64 0, .int .i64 0, .int .i64 0, .int .i64 0, .int .i64 0, .slice none 0 0, .bool false, .slice none 0 0, .slice none 0 0] 35)) = wx at *
  go_fit (hri.out _)
  rintro e w1 ⟨rfl, f1⟩
  have b1 := f1.blk bX (fun q => q)
  have d0 : w1.cell? ⟨gx, 0, none⟩ = some (.int .i64 9) := b1.cell 0
  have d_t : w1.cell? ⟨gx, 2, none⟩ = some (.int .i64 t) := b1.cell 2
  have d_j : w1.cell? ⟨gx, 3, none⟩ = some (.int .i64 j) := b1.cell 3
  have fr1 := fX.seqN f1
  obtain ⟨g1, hg1⟩ : ∃ g, w1.heap.size = g := ⟨_, rfl⟩
  clear fX f1 bX e0 b1
  go_wp2_with fail
  go_fit (rints_new [t, j] g1 w1 hg1 hx (by simp))
  rintro e w2 ⟨rfl, f2⟩
  have fr2 := fr1.seqN f2
  clear f2 fr1 d0 d_t d_j hg1
  go_wp2_with fail
  go_fit (hch.out _)
  rintro e w3 ⟨rfl, hw3⟩
  obtain rfl := hw3.symm
  obtain ⟨g2, hg2⟩ : ∃ g, w2.heap.size = g := ⟨_, rfl⟩
  go_wp2_with fail
  go_fit (rints_new [ck / 65536, ck % 65536] g2 w2 hg2 (by intro x hx; simp at hx; omega) (by simp))
  rintro e w4 ⟨rfl, f4⟩
  go_wp2_with fail
  go_ret
  exact ⟨rfl, fr2.seqN f4⟩

set_option maxHeartbeats 2000000 in
theorem rprint_Unpinned (a t j : Int) (w : World) (hok : Ms.ok (.unpinned a t j) = true) (hx : ∀ x ∈ [a, t, j], -9223372036854775808 ≤ x ∧ x ≤ 9223372036854775807) :
    Calls Tryz.prog 16 #[mrV { k := 10, a := a, t := t, j := j }] w fun e w' => e = .returned (.string (strB (Ms.txt (.unpinned a t j)))) ∧ Fr noB w w' := by
  have htx : Ms.txt (.unpinned a t j) = Ms.body (.unpinned a t j) ++ sums (checkL (Ms.body (.unpinned a t j))) := by
    unfold Ms.txt
    rw [hok]
    rfl
  rw [htx]
  unfold mrV mrC
  have fX := (Fr.refl noB w).alloc (.cells #[.int .i64 10, .int .i64 a, .int .i64 t, .int .i64 j, .int .i64 0, .int .i64 0, .int .i64 0, .int .i64 0, .int .i64 0, .int .i64 0, .int .i64 0, .slice none 0 0, .bool false, .slice none 0 0, .slice none 0 0] 35)
  have bX := Blk.new w 35 [.int .i64 10, .int .i64 a, .int .i64 t, .int .i64 j, .int .i64 0, .int .i64 0, .int .i64 0, .int .i64 0, .int .i64 0, .int .i64 0, .int .i64 0, .slice none 0 0, .bool false, .slice none 0 0, .slice none 0 0]
  obtain ⟨gx, hgx⟩ : ∃ g, w.heap.size = g := ⟨_, rfl⟩
  rw [hgx] at bX
  have hbe : Ms.body (.unpinned a t j) = numL (10 : Int).toNat ++ numsL [a, t, j] := by
    show numsL [10] ++ numsL [a, t, j] = _
    rw [nums_cons, nums_nil, List.append_nil]
  have hbody : strB (numL (10 : Int).toNat) ++ strB (numsL [a, t, j]) = strB (Ms.body (.unpinned a t j)) := by
    rw [strB_append, hbe]
  have hbl : (Ms.body (.unpinned a t j)).length ≤ 1000 := by
    rw [hbe]
    have h1 := (num_len (10 : Int).toNat).2
    have h2 := nums_len [a, t, j]
    simp only [List.length_cons, List.length_nil] at h2
    rw [List.length_append]
    omega
  clear hbe htx
  have hl0 := (num_len (10 : Int).toNat).2
  have hl1 := nums_len [a, t, j]
  simp only [List.length_cons, List.length_nil] at hl1
  have ad1 := fun w => run_string_add_sum (P := Tryz.prog) (w := w) (strB (numL (10 : Int).toNat)) (strB (numsL [a, t, j])) (by rw [strB_size, strB_size]; omega)
  have hch := fun w => rcheck_any (strB (Ms.body (.unpinned a t j))) w (by rw [strB_size]; unfold maxLen; omega)
  rw [strB_list] at hch
  have hbd := checkL_bd (Ms.body (.unpinned a t j))
  have hls : (sums (checkL (Ms.body (.unpinned a t j)))).length ≤ 56 := by
    unfold sums
    have h2 := nums_len [checkL (Ms.body (.unpinned a t j)) / 65536, checkL (Ms.body (.unpinned a t j)) % 65536]
    simp only [List.length_cons, List.length_nil] at h2
    omega
  have ad2 := fun w => run_string_add_sum (P := Tryz.prog) (w := w) (strB (Ms.body (.unpinned a t j))) (strB (sums (checkL (Ms.body (.unpinned a t j))))) (by rw [strB_size, strB_size]; omega)
  have hfin : strB (Ms.body (.unpinned a t j)) ++ strB (sums (checkL (Ms.body (.unpinned a t j)))) = strB (Ms.body (.unpinned a t j) ++ sums (checkL (Ms.body (.unpinned a t j)))) := strB_append _ _
  rw [← hfin]
  rw [hbody] at ad1
  have hri := fun w => refint_any 10 w (by omega) (by omega)
  unfold sums at *
  generalize checkL (Ms.body (.unpinned a t j)) = ck at *
  generalize strB (Ms.body (.unpinned a t j)) = BD at *
  generalize strB (numL (10 : Int).toNat) = N2 at *
  replace hri := Lib.hid hri
  replace hch := Lib.hid hch
  replace hbody := Lib.hid hbody
  clear hbl hl0 hl1 hls hfin hok
  obtain ⟨k0, k1⟩ := hbd
  have e0 : (w.alloc (.cells #[.int .i64 10, .int .i64 a, .int .i64 t, .int .i64 j, .int .i64 0, .int .i64 0, .int .i64 0, .int .i64 0, .int .i64 0, .int .i64 0, .int .i64 0, .slice none 0 0, .bool false, .slice none 0 0, .slice none 0 0] 35)).cell? ⟨gx, 0, none⟩ = some (.int .i64 10) := bX.cell 0
  go_enter Tryz.func16, Tryz.ntmps16
  go_wp2_with fail
  generalize (w.alloc (.cells #[.int .i64 10, .int .i64 a, .int .i64 t, .int .i64 j, .int .i64 0, .int .i64 0, .int .i64 0, .int .i64 0, .int .i64 0, .int .i64 0, .int .i64 0, .slice none 0 0, .bool false, .slice none 0 0, .slice none 0 0] 35)) = wx at *
  go_fit (hri.out _)
  rintro e w1 ⟨rfl, f1⟩
  have b1 := f1.blk bX (fun q => q)
  have d0 : w1.cell? ⟨gx, 0, none⟩ = some (.int .i64 10) := b1.cell 0
  have d_a : w1.cell? ⟨gx, 1, none⟩ = some (.int .i64 a) := b1.cell 1
  have d_t : w1.cell? ⟨gx, 2, none⟩ = some (.int .i64 t) := b1.cell 2
  have d_j : w1.cell? ⟨gx, 3, none⟩ = some (.int .i64 j) := b1.cell 3
  have fr1 := fX.seqN f1
  obtain ⟨g1, hg1⟩ : ∃ g, w1.heap.size = g := ⟨_, rfl⟩
  clear fX f1 bX e0 b1
  go_wp2_with fail
  go_fit (rints_new [a, t, j] g1 w1 hg1 hx (by simp))
  rintro e w2 ⟨rfl, f2⟩
  have fr2 := fr1.seqN f2
  clear f2 fr1 d0 d_a d_t d_j hg1
  go_wp2_with fail
  go_fit (hch.out _)
  rintro e w3 ⟨rfl, hw3⟩
  obtain rfl := hw3.symm
  obtain ⟨g2, hg2⟩ : ∃ g, w2.heap.size = g := ⟨_, rfl⟩
  go_wp2_with fail
  go_fit (rints_new [ck / 65536, ck % 65536] g2 w2 hg2 (by intro x hx; simp at hx; omega) (by simp))
  rintro e w4 ⟨rfl, f4⟩
  go_wp2_with fail
  go_ret
  exact ⟨rfl, fr2.seqN f4⟩
end Go.Proofs.YtbmafogjmdilkaaGreatDoor
end

section
set_option linter.unusedVariables false
set_option linter.unusedSimpArgs false
set_option maxRecDepth 100000
set_option maxRecDepth 100000
namespace Go.Proofs.YtbmafogjmdilkaaGreatDoor
open Go.RowKit Go Go.Lib


set_option maxHeartbeats 2000000 in
theorem rprint_Pinned (p : Pn) (ua : Option Addr) (cl uc : Nat) (w : World) (hu : RdI w (.slice ua cl uc) p.cr) (hok : Ms.ok (.pinned p) = true) :
    Calls Tryz.prog 16 #[mrV { k := 3, pa := p.a, pt := p.t, pj := p.j, pc := p.n, ua := ua, un := cl, uc := uc, lo := p.lo }] w fun e w' => e = .returned (.string (strB (Ms.txt (.pinned p)))) ∧ Fr noB w w' := by
  have htx : Ms.txt (.pinned p) = Ms.body (.pinned p) ++ sums (checkL (Ms.body (.pinned p))) := by
    unfold Ms.txt
    rw [hok]
    rfl
  rw [htx]
  unfold mrV mrC
  have fX := (Fr.refl noB w).alloc (.cells #[.int .i64 3, .int .i64 0, .int .i64 0, .int .i64 0, .int .i64 0, .int .i64 0, .int .i64 0, .int .i64 p.a, .int .i64 p.t, .int .i64 p.j, .int .i64 p.n, .slice ua cl uc, .bool p.lo, .slice none 0 0, .slice none 0 0] 35)
  have bX := Blk.new w 35 [.int .i64 3, .int .i64 0, .int .i64 0, .int .i64 0, .int .i64 0, .int .i64 0, .int .i64 0, .int .i64 p.a, .int .i64 p.t, .int .i64 p.j, .int .i64 p.n, .slice ua cl uc, .bool p.lo, .slice none 0 0, .slice none 0 0]
  obtain ⟨gx, hgx⟩ : ∃ g, w.heap.size = g := ⟨_, rfl⟩
  rw [hgx] at bX
  have hbl := body_len hok
  have hfl := fl_len hok
  have hbe : Ms.body (.pinned p) = numL (3 : Int).toNat ++ Ms.fl (.pinned p) := by
    show numsL [3] ++ Ms.fl (.pinned p) = _
    rw [nums_cons, nums_nil, List.append_nil]
  have hbody : strB (numL (3 : Int).toNat) ++ strB (Ms.fl (.pinned p)) = strB (Ms.body (.pinned p)) := by
    rw [strB_append, hbe]
  clear hbe htx
  have hl0 := (num_len (3 : Int).toNat).2
  have ad1 := fun w => run_string_add_sum (P := Tryz.prog) (w := w) (strB (numL (3 : Int).toNat)) (strB (Ms.fl (.pinned p))) (by rw [strB_size, strB_size]; omega)
  have hch := fun w => rcheck_any (strB (Ms.body (.pinned p))) w (by rw [strB_size]; unfold maxLen; omega)
  rw [strB_list] at hch
  have hbd := checkL_bd (Ms.body (.pinned p))
  have hls : (sums (checkL (Ms.body (.pinned p)))).length ≤ 56 := by
    unfold sums
    have h2 := nums_len [checkL (Ms.body (.pinned p)) / 65536, checkL (Ms.body (.pinned p)) % 65536]
    simp only [List.length_cons, List.length_nil] at h2
    omega
  have ad2 := fun w => run_string_add_sum (P := Tryz.prog) (w := w) (strB (Ms.body (.pinned p))) (strB (sums (checkL (Ms.body (.pinned p))))) (by rw [strB_size, strB_size]; omega)
  have hfin : strB (Ms.body (.pinned p)) ++ strB (sums (checkL (Ms.body (.pinned p)))) = strB (Ms.body (.pinned p) ++ sums (checkL (Ms.body (.pinned p)))) := strB_append _ _
  rw [← hfin]
  rw [hbody] at ad1
  have hri := fun w => refint_any 3 w (by omega) (by omega)
  unfold sums at *
  have hpt := fun w' (f : Fr noB w w') => rpart_text p (.slice ua cl uc) w' (pn_ok hok) (hu.frN f)
  rw [show Ms.fl (.pinned p) = pinT p from rfl] at *
  replace hpt := Lib.hid hpt
  generalize checkL (Ms.body (.pinned p)) = ck at *
  generalize strB (Ms.body (.pinned p)) = BD at *
  generalize strB (numL (3 : Int).toNat) = N2 at *
  replace hri := Lib.hid hri
  replace hch := Lib.hid hch
  replace hbody := Lib.hid hbody
  replace hok := Lib.hid hok
  clear hbl hl0 hls hfin hfl
  obtain ⟨k0, k1⟩ := hbd
  have e0 : (w.alloc (.cells #[.int .i64 3, .int .i64 0, .int .i64 0, .int .i64 0, .int .i64 0, .int .i64 0, .int .i64 0, .int .i64 p.a, .int .i64 p.t, .int .i64 p.j, .int .i64 p.n, .slice ua cl uc, .bool p.lo, .slice none 0 0, .slice none 0 0] 35)).cell? ⟨gx, 0, none⟩ = some (.int .i64 3) := bX.cell 0
  go_enter Tryz.func16, Tryz.ntmps16
  go_wp2_with fail
  generalize (w.alloc (.cells #[.int .i64 3, .int .i64 0, .int .i64 0, .int .i64 0, .int .i64 0, .int .i64 0, .int .i64 0, .int .i64 p.a, .int .i64 p.t, .int .i64 p.j, .int .i64 p.n, .slice ua cl uc, .bool p.lo, .slice none 0 0, .slice none 0 0] 35)) = wx at *
  go_fit (hri.out _)
  rintro e w1 ⟨rfl, f1⟩
  have b1 := f1.blk bX (fun q => q)
  have d0 : w1.cell? ⟨gx, 0, none⟩ = some (.int .i64 3) := b1.cell 0
  have fr1 := fX.seqN f1
  have c7 : w1.cell? ⟨gx, 7, none⟩ = some (.int .i64 p.a) := b1.cell 7
  have c8 : w1.cell? ⟨gx, 8, none⟩ = some (.int .i64 p.t) := b1.cell 8
  have c9 : w1.cell? ⟨gx, 9, none⟩ = some (.int .i64 p.j) := b1.cell 9
  have c10 : w1.cell? ⟨gx, 10, none⟩ = some (.int .i64 p.n) := b1.cell 10
  have c11 : w1.cell? ⟨gx, 11, none⟩ = some (.slice ua cl uc) := b1.cell 11
  have c12 : w1.cell? ⟨gx, 12, none⟩ = some (.bool p.lo) := b1.cell 12
  clear fX f1 bX e0 b1
  go_wp2_with fail
  go_fit (hpt.out w1 fr1)
  rintro e w2 ⟨rfl, f2⟩
  have fr2 := fr1.seqN f2
  clear f2 fr1 d0 c7 c8 c9 c10 c11 c12
  go_wp2_with fail
  go_fit (hch.out _)
  rintro e w3 ⟨rfl, hw3⟩
  obtain rfl := hw3.symm
  obtain ⟨g2, hg2⟩ : ∃ g, w2.heap.size = g := ⟨_, rfl⟩
  go_wp2_with fail
  go_fit (rints_new [ck / 65536, ck % 65536] g2 w2 hg2 (by intro x hx; simp at hx; omega) (by simp))
  rintro e w4 ⟨rfl, f4⟩
  go_wp2_with fail
  go_ret
  exact ⟨rfl, fr2.seqN f4⟩

set_option maxHeartbeats 2000000 in
theorem rprint_Chunk (a t j i n : Int) (sp : List Sp) (sa : Option Addr) (sn sc : Nat) (w : World) (hsp : RdSp w (.slice sa sn sc) sp) (hok : Ms.ok (.chunk a t j i n sp) = true) :
    Calls Tryz.prog 16 #[mrV { k := 6, a := a, t := t, j := j, i := i, n := n, sa := sa, sn := sn, sc := sc }] w fun e w' => e = .returned (.string (strB (Ms.txt (.chunk a t j i n sp)))) ∧ Fr noB w w' := by
  have htx : Ms.txt (.chunk a t j i n sp) = Ms.body (.chunk a t j i n sp) ++ sums (checkL (Ms.body (.chunk a t j i n sp))) := by
    unfold Ms.txt
    rw [hok]
    rfl
  rw [htx]
  unfold mrV mrC
  have fX := (Fr.refl noB w).alloc (.cells #[.int .i64 6, .int .i64 a, .int .i64 t, .int .i64 j, .int .i64 0, .int .i64 i, .int .i64 n, .int .i64 0, .int .i64 0, .int .i64 0, .int .i64 0, .slice none 0 0, .bool false, .slice none 0 0, .slice sa sn sc] 35)
  have bX := Blk.new w 35 [.int .i64 6, .int .i64 a, .int .i64 t, .int .i64 j, .int .i64 0, .int .i64 i, .int .i64 n, .int .i64 0, .int .i64 0, .int .i64 0, .int .i64 0, .slice none 0 0, .bool false, .slice none 0 0, .slice sa sn sc]
  obtain ⟨gx, hgx⟩ : ∃ g, w.heap.size = g := ⟨_, rfl⟩
  rw [hgx] at bX
  have hbl := body_len hok
  have hfl := fl_len hok
  have hbe : Ms.body (.chunk a t j i n sp) = numL (6 : Int).toNat ++ Ms.fl (.chunk a t j i n sp) := by
    show numsL [6] ++ Ms.fl (.chunk a t j i n sp) = _
    rw [nums_cons, nums_nil, List.append_nil]
  have hbody : strB (numL (6 : Int).toNat) ++ strB (Ms.fl (.chunk a t j i n sp)) = strB (Ms.body (.chunk a t j i n sp)) := by
    rw [strB_append, hbe]
  clear hbe htx
  have hl0 := (num_len (6 : Int).toNat).2
  have ad1 := fun w => run_string_add_sum (P := Tryz.prog) (w := w) (strB (numL (6 : Int).toNat)) (strB (Ms.fl (.chunk a t j i n sp))) (by rw [strB_size, strB_size]; omega)
  have hch := fun w => rcheck_any (strB (Ms.body (.chunk a t j i n sp))) w (by rw [strB_size]; unfold maxLen; omega)
  rw [strB_list] at hch
  have hbd := checkL_bd (Ms.body (.chunk a t j i n sp))
  have hls : (sums (checkL (Ms.body (.chunk a t j i n sp)))).length ≤ 56 := by
    unfold sums
    have h2 := nums_len [checkL (Ms.body (.chunk a t j i n sp)) / 65536, checkL (Ms.body (.chunk a t j i n sp)) % 65536]
    simp only [List.length_cons, List.length_nil] at h2
    omega
  have ad2 := fun w => run_string_add_sum (P := Tryz.prog) (w := w) (strB (Ms.body (.chunk a t j i n sp))) (strB (sums (checkL (Ms.body (.chunk a t j i n sp))))) (by rw [strB_size, strB_size]; omega)
  have hfin : strB (Ms.body (.chunk a t j i n sp)) ++ strB (sums (checkL (Ms.body (.chunk a t j i n sp)))) = strB (Ms.body (.chunk a t j i n sp) ++ sums (checkL (Ms.body (.chunk a t j i n sp)))) := strB_append _ _
  rw [← hfin]
  rw [hbody] at ad1
  have hri := fun w => refint_any 6 w (by omega) (by omega)
  unfold sums at *
  obtain ⟨hx5, h3, h4⟩ := chunk_lim hok
  have hpl := printL_1024 h3 h4
  have hfe : strB (Ms.fl (.chunk a t j i n sp)) = strB (numsL [a, t, j, i, n]) ++ strB (textL (printL sp)) := by rw [strB_append]; rfl
  rw [hfe] at ad1 hbody
  have ad0 := fun w => run_string_add_sum (P := Tryz.prog) (w := w) (strB (numsL [a, t, j, i, n])) (strB (textL (printL sp))) (by
    have e := congrArg ByteArray.size hfe
    rw [ByteArray.size_append, strB_size] at e
    omega)
  have hr5 := fun w => rints_drew [a, t, j, i, n] w hx5 (by simp)
  have hrp := fun w' (f : Fr noB w w') => rprint_any (.slice sa sn sc) sp w' (hsp.frN f) (by omega)
  have hrx := fun w' => reftext_any (strB (printL sp)) w' (by rw [strB_size]; omega)
  rw [strB_list] at hrx
  generalize strB (numsL [a, t, j, i, n]) = S1 at *
  generalize strB (textL (printL sp)) = S2 at *
  generalize strB (printL sp) = SP at *
  replace hr5 := Lib.hid hr5
  replace hrp := Lib.hid hrp
  replace hrx := Lib.hid hrx
  clear hx5 h3 h4 hpl hfe
  generalize checkL (Ms.body (.chunk a t j i n sp)) = ck at *
  generalize strB (Ms.body (.chunk a t j i n sp)) = BD at *
  generalize strB (numL (6 : Int).toNat) = N2 at *
  replace hri := Lib.hid hri
  replace hch := Lib.hid hch
  replace hbody := Lib.hid hbody
  replace hok := Lib.hid hok
  clear hbl hl0 hls hfin hfl
  obtain ⟨k0, k1⟩ := hbd
  have e0 : (w.alloc (.cells #[.int .i64 6, .int .i64 a, .int .i64 t, .int .i64 j, .int .i64 0, .int .i64 i, .int .i64 n, .int .i64 0, .int .i64 0, .int .i64 0, .int .i64 0, .slice none 0 0, .bool false, .slice none 0 0, .slice sa sn sc] 35)).cell? ⟨gx, 0, none⟩ = some (.int .i64 6) := bX.cell 0
  go_enter Tryz.func16, Tryz.ntmps16
  go_wp2_with fail
  generalize (w.alloc (.cells #[.int .i64 6, .int .i64 a, .int .i64 t, .int .i64 j, .int .i64 0, .int .i64 i, .int .i64 n, .int .i64 0, .int .i64 0, .int .i64 0, .int .i64 0, .slice none 0 0, .bool false, .slice none 0 0, .slice sa sn sc] 35)) = wx at *
  go_fit (hri.out _)
  rintro e w1 ⟨rfl, f1⟩
  have b1 := f1.blk bX (fun q => q)
  have d0 : w1.cell? ⟨gx, 0, none⟩ = some (.int .i64 6) := b1.cell 0
  have fr1 := fX.seqN f1
  have hS : ∀ w', Fr noB w1 w' → (w'.cell? ⟨gx, 1, none⟩ = some (.int .i64 a) ∧ w'.cell? ⟨gx, 2, none⟩ = some (.int .i64 t) ∧ w'.cell? ⟨gx, 3, none⟩ = some (.int .i64 j) ∧ w'.cell? ⟨gx, 5, none⟩ = some (.int .i64 i) ∧ w'.cell? ⟨gx, 6, none⟩ = some (.int .i64 n) ∧ w'.cell? ⟨gx, 14, none⟩ = some (.slice sa sn sc)) := fun w' f => by
    have b := f.blk b1 (fun q => q)
    exact ⟨b.cell 1, b.cell 2, b.cell 3, b.cell 5, b.cell 6, b.cell 14⟩
  replace hS := Lib.hid hS
  clear fX f1 bX e0 b1
  go_upto_region 16 with fail
  have fq := (Fr.refl noB w1).drewN 1
  go_wp2_with fail
  go_region_held3 (fun w' => w'.cell? ⟨gx, 1, none⟩ = some (.int .i64 a) ∧ w'.cell? ⟨gx, 2, none⟩ = some (.int .i64 t) ∧ w'.cell? ⟨gx, 3, none⟩ = some (.int .i64 j) ∧ w'.cell? ⟨gx, 5, none⟩ = some (.int .i64 i) ∧ w'.cell? ⟨gx, 6, none⟩ = some (.int .i64 n) ∧ w'.cell? ⟨gx, 14, none⟩ = some (.slice sa sn sc))
    (first | exact hS.out _ fq | exact hS.out _ (fq.alloc _) | exact hS.out _ ((Fr.refl noB _).drewN 1) | exact hS.out _ (((Fr.refl noB _).drewN 1).alloc _) | exact hS.out _ (((Fr.refl noB _).alloc _).drew) | fail)
    (first
     | (go_at_call 35; refine (hr5.out _).mono ?_; rintro e w5 ⟨rfl, fq⟩)
     | (go_at_call 38; refine (hrp.out _ (fr1.seqN fq)).mono ?_; rintro e w5 ⟨rfl, f5⟩; have fq := fq.seqN f5)
     | (go_at_call 37; refine (hrx.out _).mono ?_; rintro e w5 ⟨rfl, f5⟩; have fq := fq.seqN f5)
     | fail)
  all_goals (
    obtain ⟨w2, fr2, hw2⟩ : ∃ w2, Fr noB w w2 ∧ w2 = w5 := ⟨_, fr1.seqN fq, rfl⟩
    rw [← hw2]
    clear hw2 fq fr1 d0 hS hr5 hrp hrx
    go_wp2_with fail
    go_fit (hch.out _)
    rintro e w3 ⟨rfl, hw3⟩
    obtain rfl := hw3.symm
    obtain ⟨g2, hg2⟩ : ∃ g, w2.heap.size = g := ⟨_, rfl⟩
    go_wp2_with fail
    go_fit (rints_new [ck / 65536, ck % 65536] g2 w2 hg2 (by intro x hx; simp at hx; omega) (by simp))
    rintro e w4 ⟨rfl, f4⟩
    go_wp2_with fail
    go_ret
    exact ⟨rfl, fr2.seqN f4⟩)
end Go.Proofs.YtbmafogjmdilkaaGreatDoor
end

section
set_option linter.unusedVariables false
set_option linter.unusedSimpArgs false
set_option maxRecDepth 100000
set_option maxRecDepth 100000
namespace Go.Proofs.YtbmafogjmdilkaaGreatDoor
open Go.RowKit Go Go.Lib


set_option maxHeartbeats 2000000 in
theorem rprint_Manifest (t j c : Int) (ps : List Pn) (qa : Option Addr) (qn qc : Nat) (w : World) (hps : RdPs w (.slice qa qn qc) ps) (hok : Ms.ok (.manifest t j c ps) = true) :
    Calls Tryz.prog 16 #[mrV { k := 7, t := t, j := j, c := c, qa := qa, qn := qn, qc := qc }] w fun e w' => e = .returned (.string (strB (Ms.txt (.manifest t j c ps)))) ∧ Fr noB w w' := by
  have htx : Ms.txt (.manifest t j c ps) = Ms.body (.manifest t j c ps) ++ sums (checkL (Ms.body (.manifest t j c ps))) := by
    unfold Ms.txt
    rw [hok]
    rfl
  rw [htx]
  unfold mrV mrC
  have fX := (Fr.refl noB w).alloc (.cells #[.int .i64 7, .int .i64 0, .int .i64 t, .int .i64 j, .int .i64 c, .int .i64 0, .int .i64 0, .int .i64 0, .int .i64 0, .int .i64 0, .int .i64 0, .slice none 0 0, .bool false, .slice qa qn qc, .slice none 0 0] 35)
  have bX := Blk.new w 35 [.int .i64 7, .int .i64 0, .int .i64 t, .int .i64 j, .int .i64 c, .int .i64 0, .int .i64 0, .int .i64 0, .int .i64 0, .int .i64 0, .int .i64 0, .slice none 0 0, .bool false, .slice qa qn qc, .slice none 0 0]
  obtain ⟨gx, hgx⟩ : ∃ g, w.heap.size = g := ⟨_, rfl⟩
  rw [hgx] at bX
  have hbl := body_len hok
  have hfl := fl_len hok
  have hbe : Ms.body (.manifest t j c ps) = numL (7 : Int).toNat ++ Ms.fl (.manifest t j c ps) := by
    show numsL [7] ++ Ms.fl (.manifest t j c ps) = _
    rw [nums_cons, nums_nil, List.append_nil]
  have hbody : strB (numL (7 : Int).toNat) ++ strB (Ms.fl (.manifest t j c ps)) = strB (Ms.body (.manifest t j c ps)) := by
    rw [strB_append, hbe]
  clear hbe htx
  have hl0 := (num_len (7 : Int).toNat).2
  have ad1 := fun w => run_string_add_sum (P := Tryz.prog) (w := w) (strB (numL (7 : Int).toNat)) (strB (Ms.fl (.manifest t j c ps))) (by rw [strB_size, strB_size]; omega)
  have hch := fun w => rcheck_any (strB (Ms.body (.manifest t j c ps))) w (by rw [strB_size]; unfold maxLen; omega)
  rw [strB_list] at hch
  have hbd := checkL_bd (Ms.body (.manifest t j c ps))
  have hls : (sums (checkL (Ms.body (.manifest t j c ps)))).length ≤ 56 := by
    unfold sums
    have h2 := nums_len [checkL (Ms.body (.manifest t j c ps)) / 65536, checkL (Ms.body (.manifest t j c ps)) % 65536]
    simp only [List.length_cons, List.length_nil] at h2
    omega
  have ad2 := fun w => run_string_add_sum (P := Tryz.prog) (w := w) (strB (Ms.body (.manifest t j c ps))) (strB (sums (checkL (Ms.body (.manifest t j c ps))))) (by rw [strB_size, strB_size]; omega)
  have hfin : strB (Ms.body (.manifest t j c ps)) ++ strB (sums (checkL (Ms.body (.manifest t j c ps)))) = strB (Ms.body (.manifest t j c ps) ++ sums (checkL (Ms.body (.manifest t j c ps)))) := strB_append _ _
  rw [← hfin]
  rw [hbody] at ad1
  have hri := fun w => refint_any 7 w (by omega) (by omega)
  unfold sums at *
  obtain ⟨hx3, h3, h0, h4⟩ := man_lim hok
  have hqn : qn = ps.length := by
    obtain ⟨_, _, e, _⟩ := hps
    injection e
  subst hqn
  have hx4 : ∀ x ∈ [t, j, c, (ps.length : Int)], -9223372036854775808 ≤ x ∧ x ≤ 9223372036854775807 := by
    intro x hq
    simp only [List.mem_cons, List.not_mem_nil, or_false] at hq
    rcases hq with q | q | q | q
    · exact hx3 x (by simp [q])
    · exact hx3 x (by simp [q])
    · exact hx3 x (by simp [q])
    · omega
  have hr4 := fun w g hg => rints_new [t, j, c, (ps.length : Int)] g w hg hx4 (by simp)
  have hst := parts_take ps
  have hget : ∀ k, k < ps.length → ∃ m, ps[k]? = some m := fun k hk => ⟨ps[k], List.getElem?_eq_getElem hk⟩
  have hz0 : (ps.take 0).flatMap pinT = [] := rfl
  have hend : (ps.take ps.length).flatMap pinT = ps.flatMap pinT := by rw [List.take_length]
  have hln : ∀ k, ((ps.take k).flatMap pinT).length ≤ 1120 := fun k => by
    have h1 := pins_len (ps.take k) (fun p hp => h4 p (List.mem_of_mem_take hp))
    have h2 : (ps.take k).length ≤ 4 := by rw [List.length_take]; omega
    omega
  have hnl := nums_len [t, j, c, (ps.length : Int)]
  simp only [List.length_cons, List.length_nil] at hnl
  have adA := fun w => run_string_add_sum (P := Tryz.prog) (w := w) (strB (numL (7 : Int).toNat)) (strB (numsL [t, j, c, (ps.length : Int)])) (by rw [strB_size, strB_size]; omega)
  rw [strB_append] at adA
  have hfe : strB ((numL (7 : Int).toNat ++ numsL [t, j, c, (ps.length : Int)]) ++ ps.flatMap pinT) = strB (Ms.body (.manifest t j c ps)) := by
    rw [← hbody, strB_append, List.append_assoc]
    rfl
  have hpt := fun k p (hk : ps[k]? = some p) u (hu : RdI w u p.cr) w' (f : Fr noB w w') => rpart_text p u w' (h4 p (List.mem_of_getElem? hk)) (hu.frN f)
  have hcat : ∀ k p, ps[k]? = some p → strB ((numL (7 : Int).toNat ++ numsL [t, j, c, (ps.length : Int)]) ++ (ps.take k).flatMap pinT) ++ strB (pinT p) = strB ((numL (7 : Int).toNat ++ numsL [t, j, c, (ps.length : Int)]) ++ (ps.take (k + 1)).flatMap pinT) := fun k p hk => by
    rw [strB_append, List.append_assoc, hst k p hk]
  have hsz : ∀ k p, ps[k]? = some p → (strB ((numL (7 : Int).toNat ++ numsL [t, j, c, (ps.length : Int)]) ++ (ps.take k).flatMap pinT)).size + (strB (pinT p)).size ≤ 9223372036854775807 := fun k p hk => by
    have h5 := pinT_len (h4 p (List.mem_of_getElem? hk))
    have h6 := hln k
    rw [strB_size, strB_size, List.length_append, List.length_append]
    omega
  generalize numL (7 : Int).toNat ++ numsL [t, j, c, (ps.length : Int)] = HD at *
  generalize strB (numsL [t, j, c, (ps.length : Int)]) = S4 at *
  obtain ⟨_, _, e1, hx1, hx2, hx3b⟩ := hps
  cases e1
  obtain ⟨N, hN⟩ : ∃ N, ps.length = N := ⟨_, rfl⟩
  have hr4b := hr4
  simp only [hN] at hget hend hx1 hx2 h3 h0 fX bX hr4 ⊢
  replace hr4 := Lib.hid hr4
  replace hst := Lib.hid hst
  replace hget := Lib.hid hget
  replace hz0 := Lib.hid hz0
  replace hend := Lib.hid hend
  replace hln := Lib.hid hln
  replace hfe := Lib.hid hfe
  replace hpt := Lib.hid hpt
  replace hcat := Lib.hid hcat
  replace hsz := Lib.hid hsz
  replace hx3b := Lib.hid hx3b
  replace hN := Lib.hid hN
  replace hx4 := Lib.hid hx4
  clear hx3 h4 hnl ad1 hr4b
  generalize checkL (Ms.body (.manifest t j c ps)) = ck at *
  generalize strB (Ms.body (.manifest t j c ps)) = BD at *
  generalize strB (numL (7 : Int).toNat) = N2 at *
  replace hri := Lib.hid hri
  replace hch := Lib.hid hch
  replace hbody := Lib.hid hbody
  replace hok := Lib.hid hok
  clear hbl hl0 hls hfin hfl
  obtain ⟨k0, k1⟩ := hbd
  have e0 : (w.alloc (.cells #[.int .i64 7, .int .i64 0, .int .i64 t, .int .i64 j, .int .i64 c, .int .i64 0, .int .i64 0, .int .i64 0, .int .i64 0, .int .i64 0, .int .i64 0, .slice none 0 0, .bool false, .slice qa N qc, .slice none 0 0] 35)).cell? ⟨gx, 0, none⟩ = some (.int .i64 7) := bX.cell 0
  go_enter Tryz.func16, Tryz.ntmps16
  go_wp2_with fail
  generalize (w.alloc (.cells #[.int .i64 7, .int .i64 0, .int .i64 t, .int .i64 j, .int .i64 c, .int .i64 0, .int .i64 0, .int .i64 0, .int .i64 0, .int .i64 0, .int .i64 0, .slice none 0 0, .bool false, .slice qa N qc, .slice none 0 0] 35)) = wx at *
  go_fit (hri.out _)
  rintro e w1 ⟨rfl, f1⟩
  have b1 := f1.blk bX (fun q => q)
  have d0 : w1.cell? ⟨gx, 0, none⟩ = some (.int .i64 7) := b1.cell 0
  have fr1 := fX.seqN f1
  have c2 : w1.cell? ⟨gx, 2, none⟩ = some (.int .i64 t) := b1.cell 2
  have c3 : w1.cell? ⟨gx, 3, none⟩ = some (.int .i64 j) := b1.cell 3
  have c4 : w1.cell? ⟨gx, 4, none⟩ = some (.int .i64 c) := b1.cell 4
  have c13 : w1.cell? ⟨gx, 13, none⟩ = some (.slice qa N qc) := b1.cell 13
  obtain ⟨g1, hg1⟩ : ∃ g, w1.heap.size = g := ⟨_, rfl⟩
  clear fX f1 bX e0
  replace b1 := Lib.hid b1
  go_wp2_with fail
  go_fit (hr4.out w1 g1 hg1)
  rintro e wa ⟨rfl, fa⟩
  have fra := fr1.seqN fa
  have ba := fa.blk b1.out (fun q => q)
  clear c2 c3 c4 c13 hg1 d0 b1
  replace ba := Lib.hid ba
  go_wp2_with fail
  go_loopg [3, 4] N (fun gk vs vi w3 => ∃ k : Nat, k + gk = N ∧ vi = .int .i64 k ∧ vs = .string (strB (HD ++ (ps.take k).flatMap pinT)) ∧ Fr noB wa w3)
  case atStart => exact ⟨0, by omega, rfl, by rw [hz0.out, List.append_nil], Fr.refl _ _⟩
  case round =>
    obtain ⟨k, hkn, rfl, rfl, fr⟩ := hrel
    have hbk := fr.blk ba.out (fun q => q)
    have d13 : wr.cell? ⟨gx, 13, none⟩ = some (.slice qa N qc) := hbk.cell 13
    clear hbk
    have frw := fra.seqN fr
    by_cases hlt : k < N
    · obtain ⟨p, hs⟩ := hget.out k hlt
      obtain ⟨g', o, ua, uc, rfl, hc, hri2⟩ := hx3b.out k p hs
      have c0 : wr.cell? ⟨g', o + k * 6, none⟩ = some (.int .i64 p.a) := frw.cell (hc 0 _ rfl) (fun q => q)
      have c1 : wr.cell? ⟨g', o + k * 6 + 1, none⟩ = some (.int .i64 p.t) := frw.cell (hc 1 _ rfl) (fun q => q)
      have c2 : wr.cell? ⟨g', o + k * 6 + 2, none⟩ = some (.int .i64 p.j) := frw.cell (hc 2 _ rfl) (fun q => q)
      have c3 : wr.cell? ⟨g', o + k * 6 + 3, none⟩ = some (.int .i64 p.n) := frw.cell (hc 3 _ rfl) (fun q => q)
      have c4 : wr.cell? ⟨g', o + k * 6 + 4, none⟩ = some (.slice ua p.cr.length uc) := frw.cell (hc 4 _ rfl) (fun q => q)
      have c5 : wr.cell? ⟨g', o + k * 6 + 5, none⟩ = some (.bool p.lo) := frw.cell (hc 5 _ rfl) (fun q => q)
      have hp1 := hpt.out k p hs _ hri2 wr frw
      have hct := hcat.out k p hs
      have adk := fun w => run_string_add_sum (P := Tryz.prog) (w := w) _ _ (hsz.out k p hs)
      have hb1 : (k : Int) < N := by omega
      have hmeas : N - (k + 1) < gk := by omega
      have hkn2 : k + 1 + (N - (k + 1)) = N := by omega
      generalize p.cr.length = cl at *
      generalize strB (pinT p) = PT at *
      generalize strB (HD ++ (ps.take k).flatMap pinT) = SK at *
      replace hp1 := Lib.hid hp1
      replace hct := Lib.hid hct
      replace hs := Lib.hid hs
      replace hmeas := Lib.hid hmeas
      replace hkn2 := Lib.hid hkn2
      clear hc hri2 frw hkn hlt
      go_wp2_with fail
      go_fit hp1.out
      rintro e w4 ⟨rfl, f4⟩
      go_wp2_with fail
      go_roundg (N - (k + 1))
      case rel => exact ⟨k + 1, hkn2.out, by go_num, by rw [← hct.out], fr.seqN f4⟩
      case measure => exact hmeas.out
    · obtain rfl : k = N := by omega
      rw [hend.out, hfe.out]
      obtain ⟨w2, fr2, hw2⟩ : ∃ w2, Fr noB w w2 ∧ w2 = wr := ⟨_, frw, rfl⟩
      rw [← hw2] at d13 ⊢
      clear hw2
      go_wp2_with fail
      go_fit (hch.out _)
      rintro e w3 ⟨rfl, hw3⟩
      obtain rfl := hw3.symm
      obtain ⟨g2, hg2⟩ : ∃ g, w2.heap.size = g := ⟨_, rfl⟩
      go_wp2_with fail
      go_fit (rints_new [ck / 65536, ck % 65536] g2 w2 hg2 (by intro x hx; simp at hx; omega) (by simp))
      rintro e w4 ⟨rfl, f4⟩
      go_wp2_with fail
      go_ret
      exact ⟨rfl, fr2.seqN f4⟩
end Go.Proofs.YtbmafogjmdilkaaGreatDoor
end

section
set_option linter.unusedVariables false
set_option linter.unusedSimpArgs false
set_option maxRecDepth 100000
set_option maxRecDepth 100000
namespace Go.Proofs.YtbmafogjmdilkaaGreatDoor
open Go.RowKit Go Go.Lib

/-- the value v is the reference's message m -/
def RfW (w : World) (v : Value) : Ms → Prop
  | .trigger a t c => v = mrV { k := 1, a := a, t := t, c := c }
  | .pin t j => v = mrV { k := 2, t := t, j := j }
  | .pinned p => ∃ ua uc, v = mrV { k := 3, pa := p.a, pt := p.t, pj := p.j, pc := p.n, ua := ua, un := p.cr.length, uc := uc, lo := p.lo } ∧ RdI w (.slice ua p.cr.length uc) p.cr
  | .gone a t j => v = mrV { k := 4, a := a, t := t, j := j }
  | .collect t j => v = mrV { k := 5, t := t, j := j }
  | .chunk a t j i n sp => ∃ sa sc, v = mrV { k := 6, a := a, t := t, j := j, i := i, n := n, sa := sa, sn := sp.length, sc := sc } ∧ RdSp w (.slice sa sp.length sc) sp
  | .manifest t j c ps => ∃ qa qc, v = mrV { k := 7, t := t, j := j, c := c, qa := qa, qn := ps.length, qc := qc } ∧ RdPs w (.slice qa ps.length qc) ps
  | .stored t j => v = mrV { k := 8, t := t, j := j }
  | .unpin t j => v = mrV { k := 9, t := t, j := j }
  | .unpinned a t j => v = mrV { k := 10, a := a, t := t, j := j }
theorem RfW.frN {w w' : World} {v : Value} {m : Ms} (h : RfW w v m) (hf : Fr noB w w') : RfW w' v m := by
  cases m with
  | pinned p => obtain ⟨a, c, e, h1⟩ := h; exact ⟨a, c, e, h1.frN hf⟩
  | chunk => obtain ⟨a, c, e, h1⟩ := h; exact ⟨a, c, e, h1.frN hf⟩
  | manifest => obtain ⟨a, c, e, h1⟩ := h; exact ⟨a, c, e, h1.frH hf.toH⟩
  | _ => exact h
def Ms.few : Ms → Prop
  | .manifest _ _ _ ps => ps.length ≤ 100
  | _ => True
theorem like_ms (v : Value) (m : Ms) (w : World) (h : MsW w v m) (hl : m.few) : Calls Tryz.prog 11 #[v] w fun e w' => ∃ u, e = .returned u ∧ RfW w' u m ∧ Fr noB w w' := by
  cases m with
  | trigger a t c => obtain rfl := h; exact (like_Trigger a t c w).mono fun e w' ⟨h1, f⟩ => ⟨_, h1, rfl, f⟩
  | pin t j => obtain rfl := h; exact (like_Pin t j w).mono fun e w' ⟨h1, f⟩ => ⟨_, h1, rfl, f⟩
  | pinned p =>
    obtain ⟨u, rfl, h1⟩ := h
    have h0 := h1
    obtain ⟨ua, uc, rfl, _⟩ := h1
    exact (like_Pinned p.a p.t p.j p.n ua _ uc p.lo w).mono fun e w' ⟨h2, f⟩ => ⟨_, h2, ⟨ua, uc, rfl, h0.frN f⟩, f⟩
  | gone a t j => obtain rfl := h; exact (like_Gone a t j w).mono fun e w' ⟨h1, f⟩ => ⟨_, h1, rfl, f⟩
  | collect t j => obtain rfl := h; exact (like_Collect t j w).mono fun e w' ⟨h1, f⟩ => ⟨_, h1, rfl, f⟩
  | chunk a t j i n sp =>
    obtain ⟨u, rfl, h1⟩ := h
    have h0 := h1
    obtain ⟨sa, sc, rfl, _⟩ := h1
    exact (like_Chunk a t j i n sa _ sc w).mono fun e w' ⟨h2, f⟩ => ⟨_, h2, ⟨sa, sc, rfl, h0.frN f⟩, f⟩
  | manifest t j c ps =>
    obtain ⟨u, rfl, h1⟩ := h
    refine (like_Manifest t j c u ps w h1 hl).mono ?_
    rintro e w' ⟨qa, qc, rfl, h2, f⟩
    exact ⟨_, rfl, ⟨qa, qc, rfl, h2⟩, f⟩
  | stored t j => obtain rfl := h; exact (like_Stored t j w).mono fun e w' ⟨h1, f⟩ => ⟨_, h1, rfl, f⟩
  | unpin t j => obtain rfl := h; exact (like_Unpin t j w).mono fun e w' ⟨h1, f⟩ => ⟨_, h1, rfl, f⟩
  | unpinned a t j => obtain rfl := h; exact (like_Unpinned a t j w).mono fun e w' ⟨h1, f⟩ => ⟨_, h1, rfl, f⟩
theorem lims3 {a b c : Int} (ha : -9223372036854775808 ≤ a ∧ a ≤ 9223372036854775807) (hb : -9223372036854775808 ≤ b ∧ b ≤ 9223372036854775807) (hc : -9223372036854775808 ≤ c ∧ c ≤ 9223372036854775807) : ∀ x ∈ [a, b, c], -9223372036854775808 ≤ x ∧ x ≤ 9223372036854775807 := by
  intro x hx
  simp only [List.mem_cons, List.not_mem_nil, or_false] at hx
  rcases hx with rfl | rfl | rfl <;> assumption
theorem lims2 {a b : Int} (ha : -9223372036854775808 ≤ a ∧ a ≤ 9223372036854775807) (hb : -9223372036854775808 ≤ b ∧ b ≤ 9223372036854775807) : ∀ x ∈ [a, b], -9223372036854775808 ≤ x ∧ x ≤ 9223372036854775807 := by
  intro x hx
  simp only [List.mem_cons, List.not_mem_nil, or_false] at hx
  rcases hx with rfl | rfl <;> assumption
theorem rprint_ms (v : Value) (m : Ms) (w : World) (h : RfW w v m) (hok : m.ok = true) : Calls Tryz.prog 16 #[v] w fun e w' => e = .returned (.string (strB m.txt)) ∧ Fr noB w w' := by
  cases m with
  | trigger a t c =>
    obtain rfl := h
    refine rprint_Trigger a t c w hok ?_
    simp only [Ms.ok, bTrigger, Bool.and_eq_true] at hok
    exact lims3 (inB_lims _ _ _ hok.1 (by omega) (by omega)) (inB_lims _ _ _ hok.2.1 (by omega) (by omega)) (inB_lims _ _ _ hok.2.2 (by omega) (by omega))
  | pin t j =>
    obtain rfl := h
    refine rprint_Pin t j w hok ?_
    simp only [Ms.ok, bPin, Bool.and_eq_true] at hok
    exact lims2 (inB_lims _ _ _ hok.1 (by omega) (by omega)) (inB_lims _ _ _ hok.2 (by omega) (by omega))
  | pinned p => obtain ⟨ua, uc, rfl, h1⟩ := h; exact rprint_Pinned p ua _ uc w h1 hok
  | gone a t j =>
    obtain rfl := h
    refine rprint_Gone a t j w hok ?_
    simp only [Ms.ok, bGone, Bool.and_eq_true] at hok
    exact lims3 (inB_lims _ _ _ hok.1 (by omega) (by omega)) (inB_lims _ _ _ hok.2.1 (by omega) (by omega)) (inB_lims _ _ _ hok.2.2 (by omega) (by omega))
  | collect t j =>
    obtain rfl := h
    refine rprint_Collect t j w hok ?_
    simp only [Ms.ok, bCollect, Bool.and_eq_true] at hok
    exact lims2 (inB_lims _ _ _ hok.1 (by omega) (by omega)) (inB_lims _ _ _ hok.2 (by omega) (by omega))
  | chunk a t j i n sp => obtain ⟨sa, sc, rfl, h1⟩ := h; exact rprint_Chunk a t j i n sp sa _ sc w h1 hok
  | manifest t j c ps => obtain ⟨qa, qc, rfl, h1⟩ := h; exact rprint_Manifest t j c ps qa _ qc w h1 hok
  | stored t j =>
    obtain rfl := h
    refine rprint_Stored t j w hok ?_
    simp only [Ms.ok, bStored, Bool.and_eq_true] at hok
    exact lims2 (inB_lims _ _ _ hok.1 (by omega) (by omega)) (inB_lims _ _ _ hok.2 (by omega) (by omega))
  | unpin t j =>
    obtain rfl := h
    refine rprint_Unpin t j w hok ?_
    simp only [Ms.ok, bUnpin, Bool.and_eq_true] at hok
    exact lims2 (inB_lims _ _ _ hok.1 (by omega) (by omega)) (inB_lims _ _ _ hok.2 (by omega) (by omega))
  | unpinned a t j =>
    obtain rfl := h
    refine rprint_Unpinned a t j w hok ?_
    simp only [Ms.ok, bUnpinned, Bool.and_eq_true] at hok
    exact lims3 (inB_lims _ _ _ hok.1 (by omega) (by omega)) (inB_lims _ _ _ hok.2.1 (by omega) (by omega)) (inB_lims _ _ _ hok.2.2 (by omega) (by omega))
end Go.Proofs.YtbmafogjmdilkaaGreatDoor
end

section
set_option linter.unusedVariables false
set_option linter.unusedSimpArgs false
set_option maxRecDepth 100000
namespace Go.Proofs.YtbmafogjmdilkaaGreatDoor
open Go.RowKit Go Go.Lib

set_option maxHeartbeats 2000000 in
theorem same_part (p : Pn) (ua ub : Option Addr) (uc ud : Nat) (w : World) (hu : RdI w (.slice ua p.cr.length uc) p.cr) (hv : RdI w (.slice ub p.cr.length ud) p.cr) :
    Calls Tryz.prog 40 #[.agg #[.int .i64 p.a, .int .i64 p.t, .int .i64 p.j, .int .i64 p.n, .slice ua p.cr.length uc, .bool p.lo], .agg #[.int .i64 p.a, .int .i64 p.t, .int .i64 p.j, .int .i64 p.n, .slice ub p.cr.length ud, .bool p.lo]] w fun e w' => e = .returned (.bool true) ∧ Fr noB w w' := by
  have hs := fun w' (f : Fr noB w w') => sameInts_any _ _ p.cr p.cr w' (hu.frN f) (hv.frN f)
  generalize p.cr.length = cl at *
  have fX := ((Fr.refl noB w).alloc (.cells #[.int .i64 p.a, .int .i64 p.t, .int .i64 p.j, .int .i64 p.n, .slice ua cl uc, .bool p.lo] 32)).alloc (.cells #[.int .i64 p.a, .int .i64 p.t, .int .i64 p.j, .int .i64 p.n, .slice ub cl ud, .bool p.lo] 32)
  have k0 : (p.a == p.a) = true := by simp
  have k1 : (p.t == p.t) = true := by simp
  have k2 : (p.j == p.j) = true := by simp
  have k3 : (p.n == p.n) = true := by simp
  have k4 : (p.lo == p.lo) = true := by simp
  have hs2 := hs _ fX
  rw [show decide (p.cr = p.cr) = true by simp] at hs2
  replace hs2 := Lib.hid hs2
  clear hs hu hv
  go_enter Tryz.func40, Tryz.ntmps40
  go_wp2_with fail
  go_fit hs2.out
  rintro e w1 ⟨rfl, q, hw⟩
  obtain rfl := hw
  go_wp2_with fail
  go_ret
  exact ⟨rfl, fX.drewN q⟩

/-- the reference's message with just these fields -/
def RfG (w : World) (v : Value) (k a t j c i n : Int) (p : Pn) (ps : List Pn) (sp : List Sp) : Prop := ∃ ua uc qa qc sa sc, v = mrV { k := k, a := a, t := t, j := j, c := c, i := i, n := n, pa := p.a, pt := p.t, pj := p.j, pc := p.n, ua := ua, un := p.cr.length, uc := uc, lo := p.lo, qa := qa, qn := ps.length, qc := qc, sa := sa, sn := sp.length, sc := sc } ∧ RdI w (.slice ua p.cr.length uc) p.cr ∧ RdPs w (.slice qa ps.length qc) ps ∧ RdSp w (.slice sa sp.length sc) sp
set_option maxHeartbeats 2000000 in
theorem same_gen (v u : Value) (k a t j c i n : Int) (p : Pn) (ps : List Pn) (sp : List Sp) (w : World) (hv : RfG w v k a t j c i n p ps sp) (hu : RfG w u k a t j c i n p ps sp) :
    Calls Tryz.prog 17 #[v, u] w fun e w' => e = .returned (.bool true) ∧ Fr noB w w' := by
  obtain ⟨ua, uc, qa, qc, sa, sc, rfl, hu1, hq1, hs1⟩ := hv
  obtain ⟨ub, ud, qb, qd, sb, sd, rfl, hu2, hq2, hs2⟩ := hu
  have hsp := fun w' (f : Fr noB w w') => same_part p ua ub uc ud w' (hu1.frN f) (hu2.frN f)
  have hss := fun w' (f : Fr noB w w') => same_any _ _ sp w' (hs1.frN f) (hs2.frN f)
  have hget : ∀ k, k < ps.length → ∃ m, ps[k]? = some m := fun k hk => ⟨ps[k], List.getElem?_eq_getElem hk⟩
  obtain ⟨_, _, e1, hx1, hx2, hx3⟩ := hq1
  cases e1
  obtain ⟨_, _, e2, hy1, hy2, hy3⟩ := hq2
  cases e2
  unfold mrV mrC
  generalize hcl : p.cr.length = cl at *
  generalize hN : ps.length = N at *
  generalize hM : sp.length = M at *
  have hNb : (N : Int) ≤ 9223372036854775807 := by omega
  have fX := ((Fr.refl noB w).alloc (.cells #[.int .i64 k, .int .i64 a, .int .i64 t, .int .i64 j, .int .i64 c, .int .i64 i, .int .i64 n, .int .i64 p.a, .int .i64 p.t, .int .i64 p.j, .int .i64 p.n, .slice ua cl uc, .bool p.lo, .slice qa N qc, .slice sa M sc] 35)).alloc (.cells #[.int .i64 k, .int .i64 a, .int .i64 t, .int .i64 j, .int .i64 c, .int .i64 i, .int .i64 n, .int .i64 p.a, .int .i64 p.t, .int .i64 p.j, .int .i64 p.n, .slice ub cl ud, .bool p.lo, .slice qb N qd, .slice sb M sd] 35)
  have h1 := ((Fr.refl noB (w.alloc (.cells #[.int .i64 k, .int .i64 a, .int .i64 t, .int .i64 j, .int .i64 c, .int .i64 i, .int .i64 n, .int .i64 p.a, .int .i64 p.t, .int .i64 p.j, .int .i64 p.n, .slice ua cl uc, .bool p.lo, .slice qa N qc, .slice sa M sc] 35))).alloc (.cells #[.int .i64 k, .int .i64 a, .int .i64 t, .int .i64 j, .int .i64 c, .int .i64 i, .int .i64 n, .int .i64 p.a, .int .i64 p.t, .int .i64 p.j, .int .i64 p.n, .slice ub cl ud, .bool p.lo, .slice qb N qd, .slice sb M sd] 35)).blk (Blk.new w 35 [.int .i64 k, .int .i64 a, .int .i64 t, .int .i64 j, .int .i64 c, .int .i64 i, .int .i64 n, .int .i64 p.a, .int .i64 p.t, .int .i64 p.j, .int .i64 p.n, .slice ua cl uc, .bool p.lo, .slice qa N qc, .slice sa M sc]) (fun q => q)
  have h2 := Blk.new (w.alloc (.cells #[.int .i64 k, .int .i64 a, .int .i64 t, .int .i64 j, .int .i64 c, .int .i64 i, .int .i64 n, .int .i64 p.a, .int .i64 p.t, .int .i64 p.j, .int .i64 p.n, .slice ua cl uc, .bool p.lo, .slice qa N qc, .slice sa M sc] 35)) 35 [.int .i64 k, .int .i64 a, .int .i64 t, .int .i64 j, .int .i64 c, .int .i64 i, .int .i64 n, .int .i64 p.a, .int .i64 p.t, .int .i64 p.j, .int .i64 p.n, .slice ub cl ud, .bool p.lo, .slice qb N qd, .slice sb M sd]
  rw [size_alloc] at h2
  obtain ⟨g1, hg1⟩ : ∃ g, w.heap.size = g := ⟨_, rfl⟩
  rw [hg1] at h1 h2
  obtain ⟨g2, hg2⟩ : ∃ g, g1 + 1 = g := ⟨_, rfl⟩
  rw [hg2] at h2
  have z0 : ∀ x : Int, (x != x) = false := fun x => by simp
  have hsp1 := hsp _ fX
  replace hsp1 := Lib.hid hsp1
  replace hss := Lib.hid hss
  replace hget := Lib.hid hget
  replace hx3 := Lib.hid hx3
  replace hy3 := Lib.hid hy3
  replace hcl := Lib.hid hcl
  replace hN := Lib.hid hN
  replace hM := Lib.hid hM
  replace hu1 := Lib.hid hu1
  replace hu2 := Lib.hid hu2
  replace hs1 := Lib.hid hs1
  replace hs2 := Lib.hid hs2
  replace h1 := Lib.hid h1
  replace h2 := Lib.hid h2
  clear hsp hx1 hx2 hy2
  go_enter Tryz.func17, Tryz.ntmps17
  go_upto_region 1 with fail
  generalize ((w.alloc (.cells #[.int .i64 k, .int .i64 a, .int .i64 t, .int .i64 j, .int .i64 c, .int .i64 i, .int .i64 n, .int .i64 p.a, .int .i64 p.t, .int .i64 p.j, .int .i64 p.n, .slice ua cl uc, .bool p.lo, .slice qa N qc, .slice sa M sc] 35)).alloc (.cells #[.int .i64 k, .int .i64 a, .int .i64 t, .int .i64 j, .int .i64 c, .int .i64 i, .int .i64 n, .int .i64 p.a, .int .i64 p.t, .int .i64 p.j, .int .i64 p.n, .slice ub cl ud, .bool p.lo, .slice qb N qd, .slice sb M sd] 35)) = wX at *
  have a0 : wX.cell? ⟨g1, 0, none⟩ = some (.int .i64 k) := h1.out.cell 0
  have b0 : wX.cell? ⟨g2, 0, none⟩ = some (.int .i64 k) := h2.out.cell 0
  have a1 : wX.cell? ⟨g1, 1, none⟩ = some (.int .i64 a) := h1.out.cell 1
  have b1 : wX.cell? ⟨g2, 1, none⟩ = some (.int .i64 a) := h2.out.cell 1
  have a2 : wX.cell? ⟨g1, 2, none⟩ = some (.int .i64 t) := h1.out.cell 2
  have b2 : wX.cell? ⟨g2, 2, none⟩ = some (.int .i64 t) := h2.out.cell 2
  have a3 : wX.cell? ⟨g1, 3, none⟩ = some (.int .i64 j) := h1.out.cell 3
  have b3 : wX.cell? ⟨g2, 3, none⟩ = some (.int .i64 j) := h2.out.cell 3
  have a4 : wX.cell? ⟨g1, 4, none⟩ = some (.int .i64 c) := h1.out.cell 4
  have b4 : wX.cell? ⟨g2, 4, none⟩ = some (.int .i64 c) := h2.out.cell 4
  have a5 : wX.cell? ⟨g1, 5, none⟩ = some (.int .i64 i) := h1.out.cell 5
  have b5 : wX.cell? ⟨g2, 5, none⟩ = some (.int .i64 i) := h2.out.cell 5
  have a6 : wX.cell? ⟨g1, 6, none⟩ = some (.int .i64 n) := h1.out.cell 6
  have b6 : wX.cell? ⟨g2, 6, none⟩ = some (.int .i64 n) := h2.out.cell 6
  have a7 : wX.cell? ⟨g1, 7, none⟩ = some (.int .i64 p.a) := h1.out.cell 7
  have b7 : wX.cell? ⟨g2, 7, none⟩ = some (.int .i64 p.a) := h2.out.cell 7
  have a8 : wX.cell? ⟨g1, 8, none⟩ = some (.int .i64 p.t) := h1.out.cell 8
  have b8 : wX.cell? ⟨g2, 8, none⟩ = some (.int .i64 p.t) := h2.out.cell 8
  have a9 : wX.cell? ⟨g1, 9, none⟩ = some (.int .i64 p.j) := h1.out.cell 9
  have b9 : wX.cell? ⟨g2, 9, none⟩ = some (.int .i64 p.j) := h2.out.cell 9
  have a10 : wX.cell? ⟨g1, 10, none⟩ = some (.int .i64 p.n) := h1.out.cell 10
  have b10 : wX.cell? ⟨g2, 10, none⟩ = some (.int .i64 p.n) := h2.out.cell 10
  have a11 : wX.cell? ⟨g1, 11, none⟩ = some (.slice ua cl uc) := h1.out.cell 11
  have b11 : wX.cell? ⟨g2, 11, none⟩ = some (.slice ub cl ud) := h2.out.cell 11
  have a12 : wX.cell? ⟨g1, 12, none⟩ = some (.bool p.lo) := h1.out.cell 12
  have b12 : wX.cell? ⟨g2, 12, none⟩ = some (.bool p.lo) := h2.out.cell 12
  have a13 : wX.cell? ⟨g1, 13, none⟩ = some (.slice qa N qc) := h1.out.cell 13
  have b13 : wX.cell? ⟨g2, 13, none⟩ = some (.slice qb N qd) := h2.out.cell 13
  have a14 : wX.cell? ⟨g1, 14, none⟩ = some (.slice sa M sc) := h1.out.cell 14
  have b14 : wX.cell? ⟨g2, 14, none⟩ = some (.slice sb M sd) := h2.out.cell 14
  go_wp2_with fail
  go_fit hsp1.out
  rintro e w1 ⟨rfl, f1⟩
  have fr1 := fX.seqN f1
  have h1w1 := f1.blk h1.out (fun q => q)
  have h2w1 := f1.blk h2.out (fun q => q)
  clear a0 b0 a1 b1 a2 b2 a3 b3 a4 b4 a5 b5 a6 b6 a7 b7 a8 b8 a9 b9 a10 b10 a11 b11 a12 b12 a13 b13 a14 b14
  have a13 : w1.cell? ⟨g1, 13, none⟩ = some (.slice qa N qc) := h1w1.cell 13
  have b13 : w1.cell? ⟨g2, 13, none⟩ = some (.slice qb N qd) := h2w1.cell 13
  have a14 : w1.cell? ⟨g1, 14, none⟩ = some (.slice sa M sc) := h1w1.cell 14
  have b14 : w1.cell? ⟨g2, 14, none⟩ = some (.slice sb M sd) := h2w1.cell 14
  have hss1 := hss.out w1 fr1
  replace hss1 := Lib.hid hss1
  replace h1w1 := Lib.hid h1w1
  replace h2w1 := Lib.hid h2w1
  go_wp2_with fail
  go_fit hss1.out
  rintro e w2 ⟨rfl, f2⟩
  have fr2 := fr1.seqN f2
  have h1w2 := f2.blk h1w1.out (fun q => q)
  have h2w2 := f2.blk h2w1.out (fun q => q)
  clear a13 b13 a14 b14
  have a13 : w2.cell? ⟨g1, 13, none⟩ = some (.slice qa N qc) := h1w2.cell 13
  replace h1w2 := Lib.hid h1w2
  replace h2w2 := Lib.hid h2w2
  go_wp2_with fail
  clear a13
  go_loopw [81] (fun vi wr => ∃ m : Nat, m ≤ N ∧ vi = .int .i64 m ∧ Fr noB w2 wr) (fun vi _ => N - (RowKit.intOf vi).toNat)
  case atStart => exact ⟨0, by omega, rfl, Fr.refl _ _⟩
  case round =>
    obtain ⟨m, hm, rfl, fr⟩ := hrel
    have frw := fr2.seqN fr
    by_cases hlt : m < N
    · obtain ⟨r, hr⟩ := hget.out m hlt
      obtain ⟨ga, oa, va, vc, rfl, hca, hra⟩ := hx3.out m r hr
      obtain ⟨gb, ob, vb, vd, rfl, hcb, hrb⟩ := hy3.out m r hr
      have hpt := fun w' (f : Fr noB w w') => same_part r va vb vc vd w' (hra.frN f) (hrb.frN f)
      generalize hrl : r.cr.length = rl at *
      have hS : ∀ w', Fr noB wr w' → ((w'.cell? ⟨g1, 13, none⟩ = some (.slice (some ⟨ga, oa, none⟩) N qc) ∧ w'.cell? ⟨g2, 13, none⟩ = some (.slice (some ⟨gb, ob, none⟩) N qd)) ∧ (w'.cell? ⟨ga, oa + m * 6, none⟩ = some (.int .i64 r.a) ∧ w'.cell? ⟨ga, oa + m * 6 + 1, none⟩ = some (.int .i64 r.t) ∧ w'.cell? ⟨ga, oa + m * 6 + 2, none⟩ = some (.int .i64 r.j) ∧ w'.cell? ⟨ga, oa + m * 6 + 3, none⟩ = some (.int .i64 r.n) ∧ w'.cell? ⟨ga, oa + m * 6 + 4, none⟩ = some (.slice va rl vc) ∧ w'.cell? ⟨ga, oa + m * 6 + 5, none⟩ = some (.bool r.lo)) ∧ w'.cell? ⟨gb, ob + m * 6, none⟩ = some (.int .i64 r.a) ∧ w'.cell? ⟨gb, ob + m * 6 + 1, none⟩ = some (.int .i64 r.t) ∧ w'.cell? ⟨gb, ob + m * 6 + 2, none⟩ = some (.int .i64 r.j) ∧ w'.cell? ⟨gb, ob + m * 6 + 3, none⟩ = some (.int .i64 r.n) ∧ w'.cell? ⟨gb, ob + m * 6 + 4, none⟩ = some (.slice vb rl vd) ∧ w'.cell? ⟨gb, ob + m * 6 + 5, none⟩ = some (.bool r.lo)) := fun w' f => by
        have b1 := (fr.seqN f).blk h1w2.out (fun q => q)
        have b2 := (fr.seqN f).blk h2w2.out (fun q => q)
        have fw := frw.seqN f
        exact ⟨⟨b1.cell 13, b2.cell 13⟩, ⟨fw.cell (hca 0 _ rfl) (fun q => q), fw.cell (hca 1 _ rfl) (fun q => q), fw.cell (hca 2 _ rfl) (fun q => q), fw.cell (hca 3 _ rfl) (fun q => q), fw.cell (hca 4 _ (by simp [pnC, hrl])) (fun q => q), fw.cell (hca 5 _ rfl) (fun q => q)⟩, fw.cell (hcb 0 _ rfl) (fun q => q), fw.cell (hcb 1 _ rfl) (fun q => q), fw.cell (hcb 2 _ rfl) (fun q => q), fw.cell (hcb 3 _ rfl) (fun q => q), fw.cell (hcb 4 _ (by simp [pnC, hrl])) (fun q => q), fw.cell (hcb 5 _ rfl) (fun q => q)⟩
      have hb1 : (m : Int) < N := by omega
      have fq := (Fr.refl noB wr).drewN 1
      replace hS := Lib.hid hS
      replace hpt := Lib.hid hpt
      replace hr := Lib.hid hr
      replace hrl := Lib.hid hrl
      clear hca hcb hra hrb
      go_wp2_with fail
      go_region_held3 (fun w' => ((w'.cell? ⟨g1, 13, none⟩ = some (.slice (some ⟨ga, oa, none⟩) N qc) ∧ w'.cell? ⟨g2, 13, none⟩ = some (.slice (some ⟨gb, ob, none⟩) N qd)) ∧ (w'.cell? ⟨ga, oa + m * 6, none⟩ = some (.int .i64 r.a) ∧ w'.cell? ⟨ga, oa + m * 6 + 1, none⟩ = some (.int .i64 r.t) ∧ w'.cell? ⟨ga, oa + m * 6 + 2, none⟩ = some (.int .i64 r.j) ∧ w'.cell? ⟨ga, oa + m * 6 + 3, none⟩ = some (.int .i64 r.n) ∧ w'.cell? ⟨ga, oa + m * 6 + 4, none⟩ = some (.slice va rl vc) ∧ w'.cell? ⟨ga, oa + m * 6 + 5, none⟩ = some (.bool r.lo)) ∧ w'.cell? ⟨gb, ob + m * 6, none⟩ = some (.int .i64 r.a) ∧ w'.cell? ⟨gb, ob + m * 6 + 1, none⟩ = some (.int .i64 r.t) ∧ w'.cell? ⟨gb, ob + m * 6 + 2, none⟩ = some (.int .i64 r.j) ∧ w'.cell? ⟨gb, ob + m * 6 + 3, none⟩ = some (.int .i64 r.n) ∧ w'.cell? ⟨gb, ob + m * 6 + 4, none⟩ = some (.slice vb rl vd) ∧ w'.cell? ⟨gb, ob + m * 6 + 5, none⟩ = some (.bool r.lo)))
        (first | exact hS.out _ fq | exact hS.out _ ((Fr.refl noB _).drewN 1) | fail)
        (first | (go_at_call 40; refine (hpt.out _ (frw.seqN fq)).mono ?_; rintro e w5 ⟨rfl, f5⟩; have fq := fq.seqN f5) | fail)
      all_goals (
        go_wp2_with fail
        go_roundw
        case rel => exact ⟨m + 1, by omega, by go_num, fr.seqN fq⟩
        case measure => simp [RowKit.intOf]; omega)
    · obtain rfl : m = N := by omega
      go_wp2_with fail
      go_ret
      exact ⟨rfl, frw⟩

def zP : Pn := ⟨0, 0, 0, 0, [], false⟩
theorem rdI_nil (w : World) : RdI w (.slice none 0 0) [] := ⟨none, 0, rfl, by simp, by simp, fun i hi => by simp at hi⟩
theorem rdPs_nil (w : World) : RdPs w (.slice none 0 0) [] := ⟨none, 0, rfl, by simp, by simp, fun i p hi => by simp at hi⟩
theorem rdSp_nil (w : World) : RdSp w (.slice none 0 0) [] := ⟨none, 0, rfl, by simp, by simp [maxLen], fun _ => rfl, fun i s hi => by simp at hi⟩
/-- the fields of a message, as Same reads them -/
def RfM (w : World) (v : Value) : Ms → Prop
  | .trigger a t c => RfG w v 1 a t 0 c 0 0 zP [] []
  | .pin t j => RfG w v 2 0 t j 0 0 0 zP [] []
  | .pinned p => RfG w v 3 0 0 0 0 0 0 p [] []
  | .gone a t j => RfG w v 4 a t j 0 0 0 zP [] []
  | .collect t j => RfG w v 5 0 t j 0 0 0 zP [] []
  | .chunk a t j i n sp => RfG w v 6 a t j 0 i n zP [] sp
  | .manifest t j c ps => RfG w v 7 0 t j c 0 0 zP ps []
  | .stored t j => RfG w v 8 0 t j 0 0 0 zP [] []
  | .unpin t j => RfG w v 9 0 t j 0 0 0 zP [] []
  | .unpinned a t j => RfG w v 10 a t j 0 0 0 zP [] []
theorem RfW.gen {w : World} {v : Value} {m : Ms} (h : RfW w v m) : RfM w v m := by
  have n1 := rdI_nil w
  have n2 := rdPs_nil w
  have n3 := rdSp_nil w
  cases m with
  | pinned p => obtain ⟨ua, uc, rfl, h1⟩ := h; exact ⟨ua, uc, none, 0, none, 0, rfl, h1, n2, n3⟩
  | chunk a t j i n sp => obtain ⟨sa, sc, rfl, h1⟩ := h; exact ⟨none, 0, none, 0, sa, sc, rfl, n1, n2, h1⟩
  | manifest t j c ps => obtain ⟨qa, qc, rfl, h1⟩ := h; exact ⟨none, 0, qa, qc, none, 0, rfl, n1, h1, n3⟩
  | _ => obtain rfl := h; exact ⟨none, 0, none, 0, none, 0, rfl, n1, n2, n3⟩
theorem same_ms (v u : Value) (m : Ms) (w : World) (hv : RfW w v m) (hu : RfW w u m) : Calls Tryz.prog 17 #[v, u] w fun e w' => e = .returned (.bool true) ∧ Fr noB w w' := by
  have h1 := hv.gen
  have h2 := hu.gen
  cases m <;> exact same_gen v u _ _ _ _ _ _ _ _ _ _ w h1 h2
end Go.Proofs.YtbmafogjmdilkaaGreatDoor
end
