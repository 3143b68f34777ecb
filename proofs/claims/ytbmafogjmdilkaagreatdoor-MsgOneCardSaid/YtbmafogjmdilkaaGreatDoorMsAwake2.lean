/-
  Stage 9's awake.
-/
import Derived.Test.YtbmafogjmdilkaaGreatDoorMsAwake
set_option linter.unusedVariables false
set_option linter.unusedSimpArgs false
set_option maxRecDepth 100000
namespace Go.Proofs.YtbmafogjmdilkaaGreatDoor
open Go.RowKit Go Go.Lib

def aB : List UInt8 := Ms.body (.pin 7 1)
def aC : Int := checkL aB
theorem aC_ne : aC ≠ 0 := by decide +kernel
theorem aC_bd : 0 ≤ aC ∧ aC ≤ 4294967295 := checkL_bd _
theorem aOk : Ms.ok (.pin 7 1) = true := by decide +kernel
theorem aTxt : Ms.txt (.pin 7 1) = Ms.body (.pin 7 1) ++ numsL [aC / 65536, aC % 65536] := by
  unfold Ms.txt
  rw [aOk]
  rfl
theorem nums_inj {a b c d : Int} (ha : 0 ≤ a ∧ a ≤ 65535) (hb : 0 ≤ b ∧ b ≤ 65535) (hc : 0 ≤ c ∧ c ≤ 65535) (hd : 0 ≤ d ∧ d ≤ 65535) (h : numsL [a, b] = numsL [c, d]) : a = c ∧ b = d := by
  rw [two_eq, two_eq] at h
  obtain ⟨h1, h2⟩ := num_pre (by omega) (by omega) h
  obtain ⟨h3, h4⟩ := num_pre (by omega) (by omega) h2
  omega
theorem a_no : intS 1 10 [120] = none := by decide +kernel
theorem aIface (w : World) : (binOp .eql 27 (.iface 56 (.agg #[.int .i64 7, .int .i64 1])) (.iface 56 (.agg #[.int .i64 7, .int .i64 1]))).run Tryz.prog w = .ok (.bool true) w := by kernel_rfl
theorem aZero : strB (numL (2 : Int).toNat) ++ strB (numL (7 : Int).toNat) ++ strB (numL (1 : Int).toNat) ++ strB (numL (0 : Int).toNat) ++ strB (numL (0 : Int).toNat) = strB (Ms.body (.pin 7 1) ++ numsL [0, 0]) := by
  rw [strB_append, strB_append, strB_append, strB_append]
  congr 1

set_option maxHeartbeats 4000000 in
theorem awake_any (w : World) (hg : Gl w) : Calls Tryz.prog 6 #[] w fun e w' => e = .returned (.bool true) ∧ Fr noB w w' := by
  have f1 : Fr noB w (w.alloc (.cells #[.int .i64 7, .int .i64 1] 56)) := (Fr.refl _ w).alloc _
  have b1 := Blk.new w 56 [.int .i64 7, .int .i64 1]
  obtain ⟨B, hB⟩ : ∃ B, w.heap.size = B := ⟨_, rfl⟩
  rw [hB] at b1
  have hgl := fun w' (f : Fr noB w w') => hg.fr f
  have hpr := fun w' (f : Fr noB w w') => print_ms (mPin 7 1) (.pin 7 1) w' (hgl w' f) rfl
  have hbd := aC_bd
  have hrd := fun w' (f : Fr noB w w') => read_body (.pin 7 1) (aC / 65536) (aC % 65536) w' (hgl w' f) aOk (by omega) (by omega)
  have hrz := fun w' (f : Fr noB w w') => read_body (.pin 7 1) 0 0 w' (hgl w' f) aOk (by omega) (by omega)
  have hrx := fun w' (f : Fr noB w w') => read_bad (ByteArray.mk #[120]) w' (hgl w' f) (by decide) a_no
  have hri := fun (n : Int) h0 h1 w' => refint_any n w' h0 h1
  have hz := aZero
  have hne : Ms.txt (.pin 7 1) ≠ Ms.body (.pin 7 1) ++ numsL [0, 0] := fun h => by
    rw [aTxt] at h
    have := nums_inj (by omega) (by omega) (by omega) (by omega) (List.append_cancel_left h)
    have h2 := aC_ne
    omega
  have hr2 := fun w' => rprint_2 7 1 w' (by omega) (by omega)
  rw [show Ms.body (.pin 7 1) ++ sums (checkL (Ms.body (.pin 7 1))) = Ms.txt (.pin 7 1) from aTxt.symm] at hr2
  have hn := fun n => (num_len n).2
  have l1 : (strB (numL (2 : Int).toNat)).size + (strB (numL (7 : Int).toNat)).size ≤ 9223372036854775807 := by rw [strB_size, strB_size]; have := hn (2 : Int).toNat; have := hn (7 : Int).toNat; omega
  have ad1 := fun w => run_string_add_sum (P := Tryz.prog) (w := w) (strB (numL (2 : Int).toNat)) (strB (numL (7 : Int).toNat)) l1
  have ad2 := fun w => run_string_add_sum (P := Tryz.prog) (w := w) (strB (numL (2 : Int).toNat) ++ strB (numL (7 : Int).toNat)) (strB (numL (1 : Int).toNat)) (by rw [ByteArray.size_append, strB_size, strB_size, strB_size]; have := hn (2 : Int).toNat; have := hn (7 : Int).toNat; have := hn (1 : Int).toNat; omega)
  have ad3 := fun w => run_string_add_sum (P := Tryz.prog) (w := w) (strB (numL (2 : Int).toNat) ++ strB (numL (7 : Int).toNat) ++ strB (numL (1 : Int).toNat)) (strB (numL (0 : Int).toNat)) (by rw [ByteArray.size_append, ByteArray.size_append, strB_size, strB_size, strB_size, strB_size]; have := hn (2 : Int).toNat; have := hn (7 : Int).toNat; have := hn (1 : Int).toNat; have := hn (0 : Int).toNat; omega)
  have ad4 := fun w => run_string_add_sum (P := Tryz.prog) (w := w) (strB (numL (2 : Int).toNat) ++ strB (numL (7 : Int).toNat) ++ strB (numL (1 : Int).toNat) ++ strB (numL (0 : Int).toNat)) (strB (numL (0 : Int).toNat)) (by rw [ByteArray.size_append, ByteArray.size_append, ByteArray.size_append, strB_size, strB_size, strB_size, strB_size]; have := hn (2 : Int).toNat; have := hn (7 : Int).toNat; have := hn (1 : Int).toNat; have := hn (0 : Int).toNat; omega)
  have r2 := hri 2 (by omega) (by omega)
  have r7 := hri 7 (by omega) (by omega)
  have r1 := hri 1 (by omega) (by omega)
  have r0 := hri 0 (by omega) (by omega)
  have hself : ((strB (Ms.txt (.pin 7 1))).toList == (strB (Ms.txt (.pin 7 1))).toList) = true := by simp
  rw [← aTxt] at hrd
  generalize strB (Ms.txt (.pin 7 1)) = TX at *
  generalize strB (numL (2 : Int).toNat) = A2 at *
  generalize strB (numL (7 : Int).toNat) = A7 at *
  generalize strB (numL (1 : Int).toNat) = A1 at *
  generalize strB (numL (0 : Int).toNat) = A0 at *
  rw [← hz] at hrz
  have hof := fun w' => of_of (v := .nilIface) (of_Trigger 1 5 0 w')
  have hgo := fun w' => agent_of (sender_Gone 2 0 0 w')
  have hap := fun w' => agent_of (sender_Pin 7 1 w')
  have hrt := fun w' => right_ms (mPin 7 1) (.pin 7 1) w' rfl
  rw [aOk] at hrt
  have hq := aIface
  unfold mPin mGone mTrigger at *
  replace hpr := Lib.hid hpr
  replace hrd := Lib.hid hrd
  replace hrz := Lib.hid hrz
  replace hrx := Lib.hid hrx
  replace hri := Lib.hid hri
  replace hr2 := Lib.hid hr2
  replace hgl := Lib.hid hgl
  replace hne := Lib.hid hne
  replace hz := Lib.hid hz
  replace hn := Lib.hid hn
  replace r2 := Lib.hid r2
  replace r7 := Lib.hid r7
  replace r1 := Lib.hid r1
  replace r0 := Lib.hid r0
  replace hof := Lib.hid hof
  replace hgo := Lib.hid hgo
  replace hap := Lib.hid hap
  replace hrt := Lib.hid hrt
  replace hbd := Lib.hid hbd
  clear l1
  go_enter Tryz.func6, Tryz.ntmps6
  go_wp2_with fail
  generalize (w.alloc (.cells #[.int .i64 7, .int .i64 1] 56)) = w1 at *
  go_fit (hpr.out w1 f1)
  rintro e w2 ⟨rfl, f2⟩
  have fr2 := f1.seqN f2
  have b2 := f2.blk b1 (fun q => q)
  clear f2 b1 f1
  go_wp2_with fail
  go_fit (hrd.out w2 fr2)
  rintro e w3 ⟨f3, h3⟩
  have h4 : e = .returned (.tuple #[.iface 56 (.agg #[.int .i64 7, .int .i64 1]), .int .i64 0]) := by
    rcases h3 with ⟨_, v3, q, h5⟩ | ⟨h5, _⟩
    · rw [q, show v3 = .iface 56 (.agg #[.int .i64 7, .int .i64 1]) from h5]
    · exact absurd rfl h5
  subst h4
  clear h3
  have fr3 := fr2.seqN f3
  have b3 := f3.blk b2 (fun q => q)
  clear f3 b2 fr2
  go_wp2_with fail
  go_fit (hrx.out w3 fr3)
  rintro e w4 ⟨rfl, f4⟩
  have fr4 := fr3.seqN f4
  have b4 := f4.blk b3 (fun q => q)
  clear f4 b3 fr3
  go_wp2_with fail
  go_fit (r2.out w4)
  rintro e w5 ⟨rfl, f5⟩
  go_wp2_with fail
  go_fit (r7.out w5)
  rintro e w6 ⟨rfl, f6⟩
  go_wp2_with fail
  go_fit (r1.out w6)
  rintro e w7 ⟨rfl, f7⟩
  go_wp2_with fail
  go_fit (r0.out w7)
  rintro e w8 ⟨rfl, f8⟩
  go_wp2_with fail
  go_fit (r0.out w8)
  rintro e w9 ⟨rfl, f9⟩
  have fr9 := ((((fr4.seqN f5).seqN f6).seqN f7).seqN f8).seqN f9
  have b9 := ((((f5.seqN f6).seqN f7).seqN f8).seqN f9).blk b4 (fun q => q)
  clear f5 f6 f7 f8 f9 fr4 b4
  go_wp2_with fail
  go_fit (hrz.out w9 fr9)
  rintro e wA ⟨fA, hA⟩
  rcases hA with ⟨hA, _⟩ | ⟨_, rfl⟩
  · exact absurd hA hne.out
  have frA := fr9.seqN fA
  have bA := fA.blk b9 (fun q => q)
  clear fA b9 fr9
  go_wp2_with fail
  go_fit (hof.out wA)
  rintro e wB ⟨rfl, fB⟩
  have frB := frA.seqN fB
  have bB := fB.blk bA (fun q => q)
  clear fB bA frA
  go_wp2_with fail
  go_fit (hgo.out wB)
  rintro e wC ⟨rfl, fC⟩
  have frC := frB.seqN fC
  have bC := fC.blk bB (fun q => q)
  have d0 : wC.cell? ⟨B, 0, none⟩ = some (.int .i64 7) := bC.cell 0
  have d1 : wC.cell? ⟨B, 1, none⟩ = some (.int .i64 1) := bC.cell 1
  clear fC bB frB
  go_wp2_with fail
  go_fit (hap.out wC)
  rintro e wD ⟨rfl, fD⟩
  have frD := frC.seqN fD
  have bD := fD.blk bC (fun q => q)
  clear fD bC frC d0 d1
  go_wp2_with fail
  go_fit (of_nil wD)
  rintro e wE ⟨rfl, fE⟩
  have frE := frD.seqN fE
  have bE := fE.blk bD (fun q => q)
  clear fE bD frD
  go_wp2_with fail
  go_fit (hr2.out wE)
  rintro e wF ⟨rfl, fF⟩
  have frF := frE.seqN fF
  have bF := fF.blk bE (fun q => q)
  have d0 : wF.cell? ⟨B, 0, none⟩ = some (.int .i64 7) := bF.cell 0
  have d1 : wF.cell? ⟨B, 1, none⟩ = some (.int .i64 1) := bF.cell 1
  clear fF bE frE
  go_wp2_with fail
  go_fit (hrt.out wF)
  rintro e wG ⟨rfl, fG⟩
  have frG := frF.seqN fG
  have bG := fG.blk bF (fun q => q)
  clear fG bF frF d0 d1
  go_wp2_with fail
  go_fit (right_nil wG)
  rintro e wH ⟨rfl, fH⟩
  have frH := frG.seqN fH
  have bH := fH.blk bG (fun q => q)
  clear fH bG frG
  go_wp2_with fail
  go_fit (mayBe_none wH)
  rintro e wI ⟨rfl, fI⟩
  have frI := frH.seqN fI
  have bI := fI.blk bH (fun q => q)
  have d0 : wI.cell? ⟨B, 0, none⟩ = some (.int .i64 7) := bI.cell 0
  have d1 : wI.cell? ⟨B, 1, none⟩ = some (.int .i64 1) := bI.cell 1
  rw [show strB [] = ByteArray.mk #[] from rfl]
  clear fI bH frH
  go_wp2_with fail
  go_fit (kind_Pin 7 1 wI)
  rintro e wJ ⟨rfl, fJ⟩
  go_wp2_with fail
  go_ret
  exact ⟨rfl, frI.seqN fJ⟩
end Go.Proofs.YtbmafogjmdilkaaGreatDoor
