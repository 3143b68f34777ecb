/-
  Stage 5's awake: answers that the document fixes.
-/
import Derived.Test.YtgdpaoodfnabjaaDoorSpan6
set_option linter.unusedVariables false
set_option linter.unusedSimpArgs false
set_option maxRecDepth 100000
namespace Go.Proofs.YtgdpaoodfnabjaaDoor
open Go.RowKit Go Go.Lib

theorem RdSp.tail {w : World} {g o n c : Nat} {L : List Sp} (h : RdSp w (.slice (some ⟨g, o, none⟩) n c) L) (h2 : 1 ≤ n) : RdSp w (.slice (some ⟨g, o + 3, none⟩) (n - 1) (c - 1)) (L.drop 1) := by
  obtain ⟨a, c', hv, hl, hc, hn, h1⟩ := h
  cases hv
  refine ⟨_, c - 1, by rw [List.length_drop], by rw [List.length_drop]; omega, by omega, (fun q => by cases q), fun i s hs => ?_⟩
  rw [List.getElem?_drop] at hs
  obtain ⟨g', o', e, c0, c1, c2⟩ := h1 _ s hs
  cases e
  refine ⟨g, o + 3, rfl, ?_, ?_, ?_⟩
  · rw [← c0]; congr 2; omega
  · rw [← c1]; congr 2; omega
  · rw [← c2]; congr 2; omega

def awS : List Sp := [⟨1, 1, ByteArray.mk #[97]⟩, ⟨1, 2, ByteArray.mk #[98]⟩, ⟨1, 3, ByteArray.mk #[]⟩]
theorem awS_right : ∀ (i : Nat) (m : Sp), awS[i]? = some m → rightS m = true := by
  intro i m h
  have hm := List.mem_of_getElem? h
  unfold awS at hm
  simp at hm
  rcases hm with rfl | rfl | rfl <;> decide +kernel
theorem awS_print : printL awS = pre awS awS.length := print_yes awS (by decide) (fun i m _ h => awS_right i m h)
theorem awS_len : (pre awS awS.length).length ≤ 200000 := by
  unfold pre
  rw [List.take_length]
  have h1 := (num_len awS.length).2
  have h2 := spans_len awS (fun s hs => by obtain ⟨i, hi, rfl⟩ := List.getElem_of_mem hs; exact awS_right i _ (List.getElem?_eq_getElem hi))
  have h3 : awS.length = 3 := rfl
  rw [List.length_append]
  omega
theorem x_none : intS 0 1000 [120] = none := by decide +kernel
theorem size_data (T : List UInt8) : (strB T).size = T.length := strB_size T

set_option maxHeartbeats 4000000 in
theorem awake_any (w : World) (hg : Gl w) : Calls Tryd.prog 6 #[] w fun e w' => e = .returned (.bool true) ∧ Fr noB w w' := by
  have own1 := own_new w 30 [.int .i64 1, .int .i64 1, .string (ByteArray.mk #[97]), .int .i64 1, .int .i64 2, .string (ByteArray.mk #[98]), .int .i64 1, .int .i64 3, .string (ByteArray.mk #[])] 3 3 rfl (by decide)
  have b1 := Blk.new w 30 [.int .i64 1, .int .i64 1, .string (ByteArray.mk #[97]), .int .i64 1, .int .i64 2, .string (ByteArray.mk #[98]), .int .i64 1, .int .i64 3, .string (ByteArray.mk #[])]
  have f1 : Fr noB w (w.alloc (.cells [.int .i64 1, .int .i64 1, .string (ByteArray.mk #[97]), .int .i64 1, .int .i64 2, .string (ByteArray.mk #[98]), .int .i64 1, .int .i64 3, .string (ByteArray.mk #[])].toArray 30)) := (Fr.refl _ w).alloc _
  have rd : RdSp (w.alloc (.cells [.int .i64 1, .int .i64 1, .string (ByteArray.mk #[97]), .int .i64 1, .int .i64 2, .string (ByteArray.mk #[98]), .int .i64 1, .int .i64 3, .string (ByteArray.mk #[])].toArray 30)) (.slice (some ⟨w.heap.size, 0, none⟩) 3 3) awS := RdSp.of_own own1 rfl
  have hp := awS_print
  have hr3 : rowF 1 0 awS = true := by decide +kernel
  have hr3b : rowF 2 0 awS = false := by decide +kernel
  have hr3c : rowF 1 0 (awS.drop 1) = false := by decide +kernel
  have hrs : rightS ⟨1, 1, ByteArray.mk #[97]⟩ = true := by decide +kernel
  have hrz : rightS ⟨0, 0, ByteArray.mk #[]⟩ = false := by decide +kernel
  have hck : chkL awS = [[⟨1, 1, ByteArray.mk #[97]⟩, ⟨1, 2, ByteArray.mk #[98]⟩], [⟨1, 3, ByteArray.mk #[]⟩]] := rfl
  obtain ⟨B, hB⟩ : ∃ B, w.heap.size = B := ⟨_, rfl⟩
  rw [hB] at own1 b1 rd
  go_enter Tryd.func6, Tryd.ntmps6
  go_wp2_with fail
  generalize hw1 : (w.alloc (.cells #[.int .i64 1, .int .i64 1, .string (ByteArray.mk #[97]), .int .i64 1, .int .i64 2, .string (ByteArray.mk #[98]), .int .i64 1, .int .i64 3, .string (ByteArray.mk #[])] 30)) = w1 at *
  clear own1 hw1
  refine (print_any _ awS w1 (hg.fr f1) rd).mono ?_
  rintro e w2 ⟨rfl, f2⟩
  rw [hp]
  have fr2 := f1.seqN f2
  have hrd := read_any (strB (pre awS awS.length)) awS w2 (hg.fr fr2) (by rw [size_data]; exact awS_len) (strB_list _) awS_right (by decide)
  have h3 : awS.length = 3 := rfl
  rw [h3] at hrd
  rw [h3]
  generalize strB (pre awS 3) = T at *
  go_wp2_with fail
  refine hrd.mono ?_
  rintro e w3 ⟨v3, rfl, o3, f3⟩
  obtain ⟨a3, c3, rfl⟩ := ownsRow_slice o3
  have fr3 := fr2.seqN f3
  clear hrd o3
  go_wp2_with fail
  refine (read_no (ByteArray.mk #[120]) w3 (by decide) x_none).mono ?_
  rintro e w4 ⟨rfl, f4⟩
  have fr4 := fr3.seqN f4
  go_wp2_with fail
  refine (chunks_any _ awS w4 (rd.frN ((f2.seqN f3).seqN f4)) (by decide)).mono ?_
  rintro e w5 ⟨v5, P, rfl, o5, op5, hP, f5⟩
  have rr := RdR.of_own o5 op5
  rw [hP, hck] at rr
  have fr5 := fr4.seqN f5
  have f15 := ((f2.seqN f3).seqN f4).seqN f5
  have hjn := join_any v5 _ w5 rr (by decide)
  obtain ⟨ra, rc, rfl, hx1, hx2, hx3⟩ := rr
  obtain ⟨g, o, u, rfl, c0, q0⟩ := hx3 1 _ rfl
  obtain ⟨ua, uc, rfl, _⟩ := q0
  have hlen : [[(⟨1, 1, ByteArray.mk #[97]⟩ : Sp), ⟨1, 2, ByteArray.mk #[98]⟩], [⟨1, 3, ByteArray.mk #[]⟩]].length = 2 := rfl
  have hlen1 : [(⟨1, 3, ByteArray.mk #[]⟩ : Sp)].length = 1 := rfl
  rw [hlen] at hx1 hjn
  rw [hlen]
  rw [hlen1] at c0
  have rd5 := rd.frN f15
  have b5 := f15.keepN b1
  replace hjn := Lib.hid hjn
  replace rd := Lib.hid rd
  replace b1 := Lib.hid b1
  clear o5 op5 hP hx3
  go_wp2_with fail
  refine hjn.out.mono ?_
  rintro e w6 ⟨v6, rfl, o6, f6⟩
  obtain ⟨a6, c6, rfl⟩ := ownsRow_slice o6
  have hl6 : [[(⟨1, 1, ByteArray.mk #[97]⟩ : Sp), ⟨1, 2, ByteArray.mk #[98]⟩], [⟨1, 3, ByteArray.mk #[]⟩]].flatten.length = 3 := rfl
  rw [hl6]
  clear o6
  have fr6 := fr5.seqN f6
  have rd6 := rd5.frN f6
  go_wp2_with fail
  refine (row_any _ awS 1 w6 rd6).mono ?_
  rw [hr3]
  rintro e w7 ⟨rfl, f7⟩
  have rd7 := rd6.frN f7
  go_wp2_with fail
  refine (row_any _ awS 2 w7 rd7).mono ?_
  rw [hr3b]
  rintro e w8 ⟨rfl, f8⟩
  have rd8 := rd7.frN f8
  have rt8 := rd8.tail (by decide)
  go_wp2_with fail
  refine (row_any _ (awS.drop 1) 1 w8 rt8).mono ?_
  rw [hr3c]
  rintro e w9 ⟨rfl, f9⟩
  have fr9 := ((fr6.seqN f7).seqN f8).seqN f9
  have b9 := (((f6.seqN f7).seqN f8).seqN f9).keepN b5
  have d0 : w9.cell? ⟨B, 0, none⟩ = some (.int .i64 1) := b9.cell 0
  have d1 : w9.cell? ⟨B, 1, none⟩ = some (.int .i64 1) := b9.cell 1
  have d2 : w9.cell? ⟨B, 2, none⟩ = some (.string (ByteArray.mk #[97])) := b9.cell 2
  go_wp2_with fail
  refine (right_any ⟨1, 1, ByteArray.mk #[97]⟩ w9).mono ?_
  rw [hrs]
  rintro e wA ⟨rfl, fA⟩
  go_wp2_with fail
  refine (right_any ⟨0, 0, ByteArray.mk #[]⟩ wA).mono ?_
  rw [hrz]
  rintro e wB ⟨rfl, fB⟩
  have fr11 := (fr9.seqN fA).seqN fB
  go_wp2_with fail
  refine (chunks_any (.slice none 0 0) [] wB ⟨none, 0, rfl, by simp, by simp [maxLen], fun _ => rfl, fun i s hi => by simp at hi⟩ (by decide)).mono ?_
  rintro e wC ⟨v7, P7, rfl, o7, _, hP7, fC⟩
  obtain ⟨a7, c7, rfl⟩ := ownsRow_slice o7
  have hl7 : P7.length = 1 := by have := congrArg List.length hP7; simpa [chkL, chkF] using this
  rw [hl7]
  clear o7 hP7
  go_wp2_with fail
  go_ret
  exact ⟨rfl, fr11.seqN fC⟩
end Go.Proofs.YtgdpaoodfnabjaaDoor
