/-
  The reference's job: New.
-/
import Derived.Test.YtppgachfobpgbaaRJob2
import Derived.Test.YtppgachfobpgbaaRefRight
import Derived.Test.YtppgachfobpgbaaPlay0
import Derived.Deep.DeepCutAuto
set_option linter.unusedVariables false
set_option linter.unusedSimpArgs false
set_option maxRecDepth 100000
set_option maxRecDepth 10000
namespace Go.Proofs.Ytppgachfobpgbaa
open Go.RowKit Go Go.Lib

def pt0 : RPt := ⟨0, 0, 0, 0, none, 0, 0, false⟩
def RJ.new (id t c : Int) (n a : Nat) : RJ := { id := id, tr := t, cl := c, ph := 1, S := (List.replicate n 0).set a 1, P := List.replicate n pt0, F := List.replicate n false, fu := false, ke := false }
theorem bT_eq (a t c : Int) : (inB 1 65535 t && (inB 0 3 a && inB 0 3 c)) = bTrigger a t c := by
  unfold bTrigger
  cases inB 1 65535 t <;> cases inB 0 3 a <;> rfl
theorem infoIntK : (Try.prog.info? 3).map (fun i => (i.zero, i.size, i.bytes)) = some (some (.int .i64 0), 1, 8) := by kernel_rfl
theorem infoBoolK : (Try.prog.info? 4).map (fun i => (i.zero, i.size, i.bytes)) = some (some (.bool false), 1, 1) := by kernel_rfl
theorem infoPartK : (Try.prog.info? 33).map (fun i => (i.zero, i.size, i.bytes)) = some (some (.agg #[.int .i64 0, .int .i64 0, .int .i64 0, .int .i64 0, .slice none 0 0, .bool false]), 6, 64) := by kernel_rfl
theorem info_of {e : TypeId} {z : Value} {s b : Nat} (h : (Try.prog.info? e).map (fun i => (i.zero, i.size, i.bytes)) = some (some z, s, b)) : ∃ i, Try.prog.info? e = some i ∧ i.zero = some z ∧ i.size = s ∧ i.bytes = b := by
  cases hq : Try.prog.info? e with
  | none => rw [hq] at h; cases h
  | some k => rw [hq] at h; simp at h; exact ⟨k, rfl, h⟩
theorem made_list (z : Array Value) (n : Nat) : madeCells z n = ((List.range n).map (z[· % z.size]!)).toArray := by
  apply Array.ext'
  simp [madeCells]
theorem made_ints (n : Nat) (hn : n ≤ 4) : ∀ w, (Instr.makeSlice 31 (.int .i64 n) (.int .i64 n)).run Try.prog w = .ok (.slice (some ⟨w.heap.size, 0, none⟩) n n) (w.alloc (.cells ((List.replicate n (0 : Int)).map (Value.int .i64)).toArray 3)) := by
  intro w
  obtain ⟨i0, hi, hz0, hz1, hz2⟩ := info_of infoIntK
  have := run_make (P := Try.prog) w 31 3 i0 (.int .i64 0) Try.underlying31 hi hz0 .i64 .i64 n n (by omega) (by omega) (by rw [hz2]; omega) (by omega)
  rw [this, hz1, made_list]
  clear this
  rcases (show n = 0 ∨ n = 1 ∨ n = 2 ∨ n = 3 ∨ n = 4 by omega) with rfl | rfl | rfl | rfl | rfl <;> rfl
theorem made_bools (n : Nat) (hn : n ≤ 4) : ∀ w, (Instr.makeSlice 52 (.int .i64 n) (.int .i64 n)).run Try.prog w = .ok (.slice (some ⟨w.heap.size, 0, none⟩) n n) (w.alloc (.cells ((List.replicate n false).map Value.bool).toArray 4)) := by
  intro w
  obtain ⟨i0, hi, hz0, hz1, hz2⟩ := info_of infoBoolK
  have := run_make (P := Try.prog) w 52 4 i0 (.bool false) Try.underlying52 hi hz0 .i64 .i64 n n (by omega) (by omega) (by rw [hz2]; omega) (by omega)
  rw [this, hz1, made_list]
  clear this
  rcases (show n = 0 ∨ n = 1 ∨ n = 2 ∨ n = 3 ∨ n = 4 by omega) with rfl | rfl | rfl | rfl | rfl <;> rfl
theorem made_parts (n : Nat) (hn : n ≤ 4) : ∀ w, (Instr.makeSlice 34 (.int .i64 n) (.int .i64 n)).run Try.prog w = .ok (.slice (some ⟨w.heap.size, 0, none⟩) n n) (w.alloc (.cells ((List.replicate n pt0).flatMap RPt.cs).toArray 33)) := by
  intro w
  obtain ⟨i0, hi, hz0, hz1, hz2⟩ := info_of infoPartK
  have := run_make (P := Try.prog) w 34 33 i0 _ Try.underlying34 hi hz0 .i64 .i64 n n (by omega) (by omega) (by rw [hz2]; omega) (by omega)
  rw [this, hz1, made_list]
  clear this
  rcases (show n = 0 ∨ n = 1 ∨ n = 2 ∨ n = 3 ∨ n = 4 by omega) with rfl | rfl | rfl | rfl | rfl <;> rfl
theorem mk4 (w : World) (a b c d : Obj) : ((((w.alloc a).alloc b).alloc c).alloc d).drew.heap[w.heap.size]? = some a ∧ ((((w.alloc a).alloc b).alloc c).alloc d).drew.heap[w.heap.size + 1]? = some b ∧ ((((w.alloc a).alloc b).alloc c).alloc d).drew.heap[w.heap.size + 1 + 1]? = some c ∧ ((((w.alloc a).alloc b).alloc c).alloc d).drew.heap[w.heap.size + 1 + 1 + 1]? = some d ∧ Fr noB w ((((w.alloc a).alloc b).alloc c).alloc d).drew := by
  refine ⟨?_, ?_, ?_, ?_, (((((Fr.refl noB w).alloc a).alloc b).alloc c).alloc d).drew⟩
  · show ((((w.heap.push a).push b).push c).push d)[w.heap.size]? = _
    rw [Array.getElem?_push, if_neg (by simp only [Array.size_push]; omega), Array.getElem?_push, if_neg (by simp only [Array.size_push]; omega), Array.getElem?_push, if_neg (by simp only [Array.size_push]; omega), Array.getElem?_push, if_pos rfl]
  · show ((((w.heap.push a).push b).push c).push d)[w.heap.size + 1]? = _
    rw [Array.getElem?_push, if_neg (by simp only [Array.size_push]; omega), Array.getElem?_push, if_neg (by simp only [Array.size_push]; omega), Array.getElem?_push, if_pos (by simp only [Array.size_push])]
  · show ((((w.heap.push a).push b).push c).push d)[w.heap.size + 1 + 1]? = _
    rw [Array.getElem?_push, if_neg (by simp only [Array.size_push]; omega), Array.getElem?_push, if_pos (by simp only [Array.size_push])]
  · show ((((w.heap.push a).push b).push c).push d)[w.heap.size + 1 + 1 + 1]? = _
    rw [Array.getElem?_push, if_pos (by simp only [Array.size_push])]
theorem rnew_mk (w' : World) (id t c : Int) (n a gs gp gf r : Nat) (hs : w'.heap[gs]? = some (.cells (Array.replicate n (Value.int .i64 0)) 3)) (hp : w'.heap[gp]? = some (.cells ((List.replicate n pt0).flatMap RPt.cs).toArray 33)) (hf : w'.heap[gf]? = some (.cells (Array.replicate n (Value.bool false)) 4)) (hr : w'.heap[r]? = some (.cells #[.int .i64 id, .int .i64 t, .int .i64 c, .int .i64 1, .slice (some ⟨gs, 0, none⟩) n n, .slice (some ⟨gp, 0, none⟩) n n, .slice (some ⟨gf, 0, none⟩) n n, .bool false, .bool false] 54)) (hn : n ≤ 4) (hne : r ≠ gs ∧ r ≠ gp ∧ r ≠ gf ∧ gs ≠ gp ∧ gs ≠ gf ∧ gp ≠ gf) : Rj w' r gs gp gf { RJ.new id t c n a with S := List.replicate n 0 } := by
  refine ⟨?_, ?_, ?_, ?_, by simp [RJ.new], by simp [RJ.new], by simpa [RJ.new] using hn, hne⟩
  · unfold Blk RJ.cs RJ.new; simpa using hr
  · unfold Blk RJ.new; simpa using hs
  · unfold Blk RJ.new; simpa using hp
  · unfold Blk RJ.new; simpa using hf
set_option maxHeartbeats 8000000 in
theorem rnew_no (id ag a t c : Int) (w : World) (h : mayNew id ag a t c = false) :
    Calls Try.prog 11 #[.int .i64 id, .int .i64 ag, mrV { k := 1, a := a, t := t, c := c }] w fun e w' => e = .returned (.pointer none) ∧ Fr noB w w' := by
  have hr := fun w' (f : Fr noB w w') => rr_1 a t c w'
  simp only [bT_eq] at hr
  unfold mayNew at h
  obtain ⟨b, hb⟩ : ∃ b, bTrigger a t c = b := ⟨_, rfl⟩
  simp only [hb] at hr
  rw [hb] at h
  have h' := h
  clear h hb
  unfold mrV mrC at *
  simp only at hr ⊢
  have fX := (Fr.refl noB w).alloc (.cells #[.int .i64 1, .int .i64 a, .int .i64 t, .int .i64 0, .int .i64 c, .int .i64 0, .int .i64 0, .int .i64 0, .int .i64 0, .int .i64 0, .int .i64 0, .slice none 0 0, .bool false, .slice none 0 0, .slice none 0 0] 37)
  have bX := Blk.new w 37 [.int .i64 1, .int .i64 a, .int .i64 t, .int .i64 0, .int .i64 c, .int .i64 0, .int .i64 0, .int .i64 0, .int .i64 0, .int .i64 0, .int .i64 0, .slice none 0 0, .bool false, .slice none 0 0, .slice none 0 0]
  replace hr := Lib.hid hr
  go_enter Try.func11, Try.ntmps11
  go_upto_region 1 with fail
  generalize (w.alloc (.cells #[.int .i64 1, .int .i64 a, .int .i64 t, .int .i64 0, .int .i64 c, .int .i64 0, .int .i64 0, .int .i64 0, .int .i64 0, .int .i64 0, .int .i64 0, .slice none 0 0, .bool false, .slice none 0 0, .slice none 0 0] 37)) = w1 at *
  obtain ⟨gX, hgX⟩ : ∃ g, w.heap.size = g := ⟨_, rfl⟩
  rw [hgX] at bX
  try rw [hgX]
  replace hgX := Lib.hid hgX
  have b1 := bX
  clear bX
  have ya : w1.cell? ⟨gX, 0, none⟩ = some (.int .i64 1) := b1.cell 0
  have yb : w1.cell? ⟨gX, 1, none⟩ = some (.int .i64 a) := b1.cell 1
  have yc : w1.cell? ⟨gX, 2, none⟩ = some (.int .i64 t) := b1.cell 2
  have yd : w1.cell? ⟨gX, 3, none⟩ = some (.int .i64 0) := b1.cell 3
  have ye : w1.cell? ⟨gX, 4, none⟩ = some (.int .i64 c) := b1.cell 4
  have yf : w1.cell? ⟨gX, 5, none⟩ = some (.int .i64 0) := b1.cell 5
  have yg : w1.cell? ⟨gX, 6, none⟩ = some (.int .i64 0) := b1.cell 6
  have yh : w1.cell? ⟨gX, 7, none⟩ = some (.int .i64 0) := b1.cell 7
  have yi : w1.cell? ⟨gX, 8, none⟩ = some (.int .i64 0) := b1.cell 8
  have yj : w1.cell? ⟨gX, 9, none⟩ = some (.int .i64 0) := b1.cell 9
  have yk : w1.cell? ⟨gX, 10, none⟩ = some (.int .i64 0) := b1.cell 10
  have yl : w1.cell? ⟨gX, 11, none⟩ = some (.slice none 0 0) := b1.cell 11
  have ym : w1.cell? ⟨gX, 12, none⟩ = some (.bool false) := b1.cell 12
  have yn : w1.cell? ⟨gX, 13, none⟩ = some (.slice none 0 0) := b1.cell 13
  have yo : w1.cell? ⟨gX, 14, none⟩ = some (.slice none 0 0) := b1.cell 14
  go_wp2_with fail
  go_fit (hr.out w1 fX)
  rintro e w2 ⟨rfl, f2⟩
  have f12 := fX.seqN f2
  have b2 := f2.blk b1 (fun q => q)
  have z1 : w2.cell? ⟨gX, 1, none⟩ = some (.int .i64 a) := b2.cell 1
  clear ya yb yc yd ye yf yg yh yi yj yk yl ym yn yo fX f2 hr b1
  cases b
  · go_wp2_with fail
    go_ret
    exact ⟨rfl, f12⟩
  unfold inB at h'
  by_cases h1 : id < 1
  · have d1 : decide (id < 1) = true := by simpa using h1
    clear h'
    go_wp2_with fail
    go_ret
    exact ⟨rfl, f12⟩
  have d1 : decide (id < 1) = false := by simpa using h1
  by_cases h2 : 1073741824 < id
  · have d2 : decide (1073741824 < id) = true := by simpa using h2
    clear h'
    go_wp2_with fail
    go_ret
    exact ⟨rfl, f12⟩
  have d2 : decide (1073741824 < id) = false := by simpa using h2
  by_cases h3 : ag < 1
  · have d3 : decide (ag < 1) = true := by simpa using h3
    clear h'
    go_wp2_with fail
    go_ret
    exact ⟨rfl, f12⟩
  have d3 : decide (ag < 1) = false := by simpa using h3
  by_cases h4 : 4 < ag
  · have d4 : decide (4 < ag) = true := by simpa using h4
    clear h'
    go_wp2_with fail
    go_ret
    exact ⟨rfl, f12⟩
  have d4 : decide (4 < ag) = false := by simpa using h4
  by_cases h5 : ag ≤ a
  · have d5 : decide (ag ≤ a) = true := by simpa using h5
    clear h'
    go_wp2_with fail
    go_ret
    exact ⟨rfl, f12⟩
  exfalso
  rw [decide_eq_true (show 1 ≤ id by omega), decide_eq_true (show id ≤ 1073741824 by omega), decide_eq_true (show 1 ≤ ag by omega), decide_eq_true (show ag ≤ 4 by omega), decide_eq_true (show a < ag by omega)] at h'
  cases h'
set_option maxHeartbeats 8000000 in
theorem rnew_yes (id t c : Int) (n a : Nat) (w : World) (hb : bTrigger a t c = true) (hid : 1 ≤ id) (hid2 : id ≤ 1073741824) (ha : a < n) (hn : n ≤ 4) :
    Calls Try.prog 11 #[.int .i64 id, .int .i64 n, mrV { k := 1, a := (a : Int), t := t, c := c }] w fun e w' => ∃ r gs gp gf, e = .returned (.pointer (some ⟨r, 0, none⟩)) ∧ (∀ x, rjB r gs gp gf x → w.heap.size ≤ x) ∧ Rj w' r gs gp gf (RJ.new id t c n a) ∧ Fr noB w w' := by
  have hr := fun w' (f : Fr noB w w') => rr_1 a t c w'
  have hmi := made_ints n hn
  have hmb := made_bools n hn
  have hmp := made_parts n hn
  simp only [bT_eq, hb] at hr
  clear hb
  unfold mrV mrC at *
  simp only at hr ⊢
  have fX := (Fr.refl noB w).alloc (.cells #[.int .i64 1, .int .i64 (a : Int), .int .i64 t, .int .i64 0, .int .i64 c, .int .i64 0, .int .i64 0, .int .i64 0, .int .i64 0, .int .i64 0, .int .i64 0, .slice none 0 0, .bool false, .slice none 0 0, .slice none 0 0] 37)
  have bX := Blk.new w 37 [.int .i64 1, .int .i64 (a : Int), .int .i64 t, .int .i64 0, .int .i64 c, .int .i64 0, .int .i64 0, .int .i64 0, .int .i64 0, .int .i64 0, .int .i64 0, .slice none 0 0, .bool false, .slice none 0 0, .slice none 0 0]
  replace hr := Lib.hid hr
  go_enter Try.func11, Try.ntmps11
  go_upto_region 1 with fail
  generalize (w.alloc (.cells #[.int .i64 1, .int .i64 (a : Int), .int .i64 t, .int .i64 0, .int .i64 c, .int .i64 0, .int .i64 0, .int .i64 0, .int .i64 0, .int .i64 0, .int .i64 0, .slice none 0 0, .bool false, .slice none 0 0, .slice none 0 0] 37)) = w1 at *
  obtain ⟨gX, hgX⟩ : ∃ g, w.heap.size = g := ⟨_, rfl⟩
  rw [hgX] at bX
  try rw [hgX]
  replace hgX := Lib.hid hgX
  have b1 := bX
  clear bX
  have ya : w1.cell? ⟨gX, 0, none⟩ = some (.int .i64 1) := b1.cell 0
  have yb : w1.cell? ⟨gX, 1, none⟩ = some (.int .i64 (a : Int)) := b1.cell 1
  have yc : w1.cell? ⟨gX, 2, none⟩ = some (.int .i64 t) := b1.cell 2
  have yd : w1.cell? ⟨gX, 3, none⟩ = some (.int .i64 0) := b1.cell 3
  have ye : w1.cell? ⟨gX, 4, none⟩ = some (.int .i64 c) := b1.cell 4
  have yf : w1.cell? ⟨gX, 5, none⟩ = some (.int .i64 0) := b1.cell 5
  have yg : w1.cell? ⟨gX, 6, none⟩ = some (.int .i64 0) := b1.cell 6
  have yh : w1.cell? ⟨gX, 7, none⟩ = some (.int .i64 0) := b1.cell 7
  have yi : w1.cell? ⟨gX, 8, none⟩ = some (.int .i64 0) := b1.cell 8
  have yj : w1.cell? ⟨gX, 9, none⟩ = some (.int .i64 0) := b1.cell 9
  have yk : w1.cell? ⟨gX, 10, none⟩ = some (.int .i64 0) := b1.cell 10
  have yl : w1.cell? ⟨gX, 11, none⟩ = some (.slice none 0 0) := b1.cell 11
  have ym : w1.cell? ⟨gX, 12, none⟩ = some (.bool false) := b1.cell 12
  have yn : w1.cell? ⟨gX, 13, none⟩ = some (.slice none 0 0) := b1.cell 13
  have yo : w1.cell? ⟨gX, 14, none⟩ = some (.slice none 0 0) := b1.cell 14
  go_wp2_with fail
  go_fit (hr.out w1 fX)
  rintro e w2 ⟨rfl, f2⟩
  have f12 := fX.seqN f2
  have b2 := f2.blk b1 (fun q => q)
  have z1 : w2.cell? ⟨gX, 1, none⟩ = some (.int .i64 (a : Int)) := b2.cell 1
  clear ya yb yc yd ye yf yg yh yi yj yk yl ym yn yo fX f2 hr b1

  have b2' := Lib.hid b2
  have d1 : decide (id < 1) = false := by simp; omega
  have d2 : decide (1073741824 < id) = false := by simp; omega
  have d3 : decide ((n : Int) < 1) = false := by simp; omega
  have d4 : decide ((4 : Int) < n) = false := by simp; omega
  have d5 : decide ((n : Int) ≤ (a : Int)) = false := by simp; omega
  have d6 : decide (n ≤ a) = false := by simp; omega
  have z2 : w2.cell? ⟨gX, 2, none⟩ = some (.int .i64 t) := b2.cell 2
  have z4 : w2.cell? ⟨gX, 4, none⟩ = some (.int .i64 c) := b2.cell 4
  clear b2
  go_upto_region 3 with fail
  have hz : ∀ w', Fr noB w2 w' → w'.cell? ⟨gX, 2, none⟩ = some (.int .i64 t) ∧ w'.cell? ⟨gX, 4, none⟩ = some (.int .i64 c) := fun w' f => ⟨f.cell z2 (fun q => q), f.cell z4 (fun q => q)⟩
  replace hz := Lib.hid hz
  replace f12 := Lib.hid f12
  go_cut [7] from 38 to 50 (fun p wx => ∃ r gs gp gf, p = .pointer (some ⟨r, 0, none⟩) ∧ (∀ x, rjB r gs gp gf x → w2.heap.size ≤ x) ∧ Rj wx r gs gp gf { RJ.new id t c n a with S := List.replicate n 0 } ∧ Fr noB w2 wx)
  case first =>
    go_region_held3 (fun w' => w'.cell? ⟨gX, 2, none⟩ = some (.int .i64 t) ∧ w'.cell? ⟨gX, 4, none⟩ = some (.int .i64 c))
      (first | exact hz.out _ ((Fr.refl noB _).drewN 1) | exact hz.out _ (((Fr.refl noB _).drewN 1).alloc _) | exact hz.out _ ((((Fr.refl noB _).drewN 1).alloc _).alloc _) | exact hz.out _ (((((Fr.refl noB _).drewN 1).alloc _).alloc _).alloc _) | exact hz.out _ ((((((Fr.refl noB _).drewN 1).alloc _).alloc _).alloc _).alloc _))
      (fail)
    all_goals (go_wp2_with fail; go_meet)
    all_goals (first
      | (obtain ⟨k1, k2, k3, k4, kf⟩ := mk4 w2 (.cells (Array.replicate n (Value.int .i64 0)) 3) (.cells ((List.replicate n pt0).flatMap RPt.cs).toArray 33) (.cells (Array.replicate n (Value.bool false)) 4) (.cells #[.int .i64 id, .int .i64 t, .int .i64 c, .int .i64 1, .slice (some ⟨w2.heap.size, 0, none⟩) n n, .slice (some ⟨w2.heap.size + 1, 0, none⟩) n n, .slice (some ⟨w2.heap.size + 1 + 1, 0, none⟩) n n, .bool false, .bool false] 54); exact ⟨w2.heap.size + 1 + 1 + 1, w2.heap.size, w2.heap.size + 1, w2.heap.size + 1 + 1, rfl, (by intro x hx; unfold rjB at hx; omega), rnew_mk _ id t c n a _ _ _ _ k1 k2 k3 k4 hn (by omega), kf⟩)
      | (obtain ⟨k1, k2, k3, k4, kf⟩ := mk4 w2 (.cells (Array.replicate n (Value.int .i64 0)) 3) (.cells (Array.replicate n (Value.bool false)) 4) (.cells ((List.replicate n pt0).flatMap RPt.cs).toArray 33) (.cells #[.int .i64 id, .int .i64 t, .int .i64 c, .int .i64 1, .slice (some ⟨w2.heap.size, 0, none⟩) n n, .slice (some ⟨w2.heap.size + 1 + 1, 0, none⟩) n n, .slice (some ⟨w2.heap.size + 1, 0, none⟩) n n, .bool false, .bool false] 54); exact ⟨w2.heap.size + 1 + 1 + 1, w2.heap.size, w2.heap.size + 1 + 1, w2.heap.size + 1, rfl, (by intro x hx; unfold rjB at hx; omega), rnew_mk _ id t c n a _ _ _ _ k1 k3 k2 k4 hn (by omega), kf⟩)
      | (obtain ⟨k1, k2, k3, k4, kf⟩ := mk4 w2 (.cells ((List.replicate n pt0).flatMap RPt.cs).toArray 33) (.cells (Array.replicate n (Value.int .i64 0)) 3) (.cells (Array.replicate n (Value.bool false)) 4) (.cells #[.int .i64 id, .int .i64 t, .int .i64 c, .int .i64 1, .slice (some ⟨w2.heap.size + 1, 0, none⟩) n n, .slice (some ⟨w2.heap.size, 0, none⟩) n n, .slice (some ⟨w2.heap.size + 1 + 1, 0, none⟩) n n, .bool false, .bool false] 54); exact ⟨w2.heap.size + 1 + 1 + 1, w2.heap.size + 1, w2.heap.size, w2.heap.size + 1 + 1, rfl, (by intro x hx; unfold rjB at hx; omega), rnew_mk _ id t c n a _ _ _ _ k2 k1 k3 k4 hn (by omega), kf⟩)
      | (obtain ⟨k1, k2, k3, k4, kf⟩ := mk4 w2 (.cells ((List.replicate n pt0).flatMap RPt.cs).toArray 33) (.cells (Array.replicate n (Value.bool false)) 4) (.cells (Array.replicate n (Value.int .i64 0)) 3) (.cells #[.int .i64 id, .int .i64 t, .int .i64 c, .int .i64 1, .slice (some ⟨w2.heap.size + 1 + 1, 0, none⟩) n n, .slice (some ⟨w2.heap.size, 0, none⟩) n n, .slice (some ⟨w2.heap.size + 1, 0, none⟩) n n, .bool false, .bool false] 54); exact ⟨w2.heap.size + 1 + 1 + 1, w2.heap.size + 1 + 1, w2.heap.size, w2.heap.size + 1, rfl, (by intro x hx; unfold rjB at hx; omega), rnew_mk _ id t c n a _ _ _ _ k3 k1 k2 k4 hn (by omega), kf⟩)
      | (obtain ⟨k1, k2, k3, k4, kf⟩ := mk4 w2 (.cells (Array.replicate n (Value.bool false)) 4) (.cells (Array.replicate n (Value.int .i64 0)) 3) (.cells ((List.replicate n pt0).flatMap RPt.cs).toArray 33) (.cells #[.int .i64 id, .int .i64 t, .int .i64 c, .int .i64 1, .slice (some ⟨w2.heap.size + 1, 0, none⟩) n n, .slice (some ⟨w2.heap.size + 1 + 1, 0, none⟩) n n, .slice (some ⟨w2.heap.size, 0, none⟩) n n, .bool false, .bool false] 54); exact ⟨w2.heap.size + 1 + 1 + 1, w2.heap.size + 1, w2.heap.size + 1 + 1, w2.heap.size, rfl, (by intro x hx; unfold rjB at hx; omega), rnew_mk _ id t c n a _ _ _ _ k2 k3 k1 k4 hn (by omega), kf⟩)
      | (obtain ⟨k1, k2, k3, k4, kf⟩ := mk4 w2 (.cells (Array.replicate n (Value.bool false)) 4) (.cells ((List.replicate n pt0).flatMap RPt.cs).toArray 33) (.cells (Array.replicate n (Value.int .i64 0)) 3) (.cells #[.int .i64 id, .int .i64 t, .int .i64 c, .int .i64 1, .slice (some ⟨w2.heap.size + 1 + 1, 0, none⟩) n n, .slice (some ⟨w2.heap.size + 1, 0, none⟩) n n, .slice (some ⟨w2.heap.size, 0, none⟩) n n, .bool false, .bool false] 54); exact ⟨w2.heap.size + 1 + 1 + 1, w2.heap.size + 1 + 1, w2.heap.size + 1, w2.heap.size, rfl, (by intro x hx; unfold rjB at hx; omega), rnew_mk _ id t c n a _ _ _ _ k3 k2 k1 k4 hn (by omega), kf⟩)
      | fail)
  case rest =>
    obtain ⟨r, gs, gp, gf, rfl, hge, R, fx⟩ := hcut
    have fr := f12.out.seqN fx
    have c4 : wc.cell? ⟨r, 4, none⟩ = some (.slice (some ⟨gs, 0, none⟩) n n) := by have := R.blk.cell 4; simpa [RJ.cs] using this
    have s0 : wc.cell? ⟨gs, a, none⟩ = some (.int .i64 0) := by have := R.s (k := a) (by simpa using ha); simpa [List.getD, ha] using this
    have y0 := R.bs.frozen a
    have b1 := fx.blk b2'.out (fun q => q)
    have z1' : wc.cell? ⟨gX, 1, none⟩ = some (.int .i64 (a : Int)) := b1.cell 1
    have R2 := R.setS a 1
    have hgsB : w.heap.size ≤ gs := Nat.le_trans f12.out.size (hge gs (Or.inr (Or.inl rfl)))
    have fr2 : Fr noB w (wc.setCell ⟨gs, a, none⟩ (.int .i64 1)) := fr.storeNew hgsB
    have hge2 : ∀ x, rjB r gs gp gf x → w.heap.size ≤ x := fun x hx => Nat.le_trans f12.out.size (hge x hx)
    replace R2 := Lib.hid R2
    replace fr2 := Lib.hid fr2
    replace hge2 := Lib.hid hge2
    clear R fx fr b1 hge hgsB
    have mixed : Try.prog.follows .mixedOrders = true := by kernel_rfl
    have han : (a : Int) < n := by omega
    go_wp2_with fail
    go_region_law (fail)
    all_goals (
      go_wp2_with fail
      go_ret
      exact ⟨r, gs, gp, gf, rfl, hge2.out, R2.out.frN ⟨rfl, rfl, rfl, Nat.le_refl _, fun _ _ _ => rfl⟩, fr2.out.seqN ⟨rfl, rfl, rfl, Nat.le_refl _, fun _ _ _ => rfl⟩⟩)
end Go.Proofs.Ytppgachfobpgbaa
