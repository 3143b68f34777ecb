/-
  The reference's job: New.
  The reference's job: Manifest.
-/
import Derived.Test.YtidcoddefebdpaaGreatRjA
import Derived.Test.YtidcoddefebdpaaGreatRfA
import Derived.Deep.DeepCutAuto
import Derived.Test.YtidcoddefebdpaaGreatPUB
import Derived.Test.YtidcoddefebdpaaGreatLkA
section
set_option linter.unusedVariables false
set_option linter.unusedSimpArgs false
set_option maxRecDepth 100000
set_option maxRecDepth 10000
namespace Go.Proofs.YtidcoddefebdpaaGreat
open Go.RowKit Go Go.Lib

def pt0 : RPt := ⟨0, 0, 0, 0, none, 0, 0, false⟩
def RJ.new (id t c : Int) (n a : Nat) : RJ := { id := id, tr := t, cl := c, ph := 1, S := (List.replicate n 0).set a 1, P := List.replicate n pt0, F := List.replicate n false, fu := false, ke := false }
theorem bT_eq (a t c : Int) : (inB 1 65535 t && (inB 0 3 a && inB 0 3 c)) = bTrigger a t c := by
  unfold bTrigger
  cases inB 1 65535 t <;> cases inB 0 3 a <;> rfl
theorem infoIntK : (Tryz.prog.info? 3).map (fun i => (i.zero, i.size, i.bytes)) = some (some (.int .i64 0), 1, 8) := by kernel_rfl
theorem infoBoolK : (Tryz.prog.info? 4).map (fun i => (i.zero, i.size, i.bytes)) = some (some (.bool false), 1, 1) := by kernel_rfl
theorem infoPartK : (Tryz.prog.info? 50).map (fun i => (i.zero, i.size, i.bytes)) = some (some (.agg #[.int .i64 0, .int .i64 0, .int .i64 0, .int .i64 0, .slice none 0 0, .bool false]), 6, 64) := by kernel_rfl
theorem info_of {e : TypeId} {z : Value} {s b : Nat} (h : (Tryz.prog.info? e).map (fun i => (i.zero, i.size, i.bytes)) = some (some z, s, b)) : ∃ i, Tryz.prog.info? e = some i ∧ i.zero = some z ∧ i.size = s ∧ i.bytes = b := by
  cases hq : Tryz.prog.info? e with
  | none => rw [hq] at h; cases h
  | some k => rw [hq] at h; simp at h; exact ⟨k, rfl, h⟩
theorem made_list (z : Array Value) (n : Nat) : madeCells z n = ((List.range n).map (z[· % z.size]!)).toArray := by
  apply Array.ext'
  simp [madeCells]
theorem made_ints (n : Nat) (hn : n ≤ 4) : ∀ w, (Instr.makeSlice 36 (.int .i64 n) (.int .i64 n)).run Tryz.prog w = .ok (.slice (some ⟨w.heap.size, 0, none⟩) n n) (w.alloc (.cells ((List.replicate n (0 : Int)).map (Value.int .i64)).toArray 3)) := by
  intro w
  obtain ⟨i0, hi, hz0, hz1, hz2⟩ := info_of infoIntK
  have := run_make (P := Tryz.prog) w 36 3 i0 (.int .i64 0) Tryz.underlying36 hi hz0 .i64 .i64 n n (by omega) (by omega) (by rw [hz2]; omega) (by omega)
  rw [this, hz1, made_list]
  clear this
  rcases (show n = 0 ∨ n = 1 ∨ n = 2 ∨ n = 3 ∨ n = 4 by omega) with rfl | rfl | rfl | rfl | rfl <;> rfl
theorem made_bools (n : Nat) (hn : n ≤ 4) : ∀ w, (Instr.makeSlice 61 (.int .i64 n) (.int .i64 n)).run Tryz.prog w = .ok (.slice (some ⟨w.heap.size, 0, none⟩) n n) (w.alloc (.cells ((List.replicate n false).map Value.bool).toArray 4)) := by
  intro w
  obtain ⟨i0, hi, hz0, hz1, hz2⟩ := info_of infoBoolK
  have := run_make (P := Tryz.prog) w 61 4 i0 (.bool false) Tryz.underlying61 hi hz0 .i64 .i64 n n (by omega) (by omega) (by rw [hz2]; omega) (by omega)
  rw [this, hz1, made_list]
  clear this
  rcases (show n = 0 ∨ n = 1 ∨ n = 2 ∨ n = 3 ∨ n = 4 by omega) with rfl | rfl | rfl | rfl | rfl <;> rfl
theorem made_parts (n : Nat) (hn : n ≤ 4) : ∀ w, (Instr.makeSlice 51 (.int .i64 n) (.int .i64 n)).run Tryz.prog w = .ok (.slice (some ⟨w.heap.size, 0, none⟩) n n) (w.alloc (.cells ((List.replicate n pt0).flatMap RPt.cs).toArray 50)) := by
  intro w
  obtain ⟨i0, hi, hz0, hz1, hz2⟩ := info_of infoPartK
  have := run_make (P := Tryz.prog) w 51 50 i0 _ Tryz.underlying51 hi hz0 .i64 .i64 n n (by omega) (by omega) (by rw [hz2]; omega) (by omega)
  rw [this, hz1, made_list]
  clear this
  rcases (show n = 0 ∨ n = 1 ∨ n = 2 ∨ n = 3 ∨ n = 4 by omega) with rfl | rfl | rfl | rfl | rfl <;> rfl
theorem mk4 (w : World) (a b c d : Obj) : ((((w.alloc a).alloc b).alloc c).alloc d).drew.heap[w.heap.size]? = some a ∧ ((((w.alloc a).alloc b).alloc c).alloc d).drew.heap[w.heap.size + 1]? = some b ∧ ((((w.alloc a).alloc b).alloc c).alloc d).drew.heap[w.heap.size + 1 + 1]? = some c ∧ ((((w.alloc a).alloc b).alloc c).alloc d).drew.heap[w.heap.size + 1 + 1 + 1]? = some d ∧ Fr noB w ((((w.alloc a).alloc b).alloc c).alloc d).drew := by
  refine ⟨?_, ?_, ?_, ?_, (((((Fr.refl noB w).alloc a).alloc b).alloc c).alloc d).drew⟩
  · show ((((w.heap.push a).push b).push c).push d)[w.heap.size]? = _
    rw [Array.getElem?_push, if_neg (by simp only [Array.size_push]; omega), Array.getElem?_push, if_neg (by simp only [Array.size_push]; omega), Array.getElem?_push, if_neg (by simp only [Array.size_push]; omega), Array.getElem?_push, if_pos rfl]
  · show ((((w.heap.push a).push b).push c).push d)[w.heap.size + 1]? = _
    rw [Array.getElem?_push, if_neg (by simp only [Array.size_push]; omega), Array.getElem?_push, if_neg (by simp only [Array.size_push]; omega), Array.getElem?_push, if_pos (by simp only [Array.size_push])]
  · show ((((w.heap.push a).push b).push c).push d)[w.heap.size + 1 + 1]? = _
    rw [Array.getElem?_push, if_neg (by simp only [Array.size_push]; omega), Array.getElem?_push, if_pos (by simp only [Array.size_push])]
  · show ((((w.heap.push a).push b).push c).push d)[w.heap.size + 1 + 1 + 1]? = _
    rw [Array.getElem?_push, if_pos (by simp only [Array.size_push])]
theorem rnew_mk (w' : World) (id t c : Int) (n a gs gp gf r : Nat) (hs : w'.heap[gs]? = some (.cells (Array.replicate n (Value.int .i64 0)) 3)) (hp : w'.heap[gp]? = some (.cells ((List.replicate n pt0).flatMap RPt.cs).toArray 50)) (hf : w'.heap[gf]? = some (.cells (Array.replicate n (Value.bool false)) 4)) (hr : w'.heap[r]? = some (.cells #[.int .i64 id, .int .i64 t, .int .i64 c, .int .i64 1, .slice (some ⟨gs, 0, none⟩) n n, .slice (some ⟨gp, 0, none⟩) n n, .slice (some ⟨gf, 0, none⟩) n n, .bool false, .bool false] 63)) (hn : n ≤ 4) (hne : r ≠ gs ∧ r ≠ gp ∧ r ≠ gf ∧ gs ≠ gp ∧ gs ≠ gf ∧ gp ≠ gf) : Rj w' r gs gp gf { RJ.new id t c n a with S := List.replicate n 0 } := by
  refine ⟨?_, ?_, ?_, ?_, by simp [RJ.new], by simp [RJ.new], by simpa [RJ.new] using hn, hne⟩
  · unfold Blk RJ.cs RJ.new; simpa using hr
  · unfold Blk RJ.new; simpa using hs
  · unfold Blk RJ.new; simpa using hp
  · unfold Blk RJ.new; simpa using hf
set_option maxHeartbeats 8000000 in
theorem rnew_no (id ag a t c : Int) (w : World) (h : mayNew id ag a t c = false) :
    Calls Tryz.prog 29 #[.int .i64 id, .int .i64 ag, mrV { k := 1, a := a, t := t, c := c }] w fun e w' => e = .returned (.pointer none) ∧ Fr noB w w' := by
  have hr := fun w' (f : Fr noB w w') => rr_1 a t c w'
  simp only [bT_eq] at hr
  unfold mayNew at h
  obtain ⟨b, hb⟩ : ∃ b, bTrigger a t c = b := ⟨_, rfl⟩
  simp only [hb] at hr
  rw [hb] at h
  have h' := h
  clear h hb
  unfold mrV mrC at *
  simp only at hr ⊢
  have fX := (Fr.refl noB w).alloc (.cells #[.int .i64 1, .int .i64 a, .int .i64 t, .int .i64 0, .int .i64 c, .int .i64 0, .int .i64 0, .int .i64 0, .int .i64 0, .int .i64 0, .int .i64 0, .slice none 0 0, .bool false, .slice none 0 0, .slice none 0 0] 54)
  have bX := Blk.new w 54 [.int .i64 1, .int .i64 a, .int .i64 t, .int .i64 0, .int .i64 c, .int .i64 0, .int .i64 0, .int .i64 0, .int .i64 0, .int .i64 0, .int .i64 0, .slice none 0 0, .bool false, .slice none 0 0, .slice none 0 0]
  replace hr := Lib.hid hr
  go_enter Tryz.func29, Tryz.ntmps29
  go_upto_region 1 with fail
  generalize (w.alloc (.cells #[.int .i64 1, .int .i64 a, .int .i64 t, .int .i64 0, .int .i64 c, .int .i64 0, .int .i64 0, .int .i64 0, .int .i64 0, .int .i64 0, .int .i64 0, .slice none 0 0, .bool false, .slice none 0 0, .slice none 0 0] 54)) = w1 at *
  obtain ⟨gX, hgX⟩ : ∃ g, w.heap.size = g := ⟨_, rfl⟩
  rw [hgX] at bX
  try rw [hgX]
  replace hgX := Lib.hid hgX
  have b1 := bX
  clear bX
  have ya : w1.cell? ⟨gX, 0, none⟩ = some (.int .i64 1) := b1.cell 0
  have yb : w1.cell? ⟨gX, 1, none⟩ = some (.int .i64 a) := b1.cell 1
  have yc : w1.cell? ⟨gX, 2, none⟩ = some (.int .i64 t) := b1.cell 2
  have yd : w1.cell? ⟨gX, 3, none⟩ = some (.int .i64 0) := b1.cell 3
  have ye : w1.cell? ⟨gX, 4, none⟩ = some (.int .i64 c) := b1.cell 4
  have yf : w1.cell? ⟨gX, 5, none⟩ = some (.int .i64 0) := b1.cell 5
  have yg : w1.cell? ⟨gX, 6, none⟩ = some (.int .i64 0) := b1.cell 6
  have yh : w1.cell? ⟨gX, 7, none⟩ = some (.int .i64 0) := b1.cell 7
  have yi : w1.cell? ⟨gX, 8, none⟩ = some (.int .i64 0) := b1.cell 8
  have yj : w1.cell? ⟨gX, 9, none⟩ = some (.int .i64 0) := b1.cell 9
  have yk : w1.cell? ⟨gX, 10, none⟩ = some (.int .i64 0) := b1.cell 10
  have yl : w1.cell? ⟨gX, 11, none⟩ = some (.slice none 0 0) := b1.cell 11
  have ym : w1.cell? ⟨gX, 12, none⟩ = some (.bool false) := b1.cell 12
  have yn : w1.cell? ⟨gX, 13, none⟩ = some (.slice none 0 0) := b1.cell 13
  have yo : w1.cell? ⟨gX, 14, none⟩ = some (.slice none 0 0) := b1.cell 14
  go_wp2_with fail
  go_fit (hr.out w1 fX)
  rintro e w2 ⟨rfl, f2⟩
  have f12 := fX.seqN f2
  have b2 := f2.blk b1 (fun q => q)
  have z1 : w2.cell? ⟨gX, 1, none⟩ = some (.int .i64 a) := b2.cell 1
  clear ya yb yc yd ye yf yg yh yi yj yk yl ym yn yo fX f2 hr b1
  cases b
  · go_wp2_with fail
    go_ret
    exact ⟨rfl, f12⟩
  unfold inB at h'
  by_cases h1 : id < 1
  · have d1 : decide (id < 1) = true := by simpa using h1
    clear h'
    go_wp2_with fail
    go_ret
    exact ⟨rfl, f12⟩
  have d1 : decide (id < 1) = false := by simpa using h1
  by_cases h2 : 1073741824 < id
  · have d2 : decide (1073741824 < id) = true := by simpa using h2
    clear h'
    go_wp2_with fail
    go_ret
    exact ⟨rfl, f12⟩
  have d2 : decide (1073741824 < id) = false := by simpa using h2
  by_cases h3 : ag < 1
  · have d3 : decide (ag < 1) = true := by simpa using h3
    clear h'
    go_wp2_with fail
    go_ret
    exact ⟨rfl, f12⟩
  have d3 : decide (ag < 1) = false := by simpa using h3
  by_cases h4 : 4 < ag
  · have d4 : decide (4 < ag) = true := by simpa using h4
    clear h'
    go_wp2_with fail
    go_ret
    exact ⟨rfl, f12⟩
  have d4 : decide (4 < ag) = false := by simpa using h4
  by_cases h5 : ag ≤ a
  · have d5 : decide (ag ≤ a) = true := by simpa using h5
    clear h'
    go_wp2_with fail
    go_ret
    exact ⟨rfl, f12⟩
  exfalso
  rw [decide_eq_true (show 1 ≤ id by omega), decide_eq_true (show id ≤ 1073741824 by omega), decide_eq_true (show 1 ≤ ag by omega), decide_eq_true (show ag ≤ 4 by omega), decide_eq_true (show a < ag by omega)] at h'
  cases h'
set_option maxHeartbeats 8000000 in
theorem rnew_yes (id t c : Int) (n a : Nat) (w : World) (hb : bTrigger a t c = true) (hid : 1 ≤ id) (hid2 : id ≤ 1073741824) (ha : a < n) (hn : n ≤ 4) :
    Calls Tryz.prog 29 #[.int .i64 id, .int .i64 n, mrV { k := 1, a := (a : Int), t := t, c := c }] w fun e w' => ∃ r gs gp gf, e = .returned (.pointer (some ⟨r, 0, none⟩)) ∧ (∀ x, rjB r gs gp gf x → w.heap.size ≤ x) ∧ Rj w' r gs gp gf (RJ.new id t c n a) ∧ Fr noB w w' := by
  have hr := fun w' (f : Fr noB w w') => rr_1 a t c w'
  have hmi := made_ints n hn
  have hmb := made_bools n hn
  have hmp := made_parts n hn
  simp only [bT_eq, hb] at hr
  clear hb
  unfold mrV mrC at *
  simp only at hr ⊢
  have fX := (Fr.refl noB w).alloc (.cells #[.int .i64 1, .int .i64 (a : Int), .int .i64 t, .int .i64 0, .int .i64 c, .int .i64 0, .int .i64 0, .int .i64 0, .int .i64 0, .int .i64 0, .int .i64 0, .slice none 0 0, .bool false, .slice none 0 0, .slice none 0 0] 54)
  have bX := Blk.new w 54 [.int .i64 1, .int .i64 (a : Int), .int .i64 t, .int .i64 0, .int .i64 c, .int .i64 0, .int .i64 0, .int .i64 0, .int .i64 0, .int .i64 0, .int .i64 0, .slice none 0 0, .bool false, .slice none 0 0, .slice none 0 0]
  replace hr := Lib.hid hr
  go_enter Tryz.func29, Tryz.ntmps29
  go_upto_region 1 with fail
  generalize (w.alloc (.cells #[.int .i64 1, .int .i64 (a : Int), .int .i64 t, .int .i64 0, .int .i64 c, .int .i64 0, .int .i64 0, .int .i64 0, .int .i64 0, .int .i64 0, .int .i64 0, .slice none 0 0, .bool false, .slice none 0 0, .slice none 0 0] 54)) = w1 at *
  obtain ⟨gX, hgX⟩ : ∃ g, w.heap.size = g := ⟨_, rfl⟩
  rw [hgX] at bX
  try rw [hgX]
  replace hgX := Lib.hid hgX
  have b1 := bX
  clear bX
  have ya : w1.cell? ⟨gX, 0, none⟩ = some (.int .i64 1) := b1.cell 0
  have yb : w1.cell? ⟨gX, 1, none⟩ = some (.int .i64 (a : Int)) := b1.cell 1
  have yc : w1.cell? ⟨gX, 2, none⟩ = some (.int .i64 t) := b1.cell 2
  have yd : w1.cell? ⟨gX, 3, none⟩ = some (.int .i64 0) := b1.cell 3
  have ye : w1.cell? ⟨gX, 4, none⟩ = some (.int .i64 c) := b1.cell 4
  have yf : w1.cell? ⟨gX, 5, none⟩ = some (.int .i64 0) := b1.cell 5
  have yg : w1.cell? ⟨gX, 6, none⟩ = some (.int .i64 0) := b1.cell 6
  have yh : w1.cell? ⟨gX, 7, none⟩ = some (.int .i64 0) := b1.cell 7
  have yi : w1.cell? ⟨gX, 8, none⟩ = some (.int .i64 0) := b1.cell 8
  have yj : w1.cell? ⟨gX, 9, none⟩ = some (.int .i64 0) := b1.cell 9
  have yk : w1.cell? ⟨gX, 10, none⟩ = some (.int .i64 0) := b1.cell 10
  have yl : w1.cell? ⟨gX, 11, none⟩ = some (.slice none 0 0) := b1.cell 11
  have ym : w1.cell? ⟨gX, 12, none⟩ = some (.bool false) := b1.cell 12
  have yn : w1.cell? ⟨gX, 13, none⟩ = some (.slice none 0 0) := b1.cell 13
  have yo : w1.cell? ⟨gX, 14, none⟩ = some (.slice none 0 0) := b1.cell 14
  go_wp2_with fail
  go_fit (hr.out w1 fX)
  rintro e w2 ⟨rfl, f2⟩
  have f12 := fX.seqN f2
  have b2 := f2.blk b1 (fun q => q)
  have z1 : w2.cell? ⟨gX, 1, none⟩ = some (.int .i64 (a : Int)) := b2.cell 1
  clear ya yb yc yd ye yf yg yh yi yj yk yl ym yn yo fX f2 hr b1

  have b2' := Lib.hid b2
  have d1 : decide (id < 1) = false := by simp; omega
  have d2 : decide (1073741824 < id) = false := by simp; omega
  have d3 : decide ((n : Int) < 1) = false := by simp; omega
  have d4 : decide ((4 : Int) < n) = false := by simp; omega
  have d5 : decide ((n : Int) ≤ (a : Int)) = false := by simp; omega
  have d6 : decide (n ≤ a) = false := by simp; omega
  have z2 : w2.cell? ⟨gX, 2, none⟩ = some (.int .i64 t) := b2.cell 2
  have z4 : w2.cell? ⟨gX, 4, none⟩ = some (.int .i64 c) := b2.cell 4
  clear b2
  go_upto_region 3 with fail
  have hz : ∀ w', Fr noB w2 w' → w'.cell? ⟨gX, 2, none⟩ = some (.int .i64 t) ∧ w'.cell? ⟨gX, 4, none⟩ = some (.int .i64 c) := fun w' f => ⟨f.cell z2 (fun q => q), f.cell z4 (fun q => q)⟩
  replace hz := Lib.hid hz
  replace f12 := Lib.hid f12
  go_cut [7] from 38 to 50 (fun p wx => ∃ r gs gp gf, p = .pointer (some ⟨r, 0, none⟩) ∧ (∀ x, rjB r gs gp gf x → w2.heap.size ≤ x) ∧ Rj wx r gs gp gf { RJ.new id t c n a with S := List.replicate n 0 } ∧ Fr noB w2 wx)
  case first =>
    go_region_held3 (fun w' => w'.cell? ⟨gX, 2, none⟩ = some (.int .i64 t) ∧ w'.cell? ⟨gX, 4, none⟩ = some (.int .i64 c))
      (first | exact hz.out _ ((Fr.refl noB _).drewN 1) | exact hz.out _ (((Fr.refl noB _).drewN 1).alloc _) | exact hz.out _ ((((Fr.refl noB _).drewN 1).alloc _).alloc _) | exact hz.out _ (((((Fr.refl noB _).drewN 1).alloc _).alloc _).alloc _) | exact hz.out _ ((((((Fr.refl noB _).drewN 1).alloc _).alloc _).alloc _).alloc _))
      (fail)
    all_goals (go_wp2_with fail; go_meet)
    all_goals (first
      | (obtain ⟨k1, k2, k3, k4, kf⟩ := mk4 w2 (.cells (Array.replicate n (Value.int .i64 0)) 3) (.cells ((List.replicate n pt0).flatMap RPt.cs).toArray 50) (.cells (Array.replicate n (Value.bool false)) 4) (.cells #[.int .i64 id, .int .i64 t, .int .i64 c, .int .i64 1, .slice (some ⟨w2.heap.size, 0, none⟩) n n, .slice (some ⟨w2.heap.size + 1, 0, none⟩) n n, .slice (some ⟨w2.heap.size + 1 + 1, 0, none⟩) n n, .bool false, .bool false] 63); exact ⟨w2.heap.size + 1 + 1 + 1, w2.heap.size, w2.heap.size + 1, w2.heap.size + 1 + 1, rfl, (by intro x hx; unfold rjB at hx; omega), rnew_mk _ id t c n a _ _ _ _ k1 k2 k3 k4 hn (by omega), kf⟩)
      | (obtain ⟨k1, k2, k3, k4, kf⟩ := mk4 w2 (.cells (Array.replicate n (Value.int .i64 0)) 3) (.cells (Array.replicate n (Value.bool false)) 4) (.cells ((List.replicate n pt0).flatMap RPt.cs).toArray 50) (.cells #[.int .i64 id, .int .i64 t, .int .i64 c, .int .i64 1, .slice (some ⟨w2.heap.size, 0, none⟩) n n, .slice (some ⟨w2.heap.size + 1 + 1, 0, none⟩) n n, .slice (some ⟨w2.heap.size + 1, 0, none⟩) n n, .bool false, .bool false] 63); exact ⟨w2.heap.size + 1 + 1 + 1, w2.heap.size, w2.heap.size + 1 + 1, w2.heap.size + 1, rfl, (by intro x hx; unfold rjB at hx; omega), rnew_mk _ id t c n a _ _ _ _ k1 k3 k2 k4 hn (by omega), kf⟩)
      | (obtain ⟨k1, k2, k3, k4, kf⟩ := mk4 w2 (.cells ((List.replicate n pt0).flatMap RPt.cs).toArray 50) (.cells (Array.replicate n (Value.int .i64 0)) 3) (.cells (Array.replicate n (Value.bool false)) 4) (.cells #[.int .i64 id, .int .i64 t, .int .i64 c, .int .i64 1, .slice (some ⟨w2.heap.size + 1, 0, none⟩) n n, .slice (some ⟨w2.heap.size, 0, none⟩) n n, .slice (some ⟨w2.heap.size + 1 + 1, 0, none⟩) n n, .bool false, .bool false] 63); exact ⟨w2.heap.size + 1 + 1 + 1, w2.heap.size + 1, w2.heap.size, w2.heap.size + 1 + 1, rfl, (by intro x hx; unfold rjB at hx; omega), rnew_mk _ id t c n a _ _ _ _ k2 k1 k3 k4 hn (by omega), kf⟩)
      | (obtain ⟨k1, k2, k3, k4, kf⟩ := mk4 w2 (.cells ((List.replicate n pt0).flatMap RPt.cs).toArray 50) (.cells (Array.replicate n (Value.bool false)) 4) (.cells (Array.replicate n (Value.int .i64 0)) 3) (.cells #[.int .i64 id, .int .i64 t, .int .i64 c, .int .i64 1, .slice (some ⟨w2.heap.size + 1 + 1, 0, none⟩) n n, .slice (some ⟨w2.heap.size, 0, none⟩) n n, .slice (some ⟨w2.heap.size + 1, 0, none⟩) n n, .bool false, .bool false] 63); exact ⟨w2.heap.size + 1 + 1 + 1, w2.heap.size + 1 + 1, w2.heap.size, w2.heap.size + 1, rfl, (by intro x hx; unfold rjB at hx; omega), rnew_mk _ id t c n a _ _ _ _ k3 k1 k2 k4 hn (by omega), kf⟩)
      | (obtain ⟨k1, k2, k3, k4, kf⟩ := mk4 w2 (.cells (Array.replicate n (Value.bool false)) 4) (.cells (Array.replicate n (Value.int .i64 0)) 3) (.cells ((List.replicate n pt0).flatMap RPt.cs).toArray 50) (.cells #[.int .i64 id, .int .i64 t, .int .i64 c, .int .i64 1, .slice (some ⟨w2.heap.size + 1, 0, none⟩) n n, .slice (some ⟨w2.heap.size + 1 + 1, 0, none⟩) n n, .slice (some ⟨w2.heap.size, 0, none⟩) n n, .bool false, .bool false] 63); exact ⟨w2.heap.size + 1 + 1 + 1, w2.heap.size + 1, w2.heap.size + 1 + 1, w2.heap.size, rfl, (by intro x hx; unfold rjB at hx; omega), rnew_mk _ id t c n a _ _ _ _ k2 k3 k1 k4 hn (by omega), kf⟩)
      | (obtain ⟨k1, k2, k3, k4, kf⟩ := mk4 w2 (.cells (Array.replicate n (Value.bool false)) 4) (.cells ((List.replicate n pt0).flatMap RPt.cs).toArray 50) (.cells (Array.replicate n (Value.int .i64 0)) 3) (.cells #[.int .i64 id, .int .i64 t, .int .i64 c, .int .i64 1, .slice (some ⟨w2.heap.size + 1 + 1, 0, none⟩) n n, .slice (some ⟨w2.heap.size + 1, 0, none⟩) n n, .slice (some ⟨w2.heap.size, 0, none⟩) n n, .bool false, .bool false] 63); exact ⟨w2.heap.size + 1 + 1 + 1, w2.heap.size + 1 + 1, w2.heap.size + 1, w2.heap.size, rfl, (by intro x hx; unfold rjB at hx; omega), rnew_mk _ id t c n a _ _ _ _ k3 k2 k1 k4 hn (by omega), kf⟩)
      | fail)
  case rest =>
    obtain ⟨r, gs, gp, gf, rfl, hge, R, fx⟩ := hcut
    have fr := f12.out.seqN fx
    have c4 : wc.cell? ⟨r, 4, none⟩ = some (.slice (some ⟨gs, 0, none⟩) n n) := by have := R.blk.cell 4; simpa [RJ.cs] using this
    have s0 : wc.cell? ⟨gs, a, none⟩ = some (.int .i64 0) := by have := R.s (k := a) (by simpa using ha); simpa [List.getD, ha] using this
    have y0 := R.bs.frozen a
    have b1 := fx.blk b2'.out (fun q => q)
    have z1' : wc.cell? ⟨gX, 1, none⟩ = some (.int .i64 (a : Int)) := b1.cell 1
    have R2 := R.setS a 1
    have hgsB : w.heap.size ≤ gs := Nat.le_trans f12.out.size (hge gs (Or.inr (Or.inl rfl)))
    have fr2 : Fr noB w (wc.setCell ⟨gs, a, none⟩ (.int .i64 1)) := fr.storeNew hgsB
    have hge2 : ∀ x, rjB r gs gp gf x → w.heap.size ≤ x := fun x hx => Nat.le_trans f12.out.size (hge x hx)
    replace R2 := Lib.hid R2
    replace fr2 := Lib.hid fr2
    replace hge2 := Lib.hid hge2
    clear R fx fr b1 hge hgsB
    have mixed : Tryz.prog.follows .mixedOrders = true := by kernel_rfl
    have han : (a : Int) < n := by omega
    go_wp2_with fail
    go_region_law (fail)
    all_goals (
      go_wp2_with fail
      go_ret
      exact ⟨r, gs, gp, gf, rfl, hge2.out, R2.out.frN ⟨rfl, rfl, rfl, Nat.le_refl _, fun _ _ _ => rfl⟩, fr2.out.seqN ⟨rfl, rfl, rfl, Nat.le_refl _, fun _ _ _ => rfl⟩⟩)
end Go.Proofs.YtidcoddefebdpaaGreat
end

section
set_option linter.unusedVariables false
set_option linter.unusedSimpArgs false
set_option maxRecDepth 100000
set_option maxRecDepth 100000
namespace Go.Proofs.YtidcoddefebdpaaGreat
open Go.RowKit Go Go.Lib

/-- the parts of those who are visited -/
def RJ.parts (q : RJ) : Nat → List RPt
  | 0 => []
  | k + 1 => q.parts k ++ if 0 < q.S.getD k 0 then [q.P.getD k pt0] else []
theorem parts_len (q : RJ) (k : Nat) : (q.parts k).length ≤ k := by
  induction k with
  | zero => simp [RJ.parts]
  | succ k ih =>
    unfold RJ.parts
    rw [List.length_append]
    split
    · simp; omega
    · simp; omega
theorem flat6_get : ∀ (L : List RPt) (i q : Nat), i < L.length → q < 6 → (L.flatMap RPt.cs)[i * 6 + q]? = (L.getD i pt0).cs[q]?
  | [], i, q, h, _ => by simp at h
  | x :: r, 0, q, h, hq => by
    rw [List.flatMap_cons, List.getElem?_append_left (by simp [RPt.cs]; omega)]
    congr 1; omega
  | x :: r, i + 1, q, h, hq => by
    have hl : x.cs.length = 6 := rfl
    rw [List.flatMap_cons, List.getElem?_append_right (by rw [hl]; omega), hl, show (i + 1) * 6 + q - 6 = i * 6 + q by omega]
    have := flat6_get r i q (by simpa using h) hq
    simpa using this
theorem Rj.p {w : World} {r gs gp gf : Nat} {q : RJ} (h : Rj w r gs gp gf q) {k : Nat} (hk : k < q.S.length) {i : Nat} (hi : i < 6) : w.cell? ⟨gp, k * 6 + i, none⟩ = (q.P.getD k pt0).cs[i]? := by
  rw [h.bp.cell, flat6_get _ _ _ (by rw [h.lp]; exact hk) hi]
theorem rpt_one (p : RPt) : ∀ u ∈ p.cs, u.oneCell' = true := by
  intro u hu
  unfold RPt.cs at hu
  simp only [List.mem_cons, List.not_mem_nil, or_false] at hu
  rcases hu with rfl | rfl | rfl | rfl | rfl | rfl <;> rfl

set_option maxHeartbeats 8000000 in
theorem rmanifest_any (r gs gp gf : Nat) (q : RJ) (w : World) (h : Rj w r gs gp gf q) :
    Calls Tryz.prog 35 #[.pointer (some ⟨r, 0, none⟩)] w fun e w' => ∃ qa qc, e = .returned (mrV { k := 7, t := q.tr, j := q.id, c := q.cl, qa := qa, qn := (q.parts q.S.length).length, qc := qc }) ∧ w'.ownsRow w.heap.size 50 6 (.slice qa (q.parts q.S.length).length qc) (q.parts q.S.length).length ((q.parts q.S.length).flatMap RPt.cs) ∧ Fr noB w w' := by
  obtain ⟨i0, hi, hz0, hz1, hz2⟩ := info_of infoPartK
  obtain ⟨l, hl⟩ : ∃ l, q.S.length = l := ⟨_, rfl⟩
  have hn4 := h.n4
  have hlr := h.blk.lt
  have hR := Lib.hid h
  rw [hl] at hn4 ⊢
  obtain ⟨B, hB⟩ : ∃ B, w.heap.size = B := ⟨_, rfl⟩
  have b0 := Blk.new w 54 [.int .i64 0, .int .i64 0, .int .i64 0, .int .i64 0, .int .i64 0, .int .i64 0, .int .i64 0, .int .i64 0, .int .i64 0, .int .i64 0, .int .i64 0, .slice none 0 0, .bool false, .slice none 0 0, .slice none 0 0]
  have f0 : Fr noB w (w.alloc (.cells #[.int .i64 0, .int .i64 0, .int .i64 0, .int .i64 0, .int .i64 0, .int .i64 0, .int .i64 0, .int .i64 0, .int .i64 0, .int .i64 0, .int .i64 0, .slice none 0 0, .bool false, .slice none 0 0, .slice none 0 0] 54)) := (Fr.refl _ w).alloc _
  have hs1 : (w.alloc (.cells #[.int .i64 0, .int .i64 0, .int .i64 0, .int .i64 0, .int .i64 0, .int .i64 0, .int .i64 0, .int .i64 0, .int .i64 0, .int .i64 0, .int .i64 0, .slice none 0 0, .bool false, .slice none 0 0, .slice none 0 0] 54)).heap.size = B + 1 := by rw [size_alloc, hB]
  rw [hB] at b0 hlr
  have hfacts : ∀ w', Fr noB w w' → (w'.cell? ⟨r, 0, none⟩ = some (.int .i64 q.id) ∧ w'.cell? ⟨r, 1, none⟩ = some (.int .i64 q.tr) ∧ w'.cell? ⟨r, 2, none⟩ = some (.int .i64 q.cl)) := fun w' f => ⟨(h.frN f).blk.cell 0, (h.frN f).blk.cell 1, (h.frN f).blk.cell 2⟩
  replace hfacts := Lib.hid hfacts
  replace hl := Lib.hid hl
  clear h
  go_enter Tryz.func35, Tryz.ntmps35
  go_upto_region 1 with fail
  generalize (w.alloc (.cells #[.int .i64 0, .int .i64 0, .int .i64 0, .int .i64 0, .int .i64 0, .int .i64 0, .int .i64 0, .int .i64 0, .int .i64 0, .int .i64 0, .int .i64 0, .slice none 0 0, .bool false, .slice none 0 0, .slice none 0 0] 54)) = w1 at *
  replace hs1 := Lib.hid hs1
  replace hB := Lib.hid hB
  replace b0 := Lib.hid b0
  go_region_held3 (fun w' => (w'.cell? ⟨r, 0, none⟩ = some (.int .i64 q.id) ∧ w'.cell? ⟨r, 1, none⟩ = some (.int .i64 q.tr) ∧ w'.cell? ⟨r, 2, none⟩ = some (.int .i64 q.cl)))
    (first | exact hfacts.out _ (f0.seqN ((Fr.refl noB _).drewN 1)) | exact hfacts.out _ (f0.seqN (((Fr.refl noB _).drewN 1).alloc _)))
    (fail)
  have fM : Fr noB w1 ((w1.alloc (.cells #[.int .i64 7, .int .i64 0, .int .i64 q.tr, .int .i64 q.id, .int .i64 q.cl, .int .i64 0, .int .i64 0, .int .i64 0, .int .i64 0, .int .i64 0, .int .i64 0, .slice none 0 0, .bool false, .slice none 0 0, .slice none 0 0] 54)).drew) := ((Fr.refl _ _).alloc _).drew
  have bM : Blk ((w1.alloc (.cells #[.int .i64 7, .int .i64 0, .int .i64 q.tr, .int .i64 q.id, .int .i64 q.cl, .int .i64 0, .int .i64 0, .int .i64 0, .int .i64 0, .int .i64 0, .int .i64 0, .slice none 0 0, .bool false, .slice none 0 0, .slice none 0 0] 54)).drew) w1.heap.size 54 [.int .i64 7, .int .i64 0, .int .i64 q.tr, .int .i64 q.id, .int .i64 q.cl, .int .i64 0, .int .i64 0, .int .i64 0, .int .i64 0, .int .i64 0, .int .i64 0, .slice none 0 0, .bool false, .slice none 0 0, .slice none 0 0] := Blk.new w1 54 [.int .i64 7, .int .i64 0, .int .i64 q.tr, .int .i64 q.id, .int .i64 q.cl, .int .i64 0, .int .i64 0, .int .i64 0, .int .i64 0, .int .i64 0, .int .i64 0, .slice none 0 0, .bool false, .slice none 0 0, .slice none 0 0]
  have b0M := fM.blk b0.out (fun q => q)
  have frM := f0.seqN fM
  have hsM : ((w1.alloc (.cells #[.int .i64 7, .int .i64 0, .int .i64 q.tr, .int .i64 q.id, .int .i64 q.cl, .int .i64 0, .int .i64 0, .int .i64 0, .int .i64 0, .int .i64 0, .int .i64 0, .slice none 0 0, .bool false, .slice none 0 0, .slice none 0 0] 54)).drew).heap.size = B + 2 := by
    show (w1.alloc (.cells #[.int .i64 7, .int .i64 0, .int .i64 q.tr, .int .i64 q.id, .int .i64 q.cl, .int .i64 0, .int .i64 0, .int .i64 0, .int .i64 0, .int .i64 0, .int .i64 0, .slice none 0 0, .bool false, .slice none 0 0, .slice none 0 0] 54)).heap.size = B + 2
    rw [size_alloc, hs1.out]
  rw [hs1.out] at bM
  obtain ⟨gm, hgm⟩ : ∃ g, B + 1 = g := ⟨_, rfl⟩
  have hsz : w1.heap.size = gm := by rw [hs1.out, hgm]
  try rw [hsz]
  rw [hgm] at bM
  generalize ((w1.alloc (.cells #[.int .i64 7, .int .i64 0, .int .i64 q.tr, .int .i64 q.id, .int .i64 q.cl, .int .i64 0, .int .i64 0, .int .i64 0, .int .i64 0, .int .i64 0, .int .i64 0, .slice none 0 0, .bool false, .slice none 0 0, .slice none 0 0] 54)).drew) = wm at *
  clear fM f0 b0 hsz hs1
  have hgmB : B < gm := by omega
  have hgml : B ≤ gm := by omega
  have hrn : ¬ onlyB gm r := by unfold onlyB; omega
  replace hgm := Lib.hid hgm
  go_wp2_with fail
  go_loopw [4] (fun i wr => ∃ (k : Nat) (pa : Option Addr) (pc : Nat), k ≤ l ∧ i = .int .i64 k ∧ Hid (Blk wr gm 54 [.int .i64 7, .int .i64 0, .int .i64 q.tr, .int .i64 q.id, .int .i64 q.cl, .int .i64 0, .int .i64 0, .int .i64 0, .int .i64 0, .int .i64 0, .int .i64 0, .slice none 0 0, .bool false, .slice pa (q.parts k).length pc, .slice none 0 0]) ∧ Hid (Blk wr B 54 [.int .i64 0, .int .i64 0, .int .i64 0, .int .i64 0, .int .i64 0, .int .i64 0, .int .i64 0, .int .i64 0, .int .i64 0, .int .i64 0, .int .i64 0, .slice none 0 0, .bool false, .slice none 0 0, .slice none 0 0]) ∧ Hid (wr.ownsRow B 50 6 (.slice pa (q.parts k).length pc) (q.parts k).length ((q.parts k).flatMap RPt.cs)) ∧ Fr noB w wr) (fun i _ => l - (RowKit.intOf i).toNat)
  case atStart => exact ⟨0, none, 0, by omega, rfl, Lib.hid bM, Lib.hid b0M, Lib.hid (World.ownsRow_nil _ _ _ _), frM⟩
  case round =>
    clear bM b0M frM hsM
    obtain ⟨k, pa, pc, hk, rfl, hbm, hb0, hown, fr⟩ := hrel
    have c4 : wr.cell? ⟨r, 4, none⟩ = some (.slice (some ⟨gs, 0, none⟩) l l) := by rw [← hl.out]; exact (hR.out.frN fr).blk.cell 4
    by_cases hlt : k < l
    · have hkl : k < q.S.length := by rw [hl.out]; exact hlt
      have s0 := (hR.out.frN fr).s hkl
      have hx1 : q.parts (k + 1) = q.parts k ++ if 0 < q.S.getD k 0 then [q.P.getD k pt0] else [] := rfl
      have hpl := parts_len q k
      have hp := fun i hi => (hR.out.frN fr).p hkl (i := i) hi
      have c5 : wr.cell? ⟨r, 5, none⟩ = some (.slice (some ⟨gp, 0, none⟩) l l) := by rw [← hl.out]; exact (hR.out.frN fr).blk.cell 5
      have hBr : B < wr.heap.size := hb0.out.lt
      generalize q.S.getD k 0 = x at *
      generalize q.parts k = O at *
      generalize q.P.getD k pt0 = P at *
      by_cases hx : 0 < x
      · rw [if_pos hx] at hx1
        obtain ⟨p1, p2, p3, p4, ua, un, uc, lo⟩ := P
        have q0 : wr.cell? ⟨gp, k * 6, none⟩ = some (.int .i64 p1) := hp 0 (by omega)
        have q1 : wr.cell? ⟨gp, k * 6 + 1, none⟩ = some (.int .i64 p2) := hp 1 (by omega)
        have q2 : wr.cell? ⟨gp, k * 6 + 2, none⟩ = some (.int .i64 p3) := hp 2 (by omega)
        have q3 : wr.cell? ⟨gp, k * 6 + 3, none⟩ = some (.int .i64 p4) := hp 3 (by omega)
        have q4 : wr.cell? ⟨gp, k * 6 + 4, none⟩ = some (.slice ua un uc) := hp 4 (by omega)
        have q5 : wr.cell? ⟨gp, k * 6 + 5, none⟩ = some (.bool lo) := hp 5 (by omega)
        obtain ⟨n, hn⟩ : ∃ n, O.length = n := ⟨_, rfl⟩
        rw [hn] at hown hbm hpl
        have hn4' : n ≤ 4 := by omega
        have m13 : wr.cell? ⟨gm, 13, none⟩ = some (.slice pa n pc) := hbm.out.cell 13
        have fA : Fr noB wr (wr.alloc (.cells #[.int .i64 p1, .int .i64 p2, .int .i64 p3, .int .i64 p4, .slice ua un uc, .bool lo] 50)) := (Fr.refl _ _).alloc _
        have mA : (wr.alloc (.cells #[.int .i64 p1, .int .i64 p2, .int .i64 p3, .int .i64 p4, .slice ua un uc, .bool lo] 50)).cell? ⟨gm, 13, none⟩ = some (.slice pa n pc) := fA.cell m13 (fun q => q)
        have hX := ownsRow_fr hown.out fA.drew (fun _ _ q => q)
        have hNX : ∀ j u, [Value.int .i64 p1, .int .i64 p2, .int .i64 p3, .int .i64 p4, .slice ua un uc, .bool lo][j]? = some u → (wr.alloc (.cells #[.int .i64 p1, .int .i64 p2, .int .i64 p3, .int .i64 p4, .slice ua un uc, .bool lo] 50)).drew.cell? ((⟨wr.heap.size, 0, none⟩ : Addr).add j) = some u := news_at wr 50 _
        have hone := rpt_one ⟨p1, p2, p3, p4, ua, un, uc, lo⟩
        unfold RPt.cs at hone
        simp only at hone
        have bmA := (fA.drew).blk hbm.out (fun q => q)
        have b0A := (fA.drew).blk hb0.out (fun q => q)
        have hBA : B ≤ (wr.alloc (.cells #[.int .i64 p1, .int .i64 p2, .int .i64 p3, .int .i64 p4, .slice ua un uc, .bool lo] 50)).drew.heap.size := by
          show B ≤ (wr.alloc (.cells #[.int .i64 p1, .int .i64 p2, .int .i64 p3, .int .i64 p4, .slice ua un uc, .bool lo] 50)).heap.size
          rw [size_alloc]; omega
        have mixed : Tryz.prog.follows .mixedOrders = true := by kernel_rfl
        replace hx1 := Lib.hid hx1
        replace hn := Lib.hid hn
        replace hX := Lib.hid hX
        replace hNX := Lib.hid hNX
        replace bmA := Lib.hid bmA
        replace b0A := Lib.hid b0A
        clear hp hpl hkl
        go_wp2_with fail
        go_region_law (first
           | (refine step_append_at rfl (.tmp 36) (.tmp 44) 51 rfl B 50 i0 _ 6 64 Tryz.underlying51 hi hz0 hz1 hz2 rfl (by omega) (.slice pa n pc) n _ (by simp [Act.eval, Act.put]) hX.out ⟨wr.heap.size, 0, none⟩ 1 1 [.int .i64 p1, .int .i64 p2, .int .i64 p3, .int .i64 p4, .slice ua un uc, .bool lo] (by simp [Act.eval, Act.put]) rfl hNX.out hone (by unfold maxLen; omega) (by omega) hBA ?_; intro v9 w9 o9 gr9 _; obtain ⟨a9, c9, rfl⟩ := ownsRow_slice o9; have f9 : Fr (rowB (.slice pa n pc)) (wr.alloc (.cells #[.int .i64 p1, .int .i64 p2, .int .i64 p3, .int .i64 p4, .slice ua un uc, .bool lo] 50)).drew w9 := (Fr.refl _ _).grown gr9 (fun k hk _ => hk); have bm9 := f9.blk bmA.out (row_not hX.out bmA.out (by decide)); have b09 := f9.blk b0A.out (row_not hX.out b0A.out (by decide)); have z9 := bm9.frozen 13; have k9 : w9.cell? ⟨gm, 13, none⟩ = some (.slice pa n pc) := bm9.cell 13)
           | fail)
        all_goals (
          have fr9 : Fr noB w w9 := (fr.seqN fA.drew).trans f9 (fun _ _ q => q) (fun i hi q => by have h1 := (hX.out.lt i q).1; have h2 := hB.out; omega)
          have fs : Fr (onlyB gm) w9 (w9.setCell ⟨gm, 13, none⟩ (.slice a9 (n + 1) c9)) := (Fr.refl _ _).store (onlyB_self gm)
          have nrm : ∀ g, (Value.slice a9 (n + 1) c9).ownBlock = some g → ¬ onlyB gm g := fun g hg q => by
            unfold onlyB at q
            subst q
            exact row_not o9 bm9 (by decide) hg
          have ow10 := ownsRow_fr o9 fs nrm
          have bm10 := bm9.set 13 (.slice a9 (n + 1) c9)
          have b010 := fs.blk b09 (fun q => by unfold onlyB at q; omega)
          have fr10 : Fr noB w (w9.setCell ⟨gm, 13, none⟩ (.slice a9 (n + 1) c9)) := fr9.trans fs (fun _ _ q => q) (fun i hi q => by unfold onlyB at q; have h2 := hB.out; omega)
          have hpl2 : (q.parts (k + 1)).length = n + 1 := by rw [hx1.out, List.length_append, hn.out]; rfl
          rw [show O.flatMap RPt.cs ++ [.int .i64 p1, .int .i64 p2, .int .i64 p3, .int .i64 p4, .slice ua un uc, .bool lo] = (q.parts (k + 1)).flatMap RPt.cs by rw [hx1.out, List.flatMap_append]; simp [RPt.cs]] at ow10
          simp only [List.set_cons_zero, List.set_cons_succ] at bm10
          replace ow10 : Hid ((w9.setCell ⟨gm, 13, none⟩ (.slice a9 (n + 1) c9)).ownsRow B 50 6 (.slice a9 (q.parts (k + 1)).length c9) (q.parts (k + 1)).length ((q.parts (k + 1)).flatMap RPt.cs)) := Lib.hid (by rw [hpl2]; exact ow10)
          replace bm10 : Hid (Blk (w9.setCell ⟨gm, 13, none⟩ (.slice a9 (n + 1) c9)) gm 54 [.int .i64 7, .int .i64 0, .int .i64 q.tr, .int .i64 q.id, .int .i64 q.cl, .int .i64 0, .int .i64 0, .int .i64 0, .int .i64 0, .int .i64 0, .int .i64 0, .slice none 0 0, .bool false, .slice a9 (q.parts (k + 1)).length c9, .slice none 0 0]) := Lib.hid (by rw [hpl2]; exact bm10)
          replace b010 := Lib.hid b010
          have hpl3 := Lib.hid hpl2.symm
          clear hpl2 fs nrm f9 bm9 b09 fr9 o9 gr9
          go_wp2_with fail
          go_roundw
          case rel => exact ⟨k + 1, a9, c9, by omega, by go_num, bm10, b010, ow10, fr10⟩
          case measure => simp [RowKit.intOf]; omega)
      · rw [if_neg hx, List.append_nil] at hx1
        have hbm2 : Hid (Blk wr gm 54 [.int .i64 7, .int .i64 0, .int .i64 q.tr, .int .i64 q.id, .int .i64 q.cl, .int .i64 0, .int .i64 0, .int .i64 0, .int .i64 0, .int .i64 0, .int .i64 0, .slice none 0 0, .bool false, .slice pa (q.parts (k + 1)).length pc, .slice none 0 0]) := by rw [hx1]; exact hbm
        have hown2 : Hid (wr.ownsRow B 50 6 (.slice pa (q.parts (k + 1)).length pc) (q.parts (k + 1)).length ((q.parts (k + 1)).flatMap RPt.cs)) := by rw [hx1]; exact hown
        have dx : decide (0 < x) = false := by simpa using hx
        replace hx1 := Lib.hid hx1
        clear hp hpl
        go_wp2_with fail
        go_roundw
        case rel => exact ⟨k + 1, pa, pc, by omega, by go_num, hbm2, hb0, hown2, fr⟩
        case measure => simp [RowKit.intOf]; omega
    · obtain rfl : k = l := by omega
      generalize hn : (q.parts k).length = n at *
      have d0 : wr.cell? ⟨gm, 0, none⟩ = some (.int .i64 7) := hbm.out.cell 0
      have d1 : wr.cell? ⟨gm, 1, none⟩ = some (.int .i64 0) := hbm.out.cell 1
      have d2 : wr.cell? ⟨gm, 2, none⟩ = some (.int .i64 q.tr) := hbm.out.cell 2
      have d3 : wr.cell? ⟨gm, 3, none⟩ = some (.int .i64 q.id) := hbm.out.cell 3
      have d4 : wr.cell? ⟨gm, 4, none⟩ = some (.int .i64 q.cl) := hbm.out.cell 4
      have d5 : wr.cell? ⟨gm, 5, none⟩ = some (.int .i64 0) := hbm.out.cell 5
      have d6 : wr.cell? ⟨gm, 6, none⟩ = some (.int .i64 0) := hbm.out.cell 6
      have d7 : wr.cell? ⟨gm, 7, none⟩ = some (.int .i64 0) := hbm.out.cell 7
      have d8 : wr.cell? ⟨gm, 8, none⟩ = some (.int .i64 0) := hbm.out.cell 8
      have d9 : wr.cell? ⟨gm, 9, none⟩ = some (.int .i64 0) := hbm.out.cell 9
      have d10 : wr.cell? ⟨gm, 10, none⟩ = some (.int .i64 0) := hbm.out.cell 10
      have d11 : wr.cell? ⟨gm, 11, none⟩ = some (.slice none 0 0) := hbm.out.cell 11
      have d12 : wr.cell? ⟨gm, 12, none⟩ = some (.bool false) := hbm.out.cell 12
      have d13 : wr.cell? ⟨gm, 13, none⟩ = some (.slice pa n pc) := hbm.out.cell 13
      have d14 : wr.cell? ⟨gm, 14, none⟩ = some (.slice none 0 0) := hbm.out.cell 14
      have t1a : Hid (wr.there B 0 (#[.int .i64 7, .int .i64 0, .int .i64 q.tr, .int .i64 q.id, .int .i64 q.cl, .int .i64 0, .int .i64 0, .int .i64 0, .int .i64 0, .int .i64 0, .int .i64 0, .slice none 0 0, .bool false, .slice pa n pc, .slice none 0 0] : Array Value).size) := Lib.hid (there6m hb0.out (by simp))
      have hsz : (Tryz.prog.info? 54).map (·.size) = some (#[.int .i64 7, .int .i64 0, .int .i64 q.tr, .int .i64 q.id, .int .i64 q.cl, .int .i64 0, .int .i64 0, .int .i64 0, .int .i64 0, .int .i64 0, .int .i64 0, .slice none 0 0, .bool false, .slice pa n pc, .slice none 0 0] : Array Value).size := size_msg
      have hon : (#[.int .i64 7, .int .i64 0, .int .i64 q.tr, .int .i64 q.id, .int .i64 q.cl, .int .i64 0, .int .i64 0, .int .i64 0, .int .i64 0, .int .i64 0, .int .i64 0, .slice none 0 0, .bool false, .slice pa n pc, .slice none 0 0] : Array Value).all (·.oneCell') = true := mr_one { k := 7, t := q.tr, j := q.id, c := q.cl, qa := pa, qn := n, qc := pc }
      replace hsz := Lib.hid hsz
      replace hon := Lib.hid hon
      replace hn := Lib.hid hn
      go_wp2_with (first
        | (refine wpList_store_mid rfl 54 (.tmp 2) (.tmp 47) rfl B 0 #[.int .i64 7, .int .i64 0, .int .i64 q.tr, .int .i64 q.id, .int .i64 q.cl, .int .i64 0, .int .i64 0, .int .i64 0, .int .i64 0, .int .i64 0, .int .i64 0, .slice none 0 0, .bool false, .slice pa n pc, .slice none 0 0] rfl rfl t1a.out hsz.out hon.out ?_; obtain ⟨w10, hw10, f10, h10⟩ := store_all wr B #[.int .i64 7, .int .i64 0, .int .i64 q.tr, .int .i64 q.id, .int .i64 q.cl, .int .i64 0, .int .i64 0, .int .i64 0, .int .i64 0, .int .i64 0, .int .i64 0, .slice none 0 0, .bool false, .slice pa n pc, .slice none 0 0]; rw [← hw10]; clear hw10; have h10 := h10 _ _ hb0.out rfl; have f10 := Lib.hid f10)
        | fail)
      have r0 : w10.cell? ⟨B, 0, none⟩ = some (.int .i64 7) := h10.cell 0
      have r1 : w10.cell? ⟨B, 1, none⟩ = some (.int .i64 0) := h10.cell 1
      have r2 : w10.cell? ⟨B, 2, none⟩ = some (.int .i64 q.tr) := h10.cell 2
      have r3 : w10.cell? ⟨B, 3, none⟩ = some (.int .i64 q.id) := h10.cell 3
      have r4 : w10.cell? ⟨B, 4, none⟩ = some (.int .i64 q.cl) := h10.cell 4
      have r5 : w10.cell? ⟨B, 5, none⟩ = some (.int .i64 0) := h10.cell 5
      have r6 : w10.cell? ⟨B, 6, none⟩ = some (.int .i64 0) := h10.cell 6
      have r7 : w10.cell? ⟨B, 7, none⟩ = some (.int .i64 0) := h10.cell 7
      have r8 : w10.cell? ⟨B, 8, none⟩ = some (.int .i64 0) := h10.cell 8
      have r9 : w10.cell? ⟨B, 9, none⟩ = some (.int .i64 0) := h10.cell 9
      have r10 : w10.cell? ⟨B, 10, none⟩ = some (.int .i64 0) := h10.cell 10
      have r11 : w10.cell? ⟨B, 11, none⟩ = some (.slice none 0 0) := h10.cell 11
      have r12 : w10.cell? ⟨B, 12, none⟩ = some (.bool false) := h10.cell 12
      have r13 : w10.cell? ⟨B, 13, none⟩ = some (.slice pa n pc) := h10.cell 13
      have r14 : w10.cell? ⟨B, 14, none⟩ = some (.slice none 0 0) := h10.cell 14
      have frA : Fr noB w w10 := fr.trans f10.out (fun _ _ q => q) (fun i hi q => by unfold onlyB at q; have h2 := hB.out; omega)
      have owA := ownsRow_fr hown.out f10.out (fun g hg q => by
        unfold onlyB at q
        subst q
        exact row_not hown.out hb0.out (by decide) hg)
      clear h10 f10 t1a hsz hon
      try go_wp2_with fail
      refine bodyPost_ret (by simp [results, Tryz.results35, go_sem, r0, r1, r2, r3, r4, r5, r6, r7, r8, r9, r10, r11, r12, r13, r14]; try rfl) rfl ?_
      rw [hn.out, hB.out]
      exact ⟨pa, pc, rfl, owA, frA⟩
end Go.Proofs.YtidcoddefebdpaaGreat
end
