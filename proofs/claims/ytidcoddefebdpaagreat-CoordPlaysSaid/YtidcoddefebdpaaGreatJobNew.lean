/-
  A job begins; what it says while it ships.
-/
import Derived.Test.YtidcoddefebdpaaGreatJobOuts
set_option linter.unusedVariables false
set_option linter.unusedSimpArgs false
set_option maxRecDepth 100000
namespace Go.Proofs.YtidcoddefebdpaaGreat
open Go.RowKit Go Go.Lib

/-- one that begins -/
def JS.new (id tr cl : Int) (ag : Nat) (a : Nat) : JS := ({ id := id, tr := tr, cl := cl, ag := ag, v0 := vis0, v1 := vis0, v2 := vis0, v3 := vis0, ph := 1, st := false } : JS).upd a fun v => { v with v := true }
theorem new_no (id ag a t c : Int) (w : World) (h : bTrigger a t c = false) :
    Calls Tryz.prog 71 #[.int .i64 id, .int .i64 ag, .agg #[.int .i64 a, .int .i64 t, .int .i64 c]] w fun e w' => e = .returned (.pointer none) ∧ Fr noB w w' := by
  have fX := (Fr.refl noB w).alloc (.cells #[.int .i64 a, .int .i64 t, .int .i64 c] 66)
  have hr := right_of (mayBe_Trigger a t c (w.alloc (.cells #[.int .i64 a, .int .i64 t, .int .i64 c] 66)))
  rw [h] at hr
  unfold mTrigger at hr
  go_enter Tryz.func71, Tryz.ntmps71
  go_wp2_with fail
  refine hr.mono ?_
  rintro e w1 ⟨rfl, f1⟩
  have g1 := fX.seqN f1
  clear hr fX f1
  go_wp2_with fail
  go_ret
  exact ⟨rfl, g1⟩
theorem new_low (id ag a t c : Int) (w : World) (h : bTrigger a t c = true) (hid : id < 1) :
    Calls Tryz.prog 71 #[.int .i64 id, .int .i64 ag, .agg #[.int .i64 a, .int .i64 t, .int .i64 c]] w fun e w' => e = .returned (.pointer none) ∧ Fr noB w w' := by
  have fX := (Fr.refl noB w).alloc (.cells #[.int .i64 a, .int .i64 t, .int .i64 c] 66)
  have hr := right_of (mayBe_Trigger a t c (w.alloc (.cells #[.int .i64 a, .int .i64 t, .int .i64 c] 66)))
  rw [h] at hr
  unfold mTrigger at hr
  have hd : decide (id < 1) = true := by simpa using hid
  go_enter Tryz.func71, Tryz.ntmps71
  go_wp2_with fail
  refine hr.mono ?_
  rintro e w1 ⟨rfl, f1⟩
  have g1 := fX.seqN f1
  clear hr fX f1
  go_wp2_with fail
  go_ret
  exact ⟨rfl, g1⟩

set_option maxHeartbeats 2000000 in
set_option maxRecDepth 10000 in
theorem new_0 (id t c : Int) (ag : Nat) (w : World) (h : bTrigger 0 t c = true) (hid : 1 ≤ id) (hid2 : id ≤ 1073741824) (hag : 0 < ag) (hag2 : ag ≤ 4) :
    Calls Tryz.prog 71 #[.int .i64 id, .int .i64 ag, .agg #[.int .i64 0, .int .i64 t, .int .i64 c]] w fun e w' => ∃ p, e = .returned (.pointer (some ⟨p, 0, none⟩)) ∧ w.heap.size ≤ p ∧ Jb w' p (JS.new id t c ag 0) ∧ Fr noB w w' := by
  have fX := (Fr.refl noB w).alloc (.cells #[.int .i64 0, .int .i64 t, .int .i64 c] 66)
  have bX := Blk.new w 66 [.int .i64 0, .int .i64 t, .int .i64 c]
  have hr := right_of (mayBe_Trigger 0 t c (w.alloc (.cells #[.int .i64 0, .int .i64 t, .int .i64 c] 66)))
  rw [h] at hr
  unfold mTrigger at hr
  have hd1 : decide (id < 1) = false := by simp; omega
  have hd2 : decide (1073741824 < id) = false := by simp; omega
  have hd3 : decide ((ag : Int) < 1) = false := by simp; omega
  have hd3b : decide (ag < 1) = false := by simp; omega
  have hd4 : decide (4 < (ag : Int)) = false := by simp; omega
  have hd4b : decide (4 < ag) = false := by simp; omega
  have hd5 : decide ((ag : Int) ≤ 0) = false := by simp; omega
  have hd5b : decide (ag ≤ 0) = false := by simp; omega
  obtain ⟨ob, hob⟩ : ∃ ob, ob = w.heap.size := ⟨_, rfl⟩
  replace hob := Lib.hid hob
  go_enter Tryz.func71, Tryz.ntmps71
  go_wp2_with fail
  refine hr.mono ?_
  rintro e w1 ⟨rfl, f1⟩
  have g1 := fX.seqN f1
  have b1 := f1.blk bX (fun q => q)
  rw [← hob.out] at b1 ⊢
  have k0 : w1.cell? ⟨ob, 0, none⟩ = some (.int .i64 0) := b1.cell 0
  have k1 : w1.cell? ⟨ob, 1, none⟩ = some (.int .i64 t) := b1.cell 1
  have k2 : w1.cell? ⟨ob, 2, none⟩ = some (.int .i64 c) := b1.cell 2
  clear hr fX f1 bX
  go_upto_region 4 with fail
  have hJ0 : Jb (w1.alloc (.cells (JS.cells { id := id, tr := t, cl := c, ag := ag, v0 := vis0, v1 := vis0, v2 := vis0, v3 := vis0, ph := 1, st := false }).toArray 108)) w1.heap.size { id := id, tr := t, cl := c, ag := ag, v0 := vis0, v1 := vis0, v2 := vis0, v3 := vis0, ph := 1, st := false } := Blk.new w1 108 _
  have fJ0 := g1.alloc (.cells (JS.cells { id := id, tr := t, cl := c, ag := ag, v0 := vis0, v1 := vis0, v2 := vis0, v3 := vis0, ph := 1, st := false }).toArray 108)
  have hps : w.heap.size ≤ w1.heap.size := g1.size
  have hopn : ob < w1.heap.size := b1.lt
  obtain ⟨w2, hw2⟩ : ∃ w2, w2 = w1.alloc (.cells (JS.cells { id := id, tr := t, cl := c, ag := ag, v0 := vis0, v1 := vis0, v2 := vis0, v3 := vis0, ph := 1, st := false }).toArray 108) := ⟨_, rfl⟩
  have hw2' : w2 = w1.alloc (.cells #[.int .i64 id, .int .i64 t, .int .i64 c, .int .i64 ag, .bool false, .bool false, .bool false, .int .i64 0, .int .i64 0, .int .i64 0, .int .i64 0, .slice none 0 0, .bool false, .bool false, .bool false, .bool false, .int .i64 0, .int .i64 0, .int .i64 0, .int .i64 0, .slice none 0 0, .bool false, .bool false, .bool false, .bool false, .int .i64 0, .int .i64 0, .int .i64 0, .int .i64 0, .slice none 0 0, .bool false, .bool false, .bool false, .bool false, .int .i64 0, .int .i64 0, .int .i64 0, .int .i64 0, .slice none 0 0, .bool false, .int .i64 1, .bool false] 108) := hw2
  have m0 : w2.cell? ⟨ob, 0, none⟩ = some (.int .i64 0) := by rw [hw2]; exact ((Fr.refl noB w1).alloc _).cell k0 (fun q => q)
  rw [← hw2] at hJ0 fJ0
  rw [← hw2']
  clear hw2 hw2' k0 k1 k2 g1 b1
  generalize w1.heap.size = p at *
  have hJ1 := hJ0.frN ((Fr.refl noB w2).drewN 1)
  have m1 : (w2.drewN 1).cell? ⟨ob, 0, none⟩ = some (.int .i64 0) := m0
  have c1 : (w2.drewN 1).cell? ⟨p, 4, none⟩ = some (.bool false) := hJ1.cell 4
  have z1 : (w2.drewN 1).frozen? ⟨p, 4, none⟩ = false := Blk.frozen hJ1 4
  have h9 : Hid (Jb ((w2.drewN 1).setCell ⟨p, 4, none⟩ (.bool true)) p (JS.new id t c ag 0)) := Lib.hid (hJ1.set 4 (.bool true) rfl)
  have f9 : Hid (Fr noB w ((w2.drewN 1).setCell ⟨p, 4, none⟩ (.bool true))) := Lib.hid ((fJ0.drewN 1).storeNew hps)
  have m9 : Hid (((w2.drewN 1).setCell ⟨p, 4, none⟩ (.bool true)).cell? ⟨ob, 0, none⟩ = some (.int .i64 0)) := Lib.hid ((fr_set (w := w2.drewN 1) (p := p) 4 (.bool true)).cell m1 (fun q => by unfold onlyB at q; omega))
  replace hJ0 := Lib.hid hJ0
  replace hJ1 := Lib.hid hJ1
  have c0 : w2.cell? ⟨p, 4, none⟩ = some (.bool false) := hJ0.out.cell 4
  have z0 : w2.frozen? ⟨p, 4, none⟩ = false := Blk.frozen hJ0.out 4
  clear m1 c1 z1
  go_region
  have h8 : Hid (Jb (w2.setCell ⟨p, 4, none⟩ (.bool true)) p (JS.new id t c ag 0)) := Lib.hid (hJ0.out.set 4 (.bool true) rfl)
  have f8 : Hid (Fr noB w (w2.setCell ⟨p, 4, none⟩ (.bool true))) := Lib.hid (fJ0.storeNew hps)
  go_wp2_with fail
  go_ret
  first
    | exact ⟨p, rfl, hps, h9.out, f9.out⟩
    | exact ⟨p, rfl, hps, h8.out.frN ((Fr.refl noB _).drew), f8.out.drew⟩
    | exact ⟨p, rfl, hps, h8.out, f8.out⟩

set_option maxHeartbeats 2000000 in
set_option maxRecDepth 10000 in
theorem new_1 (id t c : Int) (ag : Nat) (w : World) (h : bTrigger 1 t c = true) (hid : 1 ≤ id) (hid2 : id ≤ 1073741824) (hag : 1 < ag) (hag2 : ag ≤ 4) :
    Calls Tryz.prog 71 #[.int .i64 id, .int .i64 ag, .agg #[.int .i64 1, .int .i64 t, .int .i64 c]] w fun e w' => ∃ p, e = .returned (.pointer (some ⟨p, 0, none⟩)) ∧ w.heap.size ≤ p ∧ Jb w' p (JS.new id t c ag 1) ∧ Fr noB w w' := by
  have fX := (Fr.refl noB w).alloc (.cells #[.int .i64 1, .int .i64 t, .int .i64 c] 66)
  have bX := Blk.new w 66 [.int .i64 1, .int .i64 t, .int .i64 c]
  have hr := right_of (mayBe_Trigger 1 t c (w.alloc (.cells #[.int .i64 1, .int .i64 t, .int .i64 c] 66)))
  rw [h] at hr
  unfold mTrigger at hr
  have hd1 : decide (id < 1) = false := by simp; omega
  have hd2 : decide (1073741824 < id) = false := by simp; omega
  have hd3 : decide ((ag : Int) < 1) = false := by simp; omega
  have hd3b : decide (ag < 1) = false := by simp; omega
  have hd4 : decide (4 < (ag : Int)) = false := by simp; omega
  have hd4b : decide (4 < ag) = false := by simp; omega
  have hd5 : decide ((ag : Int) ≤ 1) = false := by simp; omega
  have hd5b : decide (ag ≤ 1) = false := by simp; omega
  obtain ⟨ob, hob⟩ : ∃ ob, ob = w.heap.size := ⟨_, rfl⟩
  replace hob := Lib.hid hob
  go_enter Tryz.func71, Tryz.ntmps71
  go_wp2_with fail
  refine hr.mono ?_
  rintro e w1 ⟨rfl, f1⟩
  have g1 := fX.seqN f1
  have b1 := f1.blk bX (fun q => q)
  rw [← hob.out] at b1 ⊢
  have k0 : w1.cell? ⟨ob, 0, none⟩ = some (.int .i64 1) := b1.cell 0
  have k1 : w1.cell? ⟨ob, 1, none⟩ = some (.int .i64 t) := b1.cell 1
  have k2 : w1.cell? ⟨ob, 2, none⟩ = some (.int .i64 c) := b1.cell 2
  clear hr fX f1 bX
  go_upto_region 4 with fail
  have hJ0 : Jb (w1.alloc (.cells (JS.cells { id := id, tr := t, cl := c, ag := ag, v0 := vis0, v1 := vis0, v2 := vis0, v3 := vis0, ph := 1, st := false }).toArray 108)) w1.heap.size { id := id, tr := t, cl := c, ag := ag, v0 := vis0, v1 := vis0, v2 := vis0, v3 := vis0, ph := 1, st := false } := Blk.new w1 108 _
  have fJ0 := g1.alloc (.cells (JS.cells { id := id, tr := t, cl := c, ag := ag, v0 := vis0, v1 := vis0, v2 := vis0, v3 := vis0, ph := 1, st := false }).toArray 108)
  have hps : w.heap.size ≤ w1.heap.size := g1.size
  have hopn : ob < w1.heap.size := b1.lt
  obtain ⟨w2, hw2⟩ : ∃ w2, w2 = w1.alloc (.cells (JS.cells { id := id, tr := t, cl := c, ag := ag, v0 := vis0, v1 := vis0, v2 := vis0, v3 := vis0, ph := 1, st := false }).toArray 108) := ⟨_, rfl⟩
  have hw2' : w2 = w1.alloc (.cells #[.int .i64 id, .int .i64 t, .int .i64 c, .int .i64 ag, .bool false, .bool false, .bool false, .int .i64 0, .int .i64 0, .int .i64 0, .int .i64 0, .slice none 0 0, .bool false, .bool false, .bool false, .bool false, .int .i64 0, .int .i64 0, .int .i64 0, .int .i64 0, .slice none 0 0, .bool false, .bool false, .bool false, .bool false, .int .i64 0, .int .i64 0, .int .i64 0, .int .i64 0, .slice none 0 0, .bool false, .bool false, .bool false, .bool false, .int .i64 0, .int .i64 0, .int .i64 0, .int .i64 0, .slice none 0 0, .bool false, .int .i64 1, .bool false] 108) := hw2
  have m0 : w2.cell? ⟨ob, 0, none⟩ = some (.int .i64 1) := by rw [hw2]; exact ((Fr.refl noB w1).alloc _).cell k0 (fun q => q)
  rw [← hw2] at hJ0 fJ0
  rw [← hw2']
  clear hw2 hw2' k0 k1 k2 g1 b1
  generalize w1.heap.size = p at *
  have hJ1 := hJ0.frN ((Fr.refl noB w2).drewN 1)
  have m1 : (w2.drewN 1).cell? ⟨ob, 0, none⟩ = some (.int .i64 1) := m0
  have c1 : (w2.drewN 1).cell? ⟨p, 13, none⟩ = some (.bool false) := hJ1.cell 13
  have z1 : (w2.drewN 1).frozen? ⟨p, 13, none⟩ = false := Blk.frozen hJ1 13
  have h9 : Hid (Jb ((w2.drewN 1).setCell ⟨p, 13, none⟩ (.bool true)) p (JS.new id t c ag 1)) := Lib.hid (hJ1.set 13 (.bool true) rfl)
  have f9 : Hid (Fr noB w ((w2.drewN 1).setCell ⟨p, 13, none⟩ (.bool true))) := Lib.hid ((fJ0.drewN 1).storeNew hps)
  have m9 : Hid (((w2.drewN 1).setCell ⟨p, 13, none⟩ (.bool true)).cell? ⟨ob, 0, none⟩ = some (.int .i64 1)) := Lib.hid ((fr_set (w := w2.drewN 1) (p := p) 13 (.bool true)).cell m1 (fun q => by unfold onlyB at q; omega))
  replace hJ0 := Lib.hid hJ0
  replace hJ1 := Lib.hid hJ1
  have c0 : w2.cell? ⟨p, 13, none⟩ = some (.bool false) := hJ0.out.cell 13
  have z0 : w2.frozen? ⟨p, 13, none⟩ = false := Blk.frozen hJ0.out 13
  clear m1 c1 z1
  go_region
  have h8 : Hid (Jb (w2.setCell ⟨p, 13, none⟩ (.bool true)) p (JS.new id t c ag 1)) := Lib.hid (hJ0.out.set 13 (.bool true) rfl)
  have f8 : Hid (Fr noB w (w2.setCell ⟨p, 13, none⟩ (.bool true))) := Lib.hid (fJ0.storeNew hps)
  go_wp2_with fail
  go_ret
  first
    | exact ⟨p, rfl, hps, h9.out, f9.out⟩
    | exact ⟨p, rfl, hps, h8.out.frN ((Fr.refl noB _).drew), f8.out.drew⟩
    | exact ⟨p, rfl, hps, h8.out, f8.out⟩

set_option maxHeartbeats 2000000 in
set_option maxRecDepth 10000 in
theorem new_2 (id t c : Int) (ag : Nat) (w : World) (h : bTrigger 2 t c = true) (hid : 1 ≤ id) (hid2 : id ≤ 1073741824) (hag : 2 < ag) (hag2 : ag ≤ 4) :
    Calls Tryz.prog 71 #[.int .i64 id, .int .i64 ag, .agg #[.int .i64 2, .int .i64 t, .int .i64 c]] w fun e w' => ∃ p, e = .returned (.pointer (some ⟨p, 0, none⟩)) ∧ w.heap.size ≤ p ∧ Jb w' p (JS.new id t c ag 2) ∧ Fr noB w w' := by
  have fX := (Fr.refl noB w).alloc (.cells #[.int .i64 2, .int .i64 t, .int .i64 c] 66)
  have bX := Blk.new w 66 [.int .i64 2, .int .i64 t, .int .i64 c]
  have hr := right_of (mayBe_Trigger 2 t c (w.alloc (.cells #[.int .i64 2, .int .i64 t, .int .i64 c] 66)))
  rw [h] at hr
  unfold mTrigger at hr
  have hd1 : decide (id < 1) = false := by simp; omega
  have hd2 : decide (1073741824 < id) = false := by simp; omega
  have hd3 : decide ((ag : Int) < 1) = false := by simp; omega
  have hd3b : decide (ag < 1) = false := by simp; omega
  have hd4 : decide (4 < (ag : Int)) = false := by simp; omega
  have hd4b : decide (4 < ag) = false := by simp; omega
  have hd5 : decide ((ag : Int) ≤ 2) = false := by simp; omega
  have hd5b : decide (ag ≤ 2) = false := by simp; omega
  obtain ⟨ob, hob⟩ : ∃ ob, ob = w.heap.size := ⟨_, rfl⟩
  replace hob := Lib.hid hob
  go_enter Tryz.func71, Tryz.ntmps71
  go_wp2_with fail
  refine hr.mono ?_
  rintro e w1 ⟨rfl, f1⟩
  have g1 := fX.seqN f1
  have b1 := f1.blk bX (fun q => q)
  rw [← hob.out] at b1 ⊢
  have k0 : w1.cell? ⟨ob, 0, none⟩ = some (.int .i64 2) := b1.cell 0
  have k1 : w1.cell? ⟨ob, 1, none⟩ = some (.int .i64 t) := b1.cell 1
  have k2 : w1.cell? ⟨ob, 2, none⟩ = some (.int .i64 c) := b1.cell 2
  clear hr fX f1 bX
  go_upto_region 4 with fail
  have hJ0 : Jb (w1.alloc (.cells (JS.cells { id := id, tr := t, cl := c, ag := ag, v0 := vis0, v1 := vis0, v2 := vis0, v3 := vis0, ph := 1, st := false }).toArray 108)) w1.heap.size { id := id, tr := t, cl := c, ag := ag, v0 := vis0, v1 := vis0, v2 := vis0, v3 := vis0, ph := 1, st := false } := Blk.new w1 108 _
  have fJ0 := g1.alloc (.cells (JS.cells { id := id, tr := t, cl := c, ag := ag, v0 := vis0, v1 := vis0, v2 := vis0, v3 := vis0, ph := 1, st := false }).toArray 108)
  have hps : w.heap.size ≤ w1.heap.size := g1.size
  have hopn : ob < w1.heap.size := b1.lt
  obtain ⟨w2, hw2⟩ : ∃ w2, w2 = w1.alloc (.cells (JS.cells { id := id, tr := t, cl := c, ag := ag, v0 := vis0, v1 := vis0, v2 := vis0, v3 := vis0, ph := 1, st := false }).toArray 108) := ⟨_, rfl⟩
  have hw2' : w2 = w1.alloc (.cells #[.int .i64 id, .int .i64 t, .int .i64 c, .int .i64 ag, .bool false, .bool false, .bool false, .int .i64 0, .int .i64 0, .int .i64 0, .int .i64 0, .slice none 0 0, .bool false, .bool false, .bool false, .bool false, .int .i64 0, .int .i64 0, .int .i64 0, .int .i64 0, .slice none 0 0, .bool false, .bool false, .bool false, .bool false, .int .i64 0, .int .i64 0, .int .i64 0, .int .i64 0, .slice none 0 0, .bool false, .bool false, .bool false, .bool false, .int .i64 0, .int .i64 0, .int .i64 0, .int .i64 0, .slice none 0 0, .bool false, .int .i64 1, .bool false] 108) := hw2
  have m0 : w2.cell? ⟨ob, 0, none⟩ = some (.int .i64 2) := by rw [hw2]; exact ((Fr.refl noB w1).alloc _).cell k0 (fun q => q)
  rw [← hw2] at hJ0 fJ0
  rw [← hw2']
  clear hw2 hw2' k0 k1 k2 g1 b1
  generalize w1.heap.size = p at *
  have hJ1 := hJ0.frN ((Fr.refl noB w2).drewN 1)
  have m1 : (w2.drewN 1).cell? ⟨ob, 0, none⟩ = some (.int .i64 2) := m0
  have c1 : (w2.drewN 1).cell? ⟨p, 22, none⟩ = some (.bool false) := hJ1.cell 22
  have z1 : (w2.drewN 1).frozen? ⟨p, 22, none⟩ = false := Blk.frozen hJ1 22
  have h9 : Hid (Jb ((w2.drewN 1).setCell ⟨p, 22, none⟩ (.bool true)) p (JS.new id t c ag 2)) := Lib.hid (hJ1.set 22 (.bool true) rfl)
  have f9 : Hid (Fr noB w ((w2.drewN 1).setCell ⟨p, 22, none⟩ (.bool true))) := Lib.hid ((fJ0.drewN 1).storeNew hps)
  have m9 : Hid (((w2.drewN 1).setCell ⟨p, 22, none⟩ (.bool true)).cell? ⟨ob, 0, none⟩ = some (.int .i64 2)) := Lib.hid ((fr_set (w := w2.drewN 1) (p := p) 22 (.bool true)).cell m1 (fun q => by unfold onlyB at q; omega))
  replace hJ0 := Lib.hid hJ0
  replace hJ1 := Lib.hid hJ1
  have c0 : w2.cell? ⟨p, 22, none⟩ = some (.bool false) := hJ0.out.cell 22
  have z0 : w2.frozen? ⟨p, 22, none⟩ = false := Blk.frozen hJ0.out 22
  clear m1 c1 z1
  go_region
  have h8 : Hid (Jb (w2.setCell ⟨p, 22, none⟩ (.bool true)) p (JS.new id t c ag 2)) := Lib.hid (hJ0.out.set 22 (.bool true) rfl)
  have f8 : Hid (Fr noB w (w2.setCell ⟨p, 22, none⟩ (.bool true))) := Lib.hid (fJ0.storeNew hps)
  go_wp2_with fail
  go_ret
  first
    | exact ⟨p, rfl, hps, h9.out, f9.out⟩
    | exact ⟨p, rfl, hps, h8.out.frN ((Fr.refl noB _).drew), f8.out.drew⟩
    | exact ⟨p, rfl, hps, h8.out, f8.out⟩

set_option maxHeartbeats 2000000 in
set_option maxRecDepth 10000 in
theorem new_3 (id t c : Int) (ag : Nat) (w : World) (h : bTrigger 3 t c = true) (hid : 1 ≤ id) (hid2 : id ≤ 1073741824) (hag : 3 < ag) (hag2 : ag ≤ 4) :
    Calls Tryz.prog 71 #[.int .i64 id, .int .i64 ag, .agg #[.int .i64 3, .int .i64 t, .int .i64 c]] w fun e w' => ∃ p, e = .returned (.pointer (some ⟨p, 0, none⟩)) ∧ w.heap.size ≤ p ∧ Jb w' p (JS.new id t c ag 3) ∧ Fr noB w w' := by
  have fX := (Fr.refl noB w).alloc (.cells #[.int .i64 3, .int .i64 t, .int .i64 c] 66)
  have bX := Blk.new w 66 [.int .i64 3, .int .i64 t, .int .i64 c]
  have hr := right_of (mayBe_Trigger 3 t c (w.alloc (.cells #[.int .i64 3, .int .i64 t, .int .i64 c] 66)))
  rw [h] at hr
  unfold mTrigger at hr
  have hd1 : decide (id < 1) = false := by simp; omega
  have hd2 : decide (1073741824 < id) = false := by simp; omega
  have hd3 : decide ((ag : Int) < 1) = false := by simp; omega
  have hd3b : decide (ag < 1) = false := by simp; omega
  have hd4 : decide (4 < (ag : Int)) = false := by simp; omega
  have hd4b : decide (4 < ag) = false := by simp; omega
  have hd5 : decide ((ag : Int) ≤ 3) = false := by simp; omega
  have hd5b : decide (ag ≤ 3) = false := by simp; omega
  obtain ⟨ob, hob⟩ : ∃ ob, ob = w.heap.size := ⟨_, rfl⟩
  replace hob := Lib.hid hob
  go_enter Tryz.func71, Tryz.ntmps71
  go_wp2_with fail
  refine hr.mono ?_
  rintro e w1 ⟨rfl, f1⟩
  have g1 := fX.seqN f1
  have b1 := f1.blk bX (fun q => q)
  rw [← hob.out] at b1 ⊢
  have k0 : w1.cell? ⟨ob, 0, none⟩ = some (.int .i64 3) := b1.cell 0
  have k1 : w1.cell? ⟨ob, 1, none⟩ = some (.int .i64 t) := b1.cell 1
  have k2 : w1.cell? ⟨ob, 2, none⟩ = some (.int .i64 c) := b1.cell 2
  clear hr fX f1 bX
  go_upto_region 4 with fail
  have hJ0 : Jb (w1.alloc (.cells (JS.cells { id := id, tr := t, cl := c, ag := ag, v0 := vis0, v1 := vis0, v2 := vis0, v3 := vis0, ph := 1, st := false }).toArray 108)) w1.heap.size { id := id, tr := t, cl := c, ag := ag, v0 := vis0, v1 := vis0, v2 := vis0, v3 := vis0, ph := 1, st := false } := Blk.new w1 108 _
  have fJ0 := g1.alloc (.cells (JS.cells { id := id, tr := t, cl := c, ag := ag, v0 := vis0, v1 := vis0, v2 := vis0, v3 := vis0, ph := 1, st := false }).toArray 108)
  have hps : w.heap.size ≤ w1.heap.size := g1.size
  have hopn : ob < w1.heap.size := b1.lt
  obtain ⟨w2, hw2⟩ : ∃ w2, w2 = w1.alloc (.cells (JS.cells { id := id, tr := t, cl := c, ag := ag, v0 := vis0, v1 := vis0, v2 := vis0, v3 := vis0, ph := 1, st := false }).toArray 108) := ⟨_, rfl⟩
  have hw2' : w2 = w1.alloc (.cells #[.int .i64 id, .int .i64 t, .int .i64 c, .int .i64 ag, .bool false, .bool false, .bool false, .int .i64 0, .int .i64 0, .int .i64 0, .int .i64 0, .slice none 0 0, .bool false, .bool false, .bool false, .bool false, .int .i64 0, .int .i64 0, .int .i64 0, .int .i64 0, .slice none 0 0, .bool false, .bool false, .bool false, .bool false, .int .i64 0, .int .i64 0, .int .i64 0, .int .i64 0, .slice none 0 0, .bool false, .bool false, .bool false, .bool false, .int .i64 0, .int .i64 0, .int .i64 0, .int .i64 0, .slice none 0 0, .bool false, .int .i64 1, .bool false] 108) := hw2
  have m0 : w2.cell? ⟨ob, 0, none⟩ = some (.int .i64 3) := by rw [hw2]; exact ((Fr.refl noB w1).alloc _).cell k0 (fun q => q)
  rw [← hw2] at hJ0 fJ0
  rw [← hw2']
  clear hw2 hw2' k0 k1 k2 g1 b1
  generalize w1.heap.size = p at *
  have hJ1 := hJ0.frN ((Fr.refl noB w2).drewN 1)
  have m1 : (w2.drewN 1).cell? ⟨ob, 0, none⟩ = some (.int .i64 3) := m0
  have c1 : (w2.drewN 1).cell? ⟨p, 31, none⟩ = some (.bool false) := hJ1.cell 31
  have z1 : (w2.drewN 1).frozen? ⟨p, 31, none⟩ = false := Blk.frozen hJ1 31
  have h9 : Hid (Jb ((w2.drewN 1).setCell ⟨p, 31, none⟩ (.bool true)) p (JS.new id t c ag 3)) := Lib.hid (hJ1.set 31 (.bool true) rfl)
  have f9 : Hid (Fr noB w ((w2.drewN 1).setCell ⟨p, 31, none⟩ (.bool true))) := Lib.hid ((fJ0.drewN 1).storeNew hps)
  have m9 : Hid (((w2.drewN 1).setCell ⟨p, 31, none⟩ (.bool true)).cell? ⟨ob, 0, none⟩ = some (.int .i64 3)) := Lib.hid ((fr_set (w := w2.drewN 1) (p := p) 31 (.bool true)).cell m1 (fun q => by unfold onlyB at q; omega))
  replace hJ0 := Lib.hid hJ0
  replace hJ1 := Lib.hid hJ1
  have c0 : w2.cell? ⟨p, 31, none⟩ = some (.bool false) := hJ0.out.cell 31
  have z0 : w2.frozen? ⟨p, 31, none⟩ = false := Blk.frozen hJ0.out 31
  clear m1 c1 z1
  go_region
  have h8 : Hid (Jb (w2.setCell ⟨p, 31, none⟩ (.bool true)) p (JS.new id t c ag 3)) := Lib.hid (hJ0.out.set 31 (.bool true) rfl)
  have f8 : Hid (Fr noB w (w2.setCell ⟨p, 31, none⟩ (.bool true))) := Lib.hid (fJ0.storeNew hps)
  go_wp2_with fail
  go_ret
  first
    | exact ⟨p, rfl, hps, h9.out, f9.out⟩
    | exact ⟨p, rfl, hps, h8.out.frN ((Fr.refl noB _).drew), f8.out.drew⟩
    | exact ⟨p, rfl, hps, h8.out, f8.out⟩
end Go.Proofs.YtidcoddefebdpaaGreat
