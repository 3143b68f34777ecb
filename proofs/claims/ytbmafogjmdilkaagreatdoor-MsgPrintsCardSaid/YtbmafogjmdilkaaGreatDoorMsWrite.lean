/-
  msg: the fields written, by kind.
-/
import Derived.Test.YtbmafogjmdilkaaGreatDoorMsMay
set_option linter.unusedVariables false
set_option linter.unusedSimpArgs false
set_option maxRecDepth 100000
set_option maxRecDepth 100000
namespace Go.Proofs.YtbmafogjmdilkaaGreatDoor
open Go.RowKit Go Go.Lib

def I8 (x : Int) : Prop := -9223372036854775808 ≤ x ∧ x ≤ 9223372036854775807
theorem Wr.nw {w w' : World} {p B : Nat} {v : Value} {T : List UInt8} (h : Wr w p v B T) : p < w.heap.size := h.1.lt
theorem RdI.toN {w0 w : World} {B : Nat} {v : Value} {xs : List Int} (h : RdI w0 v xs) (hB : w0.heap.size = B) (f : Fr (hiB B) w0 w) : RdN w B B v xs := by
  subst hB
  have h1 := h.frH f
  obtain ⟨a, c, rfl, _, h2, h3⟩ := h1
  refine ⟨a, c, rfl, h2, fun i hi => ?_⟩
  obtain ⟨g, o, e, h4⟩ := h3 i hi
  obtain ⟨a', c', e', _, _, h3'⟩ := h
  cases e'
  obtain ⟨g', o', e2, h5⟩ := h3' i hi
  rw [e] at e2
  cases e2
  have hlt := lt_of_cell h5
  refine ⟨g, o, e, ?_, h4⟩
  rintro (q | ⟨q, _⟩) <;> omega

set_option maxHeartbeats 1000000 in
theorem wf_Trigger (B : Nat) (u : Value) (T : List UInt8) (a t c : Int) (w0 w : World) (f0 : Fr (hiB B) w0 w) (h : Wr w B u B T) (hx : ∀ x ∈ [a, t, c], -9223372036854775808 ≤ x ∧ x ≤ 9223372036854775807) (hT : T.length ≤ 1000000) :
    Calls Tryz.prog 23 #[.pointer (some ⟨B, 0, none⟩), mTrigger a t c] w fun e w' => e = .returned (.tuple #[]) ∧ ∃ u', Wr w' B u' B (T ++ numsL [a, t, c]) ∧ Fr (hiB B) w0 w' := by
  unfold mTrigger
  have fX := (Fr.refl noB w).alloc (.cells #[.int .i64 a, .int .i64 t, .int .i64 c] 58)
  have hX := h.frN fX
  have f1 := f0.hi0 fX
  obtain ⟨g, hg⟩ : ∃ g, (w.alloc (.cells #[.int .i64 a, .int .i64 t, .int .i64 c] 58)).heap.size = g := ⟨_, rfl⟩
  have hTl : T.length + 28 * [a, t, c].length ≤ 100000000 := by simp; omega
  clear h f0 fX hT
  have q0 := as_Trigger_Trigger
  go_enter Tryz.func23, Tryz.ntmps23
  go_wp2_with fail
  generalize (w.alloc (.cells #[.int .i64 a, .int .i64 t, .int .i64 c] 58)) = wx at *
  first
  | (go_fit (wint_new B B g u T [a, t, c] wx hX hg hx hTl))
  | (rw [hg]; go_fit (wint_new B B g u T [a, t, c] wx hX hg hx hTl))
  rintro e w1 ⟨rfl, u1, h1, f2⟩
  go_wp2_with fail
  go_end0
  exact ⟨rfl, u1, h1, f1.hiW f2 (Nat.le_refl _)⟩

set_option maxHeartbeats 1000000 in
theorem wf_Pin (B : Nat) (u : Value) (T : List UInt8) (t j : Int) (w0 w : World) (f0 : Fr (hiB B) w0 w) (h : Wr w B u B T) (hx : ∀ x ∈ [t, j], -9223372036854775808 ≤ x ∧ x ≤ 9223372036854775807) (hT : T.length ≤ 1000000) :
    Calls Tryz.prog 23 #[.pointer (some ⟨B, 0, none⟩), mPin t j] w fun e w' => e = .returned (.tuple #[]) ∧ ∃ u', Wr w' B u' B (T ++ numsL [t, j]) ∧ Fr (hiB B) w0 w' := by
  unfold mPin
  have fX := (Fr.refl noB w).alloc (.cells #[.int .i64 t, .int .i64 j] 56)
  have hX := h.frN fX
  have f1 := f0.hi0 fX
  obtain ⟨g, hg⟩ : ∃ g, (w.alloc (.cells #[.int .i64 t, .int .i64 j] 56)).heap.size = g := ⟨_, rfl⟩
  have hTl : T.length + 28 * [t, j].length ≤ 100000000 := by simp; omega
  clear h f0 fX hT
  have q0 := as_Pin_Trigger
  have q1 := as_Pin_Pin
  go_enter Tryz.func23, Tryz.ntmps23
  go_wp2_with fail
  generalize (w.alloc (.cells #[.int .i64 t, .int .i64 j] 56)) = wx at *
  first
  | (go_fit (wint_new B B g u T [t, j] wx hX hg hx hTl))
  | (rw [hg]; go_fit (wint_new B B g u T [t, j] wx hX hg hx hTl))
  rintro e w1 ⟨rfl, u1, h1, f2⟩
  go_wp2_with fail
  go_end0
  exact ⟨rfl, u1, h1, f1.hiW f2 (Nat.le_refl _)⟩

set_option maxHeartbeats 1000000 in
theorem wf_Gone (B : Nat) (u : Value) (T : List UInt8) (a t j : Int) (w0 w : World) (f0 : Fr (hiB B) w0 w) (h : Wr w B u B T) (hx : ∀ x ∈ [a, t, j], -9223372036854775808 ≤ x ∧ x ≤ 9223372036854775807) (hT : T.length ≤ 1000000) :
    Calls Tryz.prog 23 #[.pointer (some ⟨B, 0, none⟩), mGone a t j] w fun e w' => e = .returned (.tuple #[]) ∧ ∃ u', Wr w' B u' B (T ++ numsL [a, t, j]) ∧ Fr (hiB B) w0 w' := by
  unfold mGone
  have fX := (Fr.refl noB w).alloc (.cells #[.int .i64 a, .int .i64 t, .int .i64 j] 60)
  have hX := h.frN fX
  have f1 := f0.hi0 fX
  obtain ⟨g, hg⟩ : ∃ g, (w.alloc (.cells #[.int .i64 a, .int .i64 t, .int .i64 j] 60)).heap.size = g := ⟨_, rfl⟩
  have hTl : T.length + 28 * [a, t, j].length ≤ 100000000 := by simp; omega
  clear h f0 fX hT
  have q0 := as_Gone_Trigger
  have q1 := as_Gone_Pin
  have q2 := as_Gone_Pinned
  have q3 := as_Gone_Gone
  go_enter Tryz.func23, Tryz.ntmps23
  go_wp2_with fail
  generalize (w.alloc (.cells #[.int .i64 a, .int .i64 t, .int .i64 j] 60)) = wx at *
  first
  | (go_fit (wint_new B B g u T [a, t, j] wx hX hg hx hTl))
  | (rw [hg]; go_fit (wint_new B B g u T [a, t, j] wx hX hg hx hTl))
  rintro e w1 ⟨rfl, u1, h1, f2⟩
  go_wp2_with fail
  go_end0
  exact ⟨rfl, u1, h1, f1.hiW f2 (Nat.le_refl _)⟩

set_option maxHeartbeats 1000000 in
theorem wf_Collect (B : Nat) (u : Value) (T : List UInt8) (t j : Int) (w0 w : World) (f0 : Fr (hiB B) w0 w) (h : Wr w B u B T) (hx : ∀ x ∈ [t, j], -9223372036854775808 ≤ x ∧ x ≤ 9223372036854775807) (hT : T.length ≤ 1000000) :
    Calls Tryz.prog 23 #[.pointer (some ⟨B, 0, none⟩), mCollect t j] w fun e w' => e = .returned (.tuple #[]) ∧ ∃ u', Wr w' B u' B (T ++ numsL [t, j]) ∧ Fr (hiB B) w0 w' := by
  unfold mCollect
  have fX := (Fr.refl noB w).alloc (.cells #[.int .i64 t, .int .i64 j] 64)
  have hX := h.frN fX
  have f1 := f0.hi0 fX
  obtain ⟨g, hg⟩ : ∃ g, (w.alloc (.cells #[.int .i64 t, .int .i64 j] 64)).heap.size = g := ⟨_, rfl⟩
  have hTl : T.length + 28 * [t, j].length ≤ 100000000 := by simp; omega
  clear h f0 fX hT
  have q0 := as_Collect_Trigger
  have q1 := as_Collect_Pin
  have q2 := as_Collect_Pinned
  have q3 := as_Collect_Gone
  have q4 := as_Collect_Collect
  go_enter Tryz.func23, Tryz.ntmps23
  go_wp2_with fail
  generalize (w.alloc (.cells #[.int .i64 t, .int .i64 j] 64)) = wx at *
  first
  | (go_fit (wint_new B B g u T [t, j] wx hX hg hx hTl))
  | (rw [hg]; go_fit (wint_new B B g u T [t, j] wx hX hg hx hTl))
  rintro e w1 ⟨rfl, u1, h1, f2⟩
  go_wp2_with fail
  go_end0
  exact ⟨rfl, u1, h1, f1.hiW f2 (Nat.le_refl _)⟩

set_option maxHeartbeats 1000000 in
theorem wf_Stored (B : Nat) (u : Value) (T : List UInt8) (t j : Int) (w0 w : World) (f0 : Fr (hiB B) w0 w) (h : Wr w B u B T) (hx : ∀ x ∈ [t, j], -9223372036854775808 ≤ x ∧ x ≤ 9223372036854775807) (hT : T.length ≤ 1000000) :
    Calls Tryz.prog 23 #[.pointer (some ⟨B, 0, none⟩), mStored t j] w fun e w' => e = .returned (.tuple #[]) ∧ ∃ u', Wr w' B u' B (T ++ numsL [t, j]) ∧ Fr (hiB B) w0 w' := by
  unfold mStored
  have fX := (Fr.refl noB w).alloc (.cells #[.int .i64 t, .int .i64 j] 70)
  have hX := h.frN fX
  have f1 := f0.hi0 fX
  obtain ⟨g, hg⟩ : ∃ g, (w.alloc (.cells #[.int .i64 t, .int .i64 j] 70)).heap.size = g := ⟨_, rfl⟩
  have hTl : T.length + 28 * [t, j].length ≤ 100000000 := by simp; omega
  clear h f0 fX hT
  have q0 := as_Stored_Trigger
  have q1 := as_Stored_Pin
  have q2 := as_Stored_Pinned
  have q3 := as_Stored_Gone
  have q4 := as_Stored_Collect
  have q5 := as_Stored_Chunk
  have q6 := as_Stored_Manifest
  have q7 := as_Stored_Stored
  go_enter Tryz.func23, Tryz.ntmps23
  go_wp2_with fail
  generalize (w.alloc (.cells #[.int .i64 t, .int .i64 j] 70)) = wx at *
  first
  | (go_fit (wint_new B B g u T [t, j] wx hX hg hx hTl))
  | (rw [hg]; go_fit (wint_new B B g u T [t, j] wx hX hg hx hTl))
  rintro e w1 ⟨rfl, u1, h1, f2⟩
  go_wp2_with fail
  go_end0
  exact ⟨rfl, u1, h1, f1.hiW f2 (Nat.le_refl _)⟩

set_option maxHeartbeats 1000000 in
theorem wf_Unpin (B : Nat) (u : Value) (T : List UInt8) (t j : Int) (w0 w : World) (f0 : Fr (hiB B) w0 w) (h : Wr w B u B T) (hx : ∀ x ∈ [t, j], -9223372036854775808 ≤ x ∧ x ≤ 9223372036854775807) (hT : T.length ≤ 1000000) :
    Calls Tryz.prog 23 #[.pointer (some ⟨B, 0, none⟩), mUnpin t j] w fun e w' => e = .returned (.tuple #[]) ∧ ∃ u', Wr w' B u' B (T ++ numsL [t, j]) ∧ Fr (hiB B) w0 w' := by
  unfold mUnpin
  have fX := (Fr.refl noB w).alloc (.cells #[.int .i64 t, .int .i64 j] 71)
  have hX := h.frN fX
  have f1 := f0.hi0 fX
  obtain ⟨g, hg⟩ : ∃ g, (w.alloc (.cells #[.int .i64 t, .int .i64 j] 71)).heap.size = g := ⟨_, rfl⟩
  have hTl : T.length + 28 * [t, j].length ≤ 100000000 := by simp; omega
  clear h f0 fX hT
  have q0 := as_Unpin_Trigger
  have q1 := as_Unpin_Pin
  have q2 := as_Unpin_Pinned
  have q3 := as_Unpin_Gone
  have q4 := as_Unpin_Collect
  have q5 := as_Unpin_Chunk
  have q6 := as_Unpin_Manifest
  have q7 := as_Unpin_Stored
  have q8 := as_Unpin_Unpin
  go_enter Tryz.func23, Tryz.ntmps23
  go_wp2_with fail
  generalize (w.alloc (.cells #[.int .i64 t, .int .i64 j] 71)) = wx at *
  first
  | (go_fit (wint_new B B g u T [t, j] wx hX hg hx hTl))
  | (rw [hg]; go_fit (wint_new B B g u T [t, j] wx hX hg hx hTl))
  rintro e w1 ⟨rfl, u1, h1, f2⟩
  go_wp2_with fail
  go_end0
  exact ⟨rfl, u1, h1, f1.hiW f2 (Nat.le_refl _)⟩

set_option maxHeartbeats 1000000 in
theorem wf_Unpinned (B : Nat) (u : Value) (T : List UInt8) (a t j : Int) (w0 w : World) (f0 : Fr (hiB B) w0 w) (h : Wr w B u B T) (hx : ∀ x ∈ [a, t, j], -9223372036854775808 ≤ x ∧ x ≤ 9223372036854775807) (hT : T.length ≤ 1000000) :
    Calls Tryz.prog 23 #[.pointer (some ⟨B, 0, none⟩), mUnpinned a t j] w fun e w' => e = .returned (.tuple #[]) ∧ ∃ u', Wr w' B u' B (T ++ numsL [a, t, j]) ∧ Fr (hiB B) w0 w' := by
  unfold mUnpinned
  have fX := (Fr.refl noB w).alloc (.cells #[.int .i64 a, .int .i64 t, .int .i64 j] 72)
  have hX := h.frN fX
  have f1 := f0.hi0 fX
  obtain ⟨g, hg⟩ : ∃ g, (w.alloc (.cells #[.int .i64 a, .int .i64 t, .int .i64 j] 72)).heap.size = g := ⟨_, rfl⟩
  have hTl : T.length + 28 * [a, t, j].length ≤ 100000000 := by simp; omega
  clear h f0 fX hT
  have q0 := as_Unpinned_Trigger
  have q1 := as_Unpinned_Pin
  have q2 := as_Unpinned_Pinned
  have q3 := as_Unpinned_Gone
  have q4 := as_Unpinned_Collect
  have q5 := as_Unpinned_Chunk
  have q6 := as_Unpinned_Manifest
  have q7 := as_Unpinned_Stored
  have q8 := as_Unpinned_Unpin
  have q9 := as_Unpinned_Unpinned
  go_enter Tryz.func23, Tryz.ntmps23
  go_wp2_with fail
  generalize (w.alloc (.cells #[.int .i64 a, .int .i64 t, .int .i64 j] 72)) = wx at *
  first
  | (go_fit (wint_new B B g u T [a, t, j] wx hX hg hx hTl))
  | (rw [hg]; go_fit (wint_new B B g u T [a, t, j] wx hX hg hx hTl))
  rintro e w1 ⟨rfl, u1, h1, f2⟩
  go_wp2_with fail
  go_end0
  exact ⟨rfl, u1, h1, f1.hiW f2 (Nat.le_refl _)⟩

theorem nums_app (a b : List Int) : numsL (a ++ b) = numsL a ++ numsL b := by unfold numsL; rw [List.flatMap_append]
set_option maxHeartbeats 1000000 in
theorem wpin_any (B : Nat) (u : Value) (T : List UInt8) (p : Pn) (v : Value) (w0 w : World) (hB : w0.heap.size = B) (f0 : Fr (hiB B) w0 w) (h : Wr w B u B T) (hv : RdI w0 v p.cr) (hx : ∀ x ∈ [p.a, p.t, p.j, p.n], -9223372036854775808 ≤ x ∧ x ≤ 9223372036854775807) (hc : ∀ x ∈ p.cr, -9223372036854775808 ≤ x ∧ x ≤ 9223372036854775807) (hl : p.cr.length ≤ 1000) (hT : T.length ≤ 1000000) :
    Calls Tryz.prog 52 #[.pointer (some ⟨B, 0, none⟩), .agg #[.int .i64 p.a, .int .i64 p.t, .int .i64 p.j, .int .i64 p.n, v, .bool p.lo]] w fun e w' => e = .returned (.tuple #[]) ∧ ∃ u', Wr w' B u' B (T ++ pinT p) ∧ Fr (hiB B) w0 w' := by
  have hv0 := hv
  obtain ⟨sa, sc, rfl, _⟩ := hv
  have hx5 : ∀ x ∈ [p.a, p.t, p.j, p.n, (p.cr.length : Int)], -9223372036854775808 ≤ x ∧ x ≤ 9223372036854775807 := by
    intro x hq
    simp only [List.mem_cons, List.not_mem_nil, or_false] at hq
    rcases hq with q | q | q | q | q
    · exact hx x (by simp [q])
    · exact hx x (by simp [q])
    · exact hx x (by simp [q])
    · exact hx x (by simp [q])
    · omega
  have hTl : T.length + 28 * [p.a, p.t, p.j, p.n, (p.cr.length : Int)].length ≤ 100000000 := by simp; omega
  have hl2 := nums_len p.cr
  have hl1 := nums_len [p.a, p.t, p.j, p.n, (p.cr.length : Int)]
  have hl5 : [p.a, p.t, p.j, p.n, (p.cr.length : Int)].length = 5 := rfl
  have hTl2 : (T ++ numsL [p.a, p.t, p.j, p.n, (p.cr.length : Int)]).length + 28 * p.cr.length ≤ 100000000 := by rw [List.length_append]; omega
  have hTl3 : ((T ++ numsL [p.a, p.t, p.j, p.n, (p.cr.length : Int)]) ++ numsL p.cr).length + 28 * [boolI p.lo].length ≤ 100000000 := by rw [List.length_append, List.length_append]; simp; omega
  have hpin : T ++ pinT p = ((T ++ numsL [p.a, p.t, p.j, p.n, (p.cr.length : Int)]) ++ numsL p.cr) ++ numsL [boolI p.lo] := by unfold pinT; simp only [List.append_assoc]
  rw [hpin]
  have fX := (Fr.refl noB w).alloc (.cells #[.int .i64 p.a, .int .i64 p.t, .int .i64 p.j, .int .i64 p.n, .slice sa p.cr.length sc, .bool p.lo] 63)
  have bX := Blk.new w 63 [.int .i64 p.a, .int .i64 p.t, .int .i64 p.j, .int .i64 p.n, .slice sa p.cr.length sc, .bool p.lo]
  have hX := h.frN fX
  have f1 := f0.hi0 fX
  have hBl : B < w.heap.size := h.1.lt
  obtain ⟨g, hg⟩ : ∃ g, (w.alloc (.cells #[.int .i64 p.a, .int .i64 p.t, .int .i64 p.j, .int .i64 p.n, .slice sa p.cr.length sc, .bool p.lo] 63)).heap.size = g := ⟨_, rfl⟩
  obtain ⟨gx, hgx⟩ : ∃ gx, w.heap.size = gx := ⟨_, rfl⟩
  rw [hgx] at bX hBl
  have hnw : gx ≠ B := by omega
  have c4 := bX.cell 4
  obtain ⟨cl, hcl⟩ : ∃ cl, p.cr.length = cl := ⟨_, rfl⟩
  have hv1 := fun w' (f : Fr (hiB B) w0 w') => hv0.toN hB f
  simp only [hcl] at hv1 hx5 hTl hTl2 hTl3 fX bX hX f1 hg c4 ⊢
  clear h f0 fX hT hv0 hl1 hl2 hl5 hpin hx
  replace hv1 := Lib.hid hv1
  replace hTl2 := Lib.hid hTl2
  replace hTl3 := Lib.hid hTl3
  replace hcl := Lib.hid hcl
  replace hc := Lib.hid hc
  have e0 : (w.alloc (.cells #[.int .i64 p.a, .int .i64 p.t, .int .i64 p.j, .int .i64 p.n, .slice sa cl sc, .bool p.lo] 63)).cell? ⟨gx, 0, none⟩ = some (.int .i64 p.a) := bX.cell 0
  have e1 : (w.alloc (.cells #[.int .i64 p.a, .int .i64 p.t, .int .i64 p.j, .int .i64 p.n, .slice sa cl sc, .bool p.lo] 63)).cell? ⟨gx, 1, none⟩ = some (.int .i64 p.t) := bX.cell 1
  have e2 : (w.alloc (.cells #[.int .i64 p.a, .int .i64 p.t, .int .i64 p.j, .int .i64 p.n, .slice sa cl sc, .bool p.lo] 63)).cell? ⟨gx, 2, none⟩ = some (.int .i64 p.j) := bX.cell 2
  have e3 : (w.alloc (.cells #[.int .i64 p.a, .int .i64 p.t, .int .i64 p.j, .int .i64 p.n, .slice sa cl sc, .bool p.lo] 63)).cell? ⟨gx, 3, none⟩ = some (.int .i64 p.n) := bX.cell 3
  go_enter Tryz.func52, Tryz.ntmps52
  go_wp2_with fail
  generalize (w.alloc (.cells #[.int .i64 p.a, .int .i64 p.t, .int .i64 p.j, .int .i64 p.n, .slice sa cl sc, .bool p.lo] 63)) = wx at *
  go_fit (wint_new B B g u T [p.a, p.t, p.j, p.n, (cl : Int)] wx hX hg hx5 hTl)
  rintro e w1 ⟨rfl, u1, h1, f2⟩
  have b1 := f2.blk bX (bX.notW (by decide) hnw)
  have f3 := f1.hiW f2 (Nat.le_refl _)
  have d4 : w1.cell? ⟨gx, 4, none⟩ = some (.slice sa cl sc) := b1.cell 4
  have hn2 := hv1.out w1 f3
  clear f1 f2 bX c4 hX hx5 hTl e0 e1 e2 e3
  replace b1 := Lib.hid b1
  replace h1 := Lib.hid h1
  replace hn2 := Lib.hid hn2
  go_wp2_with fail
  go_fit (wint_any B B u1 _ _ p.cr w1 h1.out hn2.out hc.out (by rw [hcl.out]; exact hTl2.out))
  rintro e w2 ⟨rfl, u2, h2, f4⟩
  have b2 := f4.blk b1.out (b1.out.notW (by decide) hnw)
  have f5 := f3.hiW f4 (Nat.le_refl _)
  have d5 : w2.cell? ⟨gx, 5, none⟩ = some (.bool p.lo) := b2.cell 5
  obtain ⟨g2, hg2⟩ : ∃ g, w2.heap.size = g := ⟨_, rfl⟩
  clear f4 f3 b1 b2 d4 hg
  have hlo : (∀ x ∈ [boolI p.lo], -9223372036854775808 ≤ x ∧ x ≤ 9223372036854775807) := by
    intro x hq
    simp only [List.mem_cons, List.not_mem_nil, or_false] at hq
    subst hq
    unfold boolI
    split <;> omega
  cases hlc : p.lo with
  | true =>
    rw [hlc] at d5 hTl3 hlo
    rw [show boolI true = 1 from rfl] at hTl3 hlo
    replace hlc := Lib.hid hlc
    go_wp2_with fail
    go_fit (wint_new B B g2 u2 _ [1] w2 h2 hg2 hlo hTl3.out)
    rintro e w3 ⟨rfl, u3, h3, f6⟩
    go_wp2_with fail
    go_end0
    exact ⟨rfl, u3, by rw [hlc.out]; exact h3, f5.hiW f6 (Nat.le_refl _)⟩
  | false =>
    rw [hlc] at d5 hTl3 hlo
    rw [show boolI false = 0 from rfl] at hTl3 hlo
    replace hlc := Lib.hid hlc
    go_wp2_with fail
    go_fit (wint_new B B g2 u2 _ [0] w2 h2 hg2 hlo hTl3.out)
    rintro e w3 ⟨rfl, u3, h3, f6⟩
    go_wp2_with fail
    go_end0
    exact ⟨rfl, u3, by rw [hlc.out]; exact h3, f5.hiW f6 (Nat.le_refl _)⟩
end Go.Proofs.YtbmafogjmdilkaaGreatDoor
