/-
  The reference's job by its numbers: visited, Visited.
  The reference's job hears: all messages but a Pinned.
  The reference's job hears a Pinned.
  The program's job and the reference's are alike; messages keep that (all but a Pinned): plain mathematics.
-/
import Derived.Test.YtidcoddefebdpaaGreatBase
import Derived.Test.YtidcoddefebdpaaGreatAppend
import Derived.Test.YtidcoddefebdpaaGreatInts
import Derived.Test.YtidcoddefebdpaaGreatJob
import Derived.Deep.QuietTactic
import Derived.BigQuiet
import Derived.Deep.DeepCutAuto
import Derived.Test.YtidcoddefebdpaaGreatJobPin
import Derived.Deep.LoopGhost
import Derived.Test.YtidcoddefebdpaaGreatJobState
section
set_option linter.unusedVariables false
set_option linter.unusedSimpArgs false
set_option maxRecDepth 100000
set_option maxRecDepth 10000
namespace Go.Proofs.YtidcoddefebdpaaGreat
open Go.RowKit Go Go.Lib

/-- a part of the reference's: who, its trace, job, count, the row of names (a slice's words), was something lost -/
structure RPt where
  a : Int
  t : Int
  j : Int
  c : Int
  ua : Option Addr
  un : Nat
  uc : Nat
  lo : Bool
def RPt.cs (p : RPt) : List Value := [.int .i64 p.a, .int .i64 p.t, .int .i64 p.j, .int .i64 p.c, .slice p.ua p.un p.uc, .bool p.lo]
/-- the reference's job -/
structure RJ where
  id : Int
  tr : Int
  cl : Int
  ph : Int
  S : List Int
  P : List RPt
  F : List Bool
  fu : Bool
  ke : Bool
def RJ.cs (q : RJ) (gs gp gf : Nat) : List Value := [.int .i64 q.id, .int .i64 q.tr, .int .i64 q.cl, .int .i64 q.ph, .slice (some ⟨gs, 0, none⟩) q.S.length q.S.length, .slice (some ⟨gp, 0, none⟩) q.S.length q.S.length, .slice (some ⟨gf, 0, none⟩) q.S.length q.S.length, .bool q.fu, .bool q.ke]
/-- it lies so -/
structure Rj (w : World) (r gs gp gf : Nat) (q : RJ) : Prop where
  blk : Blk w r 63 (q.cs gs gp gf)
  bs : Blk w gs 3 (q.S.map (Value.int .i64))
  bp : Blk w gp 50 (q.P.flatMap RPt.cs)
  bf : Blk w gf 4 (q.F.map Value.bool)
  lp : q.P.length = q.S.length
  lf : q.F.length = q.S.length
  n4 : q.S.length ≤ 4
  ne : r ≠ gs ∧ r ≠ gp ∧ r ≠ gf ∧ gs ≠ gp ∧ gs ≠ gf ∧ gp ≠ gf
/-- its blocks -/
def rjB (r gs gp gf : Nat) : Nat → Prop := fun q => q = r ∨ q = gs ∨ q = gp ∨ q = gf
theorem Rj.fr {w w' : World} {r gs gp gf : Nat} {q : RJ} {S : Nat → Prop} (h : Rj w r gs gp gf q) (f : Fr S w w') (hS : ∀ x, rjB r gs gp gf x → ¬ S x) : Rj w' r gs gp gf q :=
  ⟨f.blk h.blk (hS _ (Or.inl rfl)), f.blk h.bs (hS _ (Or.inr (Or.inl rfl))), f.blk h.bp (hS _ (Or.inr (Or.inr (Or.inl rfl)))), f.blk h.bf (hS _ (Or.inr (Or.inr (Or.inr rfl)))), h.lp, h.lf, h.n4, h.ne⟩
theorem Rj.frN {w w' : World} {r gs gp gf : Nat} {q : RJ} (h : Rj w r gs gp gf q) (f : Fr noB w w') : Rj w' r gs gp gf q := h.fr f (fun _ _ q => q)
theorem Rj.s {w : World} {r gs gp gf : Nat} {q : RJ} (h : Rj w r gs gp gf q) {k : Nat} (hk : k < q.S.length) : w.cell? ⟨gs, k, none⟩ = some (.int .i64 (q.S.getD k 0)) := by
  rw [h.bs.cell]
  simp [List.getD, hk]
theorem Rj.f {w : World} {r gs gp gf : Nat} {q : RJ} (h : Rj w r gs gp gf q) {k : Nat} (hk : k < q.S.length) : w.cell? ⟨gf, k, none⟩ = some (.bool (q.F.getD k false)) := by
  rw [h.bf.cell]
  have := h.lf
  simp [List.getD, show k < q.F.length by omega]
def RJ.vis (q : RJ) (a : Int) : Bool := decide (0 ≤ a) && (decide (a < q.S.length) && decide (0 < q.S.getD a.toNat 0))

set_option maxHeartbeats 1000000 in
theorem rvis_any (r gs gp gf : Nat) (q : RJ) (a : Int) (w : World) (h : Rj w r gs gp gf q) : Calls Tryz.prog 51 #[.pointer (some ⟨r, 0, none⟩), .int .i64 a] w fun e w' => e = .returned (.bool (q.vis a)) ∧ w' = w := by
  have c4 : w.cell? ⟨r, 4, none⟩ = some (.slice (some ⟨gs, 0, none⟩) q.S.length q.S.length) := h.blk.cell 4
  have hs := fun (k : Nat) (hk : k < q.S.length) => h.s hk
  have hn4 := h.n4
  unfold RJ.vis
  clear h
  by_cases h0 : 0 ≤ a
  · obtain ⟨k, rfl⟩ : ∃ k : Nat, a = k := ⟨a.toNat, by omega⟩
    by_cases h1 : k < q.S.length
    · have s0 := hs k h1
      rw [show ((k : Int)).toNat = k by omega]
      generalize q.S.getD k 0 = x at *
      generalize hl : q.S.length = l at *
      replace hl := Lib.hid hl
      replace hs := Lib.hid hs
      have d1 : decide ((k : Int) < l) = true := by simp; omega
      have d0 : decide ((0 : Int) ≤ (k : Int)) = true := by simp
      rw [d1, d0]
      by_cases hx : 0 < x
      · have dx : decide (0 < x) = true := by simpa using hx
        rw [dx]
        go_enter Tryz.func51, Tryz.ntmps51
        go_wp2_with fail
        go_ret
        exact ⟨rfl, rfl⟩
      · have dx : decide (0 < x) = false := by simpa using hx
        rw [dx]
        go_enter Tryz.func51, Tryz.ntmps51
        go_wp2_with fail
        go_ret
        exact ⟨rfl, rfl⟩
    · generalize hl : q.S.length = l at *
      replace hl := Lib.hid hl
      replace hs := Lib.hid hs
      have d1 : decide ((k : Int) < l) = false := by simp; omega
      have d0 : decide ((0 : Int) ≤ (k : Int)) = true := by simp
      rw [d1, d0]
      go_enter Tryz.func51, Tryz.ntmps51
      go_wp2_with fail
      go_ret
      exact ⟨rfl, rfl⟩
  · have d0 : decide (0 ≤ a) = false := by simpa using h0
    rw [d0]
    replace hs := Lib.hid hs
    clear c4 hs hn4
    go_enter Tryz.func51, Tryz.ntmps51
    go_wp2_with fail
    go_ret
    exact ⟨rfl, rfl⟩

/-- who is visited -/
def visL (S : List Int) : Nat → List Int
  | 0 => []
  | k + 1 => visL S k ++ if 0 < S.getD k 0 then [(k : Int)] else []
theorem visL_len (S : List Int) (k : Nat) : (visL S k).length ≤ k := by
  induction k with
  | zero => simp [visL]
  | succ k ih =>
    unfold visL
    rw [List.length_append]
    split
    · simp; omega
    · simp; omega
set_option maxHeartbeats 1000000 in
theorem rvisited_any (r gs gp gf : Nat) (q : RJ) (w : World) (h : Rj w r gs gp gf q) : Calls Tryz.prog 30 #[.pointer (some ⟨r, 0, none⟩)] w fun e w' => ∃ u, e = .returned u ∧ w'.ownsRow w.heap.size 3 1 u (visL q.S q.S.length).length (rowV (visL q.S q.S.length)) ∧ Fr noB w w' := by
  obtain ⟨i0, hi0, hz0, hz1, hz2⟩ : ∃ i0, Tryz.prog.info? 3 = some i0 ∧ i0.zero = some (.int .i64 0) ∧ i0.size = 1 ∧ i0.bytes = 8 := by
    have hI := infoIntR
    cases hq : Tryz.prog.info? 3 with
    | none => rw [hq] at hI; cases hI
    | some k => rw [hq] at hI; simp at hI; exact ⟨k, rfl, hI⟩
  have hn4 := h.n4
  have hR := Lib.hid h
  obtain ⟨l, hl⟩ : ∃ l, q.S.length = l := ⟨_, rfl⟩
  have hcell : ∀ w', Fr noB w w' → w'.cell? ⟨r, 4, none⟩ = some (.slice (some ⟨gs, 0, none⟩) l l) := fun w' f => by
    rw [← hl]; exact (h.frN f).blk.cell 4
  have hs : ∀ w' (k : Nat), Fr noB w w' → k < l → w'.cell? ⟨gs, k, none⟩ = some (.int .i64 (q.S.getD k 0)) := fun w' k f hk => (h.frN f).s (by rw [hl]; exact hk)
  rw [hl] at hn4 ⊢
  have c4 := hcell w (Fr.refl _ _)
  clear h
  generalize hB : w.heap.size = B at *
  replace hB := Lib.hid hB
  replace hcell := Lib.hid hcell
  replace hs := Lib.hid hs
  replace hl := Lib.hid hl
  go_enter Tryz.func30, Tryz.ntmps30
  go_wp2_with fail
  go_loopw [3, 4] (fun ov i wr => ∃ k : Nat, k ≤ l ∧ i = .int .i64 k ∧ wr.ownsRow B 3 1 ov (visL q.S k).length (rowV (visL q.S k)) ∧ Fr noB w wr) (fun _ i _ => l - (RowKit.intOf i).toNat)
  case atStart => exact ⟨0, by omega, rfl, World.ownsRow_nil _ _ _ _, Fr.refl _ _⟩
  case round =>
    obtain ⟨k, hk, rfl, own, fr⟩ := hrel
    have c4' := hcell.out wr fr
    clear c4
    by_cases hlt : k < l
    · have s0 := hs.out wr k fr hlt
      have hvl := visL_len q.S k
      have hx1 : visL q.S (k + 1) = visL q.S k ++ if 0 < q.S.getD k 0 then [(k : Int)] else [] := rfl
      have hBr : B ≤ wr.heap.size := by rw [← hB.out]; exact fr.size
      generalize q.S.getD k 0 = x at *
      generalize visL q.S k = O at *
      by_cases hx : 0 < x
      · rw [if_pos hx] at hx1
        replace hx1 := Lib.hid hx1
        have hA : (wr.alloc (.cells #[.int .i64 (k : Int)] 3)).ownsRow B 3 1 u3 O.length (rowV O) := ownsRow_fr own ((Fr.refl noB wr).alloc _) (fun _ _ q => q)
        have hN := cell_new wr (.int .i64 (k : Int)) 3
        have dx : decide (0 < x) = true := by simpa using hx
        go_wp2_with (first
          | (at_builtin; go_must (refine wpList_append_at _ rfl (.tmp 22) (.tmp 24) 36 rfl B 3 i0 _ 1 8 Tryz.underlying36 hi0 hz0 hz1 hz2 rfl (by omega) _ O.length _ rfl hA ⟨wr.heap.size, 0, none⟩ 1 1 [.int .i64 (k : Int)] rfl rfl hN (one_int _ _) ?_ ?_ ?_ ?_))
          | fail)
        · unfold maxLen; omega
        · omega
        · have := ((Fr.refl noB wr).alloc (.cells #[.int .i64 (k : Int)] 3)).size; omega
        intro v' w1 o1 gr1 _
        have own1 : w1.ownsRow B 3 1 v' (O ++ [(k : Int)]).length (rowV (O ++ [(k : Int)])) := by rw [List.length_append]; simpa [rowV] using o1
        have fr1 : Fr noB w w1 := (fr.alloc _).grown gr1 (fun q hq hlt => by
          have := (hA.lt q hq).1
          have := hB.out
          omega)
        rw [← hx1.out] at own1
        clear hA hN o1 gr1 own fr c4' s0
        go_wp2_with fail
        go_roundw
        case rel => exact ⟨k + 1, by omega, by go_num, own1, fr1⟩
        case measure => simp [RowKit.intOf]; omega
      · rw [if_neg hx, List.append_nil] at hx1
        rw [← hx1] at own
        replace hx1 := Lib.hid hx1
        have dx : decide (0 < x) = false := by simpa using hx
        go_wp2_with fail
        go_roundw
        case rel => exact ⟨k + 1, by omega, by go_num, own, fr⟩
        case measure => simp [RowKit.intOf]; omega
    · obtain rfl : k = l := by omega
      go_wp2_with fail
      go_ret
      exact ⟨_, rfl, own, fr⟩
end Go.Proofs.YtidcoddefebdpaaGreat
end

section
set_option linter.unusedVariables false
set_option linter.unusedSimpArgs false
set_option maxRecDepth 100000
set_option maxRecDepth 10000
namespace Go.Proofs.YtidcoddefebdpaaGreat
open Go.RowKit Go Go.Lib

/-- a message of the reference's: its cells -/
structure RMs where
  k : Int
  a : Int
  t : Int
  j : Int
  cl : Int
  ix : Int
  tt : Int
  p : RPt
  va : Option Addr
  vn : Nat
  vc : Nat
  sa : Option Addr
  sn : Nat
  sc : Nat
def RMs.cs (m : RMs) : List Value := [.int .i64 m.k, .int .i64 m.a, .int .i64 m.t, .int .i64 m.j, .int .i64 m.cl, .int .i64 m.ix, .int .i64 m.tt, .int .i64 m.p.a, .int .i64 m.p.t, .int .i64 m.p.j, .int .i64 m.p.c, .slice m.p.ua m.p.un m.p.uc, .bool m.p.lo, .slice m.va m.vn m.vc, .slice m.sa m.sn m.sc]
theorem Rj.store {w : World} {r gs gp gf : Nat} {q : RJ} (h : Rj w r gs gp gf q) {q' : RJ} {i : Nat} {v : Value} (hc : (q.cs gs gp gf).set i v = q'.cs gs gp gf) (hS : q'.S = q.S) (hP : q'.P = q.P) (hF : q'.F = q.F) : Rj (w.setCell ⟨r, i, none⟩ v) r gs gp gf q' := by
  have f : Fr (onlyB r) w (w.setCell ⟨r, i, none⟩ v) := (Fr.refl _ _).store rfl
  obtain ⟨n1, n2, n3, n4⟩ := h.ne
  have b := h.blk.set i v
  rw [hc] at b
  exact ⟨b, by rw [hS]; exact f.blk h.bs (Ne.symm n1), by rw [hP]; exact f.blk h.bp (Ne.symm n2), by rw [hF]; exact f.blk h.bf (Ne.symm n3), by rw [hS, hP]; exact h.lp, by rw [hS, hF]; exact h.lf, by rw [hS]; exact h.n4, h.ne⟩
theorem Rj.setF {w : World} {r gs gp gf : Nat} {q : RJ} (h : Rj w r gs gp gf q) (i : Nat) (x : Bool) : Rj (w.setCell ⟨gf, i, none⟩ (.bool x)) r gs gp gf { q with F := q.F.set i x } := by
  have f : Fr (onlyB gf) w (w.setCell ⟨gf, i, none⟩ (.bool x)) := (Fr.refl _ _).store rfl
  obtain ⟨n1, n2, n3, n4, n5, n6⟩ := h.ne
  have b := h.bf.set i (.bool x)
  refine ⟨f.blk h.blk n3, f.blk h.bs n5, f.blk h.bp n6, ?_, h.lp, by simpa using h.lf, h.n4, h.ne⟩
  rw [List.map_set]
  exact b
theorem Rj.setS {w : World} {r gs gp gf : Nat} {q : RJ} (h : Rj w r gs gp gf q) (i : Nat) (x : Int) : Rj (w.setCell ⟨gs, i, none⟩ (.int .i64 x)) r gs gp gf { q with S := q.S.set i x } := by
  have f : Fr (onlyB gs) w (w.setCell ⟨gs, i, none⟩ (.int .i64 x)) := (Fr.refl _ _).store rfl
  obtain ⟨n1, n2, n3, n4, n5, n6⟩ := h.ne
  have b := h.bs.set i (.int .i64 x)
  refine ⟨?_, ?_, f.blk h.bp (Ne.symm n4), f.blk h.bf (Ne.symm n5), by simpa using h.lp, by simpa using h.lf, by simpa using h.n4, h.ne⟩
  · have := f.blk h.blk n1
    unfold RJ.cs at this ⊢
    simpa using this
  · rw [List.map_set]
    exact b
/-- all who were visited let go -/
def RJ.allF (q : RJ) : Nat → Bool
  | 0 => true
  | k + 1 => q.allF k && (decide (q.S.getD k 0 = 0) || q.F.getD k false)
/-- what a message makes of it -/
def RJ.go4 (q : RJ) (a : Int) : RJ := if q.ph ≤ 2 ∧ q.vis a = true then { q with ph := 3 } else q
def RJ.go8 (q : RJ) : RJ := if q.ph = 2 ∨ q.ph = 3 then { q with ke := true, ph := 3 } else q
def RJ.fr10 (q : RJ) (a : Int) : RJ := { q with F := q.F.set a.toNat true }
def RJ.go10 (q : RJ) (a : Int) : RJ := if q.ph = 3 ∧ q.vis a = true then (if (q.fr10 a).allF q.S.length = true then { q.fr10 a with ph := 4 } else q.fr10 a) else q
/-- a call of Hear: what becomes of the job -/
def RHear (w w' : World) (r gs gp gf : Nat) (q' : RJ) : Prop := Rj w' r gs gp gf q' ∧ Fr (rjB r gs gp gf) w w'

set_option maxHeartbeats 8000000 in
theorem rhear_4 (r gs gp gf : Nat) (q : RJ) (m : RMs) (b : Bool) (w : World) (h : Rj w r gs gp gf q) (hk : m.k = 4) (hr : ∀ w', Fr noB w w' → Calls Tryz.prog 27 #[.agg m.cs.toArray] w' fun e w'' => e = .returned (.bool b) ∧ Fr noB w' w'') : Calls Tryz.prog 31 #[.pointer (some ⟨r, 0, none⟩), .agg m.cs.toArray] w fun e w' => e = .returned (.tuple #[]) ∧ RHear w w' r gs gp gf (if b = true ∧ m.t = q.tr ∧ m.j = q.id then q.go4 m.a else q) := by
  obtain ⟨k, a, t, j, cl, ix, tt, ⟨p1, p2, p3, p4, ua, un, uc, lo⟩, va, vn, vc, sa, sn, sc⟩ := m
  simp only at hk
  subst hk
  unfold RMs.cs at hr ⊢
  simp only at hr ⊢
  obtain ⟨Z, hZ⟩ : ∃ Z, (if b = true ∧ t = q.tr ∧ j = q.id then q.go4 a else q) = Z := ⟨_, rfl⟩
  rw [hZ]
  replace hZ := Lib.hid hZ
  have hR := Lib.hid h
  have fX := (Fr.refl noB w).alloc (.cells #[.int .i64 4, .int .i64 a, .int .i64 t, .int .i64 j, .int .i64 cl, .int .i64 ix, .int .i64 tt, .int .i64 p1, .int .i64 p2, .int .i64 p3, .int .i64 p4, .slice ua un uc, .bool lo, .slice va vn vc, .slice sa sn sc] 54)
  have bX := Blk.new w 54 [.int .i64 4, .int .i64 a, .int .i64 t, .int .i64 j, .int .i64 cl, .int .i64 ix, .int .i64 tt, .int .i64 p1, .int .i64 p2, .int .i64 p3, .int .i64 p4, .slice ua un uc, .bool lo, .slice va vn vc, .slice sa sn sc]
  replace hr := Lib.hid hr
  clear h
  go_enter Tryz.func31, Tryz.ntmps31
  go_upto_region 1 with fail
  generalize (w.alloc (.cells #[.int .i64 4, .int .i64 a, .int .i64 t, .int .i64 j, .int .i64 cl, .int .i64 ix, .int .i64 tt, .int .i64 p1, .int .i64 p2, .int .i64 p3, .int .i64 p4, .slice ua un uc, .bool lo, .slice va vn vc, .slice sa sn sc] 54)) = wX at *
  obtain ⟨gX, hgX⟩ : ∃ g, w.heap.size = g := ⟨_, rfl⟩
  rw [hgX] at bX
  try rw [hgX]
  replace hgX := Lib.hid hgX
  have x1 : wX.cell? ⟨gX, 1, none⟩ = some (.int .i64 a) := bX.cell 1
  have x2 : wX.cell? ⟨gX, 2, none⟩ = some (.int .i64 t) := bX.cell 2
  have x3 : wX.cell? ⟨gX, 3, none⟩ = some (.int .i64 j) := bX.cell 3
  go_quiet (fail)
  have f1 := fX.drewN nq
  have b1 := bX.drewN nq
  clear x1 x2 x3 fX bX
  generalize wX.drewN nq = w1 at *
  have ya : w1.cell? ⟨gX, 0, none⟩ = some (.int .i64 4) := b1.cell 0
  have yb : w1.cell? ⟨gX, 1, none⟩ = some (.int .i64 a) := b1.cell 1
  have yc : w1.cell? ⟨gX, 2, none⟩ = some (.int .i64 t) := b1.cell 2
  have yd : w1.cell? ⟨gX, 3, none⟩ = some (.int .i64 j) := b1.cell 3
  have ye : w1.cell? ⟨gX, 4, none⟩ = some (.int .i64 cl) := b1.cell 4
  have yf : w1.cell? ⟨gX, 5, none⟩ = some (.int .i64 ix) := b1.cell 5
  have yg : w1.cell? ⟨gX, 6, none⟩ = some (.int .i64 tt) := b1.cell 6
  have yh : w1.cell? ⟨gX, 7, none⟩ = some (.int .i64 p1) := b1.cell 7
  have yi : w1.cell? ⟨gX, 8, none⟩ = some (.int .i64 p2) := b1.cell 8
  have yj : w1.cell? ⟨gX, 9, none⟩ = some (.int .i64 p3) := b1.cell 9
  have yk : w1.cell? ⟨gX, 10, none⟩ = some (.int .i64 p4) := b1.cell 10
  have yl : w1.cell? ⟨gX, 11, none⟩ = some (.slice ua un uc) := b1.cell 11
  have ym : w1.cell? ⟨gX, 12, none⟩ = some (.bool lo) := b1.cell 12
  have yn : w1.cell? ⟨gX, 13, none⟩ = some (.slice va vn vc) := b1.cell 13
  have yo : w1.cell? ⟨gX, 14, none⟩ = some (.slice sa sn sc) := b1.cell 14
  go_wp2_with fail
  go_fit (hr.out w1 f1)
  rintro e w2 ⟨rfl, f2⟩
  have f12 := f1.seqN f2
  have R2 := hR.out.frN f12
  have b2 := f2.blk b1 (fun q => q)
  have z0 : w2.cell? ⟨gX, 0, none⟩ = some (.int .i64 4) := b2.cell 0
  have g12 : Fr (rjB r gs gp gf) w w2 := f12.mono (fun _ _ q => False.elim q)
  clear ya yb yc yd ye yf yg yh yi yj yk yl ym yn yo f1 f2 b1 b2 f12 hr
  cases b
  · go_wp2_with fail
    (first | go_end0 | ((try simp only [Exit.inBlock, Exit.then]); refine bodyPost_ret (results_none rfl _ _ _) rfl ?_))
    rw [← hZ.out, if_neg (by simp)]
    exact ⟨rfl, R2, g12⟩
  have c0 : w2.cell? ⟨r, 0, none⟩ = some (.int .i64 q.id) := R2.blk.cell 0
  have c1 : w2.cell? ⟨r, 1, none⟩ = some (.int .i64 q.tr) := R2.blk.cell 1
  by_cases ht : t = q.tr
  rotate_left
  · have dt : decide (t = q.tr) = false := by simpa using ht
    have dt2 : (t != q.tr) = true := by simpa using ht
    have R3 := Lib.hid R2
    clear R2
    go_wp2_with fail
    (first | go_end0 | ((try simp only [Exit.inBlock, Exit.then]); refine bodyPost_ret (results_none rfl _ _ _) rfl ?_))
    rw [← hZ.out, if_neg (by intro e; exact ht e.2.1)]
    exact ⟨rfl, R3.out, g12⟩
  by_cases hj : j = q.id
  rotate_left
  · have dj : decide (j = q.id) = false := by simpa using hj
    have dj2 : (j != q.id) = true := by simpa using hj
    subst ht
    have R3 := Lib.hid R2
    clear R2
    go_wp2_with fail
    (first | go_end0 | ((try simp only [Exit.inBlock, Exit.then]); refine bodyPost_ret (results_none rfl _ _ _) rfl ?_))
    rw [← hZ.out, if_neg (by intro e; exact hj e.2.2)]
    exact ⟨rfl, R3.out, g12⟩
  have hZ2 := hZ.out
  rw [if_pos ⟨rfl, ht, hj⟩] at hZ2
  clear hZ
  subst hj
  subst ht
  have c3 : w2.cell? ⟨r, 3, none⟩ = some (.int .i64 q.ph) := R2.blk.cell 3
  have y3 := R2.blk.frozen 3
  unfold RJ.go4 at hZ2
  have hZ := Lib.hid hZ2
  clear hZ2
  by_cases hp : q.ph ≤ 2
  rotate_left
  · have dp : decide (q.ph ≤ 2) = false := by simpa using hp
    replace hp := Lib.hid hp
    have R3 := Lib.hid R2
    clear R2
    go_wp2_with fail
    (first | go_end0 | ((try simp only [Exit.inBlock, Exit.then]); refine bodyPost_ret (results_none rfl _ _ _) rfl ?_))
    rw [← hZ.out, if_neg (by intro e; have h1 := hp.out; have h2 := e.1; omega)]
    exact ⟨rfl, R3.out, g12⟩
  have dp : decide (q.ph ≤ 2) = true := by simpa using hp
  obtain ⟨bv, hbv⟩ : ∃ bv, q.vis a = bv := ⟨_, rfl⟩
  have hvis := rvis_any r gs gp gf q a w2 R2
  rw [hbv] at hvis
  replace hbv := Lib.hid hbv
  replace hvis := Lib.hid hvis
  replace R2 := Lib.hid R2
  go_wp2_with fail
  go_fit hvis.out
  rintro e w3 ⟨rfl, hw⟩
  obtain rfl := hw.symm
  clear hw hvis
  cases bv
  · go_wp2_with fail
    (first | go_end0 | ((try simp only [Exit.inBlock, Exit.then]); refine bodyPost_ret (results_none rfl _ _ _) rfl ?_))
    rw [← hZ.out, if_neg (by rw [hbv.out]; simp)]
    exact ⟨rfl, R2.out, g12⟩
  · go_wp2_with fail
    (first | go_end0 | ((try simp only [Exit.inBlock, Exit.then]); refine bodyPost_ret (results_none rfl _ _ _) rfl ?_))
    rw [← hZ.out, if_pos ⟨hp, hbv.out⟩]
    exact ⟨rfl, R2.out.store rfl rfl rfl rfl, g12.store (Or.inl rfl)⟩
set_option maxHeartbeats 8000000 in
theorem rhear_8 (r gs gp gf : Nat) (q : RJ) (m : RMs) (b : Bool) (w : World) (h : Rj w r gs gp gf q) (hk : m.k = 8) (hr : ∀ w', Fr noB w w' → Calls Tryz.prog 27 #[.agg m.cs.toArray] w' fun e w'' => e = .returned (.bool b) ∧ Fr noB w' w'') : Calls Tryz.prog 31 #[.pointer (some ⟨r, 0, none⟩), .agg m.cs.toArray] w fun e w' => e = .returned (.tuple #[]) ∧ RHear w w' r gs gp gf (if b = true ∧ m.t = q.tr ∧ m.j = q.id then q.go8 else q) := by
  obtain ⟨k, a, t, j, cl, ix, tt, ⟨p1, p2, p3, p4, ua, un, uc, lo⟩, va, vn, vc, sa, sn, sc⟩ := m
  simp only at hk
  subst hk
  unfold RMs.cs at hr ⊢
  simp only at hr ⊢
  obtain ⟨Z, hZ⟩ : ∃ Z, (if b = true ∧ t = q.tr ∧ j = q.id then q.go8 else q) = Z := ⟨_, rfl⟩
  rw [hZ]
  replace hZ := Lib.hid hZ
  have hR := Lib.hid h
  have fX := (Fr.refl noB w).alloc (.cells #[.int .i64 8, .int .i64 a, .int .i64 t, .int .i64 j, .int .i64 cl, .int .i64 ix, .int .i64 tt, .int .i64 p1, .int .i64 p2, .int .i64 p3, .int .i64 p4, .slice ua un uc, .bool lo, .slice va vn vc, .slice sa sn sc] 54)
  have bX := Blk.new w 54 [.int .i64 8, .int .i64 a, .int .i64 t, .int .i64 j, .int .i64 cl, .int .i64 ix, .int .i64 tt, .int .i64 p1, .int .i64 p2, .int .i64 p3, .int .i64 p4, .slice ua un uc, .bool lo, .slice va vn vc, .slice sa sn sc]
  replace hr := Lib.hid hr
  clear h
  go_enter Tryz.func31, Tryz.ntmps31
  go_upto_region 1 with fail
  generalize (w.alloc (.cells #[.int .i64 8, .int .i64 a, .int .i64 t, .int .i64 j, .int .i64 cl, .int .i64 ix, .int .i64 tt, .int .i64 p1, .int .i64 p2, .int .i64 p3, .int .i64 p4, .slice ua un uc, .bool lo, .slice va vn vc, .slice sa sn sc] 54)) = wX at *
  obtain ⟨gX, hgX⟩ : ∃ g, w.heap.size = g := ⟨_, rfl⟩
  rw [hgX] at bX
  try rw [hgX]
  replace hgX := Lib.hid hgX
  have x1 : wX.cell? ⟨gX, 1, none⟩ = some (.int .i64 a) := bX.cell 1
  have x2 : wX.cell? ⟨gX, 2, none⟩ = some (.int .i64 t) := bX.cell 2
  have x3 : wX.cell? ⟨gX, 3, none⟩ = some (.int .i64 j) := bX.cell 3
  go_quiet (fail)
  have f1 := fX.drewN nq
  have b1 := bX.drewN nq
  clear x1 x2 x3 fX bX
  generalize wX.drewN nq = w1 at *
  have ya : w1.cell? ⟨gX, 0, none⟩ = some (.int .i64 8) := b1.cell 0
  have yb : w1.cell? ⟨gX, 1, none⟩ = some (.int .i64 a) := b1.cell 1
  have yc : w1.cell? ⟨gX, 2, none⟩ = some (.int .i64 t) := b1.cell 2
  have yd : w1.cell? ⟨gX, 3, none⟩ = some (.int .i64 j) := b1.cell 3
  have ye : w1.cell? ⟨gX, 4, none⟩ = some (.int .i64 cl) := b1.cell 4
  have yf : w1.cell? ⟨gX, 5, none⟩ = some (.int .i64 ix) := b1.cell 5
  have yg : w1.cell? ⟨gX, 6, none⟩ = some (.int .i64 tt) := b1.cell 6
  have yh : w1.cell? ⟨gX, 7, none⟩ = some (.int .i64 p1) := b1.cell 7
  have yi : w1.cell? ⟨gX, 8, none⟩ = some (.int .i64 p2) := b1.cell 8
  have yj : w1.cell? ⟨gX, 9, none⟩ = some (.int .i64 p3) := b1.cell 9
  have yk : w1.cell? ⟨gX, 10, none⟩ = some (.int .i64 p4) := b1.cell 10
  have yl : w1.cell? ⟨gX, 11, none⟩ = some (.slice ua un uc) := b1.cell 11
  have ym : w1.cell? ⟨gX, 12, none⟩ = some (.bool lo) := b1.cell 12
  have yn : w1.cell? ⟨gX, 13, none⟩ = some (.slice va vn vc) := b1.cell 13
  have yo : w1.cell? ⟨gX, 14, none⟩ = some (.slice sa sn sc) := b1.cell 14
  go_wp2_with fail
  go_fit (hr.out w1 f1)
  rintro e w2 ⟨rfl, f2⟩
  have f12 := f1.seqN f2
  have R2 := hR.out.frN f12
  have b2 := f2.blk b1 (fun q => q)
  have z0 : w2.cell? ⟨gX, 0, none⟩ = some (.int .i64 8) := b2.cell 0
  have g12 : Fr (rjB r gs gp gf) w w2 := f12.mono (fun _ _ q => False.elim q)
  clear ya yb yc yd ye yf yg yh yi yj yk yl ym yn yo f1 f2 b1 b2 f12 hr
  cases b
  · go_wp2_with fail
    (first | go_end0 | ((try simp only [Exit.inBlock, Exit.then]); refine bodyPost_ret (results_none rfl _ _ _) rfl ?_))
    rw [← hZ.out, if_neg (by simp)]
    exact ⟨rfl, R2, g12⟩
  have c0 : w2.cell? ⟨r, 0, none⟩ = some (.int .i64 q.id) := R2.blk.cell 0
  have c1 : w2.cell? ⟨r, 1, none⟩ = some (.int .i64 q.tr) := R2.blk.cell 1
  by_cases ht : t = q.tr
  rotate_left
  · have dt : decide (t = q.tr) = false := by simpa using ht
    have dt2 : (t != q.tr) = true := by simpa using ht
    have R3 := Lib.hid R2
    clear R2
    go_wp2_with fail
    (first | go_end0 | ((try simp only [Exit.inBlock, Exit.then]); refine bodyPost_ret (results_none rfl _ _ _) rfl ?_))
    rw [← hZ.out, if_neg (by intro e; exact ht e.2.1)]
    exact ⟨rfl, R3.out, g12⟩
  by_cases hj : j = q.id
  rotate_left
  · have dj : decide (j = q.id) = false := by simpa using hj
    have dj2 : (j != q.id) = true := by simpa using hj
    subst ht
    have R3 := Lib.hid R2
    clear R2
    go_wp2_with fail
    (first | go_end0 | ((try simp only [Exit.inBlock, Exit.then]); refine bodyPost_ret (results_none rfl _ _ _) rfl ?_))
    rw [← hZ.out, if_neg (by intro e; exact hj e.2.2)]
    exact ⟨rfl, R3.out, g12⟩
  have hZ2 := hZ.out
  rw [if_pos ⟨rfl, ht, hj⟩] at hZ2
  clear hZ
  subst hj
  subst ht
  have c3 : w2.cell? ⟨r, 3, none⟩ = some (.int .i64 q.ph) := R2.blk.cell 3
  have y3 := R2.blk.frozen 3
  unfold RJ.go8 at hZ2
  have hZ := Lib.hid hZ2
  clear hZ2
  by_cases hp : q.ph = 2 ∨ q.ph = 3
  rotate_left
  · have dp2 : decide (q.ph = 2) = false := by simp; omega
    have dp3 : decide (q.ph = 3) = false := by simp; omega
    have ep2 : (q.ph == 2) = false := by simp; omega
    have ep3 : (q.ph == 3) = false := by simp; omega
    replace hp := Lib.hid hp
    have R3 := Lib.hid R2
    clear R2
    go_wp2_with fail
    (first | go_end0 | ((try simp only [Exit.inBlock, Exit.then]); refine bodyPost_ret (results_none rfl _ _ _) rfl ?_))
    rw [← hZ.out, if_neg hp.out]
    exact ⟨rfl, R3.out, g12⟩
  have c8 : w2.cell? ⟨r, 8, none⟩ = some (.bool q.ke) := R2.blk.cell 8
  have R4 : Rj (w2.setCell ⟨r, 8, none⟩ (.bool true)) r gs gp gf { q with ke := true } := R2.store rfl rfl rfl rfl
  have R5 : Rj ((w2.setCell ⟨r, 8, none⟩ (.bool true)).setCell ⟨r, 3, none⟩ (.int .i64 3)) r gs gp gf { q with ke := true, ph := 3 } := R4.store rfl rfl rfl rfl
  have g5 : Fr (rjB r gs gp gf) w ((w2.setCell ⟨r, 8, none⟩ (.bool true)).setCell ⟨r, 3, none⟩ (.int .i64 3)) := (g12.store (Or.inl rfl)).store (Or.inl rfl)
  have y8 := R2.blk.frozen 8
  have hZ3 := hZ.out
  rw [if_pos hp] at hZ3
  replace hZ := Lib.hid hZ3
  clear hZ3
  replace R5 := Lib.hid R5
  have R3 := Lib.hid R2
  clear R2 R4 c3 y3
  have c3 : w2.cell? ⟨r, 3, none⟩ = some (.int .i64 q.ph) := R3.out.blk.cell 3
  have y3 := R3.out.blk.frozen 3
  rcases hp with hp | hp
  · rw [hp] at c3
    replace hp := Lib.hid hp
    go_wp2_with fail
    (first | go_end0 | ((try simp only [Exit.inBlock, Exit.then]); refine bodyPost_ret (results_none rfl _ _ _) rfl ?_))
    rw [← hZ.out]
    exact ⟨rfl, R5.out, g5⟩
  · rw [hp] at c3
    replace hp := Lib.hid hp
    go_wp2_with fail
    (first | go_end0 | ((try simp only [Exit.inBlock, Exit.then]); refine bodyPost_ret (results_none rfl _ _ _) rfl ?_))
    rw [← hZ.out]
    exact ⟨rfl, R5.out, g5⟩
set_option maxHeartbeats 8000000 in
theorem rhear_o (r gs gp gf : Nat) (q : RJ) (m : RMs) (b : Bool) (w : World) (h : Rj w r gs gp gf q) (hk : m.k ≠ 3 ∧ m.k ≠ 4 ∧ m.k ≠ 8 ∧ m.k ≠ 10) (hr : ∀ w', Fr noB w w' → Calls Tryz.prog 27 #[.agg m.cs.toArray] w' fun e w'' => e = .returned (.bool b) ∧ Fr noB w' w'') : Calls Tryz.prog 31 #[.pointer (some ⟨r, 0, none⟩), .agg m.cs.toArray] w fun e w' => e = .returned (.tuple #[]) ∧ RHear w w' r gs gp gf (if b = true ∧ m.t = q.tr ∧ m.j = q.id then q else q) := by
  obtain ⟨k, a, t, j, cl, ix, tt, ⟨p1, p2, p3, p4, ua, un, uc, lo⟩, va, vn, vc, sa, sn, sc⟩ := m
  simp only at hk
  have d3 : decide (k = 3) = false := by simpa using hk.1
  have d4 : decide (k = 4) = false := by simpa using hk.2.1
  have d8 : decide (k = 8) = false := by simpa using hk.2.2.1
  have d10 : decide (k = 10) = false := by simpa using hk.2.2.2
  unfold RMs.cs at hr ⊢
  simp only at hr ⊢
  obtain ⟨Z, hZ⟩ : ∃ Z, (if b = true ∧ t = q.tr ∧ j = q.id then q else q) = Z := ⟨_, rfl⟩
  rw [hZ]
  replace hZ := Lib.hid hZ
  have hR := Lib.hid h
  have fX := (Fr.refl noB w).alloc (.cells #[.int .i64 k, .int .i64 a, .int .i64 t, .int .i64 j, .int .i64 cl, .int .i64 ix, .int .i64 tt, .int .i64 p1, .int .i64 p2, .int .i64 p3, .int .i64 p4, .slice ua un uc, .bool lo, .slice va vn vc, .slice sa sn sc] 54)
  have bX := Blk.new w 54 [.int .i64 k, .int .i64 a, .int .i64 t, .int .i64 j, .int .i64 cl, .int .i64 ix, .int .i64 tt, .int .i64 p1, .int .i64 p2, .int .i64 p3, .int .i64 p4, .slice ua un uc, .bool lo, .slice va vn vc, .slice sa sn sc]
  replace hr := Lib.hid hr
  clear h
  go_enter Tryz.func31, Tryz.ntmps31
  go_upto_region 1 with fail
  generalize (w.alloc (.cells #[.int .i64 k, .int .i64 a, .int .i64 t, .int .i64 j, .int .i64 cl, .int .i64 ix, .int .i64 tt, .int .i64 p1, .int .i64 p2, .int .i64 p3, .int .i64 p4, .slice ua un uc, .bool lo, .slice va vn vc, .slice sa sn sc] 54)) = wX at *
  obtain ⟨gX, hgX⟩ : ∃ g, w.heap.size = g := ⟨_, rfl⟩
  rw [hgX] at bX
  try rw [hgX]
  replace hgX := Lib.hid hgX
  have x1 : wX.cell? ⟨gX, 1, none⟩ = some (.int .i64 a) := bX.cell 1
  have x2 : wX.cell? ⟨gX, 2, none⟩ = some (.int .i64 t) := bX.cell 2
  have x3 : wX.cell? ⟨gX, 3, none⟩ = some (.int .i64 j) := bX.cell 3
  go_quiet (fail)
  have f1 := fX.drewN nq
  have b1 := bX.drewN nq
  clear x1 x2 x3 fX bX
  generalize wX.drewN nq = w1 at *
  have ya : w1.cell? ⟨gX, 0, none⟩ = some (.int .i64 k) := b1.cell 0
  have yb : w1.cell? ⟨gX, 1, none⟩ = some (.int .i64 a) := b1.cell 1
  have yc : w1.cell? ⟨gX, 2, none⟩ = some (.int .i64 t) := b1.cell 2
  have yd : w1.cell? ⟨gX, 3, none⟩ = some (.int .i64 j) := b1.cell 3
  have ye : w1.cell? ⟨gX, 4, none⟩ = some (.int .i64 cl) := b1.cell 4
  have yf : w1.cell? ⟨gX, 5, none⟩ = some (.int .i64 ix) := b1.cell 5
  have yg : w1.cell? ⟨gX, 6, none⟩ = some (.int .i64 tt) := b1.cell 6
  have yh : w1.cell? ⟨gX, 7, none⟩ = some (.int .i64 p1) := b1.cell 7
  have yi : w1.cell? ⟨gX, 8, none⟩ = some (.int .i64 p2) := b1.cell 8
  have yj : w1.cell? ⟨gX, 9, none⟩ = some (.int .i64 p3) := b1.cell 9
  have yk : w1.cell? ⟨gX, 10, none⟩ = some (.int .i64 p4) := b1.cell 10
  have yl : w1.cell? ⟨gX, 11, none⟩ = some (.slice ua un uc) := b1.cell 11
  have ym : w1.cell? ⟨gX, 12, none⟩ = some (.bool lo) := b1.cell 12
  have yn : w1.cell? ⟨gX, 13, none⟩ = some (.slice va vn vc) := b1.cell 13
  have yo : w1.cell? ⟨gX, 14, none⟩ = some (.slice sa sn sc) := b1.cell 14
  go_wp2_with fail
  go_fit (hr.out w1 f1)
  rintro e w2 ⟨rfl, f2⟩
  have f12 := f1.seqN f2
  have R2 := hR.out.frN f12
  have b2 := f2.blk b1 (fun q => q)
  have z0 : w2.cell? ⟨gX, 0, none⟩ = some (.int .i64 k) := b2.cell 0
  have g12 : Fr (rjB r gs gp gf) w w2 := f12.mono (fun _ _ q => False.elim q)
  clear ya yb yc yd ye yf yg yh yi yj yk yl ym yn yo f1 f2 b1 b2 f12 hr
  cases b
  · go_wp2_with fail
    (first | go_end0 | ((try simp only [Exit.inBlock, Exit.then]); refine bodyPost_ret (results_none rfl _ _ _) rfl ?_))
    rw [← hZ.out, if_neg (by simp)]
    exact ⟨rfl, R2, g12⟩
  have c0 : w2.cell? ⟨r, 0, none⟩ = some (.int .i64 q.id) := R2.blk.cell 0
  have c1 : w2.cell? ⟨r, 1, none⟩ = some (.int .i64 q.tr) := R2.blk.cell 1
  by_cases ht : t = q.tr
  rotate_left
  · have dt : decide (t = q.tr) = false := by simpa using ht
    have dt2 : (t != q.tr) = true := by simpa using ht
    have R3 := Lib.hid R2
    clear R2
    go_wp2_with fail
    (first | go_end0 | ((try simp only [Exit.inBlock, Exit.then]); refine bodyPost_ret (results_none rfl _ _ _) rfl ?_))
    rw [← hZ.out, if_neg (by intro e; exact ht e.2.1)]
    exact ⟨rfl, R3.out, g12⟩
  by_cases hj : j = q.id
  rotate_left
  · have dj : decide (j = q.id) = false := by simpa using hj
    have dj2 : (j != q.id) = true := by simpa using hj
    subst ht
    have R3 := Lib.hid R2
    clear R2
    go_wp2_with fail
    (first | go_end0 | ((try simp only [Exit.inBlock, Exit.then]); refine bodyPost_ret (results_none rfl _ _ _) rfl ?_))
    rw [← hZ.out, if_neg (by intro e; exact hj e.2.2)]
    exact ⟨rfl, R3.out, g12⟩
  have hZ2 := hZ.out
  rw [if_pos ⟨rfl, ht, hj⟩] at hZ2
  clear hZ
  subst hj
  subst ht
  have c3 : w2.cell? ⟨r, 3, none⟩ = some (.int .i64 q.ph) := R2.blk.cell 3
  have y3 := R2.blk.frozen 3
  have hZ := Lib.hid hZ2
  clear hZ2
  have R3 := Lib.hid R2
  clear R2
  go_wp2_with fail
  (first | go_end0 | ((try simp only [Exit.inBlock, Exit.then]); refine bodyPost_ret (results_none rfl _ _ _) rfl ?_))
  rw [← hZ.out]
  exact ⟨rfl, R3.out, g12⟩
set_option maxHeartbeats 8000000 in
theorem rhear_10 (r gs gp gf : Nat) (q : RJ) (m : RMs) (b : Bool) (w : World) (h : Rj w r gs gp gf q) (hk : m.k = 10) (hr : ∀ w', Fr noB w w' → Calls Tryz.prog 27 #[.agg m.cs.toArray] w' fun e w'' => e = .returned (.bool b) ∧ Fr noB w' w'') : Calls Tryz.prog 31 #[.pointer (some ⟨r, 0, none⟩), .agg m.cs.toArray] w fun e w' => e = .returned (.tuple #[]) ∧ RHear w w' r gs gp gf (if b = true ∧ m.t = q.tr ∧ m.j = q.id then q.go10 m.a else q) := by
  obtain ⟨k, a, t, j, cl, ix, tt, ⟨p1, p2, p3, p4, ua, un, uc, lo⟩, va, vn, vc, sa, sn, sc⟩ := m
  simp only at hk
  subst hk
  unfold RMs.cs at hr ⊢
  simp only at hr ⊢
  obtain ⟨Z, hZ⟩ : ∃ Z, (if b = true ∧ t = q.tr ∧ j = q.id then q.go10 a else q) = Z := ⟨_, rfl⟩
  rw [hZ]
  replace hZ := Lib.hid hZ
  have hR := Lib.hid h
  have fX := (Fr.refl noB w).alloc (.cells #[.int .i64 10, .int .i64 a, .int .i64 t, .int .i64 j, .int .i64 cl, .int .i64 ix, .int .i64 tt, .int .i64 p1, .int .i64 p2, .int .i64 p3, .int .i64 p4, .slice ua un uc, .bool lo, .slice va vn vc, .slice sa sn sc] 54)
  have bX := Blk.new w 54 [.int .i64 10, .int .i64 a, .int .i64 t, .int .i64 j, .int .i64 cl, .int .i64 ix, .int .i64 tt, .int .i64 p1, .int .i64 p2, .int .i64 p3, .int .i64 p4, .slice ua un uc, .bool lo, .slice va vn vc, .slice sa sn sc]
  replace hr := Lib.hid hr
  clear h
  go_enter Tryz.func31, Tryz.ntmps31
  go_upto_region 1 with fail
  generalize (w.alloc (.cells #[.int .i64 10, .int .i64 a, .int .i64 t, .int .i64 j, .int .i64 cl, .int .i64 ix, .int .i64 tt, .int .i64 p1, .int .i64 p2, .int .i64 p3, .int .i64 p4, .slice ua un uc, .bool lo, .slice va vn vc, .slice sa sn sc] 54)) = wX at *
  obtain ⟨gX, hgX⟩ : ∃ g, w.heap.size = g := ⟨_, rfl⟩
  rw [hgX] at bX
  try rw [hgX]
  replace hgX := Lib.hid hgX
  have x1 : wX.cell? ⟨gX, 1, none⟩ = some (.int .i64 a) := bX.cell 1
  have x2 : wX.cell? ⟨gX, 2, none⟩ = some (.int .i64 t) := bX.cell 2
  have x3 : wX.cell? ⟨gX, 3, none⟩ = some (.int .i64 j) := bX.cell 3
  go_quiet (fail)
  have f1 := fX.drewN nq
  have b1 := bX.drewN nq
  clear x1 x2 x3 fX bX
  generalize wX.drewN nq = w1 at *
  have ya : w1.cell? ⟨gX, 0, none⟩ = some (.int .i64 10) := b1.cell 0
  have yb : w1.cell? ⟨gX, 1, none⟩ = some (.int .i64 a) := b1.cell 1
  have yc : w1.cell? ⟨gX, 2, none⟩ = some (.int .i64 t) := b1.cell 2
  have yd : w1.cell? ⟨gX, 3, none⟩ = some (.int .i64 j) := b1.cell 3
  have ye : w1.cell? ⟨gX, 4, none⟩ = some (.int .i64 cl) := b1.cell 4
  have yf : w1.cell? ⟨gX, 5, none⟩ = some (.int .i64 ix) := b1.cell 5
  have yg : w1.cell? ⟨gX, 6, none⟩ = some (.int .i64 tt) := b1.cell 6
  have yh : w1.cell? ⟨gX, 7, none⟩ = some (.int .i64 p1) := b1.cell 7
  have yi : w1.cell? ⟨gX, 8, none⟩ = some (.int .i64 p2) := b1.cell 8
  have yj : w1.cell? ⟨gX, 9, none⟩ = some (.int .i64 p3) := b1.cell 9
  have yk : w1.cell? ⟨gX, 10, none⟩ = some (.int .i64 p4) := b1.cell 10
  have yl : w1.cell? ⟨gX, 11, none⟩ = some (.slice ua un uc) := b1.cell 11
  have ym : w1.cell? ⟨gX, 12, none⟩ = some (.bool lo) := b1.cell 12
  have yn : w1.cell? ⟨gX, 13, none⟩ = some (.slice va vn vc) := b1.cell 13
  have yo : w1.cell? ⟨gX, 14, none⟩ = some (.slice sa sn sc) := b1.cell 14
  go_wp2_with fail
  go_fit (hr.out w1 f1)
  rintro e w2 ⟨rfl, f2⟩
  have f12 := f1.seqN f2
  have R2 := hR.out.frN f12
  have b2 := f2.blk b1 (fun q => q)
  have z0 : w2.cell? ⟨gX, 0, none⟩ = some (.int .i64 10) := b2.cell 0
  have g12 : Fr (rjB r gs gp gf) w w2 := f12.mono (fun _ _ q => False.elim q)
  clear ya yb yc yd ye yf yg yh yi yj yk yl ym yn yo f1 f2 b1 b2 f12 hr
  cases b
  · go_wp2_with fail
    (first | go_end0 | ((try simp only [Exit.inBlock, Exit.then]); refine bodyPost_ret (results_none rfl _ _ _) rfl ?_))
    rw [← hZ.out, if_neg (by simp)]
    exact ⟨rfl, R2, g12⟩
  have c0 : w2.cell? ⟨r, 0, none⟩ = some (.int .i64 q.id) := R2.blk.cell 0
  have c1 : w2.cell? ⟨r, 1, none⟩ = some (.int .i64 q.tr) := R2.blk.cell 1
  by_cases ht : t = q.tr
  rotate_left
  · have dt : decide (t = q.tr) = false := by simpa using ht
    have dt2 : (t != q.tr) = true := by simpa using ht
    have R3 := Lib.hid R2
    clear R2
    go_wp2_with fail
    (first | go_end0 | ((try simp only [Exit.inBlock, Exit.then]); refine bodyPost_ret (results_none rfl _ _ _) rfl ?_))
    rw [← hZ.out, if_neg (by intro e; exact ht e.2.1)]
    exact ⟨rfl, R3.out, g12⟩
  by_cases hj : j = q.id
  rotate_left
  · have dj : decide (j = q.id) = false := by simpa using hj
    have dj2 : (j != q.id) = true := by simpa using hj
    subst ht
    have R3 := Lib.hid R2
    clear R2
    go_wp2_with fail
    (first | go_end0 | ((try simp only [Exit.inBlock, Exit.then]); refine bodyPost_ret (results_none rfl _ _ _) rfl ?_))
    rw [← hZ.out, if_neg (by intro e; exact hj e.2.2)]
    exact ⟨rfl, R3.out, g12⟩
  have hZ2 := hZ.out
  rw [if_pos ⟨rfl, ht, hj⟩] at hZ2
  clear hZ
  subst hj
  subst ht
  have c3 : w2.cell? ⟨r, 3, none⟩ = some (.int .i64 q.ph) := R2.blk.cell 3
  have y3 := R2.blk.frozen 3
  unfold RJ.go10 at hZ2
  have hZ := Lib.hid hZ2
  clear hZ2
  by_cases hp : q.ph = 3
  rotate_left
  · have dp : decide (q.ph = 3) = false := by simpa using hp
    have ep : (q.ph != 3) = true := by simpa using hp
    replace hp := Lib.hid hp
    have R3 := Lib.hid R2
    clear R2
    go_wp2_with fail
    (first | go_end0 | ((try simp only [Exit.inBlock, Exit.then]); refine bodyPost_ret (results_none rfl _ _ _) rfl ?_))
    rw [← hZ.out, if_neg (by intro e; have h1 := hp.out; have h2 := e.1; omega)]
    exact ⟨rfl, R3.out, g12⟩
  rw [hp] at c3
  obtain ⟨bv, hbv⟩ : ∃ bv, q.vis a = bv := ⟨_, rfl⟩
  have hvis := rvis_any r gs gp gf q a w2 R2
  rw [hbv] at hvis
  replace hvis := Lib.hid hvis
  have R3 := Lib.hid R2
  have hbv' := Lib.hid hbv
  clear hbv
  obtain ⟨l, hl⟩ : ∃ l, q.S.length = l := ⟨_, rfl⟩
  have c6 : w2.cell? ⟨r, 6, none⟩ = some (.slice (some ⟨gf, 0, none⟩) l l) := by rw [← hl]; exact R2.blk.cell 6
  have hn4 := R2.n4
  rw [hl] at hn4
  replace hl := Lib.hid hl
  clear R2
  go_wp2_with fail
  go_fit hvis.out
  rintro e w3 ⟨rfl, hw⟩
  obtain rfl := hw.symm
  clear hw hvis
  cases bv
  · go_wp2_with fail
    (first | go_end0 | ((try simp only [Exit.inBlock, Exit.then]); refine bodyPost_ret (results_none rfl _ _ _) rfl ?_))
    rw [← hZ.out, if_neg (by rw [hbv'.out]; simp)]
    exact ⟨rfl, R3.out, g12⟩
  have hZ3 := hZ.out
  rw [if_pos ⟨hp, hbv'.out⟩, hl.out] at hZ3
  replace hZ := Lib.hid hZ3
  clear hZ3
  replace hp := Lib.hid hp
  obtain ⟨kn, rfl, hkn⟩ : ∃ kn : Nat, a = kn ∧ kn < l := by
    have := hbv'.out
    unfold RJ.vis at this
    rw [hl.out] at this
    simp only [Bool.and_eq_true, decide_eq_true_eq] at this
    exact ⟨a.toNat, by omega, by omega⟩
  have e6 : w2.cell? ⟨gf, kn, none⟩ = some (.bool (q.F.getD kn false)) := R3.out.f (by rw [hl.out]; exact hkn)
  have y6 := R3.out.bf.frozen kn
  have R4 : Rj (w2.setCell ⟨gf, kn, none⟩ (.bool true)) r gs gp gf (q.fr10 (kn : Int)) := by
    have := R3.out.setF kn true
    unfold RJ.fr10
    rw [show ((kn : Int)).toNat = kn by omega]
    exact this
  have g4 : Fr (rjB r gs gp gf) w (w2.setCell ⟨gf, kn, none⟩ (.bool true)) := g12.store (Or.inr (Or.inr (Or.inr rfl)))
  have c4 : (w2.setCell ⟨gf, kn, none⟩ (.bool true)).cell? ⟨r, 4, none⟩ = some (.slice (some ⟨gs, 0, none⟩) l l) := by rw [← hl.out]; exact R4.blk.cell 4
  have c6' : (w2.setCell ⟨gf, kn, none⟩ (.bool true)).cell? ⟨r, 6, none⟩ = some (.slice (some ⟨gf, 0, none⟩) l l) := by rw [← hl.out]; exact R4.blk.cell 6
  have hs : ∀ k : Nat, k < l → (w2.setCell ⟨gf, kn, none⟩ (.bool true)).cell? ⟨gs, k, none⟩ = some (.int .i64 (q.S.getD k 0)) := fun k hk => R4.s (by show k < q.S.length; rw [hl.out]; exact hk)
  have hf : ∀ k : Nat, k < l → (w2.setCell ⟨gf, kn, none⟩ (.bool true)).cell? ⟨gf, k, none⟩ = some (.bool ((q.fr10 (kn : Int)).F.getD k false)) := fun k hk => R4.f (by show k < q.S.length; rw [hl.out]; exact hk)
  replace R4 := Lib.hid R4
  replace hs := Lib.hid hs
  replace hf := Lib.hid hf
  replace hbv' := Lib.hid hbv'
  replace hZ := Lib.hid hZ.out
  have hfr : (q.fr10 (kn : Int)).S = q.S := rfl
  clear R3 c0 c1 c3 y3 z0 hbv'
  go_wp2_with fail
  generalize (w2.setCell ⟨gf, kn, none⟩ (.bool true)) = w4 at *
  clear e6 y6
  go_loopw [11, 12] (fun av i wr => ∃ k : Nat, k ≤ l ∧ av = .bool ((q.fr10 (kn : Int)).allF k) ∧ i = .int .i64 k ∧ wr = w4) (fun _ i _ => l - (RowKit.intOf i).toNat)
  case atStart => exact ⟨0, by omega, rfl, rfl, rfl⟩
  case round =>
    obtain ⟨k, hk, rfl, rfl, rfl⟩ := hrel
    by_cases hlt : k < l
    · have s0 := hs.out k hlt
      have f0 := hf.out k hlt
      have hx : (q.fr10 (kn : Int)).allF (k + 1) = ((q.fr10 (kn : Int)).allF k && (decide (q.S.getD k 0 = 0) || (q.fr10 (kn : Int)).F.getD k false)) := rfl
      generalize q.S.getD k 0 = x at *
      generalize (q.fr10 (kn : Int)).F.getD k false = y at *
      generalize (q.fr10 (kn : Int)).allF k = z at *
      cases z
      · go_wp2_with fail
        go_roundw
        case rel => exact ⟨k + 1, by omega, by rw [hx]; rfl, by go_num, (by first | rfl | trivial)⟩
        case measure => simp [RowKit.intOf]; omega
      · by_cases hx0 : x = 0
        · subst hx0
          go_wp2_with fail
          go_roundw
          case rel => exact ⟨k + 1, by omega, by rw [hx]; simp, by go_num, (by first | rfl | trivial)⟩
          case measure => simp [RowKit.intOf]; omega
        · have d0 : decide (x = 0) = false := by simpa using hx0
          have e0 : (x == 0) = false := by simpa using hx0
          go_wp2_with fail
          go_roundw
          case rel => exact ⟨k + 1, by omega, by rw [hx, d0]; simp, by go_num, (by first | rfl | trivial)⟩
          case measure => simp [RowKit.intOf]; omega
    · obtain rfl : k = l := by omega
      obtain ⟨z, hz⟩ : ∃ z, (q.fr10 (kn : Int)).allF k = z := ⟨_, rfl⟩
      rw [hz]
      replace hz := Lib.hid hz
      cases z
      · go_wp2_with fail
        (first | go_end0 | ((try simp only [Exit.inBlock, Exit.then]); refine bodyPost_ret (results_none rfl _ _ _) rfl ?_))
        rw [← hZ.out, if_neg (by rw [hz.out]; simp)]
        exact ⟨rfl, R4.out, g4⟩
      · have c3 : wr.cell? ⟨r, 3, none⟩ = some (.int .i64 q.ph) := R4.out.blk.cell 3
        have y3 := R4.out.blk.frozen 3
        go_wp2_with fail
        (first | go_end0 | ((try simp only [Exit.inBlock, Exit.then]); refine bodyPost_ret (results_none rfl _ _ _) rfl ?_))
        rw [← hZ.out, if_pos hz.out]
        exact ⟨rfl, R4.out.store rfl rfl rfl rfl, g4.store (Or.inl rfl)⟩
end Go.Proofs.YtidcoddefebdpaaGreat
end

section
set_option linter.unusedVariables false
set_option linter.unusedSimpArgs false
set_option maxRecDepth 100000
set_option maxRecDepth 10000
namespace Go.Proofs.YtidcoddefebdpaaGreat
open Go.RowKit Go Go.Lib

def RJ.mk1 (q : RJ) (c : Int) : RJ := if c < q.S.length ∧ q.S.getD c.toNat 0 = 0 then { q with S := q.S.set c.toNat 1 } else q
def RJ.pin0 (q : RJ) (a : Int) (p : RPt) : RJ := { q with S := q.S.set a.toNat 2, P := q.P.set a.toNat p }
def RJ.pin1 (q : RJ) (a : Int) (p : RPt) (xs : List Int) : RJ := xs.foldl RJ.mk1 (q.pin0 a p)
def RJ.allP (q : RJ) : Nat → Bool
  | 0 => true
  | k + 1 => q.allP k && decide (q.S.getD k 0 ≠ 1)
def RJ.go3 (q : RJ) (p : RPt) (xs : List Int) : RJ := if q.ph = 1 ∧ q.vis p.a = true ∧ q.S.getD p.a.toNat 0 = 1 then (if (q.pin1 p.a p xs).allP q.S.length = true then { q.pin1 p.a p xs with ph := 2, fu := true } else q.pin1 p.a p xs) else q

theorem flat6_len (P : List RPt) : (P.flatMap RPt.cs).length = P.length * 6 := by
  induction P with
  | nil => rfl
  | cons p P ih => rw [List.flatMap_cons, List.length_append, ih]; simp [RPt.cs]; omega
theorem flat_set6 (p : RPt) : ∀ (P : List RPt) (k : Nat), k < P.length → ((((((P.flatMap RPt.cs).set (k * 6) (.int .i64 p.a)).set (k * 6 + 1) (.int .i64 p.t)).set (k * 6 + 1 + 1) (.int .i64 p.j)).set (k * 6 + 1 + 1 + 1) (.int .i64 p.c)).set (k * 6 + 1 + 1 + 1 + 1) (.slice p.ua p.un p.uc)).set (k * 6 + 1 + 1 + 1 + 1 + 1) (.bool p.lo) = (P.set k p).flatMap RPt.cs := by
  intro P
  induction P with
  | nil => intro k hk; simp at hk
  | cons x P ih =>
    intro k hk
    cases k with
    | zero => simp [RPt.cs, List.flatMap_cons]
    | succ k =>
      have := ih k (by simp at hk; omega)
      rw [List.set_cons_succ, List.flatMap_cons, List.flatMap_cons, ← this, show (k + 1) * 6 = k * 6 + 1 + 1 + 1 + 1 + 1 + 1 by omega]
      simp only [RPt.cs, List.cons_append, List.nil_append, List.set_cons_succ]
theorem Rj.setP {w w9 : World} {r gs gp gf : Nat} {q : RJ} (h : Rj w r gs gp gf q) (k : Nat) (p : RPt) (hk : k < q.S.length) (f : Fr (onlyB gp) w w9)
    (h9 : ∀ t cs, Blk w gp t cs → Blk w9 gp t ((((((cs.set (k * 6) (.int .i64 p.a)).set (k * 6 + 1) (.int .i64 p.t)).set (k * 6 + 1 + 1) (.int .i64 p.j)).set (k * 6 + 1 + 1 + 1) (.int .i64 p.c)).set (k * 6 + 1 + 1 + 1 + 1) (.slice p.ua p.un p.uc)).set (k * 6 + 1 + 1 + 1 + 1 + 1) (.bool p.lo))) : Rj w9 r gs gp gf { q with P := q.P.set k p } := by
  obtain ⟨n1, n2, n3, n4, n5, n6⟩ := h.ne
  have b := h9 _ _ h.bp
  rw [flat_set6 p q.P k (by rw [h.lp]; exact hk)] at b
  exact ⟨f.blk h.blk n2, f.blk h.bs n4, b, f.blk h.bf (Ne.symm n6), by simpa using h.lp, h.lf, h.n4, h.ne⟩
theorem mk_len : ∀ (xs : List Int) (Q : RJ), (xs.foldl RJ.mk1 Q).S.length = Q.S.length := by
  intro xs
  induction xs with
  | nil => intro Q; rfl
  | cons x xs ih =>
    intro Q
    rw [List.foldl_cons, ih]
    unfold RJ.mk1
    split
    · simp
    · rfl
theorem mk_succ (xs : List Int) (k : Nat) (Q : RJ) (h : k < xs.length) : (xs.take (k + 1)).foldl RJ.mk1 Q = ((xs.take k).foldl RJ.mk1 Q).mk1 (xs.getD k 0) := by
  rw [List.take_succ_eq_append_getElem h, List.foldl_append]
  simp [List.getD, h]
theorem size_rpart : (Tryz.prog.info? 50).map (·.size) = some 6 := by kernel_rfl
set_option maxHeartbeats 8000000 in
theorem rhear_3 (r gs gp gf : Nat) (q : RJ) (m : RMs) (xs : List Int) (b : Bool) (w : World) (h : Rj w r gs gp gf q) (hk : m.k = 3) (hxs : RdI w (.slice m.p.ua m.p.un m.p.uc) xs) (hap : xs ≠ [] → ∀ g o, m.p.ua = some ⟨g, o, none⟩ → ¬ rjB r gs gp gf g) (h03 : b = true → ∀ x ∈ xs, 0 ≤ x) (hr : ∀ w', Fr noB w w' → Calls Tryz.prog 27 #[.agg m.cs.toArray] w' fun e w'' => e = .returned (.bool b) ∧ Fr noB w' w'') : Calls Tryz.prog 31 #[.pointer (some ⟨r, 0, none⟩), .agg m.cs.toArray] w fun e w' => e = .returned (.tuple #[]) ∧ RHear w w' r gs gp gf (if b = true ∧ m.p.t = q.tr ∧ m.p.j = q.id then q.go3 m.p xs else q) := by
  obtain ⟨k, a, t, j, cl, ix, tt, ⟨p1, p2, p3, p4, ua, un, uc, lo⟩, va, vn, vc, sa, sn, sc⟩ := m
  simp only at hk hxs hap
  subst hk
  have hxs0 := Lib.hid hxs
  replace hap := Lib.hid hap
  replace h03 := Lib.hid h03
  unfold RMs.cs at hr ⊢
  simp only at hr ⊢
  obtain ⟨Z, hZ⟩ : ∃ Z, (if b = true ∧ p2 = q.tr ∧ p3 = q.id then q.go3 ⟨p1, p2, p3, p4, ua, un, uc, lo⟩ xs else q) = Z := ⟨_, rfl⟩
  rw [hZ]
  replace hZ := Lib.hid hZ
  have hR := Lib.hid h
  have fX := (Fr.refl noB w).alloc (.cells #[.int .i64 3, .int .i64 a, .int .i64 t, .int .i64 j, .int .i64 cl, .int .i64 ix, .int .i64 tt, .int .i64 p1, .int .i64 p2, .int .i64 p3, .int .i64 p4, .slice ua un uc, .bool lo, .slice va vn vc, .slice sa sn sc] 54)
  have bX := Blk.new w 54 [.int .i64 3, .int .i64 a, .int .i64 t, .int .i64 j, .int .i64 cl, .int .i64 ix, .int .i64 tt, .int .i64 p1, .int .i64 p2, .int .i64 p3, .int .i64 p4, .slice ua un uc, .bool lo, .slice va vn vc, .slice sa sn sc]
  replace hr := Lib.hid hr
  clear h
  go_enter Tryz.func31, Tryz.ntmps31
  go_upto_region 1 with fail
  generalize (w.alloc (.cells #[.int .i64 3, .int .i64 a, .int .i64 t, .int .i64 j, .int .i64 cl, .int .i64 ix, .int .i64 tt, .int .i64 p1, .int .i64 p2, .int .i64 p3, .int .i64 p4, .slice ua un uc, .bool lo, .slice va vn vc, .slice sa sn sc] 54)) = wX at *
  obtain ⟨gX, hgX⟩ : ∃ g, w.heap.size = g := ⟨_, rfl⟩
  rw [hgX] at bX
  try rw [hgX]
  have hgX2 := hgX
  replace hgX := Lib.hid hgX
  have x1 : wX.cell? ⟨gX, 1, none⟩ = some (.int .i64 a) := bX.cell 1
  have x2 : wX.cell? ⟨gX, 2, none⟩ = some (.int .i64 t) := bX.cell 2
  have x3 : wX.cell? ⟨gX, 3, none⟩ = some (.int .i64 j) := bX.cell 3
  clear hgX2
  go_quiet (fail)
  have f0 := fX.drewN nq
  have b0 := bX.drewN nq
  clear x1 x2 x3 fX bX
  generalize wX.drewN nq = w0 at *
  have x0 : w0.cell? ⟨gX, 0, none⟩ = some (.int .i64 3) := b0.cell 0
  have x7 : w0.cell? ⟨gX, 7, none⟩ = some (.int .i64 p1) := b0.cell 7
  have x8 : w0.cell? ⟨gX, 8, none⟩ = some (.int .i64 p2) := b0.cell 8
  have x9 : w0.cell? ⟨gX, 9, none⟩ = some (.int .i64 p3) := b0.cell 9
  go_upto_region 3 with fail
  go_quiet (fail)
  have f1 := f0.drewN nq
  have b1 := b0.drewN nq
  clear x0 x7 x8 x9 f0 b0
  generalize w0.drewN nq = w1 at *
  have ya : w1.cell? ⟨gX, 0, none⟩ = some (.int .i64 3) := b1.cell 0
  have yb : w1.cell? ⟨gX, 1, none⟩ = some (.int .i64 a) := b1.cell 1
  have yc : w1.cell? ⟨gX, 2, none⟩ = some (.int .i64 t) := b1.cell 2
  have yd : w1.cell? ⟨gX, 3, none⟩ = some (.int .i64 j) := b1.cell 3
  have ye : w1.cell? ⟨gX, 4, none⟩ = some (.int .i64 cl) := b1.cell 4
  have yf : w1.cell? ⟨gX, 5, none⟩ = some (.int .i64 ix) := b1.cell 5
  have yg : w1.cell? ⟨gX, 6, none⟩ = some (.int .i64 tt) := b1.cell 6
  have yh : w1.cell? ⟨gX, 7, none⟩ = some (.int .i64 p1) := b1.cell 7
  have yi : w1.cell? ⟨gX, 8, none⟩ = some (.int .i64 p2) := b1.cell 8
  have yj : w1.cell? ⟨gX, 9, none⟩ = some (.int .i64 p3) := b1.cell 9
  have yk : w1.cell? ⟨gX, 10, none⟩ = some (.int .i64 p4) := b1.cell 10
  have yl : w1.cell? ⟨gX, 11, none⟩ = some (.slice ua un uc) := b1.cell 11
  have ym : w1.cell? ⟨gX, 12, none⟩ = some (.bool lo) := b1.cell 12
  have yn : w1.cell? ⟨gX, 13, none⟩ = some (.slice va vn vc) := b1.cell 13
  have yo : w1.cell? ⟨gX, 14, none⟩ = some (.slice sa sn sc) := b1.cell 14
  go_wp2_with fail
  go_fit (hr.out w1 f1)
  rintro e w2 ⟨rfl, f2⟩
  have f12 := f1.seqN f2
  have R2 := hR.out.frN f12
  have b2 := f2.blk b1 (fun q => q)
  have z0 : w2.cell? ⟨gX, 0, none⟩ = some (.int .i64 3) := b2.cell 0
  have g12 : Fr (rjB r gs gp gf) w w2 := f12.mono (fun _ _ q => False.elim q)
  clear ya yb yc yd ye yf yg yh yi yj yk yl ym yn yo f1 f2 b1 f12 hr hxs
  cases b
  · go_wp2_with fail
    (first | go_end0 | ((try simp only [Exit.inBlock, Exit.then]); refine bodyPost_ret (results_none rfl _ _ _) rfl ?_))
    rw [← hZ.out, if_neg (by simp)]
    exact ⟨rfl, R2, g12⟩
  have c0 : w2.cell? ⟨r, 0, none⟩ = some (.int .i64 q.id) := R2.blk.cell 0
  have c1 : w2.cell? ⟨r, 1, none⟩ = some (.int .i64 q.tr) := R2.blk.cell 1
  by_cases ht : p2 = q.tr
  rotate_left
  · have dt : decide (p2 = q.tr) = false := by simpa using ht
    have dt2 : (p2 != q.tr) = true := by simpa using ht
    have R3 := Lib.hid R2
    clear R2
    go_wp2_with fail
    (first | go_end0 | ((try simp only [Exit.inBlock, Exit.then]); refine bodyPost_ret (results_none rfl _ _ _) rfl ?_))
    rw [← hZ.out, if_neg (by intro e; exact ht e.2.1)]
    exact ⟨rfl, R3.out, g12⟩
  by_cases hj : p3 = q.id
  rotate_left
  · have dj : decide (p3 = q.id) = false := by simpa using hj
    have dj2 : (p3 != q.id) = true := by simpa using hj
    subst ht
    have R3 := Lib.hid R2
    clear R2
    go_wp2_with fail
    (first | go_end0 | ((try simp only [Exit.inBlock, Exit.then]); refine bodyPost_ret (results_none rfl _ _ _) rfl ?_))
    rw [← hZ.out, if_neg (by intro e; exact hj e.2.2)]
    exact ⟨rfl, R3.out, g12⟩
  have hZ2 := hZ.out
  rw [if_pos ⟨rfl, ht, hj⟩] at hZ2
  clear hZ
  subst hj
  subst ht
  have c3 : w2.cell? ⟨r, 3, none⟩ = some (.int .i64 q.ph) := R2.blk.cell 3
  unfold RJ.go3 at hZ2
  have hZ := Lib.hid hZ2
  clear hZ2
  by_cases hp : q.ph = 1
  rotate_left
  · have dp : decide (q.ph = 1) = false := by simpa using hp
    have ep : (q.ph != 1) = true := by simpa using hp
    replace hp := Lib.hid hp
    have R3 := Lib.hid R2
    clear R2
    go_wp2_with fail
    (first | go_end0 | ((try simp only [Exit.inBlock, Exit.then]); refine bodyPost_ret (results_none rfl _ _ _) rfl ?_))
    rw [← hZ.out, if_neg (by intro e; have h1 := hp.out; have h2 := e.1; omega)]
    exact ⟨rfl, R3.out, g12⟩
  rw [hp] at c3
  replace hp := Lib.hid hp
  obtain ⟨bv, hbv⟩ : ∃ bv, q.vis p1 = bv := ⟨_, rfl⟩
  have hvis := rvis_any r gs gp gf q p1 w2 R2
  rw [hbv] at hvis
  replace hvis := Lib.hid hvis
  have R3 := Lib.hid R2
  have hbv' := Lib.hid hbv
  clear hbv
  obtain ⟨l, hl⟩ : ∃ l, q.S.length = l := ⟨_, rfl⟩
  have c4 : w2.cell? ⟨r, 4, none⟩ = some (.slice (some ⟨gs, 0, none⟩) l l) := by rw [← hl]; exact R2.blk.cell 4
  have hn4 := R2.n4
  rw [hl] at hn4
  replace hl := Lib.hid hl
  clear R2
  replace b2 := Lib.hid b2
  go_wp2_with fail
  go_fit hvis.out
  rintro e w3 ⟨rfl, hw⟩
  obtain rfl := hw.symm
  clear hw hvis
  cases bv
  · go_wp2_with fail
    (first | go_end0 | ((try simp only [Exit.inBlock, Exit.then]); refine bodyPost_ret (results_none rfl _ _ _) rfl ?_))
    rw [← hZ.out, if_neg (by rw [hbv'.out]; simp)]
    exact ⟨rfl, R3.out, g12⟩
  obtain ⟨kn, rfl, hkn⟩ : ∃ kn : Nat, p1 = kn ∧ kn < l := by
    have := hbv'.out
    unfold RJ.vis at this
    rw [hl.out] at this
    simp only [Bool.and_eq_true, decide_eq_true_eq] at this
    exact ⟨p1.toNat, by omega, by omega⟩
  have s0 : w2.cell? ⟨gs, kn, none⟩ = some (.int .i64 (q.S.getD kn 0)) := R3.out.s (by rw [hl.out]; exact hkn)
  obtain ⟨sx, hsx⟩ : ∃ sx, q.S.getD kn 0 = sx := ⟨_, rfl⟩
  rw [hsx] at s0
  replace hsx := Lib.hid hsx
  by_cases hs1 : sx = 1
  rotate_left
  · have d1 : decide (sx = 1) = false := by simpa using hs1
    have e1 : (sx != 1) = true := by simpa using hs1
    replace hs1 := Lib.hid hs1
    go_wp2_with fail
    (first | go_end0 | ((try simp only [Exit.inBlock, Exit.then]); refine bodyPost_ret (results_none rfl _ _ _) rfl ?_))
    rw [← hZ.out, if_neg (by intro e; have h2 := e.2.2; simp only [Int.toNat_natCast] at h2; exact hs1.out (hsx.out.symm.trans h2))]
    exact ⟨rfl, R3.out, g12⟩
  rw [hs1] at s0
  replace hs1 := Lib.hid hs1
  have y6 := R3.out.bs.frozen kn
  have R4 : Rj (w2.setCell ⟨gs, kn, none⟩ (.int .i64 2)) r gs gp gf { q with S := q.S.set kn 2 } := R3.out.setS kn 2
  have g4 : Fr (rjB r gs gp gf) w (w2.setCell ⟨gs, kn, none⟩ (.int .i64 2)) := g12.store (Or.inr (Or.inl rfl))
  have fg : Fr (onlyB gs) w2 (w2.setCell ⟨gs, kn, none⟩ (.int .i64 2)) := (Fr.refl _ _).store rfl
  have c5 : (w2.setCell ⟨gs, kn, none⟩ (.int .i64 2)).cell? ⟨r, 5, none⟩ = some (.slice (some ⟨gp, 0, none⟩) l l) := by rw [← hl.out]; have := R4.blk.cell 5; simpa [RJ.cs] using this
  have hgs : gs < w.heap.size := hR.out.bs.lt
  have b4 := fg.blk b2.out (fun e => by unfold onlyB at e; have := hgX.out; omega)
  have u7 : (w2.setCell ⟨gs, kn, none⟩ (.int .i64 2)).cell? ⟨gX, 7, none⟩ = some (.int .i64 (kn : Int)) := b4.cell 7
  have u8 : (w2.setCell ⟨gs, kn, none⟩ (.int .i64 2)).cell? ⟨gX, 8, none⟩ = some (.int .i64 q.tr) := b4.cell 8
  have u9 : (w2.setCell ⟨gs, kn, none⟩ (.int .i64 2)).cell? ⟨gX, 9, none⟩ = some (.int .i64 q.id) := b4.cell 9
  have u10 : (w2.setCell ⟨gs, kn, none⟩ (.int .i64 2)).cell? ⟨gX, 10, none⟩ = some (.int .i64 p4) := b4.cell 10
  have u11 : (w2.setCell ⟨gs, kn, none⟩ (.int .i64 2)).cell? ⟨gX, 11, none⟩ = some (.slice ua un uc) := b4.cell 11
  have u12 : (w2.setCell ⟨gs, kn, none⟩ (.int .i64 2)).cell? ⟨gX, 12, none⟩ = some (.bool lo) := b4.cell 12
  replace R4 := Lib.hid R4
  replace b4 := Lib.hid b4
  go_wp2_with fail
  generalize (w2.setCell ⟨gs, kn, none⟩ (.int .i64 2)) = w4 at *
  clear y6 s0 c4 c3 c1 c0 z0
  have hfacts : ∀ w', Fr noB w4 w' → w'.cell? ⟨r, 5, none⟩ = some (.slice (some ⟨gp, 0, none⟩) l l) ∧ w'.cell? ⟨gX, 7, none⟩ = some (.int .i64 (kn : Int)) ∧ w'.cell? ⟨gX, 8, none⟩ = some (.int .i64 q.tr) ∧ w'.cell? ⟨gX, 9, none⟩ = some (.int .i64 q.id) ∧ w'.cell? ⟨gX, 10, none⟩ = some (.int .i64 p4) ∧ w'.cell? ⟨gX, 11, none⟩ = some (.slice ua un uc) ∧ w'.cell? ⟨gX, 12, none⟩ = some (.bool lo) := fun w' f => ⟨f.cell c5 (fun q => q), f.cell u7 (fun q => q), f.cell u8 (fun q => q), f.cell u9 (fun q => q), f.cell u10 (fun q => q), f.cell u11 (fun q => q), f.cell u12 (fun q => q)⟩
  replace hfacts := Lib.hid hfacts
  have hkS : Hid (kn < ({ q with S := q.S.set kn 2 } : RJ).S.length) := Lib.hid (by simp; rw [hl.out]; exact hkn)
  have hth : ∀ w', Fr noB w4 w' → w'.there gp (kn * 6) 6 := fun w' f => there6 (R4.out.frN f).bp (by rw [flat6_len, show q.P.length = l by rw [← hl.out]; exact R3.out.lp]; omega)
  have hsz6 := size_rpart
  have hon6 := told_one (kn : Int) q.tr q.id p4 ua un uc lo
  replace hth := Lib.hid hth
  replace hsz6 := Lib.hid hsz6
  replace hon6 := Lib.hid hon6
  refine wp_region_held_drew (S := (fun w' => w'.cell? ⟨r, 5, none⟩ = some (.slice (some ⟨gp, 0, none⟩) l l) ∧ w'.cell? ⟨gX, 7, none⟩ = some (.int .i64 (kn : Int)) ∧ w'.cell? ⟨gX, 8, none⟩ = some (.int .i64 q.tr) ∧ w'.cell? ⟨gX, 9, none⟩ = some (.int .i64 q.id) ∧ w'.cell? ⟨gX, 10, none⟩ = some (.int .i64 p4) ∧ w'.cell? ⟨gX, 11, none⟩ = some (.slice ua un uc) ∧ w'.cell? ⟨gX, 12, none⟩ = some (.bool lo))) (by kernel_rfl) (hfacts.out _ ((Fr.refl _ w4).drew)) (fun hHeld => ?_)
  (refine wpAnyH_take (i := 0) (oi := ?_) (v := ?_) ?_ (by kernel_rfl) (by kernel_rfl) (by kernel_rfl) ?_ ?_ (by assumption) ?_; rotate_left 2; (focus ((simp only [List.getElem?_toArray, List.getElem?_cons_succ, List.getElem?_cons_zero]); try rfl)); (focus (exact (fun _ _ _ h => h))); (focus (refine Or.inl ⟨by rfl, ?_⟩; intro w hSw; (try dsimp only at hSw); go_simp; try with_reducible rfl)); try simp only [Act.put, List.setIfInBounds_toArray, List.set_cons_zero, List.set_cons_succ])
  (refine wpAnyH_take (i := 1) (oi := ?_) (v := ?_) ?_ (by kernel_rfl) (by kernel_rfl) (by kernel_rfl) ?_ ?_ (by assumption) ?_; rotate_left 2; (focus ((simp only [List.getElem?_toArray, List.getElem?_cons_succ, List.getElem?_cons_zero]); try rfl)); (focus (exact (fun _ _ _ h => h))); (focus (refine Or.inl ⟨by rfl, ?_⟩; intro w hSw; (try dsimp only at hSw); go_simp; try with_reducible rfl)); try simp only [Act.put, List.setIfInBounds_toArray, List.set_cons_zero, List.set_cons_succ])
  (refine wpAnyH_take (i := 2) (oi := ?_) (v := ?_) ?_ (by kernel_rfl) (by kernel_rfl) (by kernel_rfl) ?_ ?_ (by assumption) ?_; rotate_left 2; (focus ((simp only [List.getElem?_toArray, List.getElem?_cons_succ, List.getElem?_cons_zero]); try rfl)); (focus (exact (fun _ _ _ h => h))); (focus (refine Or.inl ⟨by rfl, ?_⟩; intro w hSw; (try dsimp only at hSw); go_simp; try with_reducible rfl)); try simp only [Act.put, List.setIfInBounds_toArray, List.set_cons_zero, List.set_cons_succ])
  (refine wpAnyH_take (i := 3) (oi := ?_) (v := ?_) ?_ (by kernel_rfl) (by kernel_rfl) (by kernel_rfl) ?_ ?_ (by assumption) ?_; rotate_left 2; (focus ((simp only [List.getElem?_toArray, List.getElem?_cons_succ, List.getElem?_cons_zero]); try rfl)); (focus (exact (fun _ _ _ h => h))); (focus (refine Or.inl ⟨by rfl, ?_⟩; intro w hSw; (try dsimp only at hSw); go_simp; try with_reducible rfl)); try simp only [Act.put, List.setIfInBounds_toArray, List.set_cons_zero, List.set_cons_succ])
  (refine wpAnyH_take (i := 4) (oi := ?_) (v := ?_) ?_ (by kernel_rfl) (by kernel_rfl) (by kernel_rfl) ?_ ?_ (by assumption) ?_; rotate_left 2; (focus ((simp only [List.getElem?_toArray, List.getElem?_cons_succ, List.getElem?_cons_zero]); try rfl)); (focus (exact (fun _ _ _ h => h))); (focus (refine Or.inl ⟨by rfl, ?_⟩; intro w hSw; (try dsimp only at hSw); go_simp; try with_reducible rfl)); try simp only [Act.put, List.setIfInBounds_toArray, List.set_cons_zero, List.set_cons_succ])
  (refine wpAnyH_take (i := 5) (oi := ?_) (v := ?_) ?_ (by kernel_rfl) (by kernel_rfl) (by kernel_rfl) ?_ ?_ (by assumption) ?_; rotate_left 2; (focus ((simp only [List.getElem?_toArray, List.getElem?_cons_succ, List.getElem?_cons_zero]); try rfl)); (focus (exact (fun _ _ _ h => h))); (focus (refine Or.inl ⟨by rfl, ?_⟩; intro w hSw; (try dsimp only at hSw); go_simp; try with_reducible rfl)); try simp only [Act.put, List.setIfInBounds_toArray, List.set_cons_zero, List.set_cons_succ])
  (refine wpAnyH_take (i := 6) (oi := ?_) (v := ?_) ?_ (by kernel_rfl) (by kernel_rfl) (by kernel_rfl) ?_ ?_ (by assumption) ?_; rotate_left 2; (focus ((simp only [List.getElem?_toArray, List.getElem?_cons_succ, List.getElem?_cons_zero]); try rfl)); (focus (exact (fun _ _ _ h => h))); (focus (refine Or.inl ⟨by rfl, ?_⟩; intro w hSw; (try dsimp only at hSw); go_simp; try with_reducible rfl)); try simp only [Act.put, List.setIfInBounds_toArray, List.set_cons_zero, List.set_cons_succ])
  (refine wpAnyH_take (i := 7) (oi := ?_) (v := ?_) ?_ (by kernel_rfl) (by kernel_rfl) (by kernel_rfl) ?_ ?_ (by assumption) ?_; rotate_left 2; (focus ((simp only [List.getElem?_toArray, List.getElem?_cons_succ, List.getElem?_cons_zero]); try rfl)); (focus (exact (fun _ _ _ h => h))); (focus (refine Or.inl ⟨by rfl, ?_⟩; intro w hSw; (try dsimp only at hSw); go_simp; try with_reducible rfl)); try simp only [Act.put, List.setIfInBounds_toArray, List.set_cons_zero, List.set_cons_succ])
  refine wpAnyH_ready (rs := [8]) (by kernel_rfl) (by simp) (AllReadyH.cons rfl (fun K hK => ?_) AllReadyH.nil)
  rw [if_pos (by rfl)]
  refine wp_store_mid 50 (.tmp 88) (.tmp 87) rfl gp (kn * 6) #[.int .i64 (kn : Int), .int .i64 q.tr, .int .i64 q.id, .int .i64 p4, .slice ua un uc, .bool lo] (by simp [Act.eval, Act.put]) (by simp [Act.eval, Act.put]) (hth.out _ ((Fr.refl _ w4).drew)) hsz6.out hon6.out ?_
  obtain ⟨w9, hw9, f9, h9⟩ := store6 w4.drew gp (kn * 6) (.int .i64 (kn : Int)) (.int .i64 q.tr) (.int .i64 q.id) (.int .i64 p4) (.slice ua un uc) (.bool lo)
  rw [← hw9]
  clear hw9
  have hgp : gp < w.heap.size := hR.out.bp.lt
  have R9 := Rj.setP (R4.out.frN ((Fr.refl _ w4).drew)) kn ⟨(kn : Int), q.tr, q.id, p4, ua, un, uc, lo⟩ hkS.out f9 h9
  have b9 := f9.blk (b4.out : Blk w4.drew _ _ _) (fun e => by unfold onlyB at e; have := hgX.out; omega)
  have g9 : Fr (rjB r gs gp gf) w w9 := Fr.trans (g4.drew) f9 (fun _ _ x => x) (fun _ _ x => Or.inr (Or.inr (Or.inl x)))
  have S9 : w9.cell? ⟨r, 5, none⟩ = some (.slice (some ⟨gp, 0, none⟩) l l) ∧ w9.cell? ⟨gX, 7, none⟩ = some (.int .i64 (kn : Int)) ∧ w9.cell? ⟨gX, 8, none⟩ = some (.int .i64 q.tr) ∧ w9.cell? ⟨gX, 9, none⟩ = some (.int .i64 q.id) ∧ w9.cell? ⟨gX, 10, none⟩ = some (.int .i64 p4) ∧ w9.cell? ⟨gX, 11, none⟩ = some (.slice ua un uc) ∧ w9.cell? ⟨gX, 12, none⟩ = some (.bool lo) :=
    ⟨by rw [← hl.out]; have := R9.blk.cell 5; simpa [RJ.cs] using this, b9.cell 7, b9.cell 8, b9.cell 9, b9.cell 10, b9.cell 11, b9.cell 12⟩
  replace R9 := Lib.hid R9
  replace b9 := Lib.hid b9
  replace g9 := Lib.hid g9
  clear f9 h9 R4 b4 g4 fg c5 u7 u8 u9 u10 u11 u12 hfacts hth hsz6 hon6
  refine hK.out _ _ S9 (fun hHeld => ?_)
  clear hK K S9
  try simp only [Act.put, List.setIfInBounds_toArray, List.set_cons_zero, List.set_cons_succ]
  refine wpAnyH_done (by kernel_rfl) ?_ _
  clear hHeld
  have hx9 := RdI.fr1 hxs0.out g9.out (fun hne g o n c e => hap.out hne g o (by injection e))
  obtain ⟨xa, xc, ex, x1, x2, x3⟩ := hx9
  simp only [Value.slice.injEq] at ex
  obtain ⟨rfl, rfl, rfl⟩ := ex
  obtain ⟨n, hn⟩ : ∃ n, xs.length = n := ⟨_, rfl⟩
  have hq0 : Hid (({ ({ q with S := q.S.set kn 2 } : RJ) with P := q.P.set kn ⟨(kn : Int), q.tr, q.id, p4, ua, xs.length, uc, lo⟩ } : RJ) = q.pin0 (kn : Int) ⟨(kn : Int), q.tr, q.id, p4, ua, xs.length, uc, lo⟩) := Lib.hid rfl
  have hZ3 := hZ.out
  rw [if_pos ⟨hp.out, hbv'.out, by show q.S.getD ((kn : Int)).toNat 0 = 1; rw [show ((kn : Int)).toNat = kn by omega, hsx.out, hs1.out]⟩, hl.out] at hZ3
  try simp only at hZ3
  have R9' := R9.out
  rw [hq0.out] at R9'
  have hb11 : w9.cell? ⟨gX, 11, none⟩ = some (.slice ua n uc) := by rw [← hn]; exact b9.out.cell 11
  unfold RJ.pin1 at hZ3
  have hlen : (q.pin0 (kn : Int) ⟨(kn : Int), q.tr, q.id, p4, ua, xs.length, uc, lo⟩).S.length = l := by show (q.S.set _ 2).length = l; rw [List.length_set]; exact hl.out
  generalize (q.pin0 (kn : Int) ⟨(kn : Int), q.tr, q.id, p4, ua, xs.length, uc, lo⟩) = Q0 at *
  rw [hn] at x1 x2
  replace x3 : Hid (∀ (i : Nat), i < n → ∃ g o, ua = some ⟨g, o, none⟩ ∧ w9.cell? ⟨g, o + i, none⟩ = some (.int .i64 (xs.getD i 0))) := Lib.hid (by rw [← hn]; exact x3)
  replace hZ3 := Lib.hid hZ3
  replace R9' := Lib.hid R9'
  replace hb11 := Lib.hid hb11
  replace hlen := Lib.hid hlen
  clear hZ R9 R3 hkS hbv' hq0 hp hsx hs1 hl hkn
  have hgXn : ¬ rjB r gs gp gf gX := by
    have l1 := hR.out.blk.lt
    have l2 := hR.out.bs.lt
    have l3 := hR.out.bp.lt
    have l4 := hR.out.bf.lt
    have := hgX.out
    unfold rjB
    omega
  replace hgXn := Lib.hid hgXn
  go_wp2_with fail
  go_loopw [8] (fun i wr => ∃ k : Nat, k ≤ n ∧ i = .int .i64 k ∧ Rj wr r gs gp gf ((xs.take k).foldl RJ.mk1 Q0) ∧ Fr (rjB r gs gp gf) w9 wr) (fun i _ => n - (RowKit.intOf i).toNat)
  case atStart => exact ⟨0, by omega, rfl, R9'.out, Fr.refl _ _⟩
  case round =>
    obtain ⟨k, hk, rfl, RK, fr⟩ := hrel
    have e11 : wr.cell? ⟨gX, 11, none⟩ = some (.slice ua n uc) := fr.cell hb11.out (fun q => hgXn.out q)
    have lk : ((xs.take k).foldl RJ.mk1 Q0).S.length = l := (mk_len _ _).trans hlen.out
    have c4 : wr.cell? ⟨r, 4, none⟩ = some (.slice (some ⟨gs, 0, none⟩) l l) := by rw [← lk]; exact RK.blk.cell 4
    by_cases hlt : k < n
    · obtain ⟨g, o, hua, hx0⟩ := x3.out k hlt
      have hx := fr.cell hx0 (fun q => hap.out (fun e => by rw [e] at hn; simp at hn; omega) g o hua q)
      have hkx : k < xs.length := by rw [hn]; exact hlt
      have hmem : xs.getD k 0 ∈ xs := by
        rw [show xs.getD k 0 = xs[k] from by simp [List.getD, hkx]]
        exact List.getElem_mem hkx
      have hc0 : 0 ≤ xs.getD k 0 := h03.out (by first | rfl | trivial) _ hmem
      clear hmem
      have hs := mk_succ xs k Q0 hkx
      clear hkx
      generalize xs.getD k 0 = c at *
      generalize (xs.take k).foldl RJ.mk1 Q0 = Q at *
      obtain ⟨cn, rfl⟩ : ∃ cn : Nat, c = cn := ⟨c.toNat, by omega⟩
      subst hua
      replace hs := Lib.hid hs
      replace lk := Lib.hid lk
      replace hn := Lib.hid hn
      replace hx0 := Lib.hid hx0
      have RK' := Lib.hid RK
      by_cases h1 : cn < l
      · have s0 : wr.cell? ⟨gs, cn, none⟩ = some (.int .i64 (Q.S.getD cn 0)) := RK.s (by rw [lk.out]; exact h1)
        obtain ⟨sx, hsx⟩ : ∃ sx, Q.S.getD cn 0 = sx := ⟨_, rfl⟩
        rw [hsx] at s0
        by_cases h2 : sx = 0
        · have y := RK.bs.frozen cn
          have R' := RK.setS cn 1
          have hm : Q.mk1 (cn : Int) = { Q with S := Q.S.set cn 1 } := by
            unfold RJ.mk1
            rw [show ((cn : Int)).toNat = cn by omega, if_pos ⟨by rw [lk.out]; omega, by rw [hsx, h2]⟩]
          have fr' : Fr (rjB r gs gp gf) w9 (wr.setCell ⟨gs, cn, none⟩ (.int .i64 1)) := fr.store (Or.inr (Or.inl rfl))
          rw [← hm, ← hs.out] at R'
          rw [h2] at s0
          replace R' := Lib.hid R'
          replace hsx := Lib.hid hsx
          clear h2 hm RK
          go_wp2_with fail
          go_roundw
          case rel => exact ⟨k + 1, by omega, by go_num, R'.out, fr'⟩
          case measure => simp [RowKit.intOf]; omega
        · have e0 : (sx == 0) = false := by simpa using h2
          have d0 : decide (sx = 0) = false := by simpa using h2
          have hm : Q.mk1 (cn : Int) = Q := by
            unfold RJ.mk1
            rw [show ((cn : Int)).toNat = cn by omega, if_neg (fun e => h2 (by rw [← hsx]; exact e.2))]
          have R' := RK
          rw [← hm, ← hs.out] at R'
          replace R' := Lib.hid R'
          replace hsx := Lib.hid hsx
          replace h2 := Lib.hid h2
          clear hm RK
          go_wp2_with fail
          go_roundw
          case rel => exact ⟨k + 1, by omega, by go_num, R'.out, fr⟩
          case measure => simp [RowKit.intOf]; omega
      · have hm : Q.mk1 (cn : Int) = Q := by
          unfold RJ.mk1
          rw [if_neg (fun e => h1 (by have := e.1; rw [lk.out] at this; omega))]
        have R' := RK
        rw [← hm, ← hs.out] at R'
        replace R' := Lib.hid R'
        have d1 : decide ((cn : Int) < (l : Int)) = false := by simp; omega
        clear hm RK
        go_wp2_with fail
        go_roundw
        case rel => exact ⟨k + 1, by omega, by go_num, R'.out, fr⟩
        case measure => simp [RowKit.intOf]; omega
    · obtain rfl : k = n := by omega
      have ht : xs.take k = xs := List.take_of_length_le (by omega)
      rw [ht] at RK lk
      have hZ4 := hZ3.out
      clear hZ3
      generalize xs.foldl RJ.mk1 Q0 = Q at *
      have hs : ∀ i, i < l → wr.cell? ⟨gs, i, none⟩ = some (.int .i64 (Q.S.getD i 0)) := fun i hi => RK.s (by rw [lk]; exact hi)
      have gF : Fr (rjB r gs gp gf) w wr := g9.out.trans fr (fun _ _ x => x) (fun _ _ x => x)
      have c3 : wr.cell? ⟨r, 3, none⟩ = some (.int .i64 Q.ph) := RK.blk.cell 3
      have c7 : wr.cell? ⟨r, 7, none⟩ = some (.bool Q.fu) := RK.blk.cell 7
      have y3 := RK.blk.frozen 3
      have y7 := RK.blk.frozen 7
      replace hs := Lib.hid hs
      replace RK := Lib.hid RK
      replace hZ4 := Lib.hid hZ4
      replace lk := Lib.hid lk
      replace hn := Lib.hid hn
      clear ht
      go_wp2_with fail
      go_loopw [7, 10] (fun av i w' => ∃ z : Nat, z ≤ l ∧ av = .bool (Q.allP z) ∧ i = .int .i64 z ∧ w' = wr) (fun _ i _ => l - (RowKit.intOf i).toNat)
      case atStart => exact ⟨0, by omega, rfl, rfl, rfl⟩
      case round =>
        obtain ⟨z, hz, rfl, rfl, rfl⟩ := hrel
        by_cases hlt : z < l
        · have s0 := hs.out z hlt
          have hx : Q.allP (z + 1) = (Q.allP z && decide (Q.S.getD z 0 ≠ 1)) := rfl
          generalize Q.S.getD z 0 = x at *
          generalize Q.allP z = u at *
          cases u
          · go_wp2_with fail
            go_roundw
            case rel => exact ⟨z + 1, by omega, by rw [hx]; rfl, by go_num, (by first | rfl | trivial)⟩
            case measure => simp [RowKit.intOf]; omega
          · by_cases hx0 : x = 1
            · subst hx0
              go_wp2_with fail
              go_roundw
              case rel => exact ⟨z + 1, by omega, by rw [hx]; simp, by go_num, (by first | rfl | trivial)⟩
              case measure => simp [RowKit.intOf]; omega
            · have d0 : decide (x = 1) = false := by simpa using hx0
              have e0 : (x != 1) = true := by simpa using hx0
              go_wp2_with fail
              go_roundw
              case rel => exact ⟨z + 1, by omega, by rw [hx]; simp [hx0], by go_num, (by first | rfl | trivial)⟩
              case measure => simp [RowKit.intOf]; omega
        · obtain rfl : z = l := by omega
          obtain ⟨u, hu⟩ : ∃ u, Q.allP z = u := ⟨_, rfl⟩
          rw [hu]
          replace hu := Lib.hid hu
          cases u
          · go_wp2_with fail
            (first | go_end0 | ((try simp only [Exit.inBlock, Exit.then]); refine bodyPost_ret (results_none rfl _ _ _) rfl ?_))
            rw [← hZ4.out, if_neg (by rw [hu.out]; simp)]
            exact ⟨rfl, RK.out, gF⟩
          · have R5 := RK.out.store (i := 3) (v := .int .i64 2) (q' := { Q with ph := 2 }) rfl rfl rfl rfl
            have R6 := R5.store (i := 7) (v := .bool true) (q' := { Q with ph := 2, fu := true }) rfl rfl rfl rfl
            have g6 := Fr.store (g := r) (i := 7) (v := .bool true) (Fr.store (g := r) (i := 3) (v := .int .i64 2) gF (Or.inl rfl)) (Or.inl rfl)
            replace g6 := Lib.hid g6
            replace R6 := Lib.hid R6
            clear R5
            go_wp2_with fail
            (first | go_end0 | ((try simp only [Exit.inBlock, Exit.then]); refine bodyPost_ret (results_none rfl _ _ _) rfl ?_))
            rw [← hZ4.out, if_pos hu.out]
            exact ⟨rfl, R6.out, g6.out⟩
end Go.Proofs.YtidcoddefebdpaaGreat
end

section
set_option linter.unusedVariables false
set_option linter.unusedSimpArgs false
set_option maxRecDepth 100000
namespace Go.Proofs.YtidcoddefebdpaaGreat
open Go.RowKit Go Go.Lib

/-- how far an agent's visit is, as the reference counts it -/
def stN (v : Vis) : Int := if v.v then (if v.p then 2 else 1) else 0
/-- both jobs are alike -/
structure JRel (j : JS) (q : RJ) : Prop where
  id : q.id = j.id
  tr : q.tr = j.tr
  cl : q.cl = j.cl
  ph : q.ph = j.ph
  ke : q.ke = j.st
  n : q.S.length = j.ag
  nf : q.F.length = j.ag
  st : ∀ k, k < j.ag → q.S.getD k 0 = stN (j.at k)
  fr : ∀ k, k < j.ag → q.F.getD k false = (j.at k).f
  p1 : 1 ≤ j.ph
  no : ∀ k, j.ag ≤ k → k < 4 → (j.at k).v = false
theorem JRel.sto {j : JS} {q : RJ} (h : JRel j q) : JRel j.sto q.go8 := by
  unfold JS.sto RJ.go8
  rw [h.ph]
  split
  · exact ⟨h.id, h.tr, h.cl, rfl, rfl, h.n, h.nf, h.st, h.fr, (by decide : (1 : Int) ≤ 3), h.no⟩
  · exact h
theorem JRel.vis {j : JS} {q : RJ} (h : JRel j q) {a : Int} (h0 : 0 ≤ a) (h4 : a < 4) : q.vis a = (j.at a.toNat).v := by
  obtain ⟨k, rfl⟩ : ∃ k : Nat, a = k := ⟨a.toNat, by omega⟩
  have hk : ((k : Int)).toNat = k := by omega
  unfold RJ.vis
  rw [h.n, hk]
  by_cases hlt : k < j.ag
  · rw [h.st k hlt]
    unfold stN
    cases (j.at k).v <;> cases (j.at k).p <;> simp [hlt]
  · rw [h.no k (by omega) (by omega)]
    simp [hlt]
theorem JRel.gon {j : JS} {q : RJ} (h : JRel j q) {a : Int} (h0 : 0 ≤ a) (h4 : a < 4) : JRel (j.gon a.toNat) (q.go4 a) := by
  unfold JS.gon RJ.go4
  rw [h.ph, h.vis h0 h4]
  have := h.p1
  by_cases hv : (j.at a.toNat).v = true ∧ (j.ph = 1 ∨ j.ph = 2)
  · rw [if_pos hv, if_pos ⟨by omega, hv.1⟩]
    exact ⟨h.id, h.tr, h.cl, rfl, h.ke, h.n, h.nf, h.st, h.fr, (by decide : (1 : Int) ≤ 3), h.no⟩
  · rw [if_neg hv, if_neg (fun e => hv ⟨e.2, by omega⟩)]
    exact h
end Go.Proofs.YtidcoddefebdpaaGreat
end
