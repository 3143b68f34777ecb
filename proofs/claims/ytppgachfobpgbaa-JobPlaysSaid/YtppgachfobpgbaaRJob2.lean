/-
  The reference's job hears: all messages but a Pinned.
-/
import Derived.Test.YtppgachfobpgbaaRJob
import Derived.Deep.DeepCutAuto
set_option linter.unusedVariables false
set_option linter.unusedSimpArgs false
set_option maxRecDepth 100000
set_option maxRecDepth 10000
namespace Go.Proofs.Ytppgachfobpgbaa
open Go.RowKit Go Go.Lib

/-- a message of the reference's: its cells -/
structure RMs where
  k : Int
  a : Int
  t : Int
  j : Int
  cl : Int
  ix : Int
  tt : Int
  p : RPt
  va : Option Addr
  vn : Nat
  vc : Nat
  sa : Option Addr
  sn : Nat
  sc : Nat
def RMs.cs (m : RMs) : List Value := [.int .i64 m.k, .int .i64 m.a, .int .i64 m.t, .int .i64 m.j, .int .i64 m.cl, .int .i64 m.ix, .int .i64 m.tt, .int .i64 m.p.a, .int .i64 m.p.t, .int .i64 m.p.j, .int .i64 m.p.c, .slice m.p.ua m.p.un m.p.uc, .bool m.p.lo, .slice m.va m.vn m.vc, .slice m.sa m.sn m.sc]
theorem Rj.store {w : World} {r gs gp gf : Nat} {q : RJ} (h : Rj w r gs gp gf q) {q' : RJ} {i : Nat} {v : Value} (hc : (q.cs gs gp gf).set i v = q'.cs gs gp gf) (hS : q'.S = q.S) (hP : q'.P = q.P) (hF : q'.F = q.F) : Rj (w.setCell ⟨r, i, none⟩ v) r gs gp gf q' := by
  have f : Fr (onlyB r) w (w.setCell ⟨r, i, none⟩ v) := (Fr.refl _ _).store rfl
  obtain ⟨n1, n2, n3, n4⟩ := h.ne
  have b := h.blk.set i v
  rw [hc] at b
  exact ⟨b, by rw [hS]; exact f.blk h.bs (Ne.symm n1), by rw [hP]; exact f.blk h.bp (Ne.symm n2), by rw [hF]; exact f.blk h.bf (Ne.symm n3), by rw [hS, hP]; exact h.lp, by rw [hS, hF]; exact h.lf, by rw [hS]; exact h.n4, h.ne⟩
theorem Rj.setF {w : World} {r gs gp gf : Nat} {q : RJ} (h : Rj w r gs gp gf q) (i : Nat) (x : Bool) : Rj (w.setCell ⟨gf, i, none⟩ (.bool x)) r gs gp gf { q with F := q.F.set i x } := by
  have f : Fr (onlyB gf) w (w.setCell ⟨gf, i, none⟩ (.bool x)) := (Fr.refl _ _).store rfl
  obtain ⟨n1, n2, n3, n4, n5, n6⟩ := h.ne
  have b := h.bf.set i (.bool x)
  refine ⟨f.blk h.blk n3, f.blk h.bs n5, f.blk h.bp n6, ?_, h.lp, by simpa using h.lf, h.n4, h.ne⟩
  rw [List.map_set]
  exact b
theorem Rj.setS {w : World} {r gs gp gf : Nat} {q : RJ} (h : Rj w r gs gp gf q) (i : Nat) (x : Int) : Rj (w.setCell ⟨gs, i, none⟩ (.int .i64 x)) r gs gp gf { q with S := q.S.set i x } := by
  have f : Fr (onlyB gs) w (w.setCell ⟨gs, i, none⟩ (.int .i64 x)) := (Fr.refl _ _).store rfl
  obtain ⟨n1, n2, n3, n4, n5, n6⟩ := h.ne
  have b := h.bs.set i (.int .i64 x)
  refine ⟨?_, ?_, f.blk h.bp (Ne.symm n4), f.blk h.bf (Ne.symm n5), by simpa using h.lp, by simpa using h.lf, by simpa using h.n4, h.ne⟩
  · have := f.blk h.blk n1
    unfold RJ.cs at this ⊢
    simpa using this
  · rw [List.map_set]
    exact b
/-- all who were visited let go -/
def RJ.allF (q : RJ) : Nat → Bool
  | 0 => true
  | k + 1 => q.allF k && (decide (q.S.getD k 0 = 0) || q.F.getD k false)
/-- what a message makes of it -/
def RJ.go4 (q : RJ) (a : Int) : RJ := if q.ph ≤ 2 ∧ q.vis a = true then { q with ph := 3 } else q
def RJ.go8 (q : RJ) : RJ := if q.ph = 2 ∨ q.ph = 3 then { q with ke := true, ph := 3 } else q
def RJ.fr10 (q : RJ) (a : Int) : RJ := { q with F := q.F.set a.toNat true }
def RJ.go10 (q : RJ) (a : Int) : RJ := if q.ph = 3 ∧ q.vis a = true then (if (q.fr10 a).allF q.S.length = true then { q.fr10 a with ph := 4 } else q.fr10 a) else q
/-- a call of Hear: what becomes of the job -/
def RHear (w w' : World) (r gs gp gf : Nat) (q' : RJ) : Prop := Rj w' r gs gp gf q' ∧ Fr (rjB r gs gp gf) w w'

set_option maxHeartbeats 8000000 in
theorem rhear_4 (r gs gp gf : Nat) (q : RJ) (m : RMs) (b : Bool) (w : World) (h : Rj w r gs gp gf q) (hk : m.k = 4) (hr : ∀ w', Fr noB w w' → Calls Try.prog 29 #[.agg m.cs.toArray] w' fun e w'' => e = .returned (.bool b) ∧ Fr noB w' w'') : Calls Try.prog 15 #[.pointer (some ⟨r, 0, none⟩), .agg m.cs.toArray] w fun e w' => e = .returned (.tuple #[]) ∧ RHear w w' r gs gp gf (if b = true ∧ m.t = q.tr ∧ m.j = q.id then q.go4 m.a else q) := by
  obtain ⟨k, a, t, j, cl, ix, tt, ⟨p1, p2, p3, p4, ua, un, uc, lo⟩, va, vn, vc, sa, sn, sc⟩ := m
  simp only at hk
  subst hk
  unfold RMs.cs at hr ⊢
  simp only at hr ⊢
  obtain ⟨Z, hZ⟩ : ∃ Z, (if b = true ∧ t = q.tr ∧ j = q.id then q.go4 a else q) = Z := ⟨_, rfl⟩
  rw [hZ]
  replace hZ := Lib.hid hZ
  have hR := Lib.hid h
  have fX := (Fr.refl noB w).alloc (.cells #[.int .i64 4, .int .i64 a, .int .i64 t, .int .i64 j, .int .i64 cl, .int .i64 ix, .int .i64 tt, .int .i64 p1, .int .i64 p2, .int .i64 p3, .int .i64 p4, .slice ua un uc, .bool lo, .slice va vn vc, .slice sa sn sc] 37)
  have bX := Blk.new w 37 [.int .i64 4, .int .i64 a, .int .i64 t, .int .i64 j, .int .i64 cl, .int .i64 ix, .int .i64 tt, .int .i64 p1, .int .i64 p2, .int .i64 p3, .int .i64 p4, .slice ua un uc, .bool lo, .slice va vn vc, .slice sa sn sc]
  replace hr := Lib.hid hr
  clear h
  go_enter Try.func15, Try.ntmps15
  go_upto_region 1 with fail
  generalize (w.alloc (.cells #[.int .i64 4, .int .i64 a, .int .i64 t, .int .i64 j, .int .i64 cl, .int .i64 ix, .int .i64 tt, .int .i64 p1, .int .i64 p2, .int .i64 p3, .int .i64 p4, .slice ua un uc, .bool lo, .slice va vn vc, .slice sa sn sc] 37)) = wX at *
  obtain ⟨gX, hgX⟩ : ∃ g, w.heap.size = g := ⟨_, rfl⟩
  rw [hgX] at bX
  try rw [hgX]
  replace hgX := Lib.hid hgX
  have x1 : wX.cell? ⟨gX, 1, none⟩ = some (.int .i64 a) := bX.cell 1
  have x2 : wX.cell? ⟨gX, 2, none⟩ = some (.int .i64 t) := bX.cell 2
  have x3 : wX.cell? ⟨gX, 3, none⟩ = some (.int .i64 j) := bX.cell 3
  go_quiet (fail)
  have f1 := fX.drewN nq
  have b1 := bX.drewN nq
  clear x1 x2 x3 fX bX
  generalize wX.drewN nq = w1 at *
  have ya : w1.cell? ⟨gX, 0, none⟩ = some (.int .i64 4) := b1.cell 0
  have yb : w1.cell? ⟨gX, 1, none⟩ = some (.int .i64 a) := b1.cell 1
  have yc : w1.cell? ⟨gX, 2, none⟩ = some (.int .i64 t) := b1.cell 2
  have yd : w1.cell? ⟨gX, 3, none⟩ = some (.int .i64 j) := b1.cell 3
  have ye : w1.cell? ⟨gX, 4, none⟩ = some (.int .i64 cl) := b1.cell 4
  have yf : w1.cell? ⟨gX, 5, none⟩ = some (.int .i64 ix) := b1.cell 5
  have yg : w1.cell? ⟨gX, 6, none⟩ = some (.int .i64 tt) := b1.cell 6
  have yh : w1.cell? ⟨gX, 7, none⟩ = some (.int .i64 p1) := b1.cell 7
  have yi : w1.cell? ⟨gX, 8, none⟩ = some (.int .i64 p2) := b1.cell 8
  have yj : w1.cell? ⟨gX, 9, none⟩ = some (.int .i64 p3) := b1.cell 9
  have yk : w1.cell? ⟨gX, 10, none⟩ = some (.int .i64 p4) := b1.cell 10
  have yl : w1.cell? ⟨gX, 11, none⟩ = some (.slice ua un uc) := b1.cell 11
  have ym : w1.cell? ⟨gX, 12, none⟩ = some (.bool lo) := b1.cell 12
  have yn : w1.cell? ⟨gX, 13, none⟩ = some (.slice va vn vc) := b1.cell 13
  have yo : w1.cell? ⟨gX, 14, none⟩ = some (.slice sa sn sc) := b1.cell 14
  go_wp2_with fail
  go_fit (hr.out w1 f1)
  rintro e w2 ⟨rfl, f2⟩
  have f12 := f1.seqN f2
  have R2 := hR.out.frN f12
  have b2 := f2.blk b1 (fun q => q)
  have z0 : w2.cell? ⟨gX, 0, none⟩ = some (.int .i64 4) := b2.cell 0
  have g12 : Fr (rjB r gs gp gf) w w2 := f12.mono (fun _ _ q => False.elim q)
  clear ya yb yc yd ye yf yg yh yi yj yk yl ym yn yo f1 f2 b1 b2 f12 hr
  cases b
  · go_wp2_with fail
    (first | go_end0 | ((try simp only [Exit.inBlock, Exit.then]); refine bodyPost_ret (results_none rfl _ _ _) rfl ?_))
    rw [← hZ.out, if_neg (by simp)]
    exact ⟨rfl, R2, g12⟩
  have c0 : w2.cell? ⟨r, 0, none⟩ = some (.int .i64 q.id) := R2.blk.cell 0
  have c1 : w2.cell? ⟨r, 1, none⟩ = some (.int .i64 q.tr) := R2.blk.cell 1
  by_cases ht : t = q.tr
  rotate_left
  · have dt : decide (t = q.tr) = false := by simpa using ht
    have dt2 : (t != q.tr) = true := by simpa using ht
    have R3 := Lib.hid R2
    clear R2
    go_wp2_with fail
    (first | go_end0 | ((try simp only [Exit.inBlock, Exit.then]); refine bodyPost_ret (results_none rfl _ _ _) rfl ?_))
    rw [← hZ.out, if_neg (by intro e; exact ht e.2.1)]
    exact ⟨rfl, R3.out, g12⟩
  by_cases hj : j = q.id
  rotate_left
  · have dj : decide (j = q.id) = false := by simpa using hj
    have dj2 : (j != q.id) = true := by simpa using hj
    subst ht
    have R3 := Lib.hid R2
    clear R2
    go_wp2_with fail
    (first | go_end0 | ((try simp only [Exit.inBlock, Exit.then]); refine bodyPost_ret (results_none rfl _ _ _) rfl ?_))
    rw [← hZ.out, if_neg (by intro e; exact hj e.2.2)]
    exact ⟨rfl, R3.out, g12⟩
  have hZ2 := hZ.out
  rw [if_pos ⟨rfl, ht, hj⟩] at hZ2
  clear hZ
  subst hj
  subst ht
  have c3 : w2.cell? ⟨r, 3, none⟩ = some (.int .i64 q.ph) := R2.blk.cell 3
  have y3 := R2.blk.frozen 3
  unfold RJ.go4 at hZ2
  have hZ := Lib.hid hZ2
  clear hZ2
  by_cases hp : q.ph ≤ 2
  rotate_left
  · have dp : decide (q.ph ≤ 2) = false := by simpa using hp
    replace hp := Lib.hid hp
    have R3 := Lib.hid R2
    clear R2
    go_wp2_with fail
    (first | go_end0 | ((try simp only [Exit.inBlock, Exit.then]); refine bodyPost_ret (results_none rfl _ _ _) rfl ?_))
    rw [← hZ.out, if_neg (by intro e; have h1 := hp.out; have h2 := e.1; omega)]
    exact ⟨rfl, R3.out, g12⟩
  have dp : decide (q.ph ≤ 2) = true := by simpa using hp
  obtain ⟨bv, hbv⟩ : ∃ bv, q.vis a = bv := ⟨_, rfl⟩
  have hvis := rvis_any r gs gp gf q a w2 R2
  rw [hbv] at hvis
  replace hbv := Lib.hid hbv
  replace hvis := Lib.hid hvis
  replace R2 := Lib.hid R2
  go_wp2_with fail
  go_fit hvis.out
  rintro e w3 ⟨rfl, hw⟩
  obtain rfl := hw.symm
  clear hw hvis
  cases bv
  · go_wp2_with fail
    (first | go_end0 | ((try simp only [Exit.inBlock, Exit.then]); refine bodyPost_ret (results_none rfl _ _ _) rfl ?_))
    rw [← hZ.out, if_neg (by rw [hbv.out]; simp)]
    exact ⟨rfl, R2.out, g12⟩
  · go_wp2_with fail
    (first | go_end0 | ((try simp only [Exit.inBlock, Exit.then]); refine bodyPost_ret (results_none rfl _ _ _) rfl ?_))
    rw [← hZ.out, if_pos ⟨hp, hbv.out⟩]
    exact ⟨rfl, R2.out.store rfl rfl rfl rfl, g12.store (Or.inl rfl)⟩
set_option maxHeartbeats 8000000 in
theorem rhear_8 (r gs gp gf : Nat) (q : RJ) (m : RMs) (b : Bool) (w : World) (h : Rj w r gs gp gf q) (hk : m.k = 8) (hr : ∀ w', Fr noB w w' → Calls Try.prog 29 #[.agg m.cs.toArray] w' fun e w'' => e = .returned (.bool b) ∧ Fr noB w' w'') : Calls Try.prog 15 #[.pointer (some ⟨r, 0, none⟩), .agg m.cs.toArray] w fun e w' => e = .returned (.tuple #[]) ∧ RHear w w' r gs gp gf (if b = true ∧ m.t = q.tr ∧ m.j = q.id then q.go8 else q) := by
  obtain ⟨k, a, t, j, cl, ix, tt, ⟨p1, p2, p3, p4, ua, un, uc, lo⟩, va, vn, vc, sa, sn, sc⟩ := m
  simp only at hk
  subst hk
  unfold RMs.cs at hr ⊢
  simp only at hr ⊢
  obtain ⟨Z, hZ⟩ : ∃ Z, (if b = true ∧ t = q.tr ∧ j = q.id then q.go8 else q) = Z := ⟨_, rfl⟩
  rw [hZ]
  replace hZ := Lib.hid hZ
  have hR := Lib.hid h
  have fX := (Fr.refl noB w).alloc (.cells #[.int .i64 8, .int .i64 a, .int .i64 t, .int .i64 j, .int .i64 cl, .int .i64 ix, .int .i64 tt, .int .i64 p1, .int .i64 p2, .int .i64 p3, .int .i64 p4, .slice ua un uc, .bool lo, .slice va vn vc, .slice sa sn sc] 37)
  have bX := Blk.new w 37 [.int .i64 8, .int .i64 a, .int .i64 t, .int .i64 j, .int .i64 cl, .int .i64 ix, .int .i64 tt, .int .i64 p1, .int .i64 p2, .int .i64 p3, .int .i64 p4, .slice ua un uc, .bool lo, .slice va vn vc, .slice sa sn sc]
  replace hr := Lib.hid hr
  clear h
  go_enter Try.func15, Try.ntmps15
  go_upto_region 1 with fail
  generalize (w.alloc (.cells #[.int .i64 8, .int .i64 a, .int .i64 t, .int .i64 j, .int .i64 cl, .int .i64 ix, .int .i64 tt, .int .i64 p1, .int .i64 p2, .int .i64 p3, .int .i64 p4, .slice ua un uc, .bool lo, .slice va vn vc, .slice sa sn sc] 37)) = wX at *
  obtain ⟨gX, hgX⟩ : ∃ g, w.heap.size = g := ⟨_, rfl⟩
  rw [hgX] at bX
  try rw [hgX]
  replace hgX := Lib.hid hgX
  have x1 : wX.cell? ⟨gX, 1, none⟩ = some (.int .i64 a) := bX.cell 1
  have x2 : wX.cell? ⟨gX, 2, none⟩ = some (.int .i64 t) := bX.cell 2
  have x3 : wX.cell? ⟨gX, 3, none⟩ = some (.int .i64 j) := bX.cell 3
  go_quiet (fail)
  have f1 := fX.drewN nq
  have b1 := bX.drewN nq
  clear x1 x2 x3 fX bX
  generalize wX.drewN nq = w1 at *
  have ya : w1.cell? ⟨gX, 0, none⟩ = some (.int .i64 8) := b1.cell 0
  have yb : w1.cell? ⟨gX, 1, none⟩ = some (.int .i64 a) := b1.cell 1
  have yc : w1.cell? ⟨gX, 2, none⟩ = some (.int .i64 t) := b1.cell 2
  have yd : w1.cell? ⟨gX, 3, none⟩ = some (.int .i64 j) := b1.cell 3
  have ye : w1.cell? ⟨gX, 4, none⟩ = some (.int .i64 cl) := b1.cell 4
  have yf : w1.cell? ⟨gX, 5, none⟩ = some (.int .i64 ix) := b1.cell 5
  have yg : w1.cell? ⟨gX, 6, none⟩ = some (.int .i64 tt) := b1.cell 6
  have yh : w1.cell? ⟨gX, 7, none⟩ = some (.int .i64 p1) := b1.cell 7
  have yi : w1.cell? ⟨gX, 8, none⟩ = some (.int .i64 p2) := b1.cell 8
  have yj : w1.cell? ⟨gX, 9, none⟩ = some (.int .i64 p3) := b1.cell 9
  have yk : w1.cell? ⟨gX, 10, none⟩ = some (.int .i64 p4) := b1.cell 10
  have yl : w1.cell? ⟨gX, 11, none⟩ = some (.slice ua un uc) := b1.cell 11
  have ym : w1.cell? ⟨gX, 12, none⟩ = some (.bool lo) := b1.cell 12
  have yn : w1.cell? ⟨gX, 13, none⟩ = some (.slice va vn vc) := b1.cell 13
  have yo : w1.cell? ⟨gX, 14, none⟩ = some (.slice sa sn sc) := b1.cell 14
  go_wp2_with fail
  go_fit (hr.out w1 f1)
  rintro e w2 ⟨rfl, f2⟩
  have f12 := f1.seqN f2
  have R2 := hR.out.frN f12
  have b2 := f2.blk b1 (fun q => q)
  have z0 : w2.cell? ⟨gX, 0, none⟩ = some (.int .i64 8) := b2.cell 0
  have g12 : Fr (rjB r gs gp gf) w w2 := f12.mono (fun _ _ q => False.elim q)
  clear ya yb yc yd ye yf yg yh yi yj yk yl ym yn yo f1 f2 b1 b2 f12 hr
  cases b
  · go_wp2_with fail
    (first | go_end0 | ((try simp only [Exit.inBlock, Exit.then]); refine bodyPost_ret (results_none rfl _ _ _) rfl ?_))
    rw [← hZ.out, if_neg (by simp)]
    exact ⟨rfl, R2, g12⟩
  have c0 : w2.cell? ⟨r, 0, none⟩ = some (.int .i64 q.id) := R2.blk.cell 0
  have c1 : w2.cell? ⟨r, 1, none⟩ = some (.int .i64 q.tr) := R2.blk.cell 1
  by_cases ht : t = q.tr
  rotate_left
  · have dt : decide (t = q.tr) = false := by simpa using ht
    have dt2 : (t != q.tr) = true := by simpa using ht
    have R3 := Lib.hid R2
    clear R2
    go_wp2_with fail
    (first | go_end0 | ((try simp only [Exit.inBlock, Exit.then]); refine bodyPost_ret (results_none rfl _ _ _) rfl ?_))
    rw [← hZ.out, if_neg (by intro e; exact ht e.2.1)]
    exact ⟨rfl, R3.out, g12⟩
  by_cases hj : j = q.id
  rotate_left
  · have dj : decide (j = q.id) = false := by simpa using hj
    have dj2 : (j != q.id) = true := by simpa using hj
    subst ht
    have R3 := Lib.hid R2
    clear R2
    go_wp2_with fail
    (first | go_end0 | ((try simp only [Exit.inBlock, Exit.then]); refine bodyPost_ret (results_none rfl _ _ _) rfl ?_))
    rw [← hZ.out, if_neg (by intro e; exact hj e.2.2)]
    exact ⟨rfl, R3.out, g12⟩
  have hZ2 := hZ.out
  rw [if_pos ⟨rfl, ht, hj⟩] at hZ2
  clear hZ
  subst hj
  subst ht
  have c3 : w2.cell? ⟨r, 3, none⟩ = some (.int .i64 q.ph) := R2.blk.cell 3
  have y3 := R2.blk.frozen 3
  unfold RJ.go8 at hZ2
  have hZ := Lib.hid hZ2
  clear hZ2
  by_cases hp : q.ph = 2 ∨ q.ph = 3
  rotate_left
  · have dp2 : decide (q.ph = 2) = false := by simp; omega
    have dp3 : decide (q.ph = 3) = false := by simp; omega
    have ep2 : (q.ph == 2) = false := by simp; omega
    have ep3 : (q.ph == 3) = false := by simp; omega
    replace hp := Lib.hid hp
    have R3 := Lib.hid R2
    clear R2
    go_wp2_with fail
    (first | go_end0 | ((try simp only [Exit.inBlock, Exit.then]); refine bodyPost_ret (results_none rfl _ _ _) rfl ?_))
    rw [← hZ.out, if_neg hp.out]
    exact ⟨rfl, R3.out, g12⟩
  have c8 : w2.cell? ⟨r, 8, none⟩ = some (.bool q.ke) := R2.blk.cell 8
  have R4 : Rj (w2.setCell ⟨r, 8, none⟩ (.bool true)) r gs gp gf { q with ke := true } := R2.store rfl rfl rfl rfl
  have R5 : Rj ((w2.setCell ⟨r, 8, none⟩ (.bool true)).setCell ⟨r, 3, none⟩ (.int .i64 3)) r gs gp gf { q with ke := true, ph := 3 } := R4.store rfl rfl rfl rfl
  have g5 : Fr (rjB r gs gp gf) w ((w2.setCell ⟨r, 8, none⟩ (.bool true)).setCell ⟨r, 3, none⟩ (.int .i64 3)) := (g12.store (Or.inl rfl)).store (Or.inl rfl)
  have y8 := R2.blk.frozen 8
  have hZ3 := hZ.out
  rw [if_pos hp] at hZ3
  replace hZ := Lib.hid hZ3
  clear hZ3
  replace R5 := Lib.hid R5
  have R3 := Lib.hid R2
  clear R2 R4 c3 y3
  have c3 : w2.cell? ⟨r, 3, none⟩ = some (.int .i64 q.ph) := R3.out.blk.cell 3
  have y3 := R3.out.blk.frozen 3
  rcases hp with hp | hp
  · rw [hp] at c3
    replace hp := Lib.hid hp
    go_wp2_with fail
    (first | go_end0 | ((try simp only [Exit.inBlock, Exit.then]); refine bodyPost_ret (results_none rfl _ _ _) rfl ?_))
    rw [← hZ.out]
    exact ⟨rfl, R5.out, g5⟩
  · rw [hp] at c3
    replace hp := Lib.hid hp
    go_wp2_with fail
    (first | go_end0 | ((try simp only [Exit.inBlock, Exit.then]); refine bodyPost_ret (results_none rfl _ _ _) rfl ?_))
    rw [← hZ.out]
    exact ⟨rfl, R5.out, g5⟩
set_option maxHeartbeats 8000000 in
theorem rhear_o (r gs gp gf : Nat) (q : RJ) (m : RMs) (b : Bool) (w : World) (h : Rj w r gs gp gf q) (hk : m.k ≠ 3 ∧ m.k ≠ 4 ∧ m.k ≠ 8 ∧ m.k ≠ 10) (hr : ∀ w', Fr noB w w' → Calls Try.prog 29 #[.agg m.cs.toArray] w' fun e w'' => e = .returned (.bool b) ∧ Fr noB w' w'') : Calls Try.prog 15 #[.pointer (some ⟨r, 0, none⟩), .agg m.cs.toArray] w fun e w' => e = .returned (.tuple #[]) ∧ RHear w w' r gs gp gf (if b = true ∧ m.t = q.tr ∧ m.j = q.id then q else q) := by
  obtain ⟨k, a, t, j, cl, ix, tt, ⟨p1, p2, p3, p4, ua, un, uc, lo⟩, va, vn, vc, sa, sn, sc⟩ := m
  simp only at hk
  have d3 : decide (k = 3) = false := by simpa using hk.1
  have d4 : decide (k = 4) = false := by simpa using hk.2.1
  have d8 : decide (k = 8) = false := by simpa using hk.2.2.1
  have d10 : decide (k = 10) = false := by simpa using hk.2.2.2
  unfold RMs.cs at hr ⊢
  simp only at hr ⊢
  obtain ⟨Z, hZ⟩ : ∃ Z, (if b = true ∧ t = q.tr ∧ j = q.id then q else q) = Z := ⟨_, rfl⟩
  rw [hZ]
  replace hZ := Lib.hid hZ
  have hR := Lib.hid h
  have fX := (Fr.refl noB w).alloc (.cells #[.int .i64 k, .int .i64 a, .int .i64 t, .int .i64 j, .int .i64 cl, .int .i64 ix, .int .i64 tt, .int .i64 p1, .int .i64 p2, .int .i64 p3, .int .i64 p4, .slice ua un uc, .bool lo, .slice va vn vc, .slice sa sn sc] 37)
  have bX := Blk.new w 37 [.int .i64 k, .int .i64 a, .int .i64 t, .int .i64 j, .int .i64 cl, .int .i64 ix, .int .i64 tt, .int .i64 p1, .int .i64 p2, .int .i64 p3, .int .i64 p4, .slice ua un uc, .bool lo, .slice va vn vc, .slice sa sn sc]
  replace hr := Lib.hid hr
  clear h
  go_enter Try.func15, Try.ntmps15
  go_upto_region 1 with fail
  generalize (w.alloc (.cells #[.int .i64 k, .int .i64 a, .int .i64 t, .int .i64 j, .int .i64 cl, .int .i64 ix, .int .i64 tt, .int .i64 p1, .int .i64 p2, .int .i64 p3, .int .i64 p4, .slice ua un uc, .bool lo, .slice va vn vc, .slice sa sn sc] 37)) = wX at *
  obtain ⟨gX, hgX⟩ : ∃ g, w.heap.size = g := ⟨_, rfl⟩
  rw [hgX] at bX
  try rw [hgX]
  replace hgX := Lib.hid hgX
  have x1 : wX.cell? ⟨gX, 1, none⟩ = some (.int .i64 a) := bX.cell 1
  have x2 : wX.cell? ⟨gX, 2, none⟩ = some (.int .i64 t) := bX.cell 2
  have x3 : wX.cell? ⟨gX, 3, none⟩ = some (.int .i64 j) := bX.cell 3
  go_quiet (fail)
  have f1 := fX.drewN nq
  have b1 := bX.drewN nq
  clear x1 x2 x3 fX bX
  generalize wX.drewN nq = w1 at *
  have ya : w1.cell? ⟨gX, 0, none⟩ = some (.int .i64 k) := b1.cell 0
  have yb : w1.cell? ⟨gX, 1, none⟩ = some (.int .i64 a) := b1.cell 1
  have yc : w1.cell? ⟨gX, 2, none⟩ = some (.int .i64 t) := b1.cell 2
  have yd : w1.cell? ⟨gX, 3, none⟩ = some (.int .i64 j) := b1.cell 3
  have ye : w1.cell? ⟨gX, 4, none⟩ = some (.int .i64 cl) := b1.cell 4
  have yf : w1.cell? ⟨gX, 5, none⟩ = some (.int .i64 ix) := b1.cell 5
  have yg : w1.cell? ⟨gX, 6, none⟩ = some (.int .i64 tt) := b1.cell 6
  have yh : w1.cell? ⟨gX, 7, none⟩ = some (.int .i64 p1) := b1.cell 7
  have yi : w1.cell? ⟨gX, 8, none⟩ = some (.int .i64 p2) := b1.cell 8
  have yj : w1.cell? ⟨gX, 9, none⟩ = some (.int .i64 p3) := b1.cell 9
  have yk : w1.cell? ⟨gX, 10, none⟩ = some (.int .i64 p4) := b1.cell 10
  have yl : w1.cell? ⟨gX, 11, none⟩ = some (.slice ua un uc) := b1.cell 11
  have ym : w1.cell? ⟨gX, 12, none⟩ = some (.bool lo) := b1.cell 12
  have yn : w1.cell? ⟨gX, 13, none⟩ = some (.slice va vn vc) := b1.cell 13
  have yo : w1.cell? ⟨gX, 14, none⟩ = some (.slice sa sn sc) := b1.cell 14
  go_wp2_with fail
  go_fit (hr.out w1 f1)
  rintro e w2 ⟨rfl, f2⟩
  have f12 := f1.seqN f2
  have R2 := hR.out.frN f12
  have b2 := f2.blk b1 (fun q => q)
  have z0 : w2.cell? ⟨gX, 0, none⟩ = some (.int .i64 k) := b2.cell 0
  have g12 : Fr (rjB r gs gp gf) w w2 := f12.mono (fun _ _ q => False.elim q)
  clear ya yb yc yd ye yf yg yh yi yj yk yl ym yn yo f1 f2 b1 b2 f12 hr
  cases b
  · go_wp2_with fail
    (first | go_end0 | ((try simp only [Exit.inBlock, Exit.then]); refine bodyPost_ret (results_none rfl _ _ _) rfl ?_))
    rw [← hZ.out, if_neg (by simp)]
    exact ⟨rfl, R2, g12⟩
  have c0 : w2.cell? ⟨r, 0, none⟩ = some (.int .i64 q.id) := R2.blk.cell 0
  have c1 : w2.cell? ⟨r, 1, none⟩ = some (.int .i64 q.tr) := R2.blk.cell 1
  by_cases ht : t = q.tr
  rotate_left
  · have dt : decide (t = q.tr) = false := by simpa using ht
    have dt2 : (t != q.tr) = true := by simpa using ht
    have R3 := Lib.hid R2
    clear R2
    go_wp2_with fail
    (first | go_end0 | ((try simp only [Exit.inBlock, Exit.then]); refine bodyPost_ret (results_none rfl _ _ _) rfl ?_))
    rw [← hZ.out, if_neg (by intro e; exact ht e.2.1)]
    exact ⟨rfl, R3.out, g12⟩
  by_cases hj : j = q.id
  rotate_left
  · have dj : decide (j = q.id) = false := by simpa using hj
    have dj2 : (j != q.id) = true := by simpa using hj
    subst ht
    have R3 := Lib.hid R2
    clear R2
    go_wp2_with fail
    (first | go_end0 | ((try simp only [Exit.inBlock, Exit.then]); refine bodyPost_ret (results_none rfl _ _ _) rfl ?_))
    rw [← hZ.out, if_neg (by intro e; exact hj e.2.2)]
    exact ⟨rfl, R3.out, g12⟩
  have hZ2 := hZ.out
  rw [if_pos ⟨rfl, ht, hj⟩] at hZ2
  clear hZ
  subst hj
  subst ht
  have c3 : w2.cell? ⟨r, 3, none⟩ = some (.int .i64 q.ph) := R2.blk.cell 3
  have y3 := R2.blk.frozen 3
  have hZ := Lib.hid hZ2
  clear hZ2
  have R3 := Lib.hid R2
  clear R2
  go_wp2_with fail
  (first | go_end0 | ((try simp only [Exit.inBlock, Exit.then]); refine bodyPost_ret (results_none rfl _ _ _) rfl ?_))
  rw [← hZ.out]
  exact ⟨rfl, R3.out, g12⟩
set_option maxHeartbeats 8000000 in
theorem rhear_10 (r gs gp gf : Nat) (q : RJ) (m : RMs) (b : Bool) (w : World) (h : Rj w r gs gp gf q) (hk : m.k = 10) (hr : ∀ w', Fr noB w w' → Calls Try.prog 29 #[.agg m.cs.toArray] w' fun e w'' => e = .returned (.bool b) ∧ Fr noB w' w'') : Calls Try.prog 15 #[.pointer (some ⟨r, 0, none⟩), .agg m.cs.toArray] w fun e w' => e = .returned (.tuple #[]) ∧ RHear w w' r gs gp gf (if b = true ∧ m.t = q.tr ∧ m.j = q.id then q.go10 m.a else q) := by
  obtain ⟨k, a, t, j, cl, ix, tt, ⟨p1, p2, p3, p4, ua, un, uc, lo⟩, va, vn, vc, sa, sn, sc⟩ := m
  simp only at hk
  subst hk
  unfold RMs.cs at hr ⊢
  simp only at hr ⊢
  obtain ⟨Z, hZ⟩ : ∃ Z, (if b = true ∧ t = q.tr ∧ j = q.id then q.go10 a else q) = Z := ⟨_, rfl⟩
  rw [hZ]
  replace hZ := Lib.hid hZ
  have hR := Lib.hid h
  have fX := (Fr.refl noB w).alloc (.cells #[.int .i64 10, .int .i64 a, .int .i64 t, .int .i64 j, .int .i64 cl, .int .i64 ix, .int .i64 tt, .int .i64 p1, .int .i64 p2, .int .i64 p3, .int .i64 p4, .slice ua un uc, .bool lo, .slice va vn vc, .slice sa sn sc] 37)
  have bX := Blk.new w 37 [.int .i64 10, .int .i64 a, .int .i64 t, .int .i64 j, .int .i64 cl, .int .i64 ix, .int .i64 tt, .int .i64 p1, .int .i64 p2, .int .i64 p3, .int .i64 p4, .slice ua un uc, .bool lo, .slice va vn vc, .slice sa sn sc]
  replace hr := Lib.hid hr
  clear h
  go_enter Try.func15, Try.ntmps15
  go_upto_region 1 with fail
  generalize (w.alloc (.cells #[.int .i64 10, .int .i64 a, .int .i64 t, .int .i64 j, .int .i64 cl, .int .i64 ix, .int .i64 tt, .int .i64 p1, .int .i64 p2, .int .i64 p3, .int .i64 p4, .slice ua un uc, .bool lo, .slice va vn vc, .slice sa sn sc] 37)) = wX at *
  obtain ⟨gX, hgX⟩ : ∃ g, w.heap.size = g := ⟨_, rfl⟩
  rw [hgX] at bX
  try rw [hgX]
  replace hgX := Lib.hid hgX
  have x1 : wX.cell? ⟨gX, 1, none⟩ = some (.int .i64 a) := bX.cell 1
  have x2 : wX.cell? ⟨gX, 2, none⟩ = some (.int .i64 t) := bX.cell 2
  have x3 : wX.cell? ⟨gX, 3, none⟩ = some (.int .i64 j) := bX.cell 3
  go_quiet (fail)
  have f1 := fX.drewN nq
  have b1 := bX.drewN nq
  clear x1 x2 x3 fX bX
  generalize wX.drewN nq = w1 at *
  have ya : w1.cell? ⟨gX, 0, none⟩ = some (.int .i64 10) := b1.cell 0
  have yb : w1.cell? ⟨gX, 1, none⟩ = some (.int .i64 a) := b1.cell 1
  have yc : w1.cell? ⟨gX, 2, none⟩ = some (.int .i64 t) := b1.cell 2
  have yd : w1.cell? ⟨gX, 3, none⟩ = some (.int .i64 j) := b1.cell 3
  have ye : w1.cell? ⟨gX, 4, none⟩ = some (.int .i64 cl) := b1.cell 4
  have yf : w1.cell? ⟨gX, 5, none⟩ = some (.int .i64 ix) := b1.cell 5
  have yg : w1.cell? ⟨gX, 6, none⟩ = some (.int .i64 tt) := b1.cell 6
  have yh : w1.cell? ⟨gX, 7, none⟩ = some (.int .i64 p1) := b1.cell 7
  have yi : w1.cell? ⟨gX, 8, none⟩ = some (.int .i64 p2) := b1.cell 8
  have yj : w1.cell? ⟨gX, 9, none⟩ = some (.int .i64 p3) := b1.cell 9
  have yk : w1.cell? ⟨gX, 10, none⟩ = some (.int .i64 p4) := b1.cell 10
  have yl : w1.cell? ⟨gX, 11, none⟩ = some (.slice ua un uc) := b1.cell 11
  have ym : w1.cell? ⟨gX, 12, none⟩ = some (.bool lo) := b1.cell 12
  have yn : w1.cell? ⟨gX, 13, none⟩ = some (.slice va vn vc) := b1.cell 13
  have yo : w1.cell? ⟨gX, 14, none⟩ = some (.slice sa sn sc) := b1.cell 14
  go_wp2_with fail
  go_fit (hr.out w1 f1)
  rintro e w2 ⟨rfl, f2⟩
  have f12 := f1.seqN f2
  have R2 := hR.out.frN f12
  have b2 := f2.blk b1 (fun q => q)
  have z0 : w2.cell? ⟨gX, 0, none⟩ = some (.int .i64 10) := b2.cell 0
  have g12 : Fr (rjB r gs gp gf) w w2 := f12.mono (fun _ _ q => False.elim q)
  clear ya yb yc yd ye yf yg yh yi yj yk yl ym yn yo f1 f2 b1 b2 f12 hr
  cases b
  · go_wp2_with fail
    (first | go_end0 | ((try simp only [Exit.inBlock, Exit.then]); refine bodyPost_ret (results_none rfl _ _ _) rfl ?_))
    rw [← hZ.out, if_neg (by simp)]
    exact ⟨rfl, R2, g12⟩
  have c0 : w2.cell? ⟨r, 0, none⟩ = some (.int .i64 q.id) := R2.blk.cell 0
  have c1 : w2.cell? ⟨r, 1, none⟩ = some (.int .i64 q.tr) := R2.blk.cell 1
  by_cases ht : t = q.tr
  rotate_left
  · have dt : decide (t = q.tr) = false := by simpa using ht
    have dt2 : (t != q.tr) = true := by simpa using ht
    have R3 := Lib.hid R2
    clear R2
    go_wp2_with fail
    (first | go_end0 | ((try simp only [Exit.inBlock, Exit.then]); refine bodyPost_ret (results_none rfl _ _ _) rfl ?_))
    rw [← hZ.out, if_neg (by intro e; exact ht e.2.1)]
    exact ⟨rfl, R3.out, g12⟩
  by_cases hj : j = q.id
  rotate_left
  · have dj : decide (j = q.id) = false := by simpa using hj
    have dj2 : (j != q.id) = true := by simpa using hj
    subst ht
    have R3 := Lib.hid R2
    clear R2
    go_wp2_with fail
    (first | go_end0 | ((try simp only [Exit.inBlock, Exit.then]); refine bodyPost_ret (results_none rfl _ _ _) rfl ?_))
    rw [← hZ.out, if_neg (by intro e; exact hj e.2.2)]
    exact ⟨rfl, R3.out, g12⟩
  have hZ2 := hZ.out
  rw [if_pos ⟨rfl, ht, hj⟩] at hZ2
  clear hZ
  subst hj
  subst ht
  have c3 : w2.cell? ⟨r, 3, none⟩ = some (.int .i64 q.ph) := R2.blk.cell 3
  have y3 := R2.blk.frozen 3
  unfold RJ.go10 at hZ2
  have hZ := Lib.hid hZ2
  clear hZ2
  by_cases hp : q.ph = 3
  rotate_left
  · have dp : decide (q.ph = 3) = false := by simpa using hp
    have ep : (q.ph != 3) = true := by simpa using hp
    replace hp := Lib.hid hp
    have R3 := Lib.hid R2
    clear R2
    go_wp2_with fail
    (first | go_end0 | ((try simp only [Exit.inBlock, Exit.then]); refine bodyPost_ret (results_none rfl _ _ _) rfl ?_))
    rw [← hZ.out, if_neg (by intro e; have h1 := hp.out; have h2 := e.1; omega)]
    exact ⟨rfl, R3.out, g12⟩
  rw [hp] at c3
  obtain ⟨bv, hbv⟩ : ∃ bv, q.vis a = bv := ⟨_, rfl⟩
  have hvis := rvis_any r gs gp gf q a w2 R2
  rw [hbv] at hvis
  replace hvis := Lib.hid hvis
  have R3 := Lib.hid R2
  have hbv' := Lib.hid hbv
  clear hbv
  obtain ⟨l, hl⟩ : ∃ l, q.S.length = l := ⟨_, rfl⟩
  have c6 : w2.cell? ⟨r, 6, none⟩ = some (.slice (some ⟨gf, 0, none⟩) l l) := by rw [← hl]; exact R2.blk.cell 6
  have hn4 := R2.n4
  rw [hl] at hn4
  replace hl := Lib.hid hl
  clear R2
  go_wp2_with fail
  go_fit hvis.out
  rintro e w3 ⟨rfl, hw⟩
  obtain rfl := hw.symm
  clear hw hvis
  cases bv
  · go_wp2_with fail
    (first | go_end0 | ((try simp only [Exit.inBlock, Exit.then]); refine bodyPost_ret (results_none rfl _ _ _) rfl ?_))
    rw [← hZ.out, if_neg (by rw [hbv'.out]; simp)]
    exact ⟨rfl, R3.out, g12⟩
  have hZ3 := hZ.out
  rw [if_pos ⟨hp, hbv'.out⟩, hl.out] at hZ3
  replace hZ := Lib.hid hZ3
  clear hZ3
  replace hp := Lib.hid hp
  obtain ⟨kn, rfl, hkn⟩ : ∃ kn : Nat, a = kn ∧ kn < l := by
    have := hbv'.out
    unfold RJ.vis at this
    rw [hl.out] at this
    simp only [Bool.and_eq_true, decide_eq_true_eq] at this
    exact ⟨a.toNat, by omega, by omega⟩
  have e6 : w2.cell? ⟨gf, kn, none⟩ = some (.bool (q.F.getD kn false)) := R3.out.f (by rw [hl.out]; exact hkn)
  have y6 := R3.out.bf.frozen kn
  have R4 : Rj (w2.setCell ⟨gf, kn, none⟩ (.bool true)) r gs gp gf (q.fr10 (kn : Int)) := by
    have := R3.out.setF kn true
    unfold RJ.fr10
    rw [show ((kn : Int)).toNat = kn by omega]
    exact this
  have g4 : Fr (rjB r gs gp gf) w (w2.setCell ⟨gf, kn, none⟩ (.bool true)) := g12.store (Or.inr (Or.inr (Or.inr rfl)))
  have c4 : (w2.setCell ⟨gf, kn, none⟩ (.bool true)).cell? ⟨r, 4, none⟩ = some (.slice (some ⟨gs, 0, none⟩) l l) := by rw [← hl.out]; exact R4.blk.cell 4
  have c6' : (w2.setCell ⟨gf, kn, none⟩ (.bool true)).cell? ⟨r, 6, none⟩ = some (.slice (some ⟨gf, 0, none⟩) l l) := by rw [← hl.out]; exact R4.blk.cell 6
  have hs : ∀ k : Nat, k < l → (w2.setCell ⟨gf, kn, none⟩ (.bool true)).cell? ⟨gs, k, none⟩ = some (.int .i64 (q.S.getD k 0)) := fun k hk => R4.s (by show k < q.S.length; rw [hl.out]; exact hk)
  have hf : ∀ k : Nat, k < l → (w2.setCell ⟨gf, kn, none⟩ (.bool true)).cell? ⟨gf, k, none⟩ = some (.bool ((q.fr10 (kn : Int)).F.getD k false)) := fun k hk => R4.f (by show k < q.S.length; rw [hl.out]; exact hk)
  replace R4 := Lib.hid R4
  replace hs := Lib.hid hs
  replace hf := Lib.hid hf
  replace hbv' := Lib.hid hbv'
  replace hZ := Lib.hid hZ.out
  have hfr : (q.fr10 (kn : Int)).S = q.S := rfl
  clear R3 c0 c1 c3 y3 z0 hbv'
  go_wp2_with fail
  generalize (w2.setCell ⟨gf, kn, none⟩ (.bool true)) = w4 at *
  clear e6 y6
  go_loopw [11, 12] (fun av i wr => ∃ k : Nat, k ≤ l ∧ av = .bool ((q.fr10 (kn : Int)).allF k) ∧ i = .int .i64 k ∧ wr = w4) (fun _ i _ => l - (RowKit.intOf i).toNat)
  case atStart => exact ⟨0, by omega, rfl, rfl, rfl⟩
  case round =>
    obtain ⟨k, hk, rfl, rfl, rfl⟩ := hrel
    by_cases hlt : k < l
    · have s0 := hs.out k hlt
      have f0 := hf.out k hlt
      have hx : (q.fr10 (kn : Int)).allF (k + 1) = ((q.fr10 (kn : Int)).allF k && (decide (q.S.getD k 0 = 0) || (q.fr10 (kn : Int)).F.getD k false)) := rfl
      generalize q.S.getD k 0 = x at *
      generalize (q.fr10 (kn : Int)).F.getD k false = y at *
      generalize (q.fr10 (kn : Int)).allF k = z at *
      cases z
      · go_wp2_with fail
        go_roundw
        case rel => exact ⟨k + 1, by omega, by rw [hx]; rfl, by go_num, (by first | rfl | trivial)⟩
        case measure => simp [RowKit.intOf]; omega
      · by_cases hx0 : x = 0
        · subst hx0
          go_wp2_with fail
          go_roundw
          case rel => exact ⟨k + 1, by omega, by rw [hx]; simp, by go_num, (by first | rfl | trivial)⟩
          case measure => simp [RowKit.intOf]; omega
        · have d0 : decide (x = 0) = false := by simpa using hx0
          have e0 : (x == 0) = false := by simpa using hx0
          go_wp2_with fail
          go_roundw
          case rel => exact ⟨k + 1, by omega, by rw [hx, d0]; simp, by go_num, (by first | rfl | trivial)⟩
          case measure => simp [RowKit.intOf]; omega
    · obtain rfl : k = l := by omega
      obtain ⟨z, hz⟩ : ∃ z, (q.fr10 (kn : Int)).allF k = z := ⟨_, rfl⟩
      rw [hz]
      replace hz := Lib.hid hz
      cases z
      · go_wp2_with fail
        (first | go_end0 | ((try simp only [Exit.inBlock, Exit.then]); refine bodyPost_ret (results_none rfl _ _ _) rfl ?_))
        rw [← hZ.out, if_neg (by rw [hz.out]; simp)]
        exact ⟨rfl, R4.out, g4⟩
      · have c3 : wr.cell? ⟨r, 3, none⟩ = some (.int .i64 q.ph) := R4.out.blk.cell 3
        have y3 := R4.out.blk.frozen 3
        go_wp2_with fail
        (first | go_end0 | ((try simp only [Exit.inBlock, Exit.then]); refine bodyPost_ret (results_none rfl _ _ _) rfl ?_))
        rw [← hZ.out, if_pos hz.out]
        exact ⟨rfl, R4.out.store rfl rfl rfl rfl, g4.store (Or.inl rfl)⟩
end Go.Proofs.Ytppgachfobpgbaa
