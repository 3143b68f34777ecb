/-
  What a job does with a message: Gone, Stored, Unpinned.
-/
import Derived.Test.YtidcoddefebdpaaGreatJob
import Derived.Test.YtidcoddefebdpaaGreatMsg
import Derived.Deep.DeepCutAuto
set_option linter.unusedVariables false
set_option linter.unusedSimpArgs false
set_option maxRecDepth 100000
namespace Go.Proofs.YtidcoddefebdpaaGreat
open Go.RowKit Go Go.Lib

def JS.upd (j : JS) (k : Nat) (f : Vis → Vis) : JS :=
  match k with
  | 0 => { j with v0 := f j.v0 }
  | 1 => { j with v1 := f j.v1 }
  | 2 => { j with v2 := f j.v2 }
  | _ => { j with v3 := f j.v3 }
def JS.at (j : JS) (k : Nat) : Vis :=
  match k with
  | 0 => j.v0
  | 1 => j.v1
  | 2 => j.v2
  | _ => j.v3
theorem Jb.set {w : World} {p : Nat} {j j' : JS} (h : Jb w p j) (i : Nat) (x : Value) (e : j.cells.set i x = j'.cells) : Jb (w.setCell ⟨p, i, none⟩ x) p j' := by
  have := Blk.set h i x
  rw [e] at this
  exact this
theorem fr_set {w : World} {p : Nat} (i : Nat) (x : Value) : Fr (onlyB p) w (w.setCell ⟨p, i, none⟩ x) := (Fr.refl _ _).store rfl
def noneL (so : Vis → Bool) (j : JS) : Bool := decide ((whichL so j 4).length = 0)
theorem allPinned_any (p : Nat) (j : JS) (w : World) (h : Jb w p j) :
    Calls Tryz.prog 61 #[.pointer (some ⟨p, 0, none⟩)] w fun e w' => e = .returned (.bool (noneL (fun v => !v.p) j)) ∧ Fr noB w w' := by
  unfold noneL
  have hw := which_pin2 p j w h
  generalize whichL (fun v => !v.p) j 4 = L at *
  go_enter Tryz.func61, Tryz.ntmps61
  go_wp2_with fail
  refine hw.mono ?_
  rintro e w1 ⟨v, rfl, o1, f1⟩
  obtain ⟨a1, c1, rfl⟩ := ownsRow_slice o1
  clear hw o1
  generalize hl : L.length = n at *
  replace hl := Lib.hid hl
  by_cases hn : n = 0
  · subst hn
    go_wp2_with fail
    go_ret
    exact ⟨by rw [hl.out]; rfl, f1⟩
  · have hnd : ((n : Int) == 0) = false := by simpa using hn
    have hnd2 : decide (n = 0) = false := by simpa using hn
    go_wp2_with fail
    go_ret
    exact ⟨by rw [hl.out, hnd2]; rfl, f1⟩

/-- an agent knows -/
def JS.unp (j : JS) (a : Nat) : JS :=
  if j.ph = 3 ∧ (j.at a).v = true then
    (if noneL (fun v => !v.f) (j.upd a fun v => { v with f := true }) then { (j.upd a fun v => { v with f := true }) with ph := 4 } else j.upd a fun v => { v with f := true })
  else j

set_option maxHeartbeats 1000000 in
set_option maxRecDepth 10000 in
theorem unp_0 (p : Nat) (j : JS) (t jb : Int) (w : World) (h : Jb w p j) :
    Calls Tryz.prog 88 #[.pointer (some ⟨p, 0, none⟩), .agg #[.int .i64 0, .int .i64 t, .int .i64 jb]] w fun e w' => e = .returned (.tuple #[]) ∧ Jb w' p (j.unp 0) ∧ Fr (onlyB p) w w' := by
  have fX := (Fr.refl noB w).alloc (.cells #[.int .i64 0, .int .i64 t, .int .i64 jb] 71)
  have hX := h.frN fX
  have bX := Blk.new w 71 [.int .i64 0, .int .i64 t, .int .i64 jb]
  obtain ⟨wx, hwx⟩ : ∃ wx, wx = w.alloc (.cells #[.int .i64 0, .int .i64 t, .int .i64 jb] 71) := ⟨_, rfl⟩
  have e0 : (w.alloc (.cells #[.int .i64 0, .int .i64 t, .int .i64 jb] 71)).cell? ⟨w.heap.size, 0, none⟩ = some (.int .i64 0) := bX.cell 0
  go_enter Tryz.func88, Tryz.ntmps88
  go_upto_region 1 with fail
  rw [← hwx] at fX hX e0 ⊢
  clear hwx bX
  generalize w.heap.size = ob at *
  go_quiet (fail)
  have hY := hX.frN ((Fr.refl noB wx).drewN nq)
  have fY := fX.drewN nq
  generalize wx.drewN nq = wy at *
  clear hX fX e0
  have c0 : wy.cell? ⟨p, 4, none⟩ = some (.bool j.v0.v) := hY.cell 4
  have cp : wy.cell? ⟨p, 40, none⟩ = some (.int .i64 j.ph) := hY.cell 40
  have z2 : wy.frozen? ⟨p, 6, none⟩ = false := Blk.frozen hY 6
  have c2 : wy.cell? ⟨p, 6, none⟩ = some (.bool j.v0.f) := hY.cell 6
  by_cases hp : j.ph = 3
  · have hpd : (j.ph != 3) = false := by simp [hp]
    cases hv : j.v0.v with
    | false =>
      rw [hv] at c0
      have hun : j.unp 0 = j := by unfold JS.unp; rw [if_neg (fun q => by have q' : j.v0.v = true := q.2; rw [hv] at q'; cases q')]
      replace hun := Lib.hid hun
      go_wp2_with fail
      first | go_end0 | ((try simp only [Exit.inBlock, Exit.then]); refine bodyPost_ret (results_none rfl _ _ _) rfl ?_)
      exact ⟨rfl, by rw [hun.out]; exact hY, fY.mono (fun _ _ q => False.elim q)⟩
    | true =>
      rw [hv] at c0
      have hset : Jb (wy.setCell ⟨p, 6, none⟩ (.bool true)) p (j.upd 0 fun v => { v with f := true }) := hY.set 6 (.bool true) rfl
      have fS := fY.mono (T := onlyB p) (fun _ _ q => False.elim q) |>.seqB (fr_set (w := wy) (p := p) 6 (.bool true)) (fun _ => rfl)
      have hph : (j.upd 0 fun v => { v with f := true }).ph = 3 := hp
      have hun : j.unp 0 = if noneL (fun v => !v.f) (j.upd 0 fun v => { v with f := true }) then { (j.upd 0 fun v => { v with f := true }) with ph := 4 } else j.upd 0 fun v => { v with f := true } := by unfold JS.unp; rw [if_pos ⟨hp, hv⟩]
      replace hun := Lib.hid hun
      clear hv
      generalize (j.upd 0 fun v => { v with f := true }) = j1 at *
      have hw := which_free2 p j1 _ hset
      have hnl : noneL (fun v => !v.f) j1 = decide ((whichL (fun v => !v.f) j1 4).length = 0) := rfl
      generalize hL : whichL (fun v => !v.f) j1 4 = L at *
      generalize hl : L.length = n at *
      replace hnl := Lib.hid hnl
      clear hL hl
      go_wp2_with fail
      refine hw.mono ?_
      rintro e w1 ⟨v1, rfl, o1, f1⟩
      obtain ⟨a1, c1, rfl⟩ := ownsRow_slice o1
      have h1 := hset.frN f1
      have g1 := fS.seqN f1
      clear hw o1 hset fS
      by_cases hn : n = 0
      · subst hn
        have c4 : w1.cell? ⟨p, 40, none⟩ = some (.int .i64 j1.ph) := h1.cell 40
        have z4 : w1.frozen? ⟨p, 40, none⟩ = false := Blk.frozen h1 40
        have hs4 : Jb (w1.setCell ⟨p, 40, none⟩ (.int .i64 4)) p { j1 with ph := 4 } := h1.set 40 (.int .i64 4) rfl
        have g4 := g1.seqB (fr_set (w := w1) (p := p) 40 (.int .i64 4)) (fun _ => rfl)
        go_wp2_with fail
        first | go_end0 | ((try simp only [Exit.inBlock, Exit.then]); refine bodyPost_ret (results_none rfl _ _ _) rfl ?_)
        exact ⟨rfl, by rw [hun.out, hnl.out]; simpa using hs4, g4⟩
      · have hnd : ((n : Int) == 0) = false := by simpa using hn
        have hnd2 : decide (n = 0) = false := by simpa using hn
        go_wp2_with fail
        first | go_end0 | ((try simp only [Exit.inBlock, Exit.then]); refine bodyPost_ret (results_none rfl _ _ _) rfl ?_)
        exact ⟨rfl, by rw [hun.out, hnl.out]; simpa [hn] using h1, g1⟩
  · have hpd : (j.ph != 3) = true := by simpa using hp
    have hun : j.unp 0 = j := by unfold JS.unp; rw [if_neg (fun q => hp q.1)]
    replace hun := Lib.hid hun
    go_wp2_with fail
    first | go_end0 | ((try simp only [Exit.inBlock, Exit.then]); refine bodyPost_ret (results_none rfl _ _ _) rfl ?_)
    exact ⟨rfl, by rw [hun.out]; exact hY, fY.mono (fun _ _ q => False.elim q)⟩

set_option maxHeartbeats 1000000 in
set_option maxRecDepth 10000 in
theorem unp_1 (p : Nat) (j : JS) (t jb : Int) (w : World) (h : Jb w p j) :
    Calls Tryz.prog 88 #[.pointer (some ⟨p, 0, none⟩), .agg #[.int .i64 1, .int .i64 t, .int .i64 jb]] w fun e w' => e = .returned (.tuple #[]) ∧ Jb w' p (j.unp 1) ∧ Fr (onlyB p) w w' := by
  have fX := (Fr.refl noB w).alloc (.cells #[.int .i64 1, .int .i64 t, .int .i64 jb] 71)
  have hX := h.frN fX
  have bX := Blk.new w 71 [.int .i64 1, .int .i64 t, .int .i64 jb]
  obtain ⟨wx, hwx⟩ : ∃ wx, wx = w.alloc (.cells #[.int .i64 1, .int .i64 t, .int .i64 jb] 71) := ⟨_, rfl⟩
  have e0 : (w.alloc (.cells #[.int .i64 1, .int .i64 t, .int .i64 jb] 71)).cell? ⟨w.heap.size, 0, none⟩ = some (.int .i64 1) := bX.cell 0
  go_enter Tryz.func88, Tryz.ntmps88
  go_upto_region 1 with fail
  rw [← hwx] at fX hX e0 ⊢
  clear hwx bX
  generalize w.heap.size = ob at *
  go_quiet (fail)
  have hY := hX.frN ((Fr.refl noB wx).drewN nq)
  have fY := fX.drewN nq
  generalize wx.drewN nq = wy at *
  clear hX fX e0
  have c0 : wy.cell? ⟨p, 13, none⟩ = some (.bool j.v1.v) := hY.cell 13
  have cp : wy.cell? ⟨p, 40, none⟩ = some (.int .i64 j.ph) := hY.cell 40
  have z2 : wy.frozen? ⟨p, 15, none⟩ = false := Blk.frozen hY 15
  have c2 : wy.cell? ⟨p, 15, none⟩ = some (.bool j.v1.f) := hY.cell 15
  by_cases hp : j.ph = 3
  · have hpd : (j.ph != 3) = false := by simp [hp]
    cases hv : j.v1.v with
    | false =>
      rw [hv] at c0
      have hun : j.unp 1 = j := by unfold JS.unp; rw [if_neg (fun q => by have q' : j.v1.v = true := q.2; rw [hv] at q'; cases q')]
      replace hun := Lib.hid hun
      go_wp2_with fail
      first | go_end0 | ((try simp only [Exit.inBlock, Exit.then]); refine bodyPost_ret (results_none rfl _ _ _) rfl ?_)
      exact ⟨rfl, by rw [hun.out]; exact hY, fY.mono (fun _ _ q => False.elim q)⟩
    | true =>
      rw [hv] at c0
      have hset : Jb (wy.setCell ⟨p, 15, none⟩ (.bool true)) p (j.upd 1 fun v => { v with f := true }) := hY.set 15 (.bool true) rfl
      have fS := fY.mono (T := onlyB p) (fun _ _ q => False.elim q) |>.seqB (fr_set (w := wy) (p := p) 15 (.bool true)) (fun _ => rfl)
      have hph : (j.upd 1 fun v => { v with f := true }).ph = 3 := hp
      have hun : j.unp 1 = if noneL (fun v => !v.f) (j.upd 1 fun v => { v with f := true }) then { (j.upd 1 fun v => { v with f := true }) with ph := 4 } else j.upd 1 fun v => { v with f := true } := by unfold JS.unp; rw [if_pos ⟨hp, hv⟩]
      replace hun := Lib.hid hun
      clear hv
      generalize (j.upd 1 fun v => { v with f := true }) = j1 at *
      have hw := which_free2 p j1 _ hset
      have hnl : noneL (fun v => !v.f) j1 = decide ((whichL (fun v => !v.f) j1 4).length = 0) := rfl
      generalize hL : whichL (fun v => !v.f) j1 4 = L at *
      generalize hl : L.length = n at *
      replace hnl := Lib.hid hnl
      clear hL hl
      go_wp2_with fail
      refine hw.mono ?_
      rintro e w1 ⟨v1, rfl, o1, f1⟩
      obtain ⟨a1, c1, rfl⟩ := ownsRow_slice o1
      have h1 := hset.frN f1
      have g1 := fS.seqN f1
      clear hw o1 hset fS
      by_cases hn : n = 0
      · subst hn
        have c4 : w1.cell? ⟨p, 40, none⟩ = some (.int .i64 j1.ph) := h1.cell 40
        have z4 : w1.frozen? ⟨p, 40, none⟩ = false := Blk.frozen h1 40
        have hs4 : Jb (w1.setCell ⟨p, 40, none⟩ (.int .i64 4)) p { j1 with ph := 4 } := h1.set 40 (.int .i64 4) rfl
        have g4 := g1.seqB (fr_set (w := w1) (p := p) 40 (.int .i64 4)) (fun _ => rfl)
        go_wp2_with fail
        first | go_end0 | ((try simp only [Exit.inBlock, Exit.then]); refine bodyPost_ret (results_none rfl _ _ _) rfl ?_)
        exact ⟨rfl, by rw [hun.out, hnl.out]; simpa using hs4, g4⟩
      · have hnd : ((n : Int) == 0) = false := by simpa using hn
        have hnd2 : decide (n = 0) = false := by simpa using hn
        go_wp2_with fail
        first | go_end0 | ((try simp only [Exit.inBlock, Exit.then]); refine bodyPost_ret (results_none rfl _ _ _) rfl ?_)
        exact ⟨rfl, by rw [hun.out, hnl.out]; simpa [hn] using h1, g1⟩
  · have hpd : (j.ph != 3) = true := by simpa using hp
    have hun : j.unp 1 = j := by unfold JS.unp; rw [if_neg (fun q => hp q.1)]
    replace hun := Lib.hid hun
    go_wp2_with fail
    first | go_end0 | ((try simp only [Exit.inBlock, Exit.then]); refine bodyPost_ret (results_none rfl _ _ _) rfl ?_)
    exact ⟨rfl, by rw [hun.out]; exact hY, fY.mono (fun _ _ q => False.elim q)⟩

set_option maxHeartbeats 1000000 in
set_option maxRecDepth 10000 in
theorem unp_2 (p : Nat) (j : JS) (t jb : Int) (w : World) (h : Jb w p j) :
    Calls Tryz.prog 88 #[.pointer (some ⟨p, 0, none⟩), .agg #[.int .i64 2, .int .i64 t, .int .i64 jb]] w fun e w' => e = .returned (.tuple #[]) ∧ Jb w' p (j.unp 2) ∧ Fr (onlyB p) w w' := by
  have fX := (Fr.refl noB w).alloc (.cells #[.int .i64 2, .int .i64 t, .int .i64 jb] 71)
  have hX := h.frN fX
  have bX := Blk.new w 71 [.int .i64 2, .int .i64 t, .int .i64 jb]
  obtain ⟨wx, hwx⟩ : ∃ wx, wx = w.alloc (.cells #[.int .i64 2, .int .i64 t, .int .i64 jb] 71) := ⟨_, rfl⟩
  have e0 : (w.alloc (.cells #[.int .i64 2, .int .i64 t, .int .i64 jb] 71)).cell? ⟨w.heap.size, 0, none⟩ = some (.int .i64 2) := bX.cell 0
  go_enter Tryz.func88, Tryz.ntmps88
  go_upto_region 1 with fail
  rw [← hwx] at fX hX e0 ⊢
  clear hwx bX
  generalize w.heap.size = ob at *
  go_quiet (fail)
  have hY := hX.frN ((Fr.refl noB wx).drewN nq)
  have fY := fX.drewN nq
  generalize wx.drewN nq = wy at *
  clear hX fX e0
  have c0 : wy.cell? ⟨p, 22, none⟩ = some (.bool j.v2.v) := hY.cell 22
  have cp : wy.cell? ⟨p, 40, none⟩ = some (.int .i64 j.ph) := hY.cell 40
  have z2 : wy.frozen? ⟨p, 24, none⟩ = false := Blk.frozen hY 24
  have c2 : wy.cell? ⟨p, 24, none⟩ = some (.bool j.v2.f) := hY.cell 24
  by_cases hp : j.ph = 3
  · have hpd : (j.ph != 3) = false := by simp [hp]
    cases hv : j.v2.v with
    | false =>
      rw [hv] at c0
      have hun : j.unp 2 = j := by unfold JS.unp; rw [if_neg (fun q => by have q' : j.v2.v = true := q.2; rw [hv] at q'; cases q')]
      replace hun := Lib.hid hun
      go_wp2_with fail
      first | go_end0 | ((try simp only [Exit.inBlock, Exit.then]); refine bodyPost_ret (results_none rfl _ _ _) rfl ?_)
      exact ⟨rfl, by rw [hun.out]; exact hY, fY.mono (fun _ _ q => False.elim q)⟩
    | true =>
      rw [hv] at c0
      have hset : Jb (wy.setCell ⟨p, 24, none⟩ (.bool true)) p (j.upd 2 fun v => { v with f := true }) := hY.set 24 (.bool true) rfl
      have fS := fY.mono (T := onlyB p) (fun _ _ q => False.elim q) |>.seqB (fr_set (w := wy) (p := p) 24 (.bool true)) (fun _ => rfl)
      have hph : (j.upd 2 fun v => { v with f := true }).ph = 3 := hp
      have hun : j.unp 2 = if noneL (fun v => !v.f) (j.upd 2 fun v => { v with f := true }) then { (j.upd 2 fun v => { v with f := true }) with ph := 4 } else j.upd 2 fun v => { v with f := true } := by unfold JS.unp; rw [if_pos ⟨hp, hv⟩]
      replace hun := Lib.hid hun
      clear hv
      generalize (j.upd 2 fun v => { v with f := true }) = j1 at *
      have hw := which_free2 p j1 _ hset
      have hnl : noneL (fun v => !v.f) j1 = decide ((whichL (fun v => !v.f) j1 4).length = 0) := rfl
      generalize hL : whichL (fun v => !v.f) j1 4 = L at *
      generalize hl : L.length = n at *
      replace hnl := Lib.hid hnl
      clear hL hl
      go_wp2_with fail
      refine hw.mono ?_
      rintro e w1 ⟨v1, rfl, o1, f1⟩
      obtain ⟨a1, c1, rfl⟩ := ownsRow_slice o1
      have h1 := hset.frN f1
      have g1 := fS.seqN f1
      clear hw o1 hset fS
      by_cases hn : n = 0
      · subst hn
        have c4 : w1.cell? ⟨p, 40, none⟩ = some (.int .i64 j1.ph) := h1.cell 40
        have z4 : w1.frozen? ⟨p, 40, none⟩ = false := Blk.frozen h1 40
        have hs4 : Jb (w1.setCell ⟨p, 40, none⟩ (.int .i64 4)) p { j1 with ph := 4 } := h1.set 40 (.int .i64 4) rfl
        have g4 := g1.seqB (fr_set (w := w1) (p := p) 40 (.int .i64 4)) (fun _ => rfl)
        go_wp2_with fail
        first | go_end0 | ((try simp only [Exit.inBlock, Exit.then]); refine bodyPost_ret (results_none rfl _ _ _) rfl ?_)
        exact ⟨rfl, by rw [hun.out, hnl.out]; simpa using hs4, g4⟩
      · have hnd : ((n : Int) == 0) = false := by simpa using hn
        have hnd2 : decide (n = 0) = false := by simpa using hn
        go_wp2_with fail
        first | go_end0 | ((try simp only [Exit.inBlock, Exit.then]); refine bodyPost_ret (results_none rfl _ _ _) rfl ?_)
        exact ⟨rfl, by rw [hun.out, hnl.out]; simpa [hn] using h1, g1⟩
  · have hpd : (j.ph != 3) = true := by simpa using hp
    have hun : j.unp 2 = j := by unfold JS.unp; rw [if_neg (fun q => hp q.1)]
    replace hun := Lib.hid hun
    go_wp2_with fail
    first | go_end0 | ((try simp only [Exit.inBlock, Exit.then]); refine bodyPost_ret (results_none rfl _ _ _) rfl ?_)
    exact ⟨rfl, by rw [hun.out]; exact hY, fY.mono (fun _ _ q => False.elim q)⟩

set_option maxHeartbeats 1000000 in
set_option maxRecDepth 10000 in
theorem unp_3 (p : Nat) (j : JS) (t jb : Int) (w : World) (h : Jb w p j) :
    Calls Tryz.prog 88 #[.pointer (some ⟨p, 0, none⟩), .agg #[.int .i64 3, .int .i64 t, .int .i64 jb]] w fun e w' => e = .returned (.tuple #[]) ∧ Jb w' p (j.unp 3) ∧ Fr (onlyB p) w w' := by
  have fX := (Fr.refl noB w).alloc (.cells #[.int .i64 3, .int .i64 t, .int .i64 jb] 71)
  have hX := h.frN fX
  have bX := Blk.new w 71 [.int .i64 3, .int .i64 t, .int .i64 jb]
  obtain ⟨wx, hwx⟩ : ∃ wx, wx = w.alloc (.cells #[.int .i64 3, .int .i64 t, .int .i64 jb] 71) := ⟨_, rfl⟩
  have e0 : (w.alloc (.cells #[.int .i64 3, .int .i64 t, .int .i64 jb] 71)).cell? ⟨w.heap.size, 0, none⟩ = some (.int .i64 3) := bX.cell 0
  go_enter Tryz.func88, Tryz.ntmps88
  go_upto_region 1 with fail
  rw [← hwx] at fX hX e0 ⊢
  clear hwx bX
  generalize w.heap.size = ob at *
  go_quiet (fail)
  have hY := hX.frN ((Fr.refl noB wx).drewN nq)
  have fY := fX.drewN nq
  generalize wx.drewN nq = wy at *
  clear hX fX e0
  have c0 : wy.cell? ⟨p, 31, none⟩ = some (.bool j.v3.v) := hY.cell 31
  have cp : wy.cell? ⟨p, 40, none⟩ = some (.int .i64 j.ph) := hY.cell 40
  have z2 : wy.frozen? ⟨p, 33, none⟩ = false := Blk.frozen hY 33
  have c2 : wy.cell? ⟨p, 33, none⟩ = some (.bool j.v3.f) := hY.cell 33
  by_cases hp : j.ph = 3
  · have hpd : (j.ph != 3) = false := by simp [hp]
    cases hv : j.v3.v with
    | false =>
      rw [hv] at c0
      have hun : j.unp 3 = j := by unfold JS.unp; rw [if_neg (fun q => by have q' : j.v3.v = true := q.2; rw [hv] at q'; cases q')]
      replace hun := Lib.hid hun
      go_wp2_with fail
      first | go_end0 | ((try simp only [Exit.inBlock, Exit.then]); refine bodyPost_ret (results_none rfl _ _ _) rfl ?_)
      exact ⟨rfl, by rw [hun.out]; exact hY, fY.mono (fun _ _ q => False.elim q)⟩
    | true =>
      rw [hv] at c0
      have hset : Jb (wy.setCell ⟨p, 33, none⟩ (.bool true)) p (j.upd 3 fun v => { v with f := true }) := hY.set 33 (.bool true) rfl
      have fS := fY.mono (T := onlyB p) (fun _ _ q => False.elim q) |>.seqB (fr_set (w := wy) (p := p) 33 (.bool true)) (fun _ => rfl)
      have hph : (j.upd 3 fun v => { v with f := true }).ph = 3 := hp
      have hun : j.unp 3 = if noneL (fun v => !v.f) (j.upd 3 fun v => { v with f := true }) then { (j.upd 3 fun v => { v with f := true }) with ph := 4 } else j.upd 3 fun v => { v with f := true } := by unfold JS.unp; rw [if_pos ⟨hp, hv⟩]
      replace hun := Lib.hid hun
      clear hv
      generalize (j.upd 3 fun v => { v with f := true }) = j1 at *
      have hw := which_free2 p j1 _ hset
      have hnl : noneL (fun v => !v.f) j1 = decide ((whichL (fun v => !v.f) j1 4).length = 0) := rfl
      generalize hL : whichL (fun v => !v.f) j1 4 = L at *
      generalize hl : L.length = n at *
      replace hnl := Lib.hid hnl
      clear hL hl
      go_wp2_with fail
      refine hw.mono ?_
      rintro e w1 ⟨v1, rfl, o1, f1⟩
      obtain ⟨a1, c1, rfl⟩ := ownsRow_slice o1
      have h1 := hset.frN f1
      have g1 := fS.seqN f1
      clear hw o1 hset fS
      by_cases hn : n = 0
      · subst hn
        have c4 : w1.cell? ⟨p, 40, none⟩ = some (.int .i64 j1.ph) := h1.cell 40
        have z4 : w1.frozen? ⟨p, 40, none⟩ = false := Blk.frozen h1 40
        have hs4 : Jb (w1.setCell ⟨p, 40, none⟩ (.int .i64 4)) p { j1 with ph := 4 } := h1.set 40 (.int .i64 4) rfl
        have g4 := g1.seqB (fr_set (w := w1) (p := p) 40 (.int .i64 4)) (fun _ => rfl)
        go_wp2_with fail
        first | go_end0 | ((try simp only [Exit.inBlock, Exit.then]); refine bodyPost_ret (results_none rfl _ _ _) rfl ?_)
        exact ⟨rfl, by rw [hun.out, hnl.out]; simpa using hs4, g4⟩
      · have hnd : ((n : Int) == 0) = false := by simpa using hn
        have hnd2 : decide (n = 0) = false := by simpa using hn
        go_wp2_with fail
        first | go_end0 | ((try simp only [Exit.inBlock, Exit.then]); refine bodyPost_ret (results_none rfl _ _ _) rfl ?_)
        exact ⟨rfl, by rw [hun.out, hnl.out]; simpa [hn] using h1, g1⟩
  · have hpd : (j.ph != 3) = true := by simpa using hp
    have hun : j.unp 3 = j := by unfold JS.unp; rw [if_neg (fun q => hp q.1)]
    replace hun := Lib.hid hun
    go_wp2_with fail
    first | go_end0 | ((try simp only [Exit.inBlock, Exit.then]); refine bodyPost_ret (results_none rfl _ _ _) rfl ?_)
    exact ⟨rfl, by rw [hun.out]; exact hY, fY.mono (fun _ _ q => False.elim q)⟩
end Go.Proofs.YtidcoddefebdpaaGreat
