/-
  What a job does with a message: Gone; those that are not for it.
-/
import Derived.Test.YtidcoddefebdpaaGreatJobAwake2
set_option linter.unusedVariables false
set_option linter.unusedSimpArgs false
set_option maxRecDepth 100000
namespace Go.Proofs.YtidcoddefebdpaaGreat
open Go.RowKit Go Go.Lib

/-- an agent has let it go -/
def JS.gon (j : JS) (a : Nat) : JS := if (j.at a).v = true ∧ (j.ph = 1 ∨ j.ph = 2) then { j with ph := 3 } else j

set_option maxHeartbeats 1000000 in
set_option maxRecDepth 10000 in
theorem gone_0 (p : Nat) (j : JS) (t jb : Int) (w : World) (h : Jb w p j) :
    Calls Tryz.prog 73 #[.pointer (some ⟨p, 0, none⟩), mGone 0 t jb] w fun e w' => e = .returned (.tuple #[]) ∧ Fr (onlyB p) w w' ∧ Jb w' p (j.gon 0) := by
  unfold mGone
  have fX := (Fr.refl noB w).alloc (.cells #[.int .i64 0, .int .i64 t, .int .i64 jb] 95)
  have hX := h.frN fX
  have bX := Blk.new w 95 [.int .i64 0, .int .i64 t, .int .i64 jb]
  have q0 := as_Gone_Pinned
  have q1 := as_Gone_Gone
  obtain ⟨wx, hwx⟩ : ∃ wx, wx = w.alloc (.cells #[.int .i64 0, .int .i64 t, .int .i64 jb] 95) := ⟨_, rfl⟩
  have e0 : (w.alloc (.cells #[.int .i64 0, .int .i64 t, .int .i64 jb] 95)).cell? ⟨w.heap.size, 0, none⟩ = some (.int .i64 0) := bX.cell 0
  have c0 : (w.alloc (.cells #[.int .i64 0, .int .i64 t, .int .i64 jb] 95)).cell? ⟨p, 4, none⟩ = some (.bool j.v0.v) := hX.cell 4
  have cp : (w.alloc (.cells #[.int .i64 0, .int .i64 t, .int .i64 jb] 95)).cell? ⟨p, 40, none⟩ = some (.int .i64 j.ph) := hX.cell 40
  go_enter Tryz.func73, Tryz.ntmps73
  go_upto_region 6 with fail
  rw [← hwx] at fX hX e0 c0 cp ⊢
  clear hwx bX h q0 q1
  generalize w.heap.size = ob at *
  cases hv : j.v0.v with
  | false =>
    have hun : j.gon 0 = j := by unfold JS.gon; rw [if_neg (fun q => by have q' : j.v0.v = true := q.1; rw [hv] at q'; cases q')]
    rw [hv] at c0
    replace hun := Lib.hid hun
    replace hX := Lib.hid hX
    replace fX := Lib.hid fX
    go_quiet (fail)
    go_wp2_with fail
    first | go_end0 | ((try simp only [Exit.inBlock, Exit.then]); refine bodyPost_ret (results_none rfl _ _ _) rfl ?_)
    exact ⟨rfl, (fX.out.drewN _).mono (fun _ _ q => False.elim q), by rw [hun.out]; exact hX.out.frN ((Fr.refl noB wx).drewN _)⟩
  | true =>
    rw [hv] at c0
    by_cases hp : j.ph = 1 ∨ j.ph = 2
    · have hun : j.gon 0 = { j with ph := 3 } := if_pos ⟨hv, hp⟩
      rcases hp with hp | hp
      all_goals (
        have hpd : (j.ph == 1) = decide (j.ph = 1) := rfl
        replace hun := Lib.hid hun
        rw [hp] at cp
        replace hp := Lib.hid hp
        clear hpd
        replace hX := Lib.hid hX
        replace fX := Lib.hid fX
        go_quiet (fail)
        have hY := hX.out.frN ((Fr.refl noB wx).drewN nq)
        have fY := fX.out.drewN nq
        generalize wx.drewN nq = wy at *
        have z4 : wy.frozen? ⟨p, 40, none⟩ = false := Blk.frozen hY 40
        have cp4 : wy.cell? ⟨p, 40, none⟩ = some (.int .i64 j.ph) := hY.cell 40
        have hs4 : Jb (wy.setCell ⟨p, 40, none⟩ (.int .i64 3)) p { j with ph := 3 } := hY.set 40 (.int .i64 3) rfl
        have g4 := (fY.mono (T := onlyB p) (fun _ _ q => False.elim q)).seqB (fr_set (w := wy) (p := p) 40 (.int .i64 3)) (fun _ => rfl)
        rw [hp.out] at cp4
        replace hs4 := Lib.hid hs4
        replace g4 := Lib.hid g4
        clear hY fY hX fX e0 c0 cp
        go_wp2_with fail
        first | go_end0 | ((try simp only [Exit.inBlock, Exit.then]); refine bodyPost_ret (results_none rfl _ _ _) rfl ?_)
        exact ⟨rfl, g4.out, by rw [hun.out]; exact hs4.out⟩)
    · have hun : j.gon 0 = j := by unfold JS.gon; rw [if_neg (fun q => hp q.2)]
      have hp1 : (j.ph == 1) = false := by simp; omega
      have hp2 : (j.ph == 2) = false := by simp; omega
      replace hun := Lib.hid hun
      replace hX := Lib.hid hX
      replace fX := Lib.hid fX
      clear hp
      go_quiet (fail)
      go_wp2_with fail
      first | go_end0 | ((try simp only [Exit.inBlock, Exit.then]); refine bodyPost_ret (results_none rfl _ _ _) rfl ?_)
      exact ⟨rfl, (fX.out.drewN _).mono (fun _ _ q => False.elim q), by rw [hun.out]; exact hX.out.frN ((Fr.refl noB wx).drewN _)⟩

set_option maxHeartbeats 1000000 in
set_option maxRecDepth 10000 in
theorem gone_1 (p : Nat) (j : JS) (t jb : Int) (w : World) (h : Jb w p j) :
    Calls Tryz.prog 73 #[.pointer (some ⟨p, 0, none⟩), mGone 1 t jb] w fun e w' => e = .returned (.tuple #[]) ∧ Fr (onlyB p) w w' ∧ Jb w' p (j.gon 1) := by
  unfold mGone
  have fX := (Fr.refl noB w).alloc (.cells #[.int .i64 1, .int .i64 t, .int .i64 jb] 95)
  have hX := h.frN fX
  have bX := Blk.new w 95 [.int .i64 1, .int .i64 t, .int .i64 jb]
  have q0 := as_Gone_Pinned
  have q1 := as_Gone_Gone
  obtain ⟨wx, hwx⟩ : ∃ wx, wx = w.alloc (.cells #[.int .i64 1, .int .i64 t, .int .i64 jb] 95) := ⟨_, rfl⟩
  have e0 : (w.alloc (.cells #[.int .i64 1, .int .i64 t, .int .i64 jb] 95)).cell? ⟨w.heap.size, 0, none⟩ = some (.int .i64 1) := bX.cell 0
  have c0 : (w.alloc (.cells #[.int .i64 1, .int .i64 t, .int .i64 jb] 95)).cell? ⟨p, 13, none⟩ = some (.bool j.v1.v) := hX.cell 13
  have cp : (w.alloc (.cells #[.int .i64 1, .int .i64 t, .int .i64 jb] 95)).cell? ⟨p, 40, none⟩ = some (.int .i64 j.ph) := hX.cell 40
  go_enter Tryz.func73, Tryz.ntmps73
  go_upto_region 6 with fail
  rw [← hwx] at fX hX e0 c0 cp ⊢
  clear hwx bX h q0 q1
  generalize w.heap.size = ob at *
  cases hv : j.v1.v with
  | false =>
    have hun : j.gon 1 = j := by unfold JS.gon; rw [if_neg (fun q => by have q' : j.v1.v = true := q.1; rw [hv] at q'; cases q')]
    rw [hv] at c0
    replace hun := Lib.hid hun
    replace hX := Lib.hid hX
    replace fX := Lib.hid fX
    go_quiet (fail)
    go_wp2_with fail
    first | go_end0 | ((try simp only [Exit.inBlock, Exit.then]); refine bodyPost_ret (results_none rfl _ _ _) rfl ?_)
    exact ⟨rfl, (fX.out.drewN _).mono (fun _ _ q => False.elim q), by rw [hun.out]; exact hX.out.frN ((Fr.refl noB wx).drewN _)⟩
  | true =>
    rw [hv] at c0
    by_cases hp : j.ph = 1 ∨ j.ph = 2
    · have hun : j.gon 1 = { j with ph := 3 } := if_pos ⟨hv, hp⟩
      rcases hp with hp | hp
      all_goals (
        have hpd : (j.ph == 1) = decide (j.ph = 1) := rfl
        replace hun := Lib.hid hun
        rw [hp] at cp
        replace hp := Lib.hid hp
        clear hpd
        replace hX := Lib.hid hX
        replace fX := Lib.hid fX
        go_quiet (fail)
        have hY := hX.out.frN ((Fr.refl noB wx).drewN nq)
        have fY := fX.out.drewN nq
        generalize wx.drewN nq = wy at *
        have z4 : wy.frozen? ⟨p, 40, none⟩ = false := Blk.frozen hY 40
        have cp4 : wy.cell? ⟨p, 40, none⟩ = some (.int .i64 j.ph) := hY.cell 40
        have hs4 : Jb (wy.setCell ⟨p, 40, none⟩ (.int .i64 3)) p { j with ph := 3 } := hY.set 40 (.int .i64 3) rfl
        have g4 := (fY.mono (T := onlyB p) (fun _ _ q => False.elim q)).seqB (fr_set (w := wy) (p := p) 40 (.int .i64 3)) (fun _ => rfl)
        rw [hp.out] at cp4
        replace hs4 := Lib.hid hs4
        replace g4 := Lib.hid g4
        clear hY fY hX fX e0 c0 cp
        go_wp2_with fail
        first | go_end0 | ((try simp only [Exit.inBlock, Exit.then]); refine bodyPost_ret (results_none rfl _ _ _) rfl ?_)
        exact ⟨rfl, g4.out, by rw [hun.out]; exact hs4.out⟩)
    · have hun : j.gon 1 = j := by unfold JS.gon; rw [if_neg (fun q => hp q.2)]
      have hp1 : (j.ph == 1) = false := by simp; omega
      have hp2 : (j.ph == 2) = false := by simp; omega
      replace hun := Lib.hid hun
      replace hX := Lib.hid hX
      replace fX := Lib.hid fX
      clear hp
      go_quiet (fail)
      go_wp2_with fail
      first | go_end0 | ((try simp only [Exit.inBlock, Exit.then]); refine bodyPost_ret (results_none rfl _ _ _) rfl ?_)
      exact ⟨rfl, (fX.out.drewN _).mono (fun _ _ q => False.elim q), by rw [hun.out]; exact hX.out.frN ((Fr.refl noB wx).drewN _)⟩

set_option maxHeartbeats 1000000 in
set_option maxRecDepth 10000 in
theorem gone_2 (p : Nat) (j : JS) (t jb : Int) (w : World) (h : Jb w p j) :
    Calls Tryz.prog 73 #[.pointer (some ⟨p, 0, none⟩), mGone 2 t jb] w fun e w' => e = .returned (.tuple #[]) ∧ Fr (onlyB p) w w' ∧ Jb w' p (j.gon 2) := by
  unfold mGone
  have fX := (Fr.refl noB w).alloc (.cells #[.int .i64 2, .int .i64 t, .int .i64 jb] 95)
  have hX := h.frN fX
  have bX := Blk.new w 95 [.int .i64 2, .int .i64 t, .int .i64 jb]
  have q0 := as_Gone_Pinned
  have q1 := as_Gone_Gone
  obtain ⟨wx, hwx⟩ : ∃ wx, wx = w.alloc (.cells #[.int .i64 2, .int .i64 t, .int .i64 jb] 95) := ⟨_, rfl⟩
  have e0 : (w.alloc (.cells #[.int .i64 2, .int .i64 t, .int .i64 jb] 95)).cell? ⟨w.heap.size, 0, none⟩ = some (.int .i64 2) := bX.cell 0
  have c0 : (w.alloc (.cells #[.int .i64 2, .int .i64 t, .int .i64 jb] 95)).cell? ⟨p, 22, none⟩ = some (.bool j.v2.v) := hX.cell 22
  have cp : (w.alloc (.cells #[.int .i64 2, .int .i64 t, .int .i64 jb] 95)).cell? ⟨p, 40, none⟩ = some (.int .i64 j.ph) := hX.cell 40
  go_enter Tryz.func73, Tryz.ntmps73
  go_upto_region 6 with fail
  rw [← hwx] at fX hX e0 c0 cp ⊢
  clear hwx bX h q0 q1
  generalize w.heap.size = ob at *
  cases hv : j.v2.v with
  | false =>
    have hun : j.gon 2 = j := by unfold JS.gon; rw [if_neg (fun q => by have q' : j.v2.v = true := q.1; rw [hv] at q'; cases q')]
    rw [hv] at c0
    replace hun := Lib.hid hun
    replace hX := Lib.hid hX
    replace fX := Lib.hid fX
    go_quiet (fail)
    go_wp2_with fail
    first | go_end0 | ((try simp only [Exit.inBlock, Exit.then]); refine bodyPost_ret (results_none rfl _ _ _) rfl ?_)
    exact ⟨rfl, (fX.out.drewN _).mono (fun _ _ q => False.elim q), by rw [hun.out]; exact hX.out.frN ((Fr.refl noB wx).drewN _)⟩
  | true =>
    rw [hv] at c0
    by_cases hp : j.ph = 1 ∨ j.ph = 2
    · have hun : j.gon 2 = { j with ph := 3 } := if_pos ⟨hv, hp⟩
      rcases hp with hp | hp
      all_goals (
        have hpd : (j.ph == 1) = decide (j.ph = 1) := rfl
        replace hun := Lib.hid hun
        rw [hp] at cp
        replace hp := Lib.hid hp
        clear hpd
        replace hX := Lib.hid hX
        replace fX := Lib.hid fX
        go_quiet (fail)
        have hY := hX.out.frN ((Fr.refl noB wx).drewN nq)
        have fY := fX.out.drewN nq
        generalize wx.drewN nq = wy at *
        have z4 : wy.frozen? ⟨p, 40, none⟩ = false := Blk.frozen hY 40
        have cp4 : wy.cell? ⟨p, 40, none⟩ = some (.int .i64 j.ph) := hY.cell 40
        have hs4 : Jb (wy.setCell ⟨p, 40, none⟩ (.int .i64 3)) p { j with ph := 3 } := hY.set 40 (.int .i64 3) rfl
        have g4 := (fY.mono (T := onlyB p) (fun _ _ q => False.elim q)).seqB (fr_set (w := wy) (p := p) 40 (.int .i64 3)) (fun _ => rfl)
        rw [hp.out] at cp4
        replace hs4 := Lib.hid hs4
        replace g4 := Lib.hid g4
        clear hY fY hX fX e0 c0 cp
        go_wp2_with fail
        first | go_end0 | ((try simp only [Exit.inBlock, Exit.then]); refine bodyPost_ret (results_none rfl _ _ _) rfl ?_)
        exact ⟨rfl, g4.out, by rw [hun.out]; exact hs4.out⟩)
    · have hun : j.gon 2 = j := by unfold JS.gon; rw [if_neg (fun q => hp q.2)]
      have hp1 : (j.ph == 1) = false := by simp; omega
      have hp2 : (j.ph == 2) = false := by simp; omega
      replace hun := Lib.hid hun
      replace hX := Lib.hid hX
      replace fX := Lib.hid fX
      clear hp
      go_quiet (fail)
      go_wp2_with fail
      first | go_end0 | ((try simp only [Exit.inBlock, Exit.then]); refine bodyPost_ret (results_none rfl _ _ _) rfl ?_)
      exact ⟨rfl, (fX.out.drewN _).mono (fun _ _ q => False.elim q), by rw [hun.out]; exact hX.out.frN ((Fr.refl noB wx).drewN _)⟩

set_option maxHeartbeats 1000000 in
set_option maxRecDepth 10000 in
theorem gone_3 (p : Nat) (j : JS) (t jb : Int) (w : World) (h : Jb w p j) :
    Calls Tryz.prog 73 #[.pointer (some ⟨p, 0, none⟩), mGone 3 t jb] w fun e w' => e = .returned (.tuple #[]) ∧ Fr (onlyB p) w w' ∧ Jb w' p (j.gon 3) := by
  unfold mGone
  have fX := (Fr.refl noB w).alloc (.cells #[.int .i64 3, .int .i64 t, .int .i64 jb] 95)
  have hX := h.frN fX
  have bX := Blk.new w 95 [.int .i64 3, .int .i64 t, .int .i64 jb]
  have q0 := as_Gone_Pinned
  have q1 := as_Gone_Gone
  obtain ⟨wx, hwx⟩ : ∃ wx, wx = w.alloc (.cells #[.int .i64 3, .int .i64 t, .int .i64 jb] 95) := ⟨_, rfl⟩
  have e0 : (w.alloc (.cells #[.int .i64 3, .int .i64 t, .int .i64 jb] 95)).cell? ⟨w.heap.size, 0, none⟩ = some (.int .i64 3) := bX.cell 0
  have c0 : (w.alloc (.cells #[.int .i64 3, .int .i64 t, .int .i64 jb] 95)).cell? ⟨p, 31, none⟩ = some (.bool j.v3.v) := hX.cell 31
  have cp : (w.alloc (.cells #[.int .i64 3, .int .i64 t, .int .i64 jb] 95)).cell? ⟨p, 40, none⟩ = some (.int .i64 j.ph) := hX.cell 40
  go_enter Tryz.func73, Tryz.ntmps73
  go_upto_region 6 with fail
  rw [← hwx] at fX hX e0 c0 cp ⊢
  clear hwx bX h q0 q1
  generalize w.heap.size = ob at *
  cases hv : j.v3.v with
  | false =>
    have hun : j.gon 3 = j := by unfold JS.gon; rw [if_neg (fun q => by have q' : j.v3.v = true := q.1; rw [hv] at q'; cases q')]
    rw [hv] at c0
    replace hun := Lib.hid hun
    replace hX := Lib.hid hX
    replace fX := Lib.hid fX
    go_quiet (fail)
    go_wp2_with fail
    first | go_end0 | ((try simp only [Exit.inBlock, Exit.then]); refine bodyPost_ret (results_none rfl _ _ _) rfl ?_)
    exact ⟨rfl, (fX.out.drewN _).mono (fun _ _ q => False.elim q), by rw [hun.out]; exact hX.out.frN ((Fr.refl noB wx).drewN _)⟩
  | true =>
    rw [hv] at c0
    by_cases hp : j.ph = 1 ∨ j.ph = 2
    · have hun : j.gon 3 = { j with ph := 3 } := if_pos ⟨hv, hp⟩
      rcases hp with hp | hp
      all_goals (
        have hpd : (j.ph == 1) = decide (j.ph = 1) := rfl
        replace hun := Lib.hid hun
        rw [hp] at cp
        replace hp := Lib.hid hp
        clear hpd
        replace hX := Lib.hid hX
        replace fX := Lib.hid fX
        go_quiet (fail)
        have hY := hX.out.frN ((Fr.refl noB wx).drewN nq)
        have fY := fX.out.drewN nq
        generalize wx.drewN nq = wy at *
        have z4 : wy.frozen? ⟨p, 40, none⟩ = false := Blk.frozen hY 40
        have cp4 : wy.cell? ⟨p, 40, none⟩ = some (.int .i64 j.ph) := hY.cell 40
        have hs4 : Jb (wy.setCell ⟨p, 40, none⟩ (.int .i64 3)) p { j with ph := 3 } := hY.set 40 (.int .i64 3) rfl
        have g4 := (fY.mono (T := onlyB p) (fun _ _ q => False.elim q)).seqB (fr_set (w := wy) (p := p) 40 (.int .i64 3)) (fun _ => rfl)
        rw [hp.out] at cp4
        replace hs4 := Lib.hid hs4
        replace g4 := Lib.hid g4
        clear hY fY hX fX e0 c0 cp
        go_wp2_with fail
        first | go_end0 | ((try simp only [Exit.inBlock, Exit.then]); refine bodyPost_ret (results_none rfl _ _ _) rfl ?_)
        exact ⟨rfl, g4.out, by rw [hun.out]; exact hs4.out⟩)
    · have hun : j.gon 3 = j := by unfold JS.gon; rw [if_neg (fun q => hp q.2)]
      have hp1 : (j.ph == 1) = false := by simp; omega
      have hp2 : (j.ph == 2) = false := by simp; omega
      replace hun := Lib.hid hun
      replace hX := Lib.hid hX
      replace fX := Lib.hid fX
      clear hp
      go_quiet (fail)
      go_wp2_with fail
      first | go_end0 | ((try simp only [Exit.inBlock, Exit.then]); refine bodyPost_ret (results_none rfl _ _ _) rfl ?_)
      exact ⟨rfl, (fX.out.drewN _).mono (fun _ _ q => False.elim q), by rw [hun.out]; exact hX.out.frN ((Fr.refl noB wx).drewN _)⟩
theorem take_Gone (p : Nat) (j : JS) (a t jb : Int) (w : World) (h : Jb w p j) (ha0 : 0 ≤ a) (ha3 : a ≤ 3) :
    Calls Tryz.prog 73 #[.pointer (some ⟨p, 0, none⟩), mGone a t jb] w fun e w' => e = .returned (.tuple #[]) ∧ Fr (onlyB p) w w' ∧ Jb w' p (j.gon a.toNat) := by
  rcases (show a = 0 ∨ a = 1 ∨ a = 2 ∨ a = 3 by omega) with rfl | rfl | rfl | rfl
  · exact gone_0 p j t jb w h
  · exact gone_1 p j t jb w h
  · exact gone_2 p j t jb w h
  · exact gone_3 p j t jb w h

set_option maxHeartbeats 1000000 in
set_option maxRecDepth 10000 in
theorem take_Trigger (p : Nat) (a t c : Int) (w : World) :
    Calls Tryz.prog 73 #[.pointer (some ⟨p, 0, none⟩), mTrigger a t c] w fun e w' => e = .returned (.tuple #[]) ∧ Fr noB w w' := by
  unfold mTrigger
  have q0 := as_Trigger_Pinned
  have q1 := as_Trigger_Gone
  have q2 := as_Trigger_Stored
  have q3 := as_Trigger_Unpinned
  go_enter Tryz.func73, Tryz.ntmps73
  go_wp2_with fail
  first | go_end0 | ((try simp only [Exit.inBlock, Exit.then]); refine bodyPost_ret (results_none rfl _ _ _) rfl ?_)
  exact ⟨rfl, Fr.refl _ _⟩

set_option maxHeartbeats 1000000 in
set_option maxRecDepth 10000 in
theorem take_Pin (p : Nat) (t j : Int) (w : World) :
    Calls Tryz.prog 73 #[.pointer (some ⟨p, 0, none⟩), mPin t j] w fun e w' => e = .returned (.tuple #[]) ∧ Fr noB w w' := by
  unfold mPin
  have q0 := as_Pin_Pinned
  have q1 := as_Pin_Gone
  have q2 := as_Pin_Stored
  have q3 := as_Pin_Unpinned
  go_enter Tryz.func73, Tryz.ntmps73
  go_wp2_with fail
  first | go_end0 | ((try simp only [Exit.inBlock, Exit.then]); refine bodyPost_ret (results_none rfl _ _ _) rfl ?_)
  exact ⟨rfl, Fr.refl _ _⟩

set_option maxHeartbeats 1000000 in
set_option maxRecDepth 10000 in
theorem take_Collect (p : Nat) (t j : Int) (w : World) :
    Calls Tryz.prog 73 #[.pointer (some ⟨p, 0, none⟩), mCollect t j] w fun e w' => e = .returned (.tuple #[]) ∧ Fr noB w w' := by
  unfold mCollect
  have q0 := as_Collect_Pinned
  have q1 := as_Collect_Gone
  have q2 := as_Collect_Stored
  have q3 := as_Collect_Unpinned
  go_enter Tryz.func73, Tryz.ntmps73
  go_wp2_with fail
  first | go_end0 | ((try simp only [Exit.inBlock, Exit.then]); refine bodyPost_ret (results_none rfl _ _ _) rfl ?_)
  exact ⟨rfl, Fr.refl _ _⟩

set_option maxHeartbeats 1000000 in
set_option maxRecDepth 10000 in
theorem take_Chunk (p : Nat) (a t j i n : Int) (sa : Option Addr) (sn sc : Nat) (w : World) :
    Calls Tryz.prog 73 #[.pointer (some ⟨p, 0, none⟩), mChunk a t j i n (.slice sa sn sc)] w fun e w' => e = .returned (.tuple #[]) ∧ Fr noB w w' := by
  unfold mChunk
  have q0 := as_Chunk_Pinned
  have q1 := as_Chunk_Gone
  have q2 := as_Chunk_Stored
  have q3 := as_Chunk_Unpinned
  go_enter Tryz.func73, Tryz.ntmps73
  go_wp2_with fail
  first | go_end0 | ((try simp only [Exit.inBlock, Exit.then]); refine bodyPost_ret (results_none rfl _ _ _) rfl ?_)
  exact ⟨rfl, Fr.refl _ _⟩

set_option maxHeartbeats 1000000 in
set_option maxRecDepth 10000 in
theorem take_Manifest (p : Nat) (t j c : Int) (sa : Option Addr) (sn sc : Nat) (w : World) :
    Calls Tryz.prog 73 #[.pointer (some ⟨p, 0, none⟩), mManifest t j c (.slice sa sn sc)] w fun e w' => e = .returned (.tuple #[]) ∧ Fr noB w w' := by
  unfold mManifest
  have q0 := as_Manifest_Pinned
  have q1 := as_Manifest_Gone
  have q2 := as_Manifest_Stored
  have q3 := as_Manifest_Unpinned
  go_enter Tryz.func73, Tryz.ntmps73
  go_wp2_with fail
  first | go_end0 | ((try simp only [Exit.inBlock, Exit.then]); refine bodyPost_ret (results_none rfl _ _ _) rfl ?_)
  exact ⟨rfl, Fr.refl _ _⟩

set_option maxHeartbeats 1000000 in
set_option maxRecDepth 10000 in
theorem take_Unpin (p : Nat) (t j : Int) (w : World) :
    Calls Tryz.prog 73 #[.pointer (some ⟨p, 0, none⟩), mUnpin t j] w fun e w' => e = .returned (.tuple #[]) ∧ Fr noB w w' := by
  unfold mUnpin
  have q0 := as_Unpin_Pinned
  have q1 := as_Unpin_Gone
  have q2 := as_Unpin_Stored
  have q3 := as_Unpin_Unpinned
  go_enter Tryz.func73, Tryz.ntmps73
  go_wp2_with fail
  first | go_end0 | ((try simp only [Exit.inBlock, Exit.then]); refine bodyPost_ret (results_none rfl _ _ _) rfl ?_)
  exact ⟨rfl, Fr.refl _ _⟩
end Go.Proofs.YtidcoddefebdpaaGreat
