/-
  A job hears a message.
-/
import Derived.Test.YtidcoddefebdpaaGreatJobPin
set_option linter.unusedVariables false
set_option linter.unusedSimpArgs false
set_option maxRecDepth 100000
namespace Go.Proofs.YtidcoddefebdpaaGreat
open Go.RowKit Go Go.Lib

/-- what a Pinned that a job takes leaves -/
def PinPost (p : Nat) (j : JS) (a t jb ct : Int) (lo : Bool) (xs : List Int) (w w' : World) : Prop :=
  ((j.ph ≠ 1 ∨ (j.at a.toNat).v = false ∨ (j.at a.toNat).p = true) ∧ Jb w' p j) ∨
  ((j.ph = 1 ∧ (j.at a.toNat).v = true ∧ (j.at a.toNat).p = false) ∧ ∃ ta tc, RdI w' (.slice ta xs.length tc) xs ∧ (∀ g o, ta = some ⟨g, o, none⟩ → w.heap.size ≤ g) ∧ Jb w' p (j.pin a.toNat ⟨a, t, jb, ct, ta, xs.length, tc, lo⟩ xs))
theorem takePinned_any (p : Nat) (j : JS) (a t jb ct : Int) (sa : Option Addr) (sc : Nat) (lo : Bool) (xs : List Int) (w : World) (h : Jb w p j) (hx : RdI w (.slice sa xs.length sc) xs) (hr : ∀ x ∈ xs, 0 ≤ x ∧ x ≤ 3) (hl : xs.length ≤ 4) (hag : j.ag ≤ 4) (hxp : xs ≠ [] → ∀ g o, sa = some ⟨g, o, none⟩ → g ≠ p) (ha0 : 0 ≤ a) (ha3 : a ≤ 3) :
    Calls Tryz.prog 87 #[.pointer (some ⟨p, 0, none⟩), .agg #[.int .i64 a, .int .i64 t, .int .i64 jb, .int .i64 ct, .slice sa xs.length sc, .bool lo]] w fun e w' => e = .returned (.tuple #[]) ∧ Fr (onlyB p) w w' ∧ PinPost p j a t jb ct lo xs w w' := by
  rcases (show a = 0 ∨ a = 1 ∨ a = 2 ∨ a = 3 by omega) with rfl | rfl | rfl | rfl
  · exact pin_0 p j t jb ct sa sc lo xs w h hx hr hl hag hxp
  · exact pin_1 p j t jb ct sa sc lo xs w h hx hr hl hag hxp
  · exact pin_2 p j t jb ct sa sc lo xs w h hx hr hl hag hxp
  · exact pin_3 p j t jb ct sa sc lo xs w h hx hr hl hag hxp
theorem takeUnpinned_any (p : Nat) (j : JS) (a t jb : Int) (w : World) (h : Jb w p j) (ha0 : 0 ≤ a) (ha3 : a ≤ 3) :
    Calls Tryz.prog 88 #[.pointer (some ⟨p, 0, none⟩), .agg #[.int .i64 a, .int .i64 t, .int .i64 jb]] w fun e w' => e = .returned (.tuple #[]) ∧ Jb w' p (j.unp a.toNat) ∧ Fr (onlyB p) w w' := by
  rcases (show a = 0 ∨ a = 1 ∨ a = 2 ∨ a = 3 by omega) with rfl | rfl | rfl | rfl
  · exact unp_0 p j t jb w h
  · exact unp_1 p j t jb w h
  · exact unp_2 p j t jb w h
  · exact unp_3 p j t jb w h

theorem risB_mem : ∀ (xs : List Int) (l : Int), risB l xs = true → ∀ x ∈ xs, 0 ≤ x ∧ x ≤ 3 ∧ l < x
  | [], _, _, x, hx => by cases hx
  | a :: r, l, h, x, hx => by
    unfold risB inB at h
    simp only [Bool.and_eq_true, decide_eq_true_eq] at h
    rcases List.mem_cons.1 hx with rfl | hx
    · exact ⟨h.1.1.1, h.1.1.2, h.1.2⟩
    · have := risB_mem r a h.2 x hx
      exact ⟨this.1, this.2.1, by omega⟩
theorem risB_len : ∀ (xs : List Int) (l : Int), -1 ≤ l → l ≤ 3 → risB l xs = true → (xs.length : Int) ≤ 3 - l
  | [], l, h0, h1, _ => by simp; omega
  | a :: r, l, h0, h1, h => by
    unfold risB inB at h
    simp only [Bool.and_eq_true, decide_eq_true_eq] at h
    have := risB_len r a (by omega) h.1.1.2 h.2
    simp only [List.length_cons]
    omega
theorem pinB_facts {a t j c : Int} {xs : List Int} (h : pinB a t j c xs = true) : (0 ≤ a ∧ a ≤ 3) ∧ (∀ x ∈ xs, 0 ≤ x ∧ x ≤ 3) ∧ xs.length ≤ 4 := by
  unfold pinB inB at h
  simp only [Bool.and_eq_true, decide_eq_true_eq] at h
  refine ⟨h.1, fun x hx => ?_, ?_⟩
  · have := risB_mem xs (-1) h.2.2.2.2.2 x hx; exact ⟨this.1, this.2.1⟩
  · have := risB_len xs (-1) (by omega) (by omega) h.2.2.2.2.2; omega

set_option maxHeartbeats 1000000 in
set_option maxRecDepth 10000 in
theorem take_Pinned (p : Nat) (j : JS) (a t jb ct : Int) (sa : Option Addr) (sc : Nat) (lo : Bool) (xs : List Int) (w : World) (h : Jb w p j) (hx : RdI w (.slice sa xs.length sc) xs) (hr : ∀ x ∈ xs, 0 ≤ x ∧ x ≤ 3) (hl : xs.length ≤ 4) (hag : j.ag ≤ 4) (hxp : xs ≠ [] → ∀ g o, sa = some ⟨g, o, none⟩ → g ≠ p) (ha0 : 0 ≤ a) (ha3 : a ≤ 3) :
    Calls Tryz.prog 73 #[.pointer (some ⟨p, 0, none⟩), mPinned a t jb ct (.slice sa xs.length sc) lo] w fun e w' => e = .returned (.tuple #[]) ∧ Fr (onlyB p) w w' ∧ PinPost p j a t jb ct lo xs w w' := by
  unfold mPinned
  have fX := (Fr.refl noB w).alloc (.cells #[.int .i64 a, .int .i64 t, .int .i64 jb, .int .i64 ct, .slice sa xs.length sc, .bool lo] 67)
  have hp := takePinned_any p j a t jb ct sa sc lo xs _ (h.frN fX) (hx.fr fX (fun _ _ _ _ _ q => q)) hr hl hag hxp ha0 ha3
  have q0 := as_Pinned_Pinned
  have q1 := as_Pinned_Gone
  have q2 := as_Pinned_Stored
  have q3 := as_Pinned_Unpinned
  replace fX := Lib.hid fX
  clear hx h
  obtain ⟨sn, hsn⟩ : ∃ sn, sn = xs.length := ⟨_, rfl⟩
  rw [← hsn] at hp fX ⊢
  replace hsn := Lib.hid hsn
  replace hp := Lib.hid hp
  go_enter Tryz.func73, Tryz.ntmps73
  go_wp2_with fail
  refine hp.out.mono ?_
  rintro e w1 ⟨rfl, f1, h1⟩
  have g1 := Lib.hid ((fX.out.mono (T := onlyB p) (fun _ _ q => False.elim q)).seqB f1 (fun _ => rfl))
  have h1' : Hid (PinPost p j a t jb ct lo xs w w1) := Lib.hid (by
    rcases h1 with h1 | ⟨hc, ta, tc, q1, q2, q3⟩
    · exact Or.inl h1
    · exact Or.inr ⟨hc, ta, tc, q1, fun g o e => by have := q2 g o e; have := fX.out.size; omega, q3⟩)
  clear h1 f1 hp fX
  go_wp2_with fail
  first | go_end0 | ((try simp only [Exit.inBlock, Exit.then]); refine bodyPost_ret (results_none rfl _ _ _) rfl ?_)
  exact ⟨rfl, g1.out, h1'.out⟩

set_option maxHeartbeats 1000000 in
set_option maxRecDepth 10000 in
theorem take_Unpinned (p : Nat) (j : JS) (a t jb : Int) (w : World) (h : Jb w p j) (ha0 : 0 ≤ a) (ha3 : a ≤ 3) :
    Calls Tryz.prog 73 #[.pointer (some ⟨p, 0, none⟩), mUnpinned a t jb] w fun e w' => e = .returned (.tuple #[]) ∧ Fr (onlyB p) w w' ∧ Jb w' p (j.unp a.toNat) := by
  unfold mUnpinned
  have fX := (Fr.refl noB w).alloc (.cells #[.int .i64 a, .int .i64 t, .int .i64 jb] 71)
  have hp := takeUnpinned_any p j a t jb _ (h.frN fX) ha0 ha3
  have q0 := as_Unpinned_Pinned
  have q1 := as_Unpinned_Gone
  have q2 := as_Unpinned_Stored
  have q3 := as_Unpinned_Unpinned
  replace fX := Lib.hid fX
  clear h
  replace hp := Lib.hid hp
  go_enter Tryz.func73, Tryz.ntmps73
  go_wp2_with fail
  refine hp.out.mono ?_
  rintro e w1 ⟨rfl, h1, f1⟩
  have g1 := Lib.hid ((fX.out.mono (T := onlyB p) (fun _ _ q => False.elim q)).seqB f1 (fun _ => rfl))
  replace h1 := Lib.hid h1
  clear f1 hp fX
  go_wp2_with fail
  first | go_end0 | ((try simp only [Exit.inBlock, Exit.then]); refine bodyPost_ret (results_none rfl _ _ _) rfl ?_)
  exact ⟨rfl, g1.out, h1.out⟩

/-- it is kept -/
def JS.sto (j : JS) : JS := if j.ph = 2 ∨ j.ph = 3 then { j with st := true, ph := 3 } else j
set_option maxHeartbeats 1000000 in
set_option maxRecDepth 10000 in
theorem take_Stored (p : Nat) (j : JS) (t jb : Int) (w : World) (h : Jb w p j) :
    Calls Tryz.prog 73 #[.pointer (some ⟨p, 0, none⟩), mStored t jb] w fun e w' => e = .returned (.tuple #[]) ∧ Fr (onlyB p) w w' ∧ Jb w' p j.sto := by
  unfold mStored
  have fX := (Fr.refl noB w).alloc (.cells #[.int .i64 t, .int .i64 jb] 69)
  have hX := h.frN fX
  have c40 : (w.alloc (.cells #[.int .i64 t, .int .i64 jb] 69)).cell? ⟨p, 40, none⟩ = some (.int .i64 j.ph) := hX.cell 40
  have q0 := as_Stored_Pinned
  have q1 := as_Stored_Gone
  have q2 := as_Stored_Stored
  clear h
  by_cases hp : j.ph = 2 ∨ j.ph = 3
  · have hs : j.sto = { j with st := true, ph := 3 } := if_pos hp
    have c41 : (w.alloc (.cells #[.int .i64 t, .int .i64 jb] 69)).cell? ⟨p, 41, none⟩ = some (.bool j.st) := hX.cell 41
    have z41 : (w.alloc (.cells #[.int .i64 t, .int .i64 jb] 69)).frozen? ⟨p, 41, none⟩ = false := Blk.frozen hX 41
    have h1 : Jb ((w.alloc (.cells #[.int .i64 t, .int .i64 jb] 69)).setCell ⟨p, 41, none⟩ (.bool true)) p { j with st := true } := hX.set 41 (.bool true) rfl
    have d40 : ((w.alloc (.cells #[.int .i64 t, .int .i64 jb] 69)).setCell ⟨p, 41, none⟩ (.bool true)).cell? ⟨p, 40, none⟩ = some (.int .i64 j.ph) := h1.cell 40
    have z40 : ((w.alloc (.cells #[.int .i64 t, .int .i64 jb] 69)).setCell ⟨p, 41, none⟩ (.bool true)).frozen? ⟨p, 40, none⟩ = false := Blk.frozen h1 40
    have h2 : Jb (((w.alloc (.cells #[.int .i64 t, .int .i64 jb] 69)).setCell ⟨p, 41, none⟩ (.bool true)).setCell ⟨p, 40, none⟩ (.int .i64 3)) p { j with st := true, ph := 3 } := h1.set 40 (.int .i64 3) rfl
    have f1 := ((fX.mono (T := onlyB p) (fun _ _ q => False.elim q)).seqB (fr_set (p := p) 41 (.bool true)) (fun _ => rfl)).seqB (fr_set (p := p) 40 (.int .i64 3)) (fun _ => rfl)
    rw [← hs] at h2
    replace h2 := Lib.hid h2
    replace f1 := Lib.hid f1
    replace hs := Lib.hid hs
    clear h1 fX hX
    rcases hp with hp | hp
    · rw [hp] at c40 d40
      go_enter Tryz.func73, Tryz.ntmps73
      go_wp2_with fail
      first | go_end0 | ((try simp only [Exit.inBlock, Exit.then]); refine bodyPost_ret (results_none rfl _ _ _) rfl ?_)
      exact ⟨rfl, f1.out, h2.out⟩
    · rw [hp] at c40 d40
      go_enter Tryz.func73, Tryz.ntmps73
      go_wp2_with fail
      first | go_end0 | ((try simp only [Exit.inBlock, Exit.then]); refine bodyPost_ret (results_none rfl _ _ _) rfl ?_)
      exact ⟨rfl, f1.out, h2.out⟩
  · have hs : j.sto = j := if_neg hp
    have hp2 : (j.ph == 2) = false := by simp; omega
    have hp3 : (j.ph == 3) = false := by simp; omega
    replace hs := Lib.hid hs
    replace hX := Lib.hid hX
    go_enter Tryz.func73, Tryz.ntmps73
    go_wp2_with fail
    first | go_end0 | ((try simp only [Exit.inBlock, Exit.then]); refine bodyPost_ret (results_none rfl _ _ _) rfl ?_)
    exact ⟨rfl, fX.mono (fun _ _ q => False.elim q), by rw [hs.out]; exact hX.out⟩

/-- A message that may be, of this job, is taken; others leave it. -/
theorem hear_take (p : Nat) (j : JS) (m : Value) (t jb : Int) (R : World → World → Prop) (w : World) (h : Jb w p j)
    (hr : ∀ w', Fr noB w w' → Calls Tryz.prog 33 #[m] w' fun e w'' => e = .returned (.bool true) ∧ Fr noB w' w'')
    (ho : ∀ w', Fr noB w w' → Calls Tryz.prog 54 #[m] w' fun e w'' => e = .returned (.tuple #[.int .i64 t, .int .i64 jb, .bool true]) ∧ Fr noB w' w'')
    (ht : t = j.tr) (hj : jb = j.id)
    (hk : ∀ w', Fr noB w w' → Calls Tryz.prog 73 #[.pointer (some ⟨p, 0, none⟩), m] w' fun e w'' => e = .returned (.tuple #[]) ∧ Fr (onlyB p) w' w'' ∧ R w' w'') :
    Calls Tryz.prog 55 #[.pointer (some ⟨p, 0, none⟩), m] w fun e w' => e = .returned (.tuple #[]) ∧ Fr (onlyB p) w w' ∧ ∃ w1, Fr noB w w1 ∧ R w1 w' := by
  subst ht hj
  have hr0 := hr w (Fr.refl _ _)
  replace ho := Lib.hid ho
  replace hk := Lib.hid hk
  clear hr
  go_enter Tryz.func55, Tryz.ntmps55
  go_wp2_with fail
  refine hr0.mono ?_
  rintro e w1 ⟨rfl, f1⟩
  clear hr0
  go_wp2_with fail
  refine (ho.out w1 f1).mono ?_
  rintro e w2 ⟨rfl, f2⟩
  have g2 := f1.seqN f2
  have h2 := h.frN g2
  have c0 : w2.cell? ⟨p, 0, none⟩ = some (.int .i64 j.id) := h2.cell 0
  have c1 : w2.cell? ⟨p, 1, none⟩ = some (.int .i64 j.tr) := h2.cell 1
  clear ho f1 f2
  go_wp2_with fail
  refine (hk.out w2 g2).mono ?_
  rintro e w3 ⟨rfl, f3, r3⟩
  have g3 := Lib.hid ((g2.mono (T := onlyB p) (fun _ _ q => False.elim q)).seqB f3 (fun _ => rfl))
  replace r3 := Lib.hid r3
  clear hk f3
  go_wp2_with fail
  first | go_end0 | ((try simp only [Exit.inBlock, Exit.then]); refine bodyPost_ret (results_none rfl _ _ _) rfl ?_)
  exact ⟨rfl, g3.out, w2, g2, r3.out⟩
end Go.Proofs.YtidcoddefebdpaaGreat
