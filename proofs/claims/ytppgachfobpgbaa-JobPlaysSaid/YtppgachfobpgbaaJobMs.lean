/-
  A call's message as the document has it; the reference's job hears it; both jobs stay alike.
-/
import Derived.Test.YtppgachfobpgbaaJobNilW
import Derived.Test.YtppgachfobpgbaaRrMsB
import Derived.Test.YtppgachfobpgbaaMsSameB
import Derived.Test.YtppgachfobpgbaaJobRel2
import Derived.Test.YtppgachfobpgbaaJobAny
set_option linter.unusedVariables false
set_option linter.unusedSimpArgs false
set_option maxRecDepth 100000
set_option maxRecDepth 100000
namespace Go.Proofs.Ytppgachfobpgbaa
open Go.RowKit Go Go.Lib

def OpJ.pn (m : OpJ) (a : Int) : Pn := ⟨a, m.t, m.j, 1, m.xs, m.lo⟩
def OpJ.ms (m : OpJ) : Option Ms := if m.k = 1 then some (.trigger m.a m.t 0) else if m.k = 2 then some (.pin m.t m.j) else if m.k = 3 then some (.pinned (m.pn m.a)) else if m.k = 4 then some (.gone m.a m.t m.j) else if m.k = 5 then some (.collect m.t m.j) else if m.k = 6 then some (.chunk m.a m.t m.j 0 1 []) else if m.k = 7 then some (.manifest m.t m.j 0 [m.pn m.a, m.pn (wrap64 (m.a + 1))]) else if m.k = 8 then some (.stored m.t m.j) else if m.k = 9 then some (.unpin m.t m.j) else if m.k = 10 then some (.unpinned m.a m.t m.j) else none
theorem RdI.len {w : World} {a : Option Addr} {n c : Nat} {xs : List Int} (h : RdI w (.slice a n c) xs) : n = xs.length := by
  obtain ⟨b, d, e, _⟩ := h
  injection e
theorem man2_rd {w : World} {g : Nat} {m : OpJ} {b : Int} (hb : Blk w g 72 [.int .i64 m.a, .int .i64 m.t, .int .i64 m.j, .int .i64 1, .slice m.ua m.un m.uc, .bool m.lo, .int .i64 b, .int .i64 m.t, .int .i64 m.j, .int .i64 1, .slice m.ua m.un m.uc, .bool m.lo]) (hx : RdI w (.slice m.ua m.un m.uc) m.xs) : RdPs w (.slice (some ⟨g, 0, none⟩) 2 2) [m.pn m.a, m.pn b] := by
  have hl := hx.len
  rw [hl] at hb hx
  refine ⟨_, 2, rfl, by simp, by simp, fun i p hi => ?_⟩
  match i, hi with
  | 0, hi =>
    simp at hi
    subst hi
    refine ⟨g, 0, m.ua, m.uc, rfl, fun q x hq => ?_, hx⟩
    rw [hb.cell]
    rcases (show q = 0 ∨ q = 1 ∨ q = 2 ∨ q = 3 ∨ q = 4 ∨ q = 5 by have := (List.getElem?_eq_some_iff.1 hq).1; simp [pnC] at this; omega) with rfl | rfl | rfl | rfl | rfl | rfl <;> simpa [pnC, OpJ.pn] using hq
  | 1, hi =>
    simp at hi
    subst hi
    refine ⟨g, 0, m.ua, m.uc, rfl, fun q x hq => ?_, hx⟩
    rw [hb.cell]
    rcases (show q = 0 ∨ q = 1 ∨ q = 2 ∨ q = 3 ∨ q = 4 ∨ q = 5 by have := (List.getElem?_eq_some_iff.1 hq).1; simp [pnC] at this; omega) with rfl | rfl | rfl | rfl | rfl | rfl <;> simpa [pnC, OpJ.pn] using hq
  | i + 2, hi => simp at hi

set_option maxHeartbeats 1000000 in
theorem like_nil (w : World) : Calls Try.prog 12 #[.nilIface] w fun e w' => e = .returned (mrV {}) ∧ Fr noB w w' := by
  unfold mrV mrC
  have fX := (Fr.refl noB w).alloc (.cells (mrC {}).toArray 37)
  unfold mrC at fX
  have q0 := as_nil_Trigger
  have q1 := as_nil_Pin
  have q2 := as_nil_Pinned
  have q3 := as_nil_Gone
  have q4 := as_nil_Collect
  have q5 := as_nil_Chunk
  have q6 := as_nil_Manifest
  have q7 := as_nil_Stored
  have q8 := as_nil_Unpin
  have q9 := as_nil_Unpinned
  go_enter Try.func12, Try.ntmps12
  go_wp2_with fail
  go_returns
  exact ⟨rfl, fX⟩
set_option maxHeartbeats 1000000 in
theorem rr_nil (w : World) : Calls Try.prog 29 #[mrV {}] w fun e w' => e = .returned (.bool false) ∧ Fr noB w w' := by
  unfold mrV mrC
  have fX := (Fr.refl noB w).alloc (.cells (mrC {}).toArray 37)
  unfold mrC at fX
  have k0 := within_any 0 1 65535
  rw [show inB 1 65535 0 = false by decide] at k0
  go_enter Try.func29, Try.ntmps29
  go_wp2_with fail
  refine (k0 _).mono ?_
  rintro e w1 ⟨rfl, hw1⟩
  obtain rfl := hw1.symm
  go_wp2_with fail
  go_ret
  exact ⟨rfl, fX⟩

/-- the value u is what Like makes of a call's message -/
def LkV (w : World) (m : OpJ) (u : Value) : Prop :=
  (m.k = 3 ∧ u = mrV { k := 3, pa := m.a, pt := m.t, pj := m.j, pc := 1, ua := m.ua, un := m.un, uc := m.uc, lo := m.lo }) ∨ (m.k ≠ 3 ∧ ((m.ms = none ∧ u = mrV {}) ∨ ∃ x, m.ms = some x ∧ RfW w u x))
theorem LkV.frN {w w' : World} {m : OpJ} {u : Value} (h : LkV w m u) (f : Fr noB w w') : LkV w' m u := by
  rcases h with h | ⟨h0, h | ⟨x, h1, h2⟩⟩
  · exact Or.inl h
  · exact Or.inr ⟨h0, Or.inl h⟩
  · exact Or.inr ⟨h0, Or.inr ⟨x, h1, h2.frN f⟩⟩
theorem like_any (m : OpJ) (v : Value) (w : World) (hv : MsgV w m v) (hx : RdI w (.slice m.ua m.un m.uc) m.xs) : Calls Try.prog 12 #[v] w fun e w' => ∃ u, e = .returned u ∧ LkV w' m u ∧ Fr noB w w' := by
  have gen : ∀ x : Ms, m.ms = some x → m.k ≠ 3 → MsW w v x → x.few → Calls Try.prog 12 #[v] w fun e w' => ∃ u, e = .returned u ∧ LkV w' m u ∧ Fr noB w w' := fun x h1 h3 h2 hf =>
    (like_ms v x w h2 hf).mono fun e w' ⟨u, k1, k2, k3⟩ => ⟨u, k1, Or.inr ⟨h3, Or.inr ⟨x, h1, k2⟩⟩, k3⟩
  cases hv with
  | k1 hk => exact gen (.trigger m.a m.t 0) (by unfold OpJ.ms; rw [if_pos hk]) (by omega) rfl trivial
  | k2 hk => exact gen (.pin m.t m.j) (by unfold OpJ.ms; rw [if_neg (by omega), if_pos hk]) (by omega) rfl trivial
  | k3 hk =>
    refine (like_Pinned m.a m.t m.j 1 m.ua m.un m.uc m.lo w).mono ?_
    rintro e w' ⟨rfl, f⟩
    exact ⟨_, rfl, Or.inl ⟨hk, rfl⟩, f⟩
  | k4 hk => exact gen (.gone m.a m.t m.j) (by unfold OpJ.ms; rw [if_neg (by omega), if_neg (by omega), if_neg (by omega), if_pos hk]) (by omega) rfl trivial
  | k5 hk => exact gen (.collect m.t m.j) (by unfold OpJ.ms; rw [if_neg (by omega), if_neg (by omega), if_neg (by omega), if_neg (by omega), if_pos hk]) (by omega) rfl trivial
  | k6 hk => exact gen (.chunk m.a m.t m.j 0 1 []) (by unfold OpJ.ms; rw [if_neg (by omega), if_neg (by omega), if_neg (by omega), if_neg (by omega), if_neg (by omega), if_pos hk]) (by omega) ⟨_, rfl, rdSp_nil w⟩ trivial
  | k7 g hk hb => exact gen (.manifest m.t m.j 0 [m.pn m.a, m.pn (wrap64 (m.a + 1))]) (by unfold OpJ.ms; rw [if_neg (by omega), if_neg (by omega), if_neg (by omega), if_neg (by omega), if_neg (by omega), if_neg (by omega), if_pos hk]) (by omega) ⟨_, rfl, man2_rd hb hx⟩ (by simp [Ms.few])
  | k8 hk => exact gen (.stored m.t m.j) (by unfold OpJ.ms; rw [if_neg (by omega), if_neg (by omega), if_neg (by omega), if_neg (by omega), if_neg (by omega), if_neg (by omega), if_neg (by omega), if_pos hk]) (by omega) rfl trivial
  | k9 hk => exact gen (.unpin m.t m.j) (by unfold OpJ.ms; rw [if_neg (by omega), if_neg (by omega), if_neg (by omega), if_neg (by omega), if_neg (by omega), if_neg (by omega), if_neg (by omega), if_neg (by omega), if_pos hk]) (by omega) rfl trivial
  | k10 hk => exact gen (.unpinned m.a m.t m.j) (by unfold OpJ.ms; rw [if_neg (by omega), if_neg (by omega), if_neg (by omega), if_neg (by omega), if_neg (by omega), if_neg (by omega), if_neg (by omega), if_neg (by omega), if_neg (by omega), if_pos hk]) (by omega) rfl trivial
  | k0 hk =>
    refine (like_nil w).mono ?_
    rintro e w' ⟨rfl, f⟩
    exact ⟨_, rfl, Or.inr ⟨by omega, Or.inl ⟨by unfold OpJ.ms; rw [if_neg (by omega), if_neg (by omega), if_neg (by omega), if_neg (by omega), if_neg (by omega), if_neg (by omega), if_neg (by omega), if_neg (by omega), if_neg (by omega), if_neg (by omega)], rfl⟩⟩, f⟩

def OpJ.pt (m : OpJ) : RPt := ⟨m.a, m.t, m.j, 1, m.ua, m.un, m.uc, m.lo⟩
/-- what a message makes of the reference's job -/
def RJ.hear (q : RJ) (m : OpJ) : RJ :=
  if m.k = 3 then (if pinB m.a m.t m.j 1 m.xs = true ∧ m.t = q.tr ∧ m.j = q.id then q.go3 m.pt m.xs else q)
  else if m.k = 4 then (if bGone m.a m.t m.j = true ∧ m.t = q.tr ∧ m.j = q.id then q.go4 m.a else q)
  else if m.k = 8 then (if bStored m.t m.j = true ∧ m.t = q.tr ∧ m.j = q.id then q.go8 else q)
  else if m.k = 10 then (if bUnpinned m.a m.t m.j = true ∧ m.t = q.tr ∧ m.j = q.id then q.go10 m.a else q)
  else q
def MR.rms (m : MR) : RMs := { k := m.k, a := m.a, t := m.t, j := m.j, cl := m.c, ix := m.i, tt := m.n, p := ⟨m.pa, m.pt, m.pj, m.pc, m.ua, m.un, m.uc, m.lo⟩, va := m.qa, vn := m.qn, vc := m.qc, sa := m.sa, sn := m.sn, sc := m.sc }
theorem rms_v (m : MR) : mrV m = .agg m.rms.cs.toArray := rfl
theorem pinB_in {a t j c : Int} {xs : List Int} (h : pinB a t j c xs = true) : ∀ x ∈ xs, 0 ≤ x ∧ x ≤ 3 := (pinB_facts h).2.1
theorem rhear_any (r gs gp gf : Nat) (q : RJ) (m : OpJ) (u : Value) (w : World) (h : Rj w r gs gp gf q) (hu : LkV w m u) (hx : RdI w (.slice m.ua m.un m.uc) m.xs) (hap : m.xs ≠ [] → ∀ g o, m.ua = some ⟨g, o, none⟩ → ¬ rjB r gs gp gf g) :
    Calls Try.prog 15 #[.pointer (some ⟨r, 0, none⟩), u] w fun e w' => e = .returned (.tuple #[]) ∧ RHear w w' r gs gp gf (q.hear m) := by
  rcases hu with ⟨hk, rfl⟩ | ⟨h3, ⟨hm, rfl⟩ | ⟨x, hm, hw⟩⟩
  · have := rhear_3 r gs gp gf q (MR.rms { k := 3, pa := m.a, pt := m.t, pj := m.j, pc := 1, ua := m.ua, un := m.un, uc := m.uc, lo := m.lo }) m.xs (pinB m.a m.t m.j 1 m.xs) w h rfl hx hap (fun hb x hx => (pinB_in hb x hx).1) (fun w' f => rr_3 m.a m.t m.j 1 m.ua m.un m.uc m.lo m.xs w' (hx.frN f))
    rw [rms_v]
    refine this.mono ?_
    rintro e w' ⟨rfl, hh⟩
    refine ⟨rfl, ?_⟩
    unfold RJ.hear
    rw [if_pos hk]
    exact hh
  · have hk : m.k ≠ 4 ∧ m.k ≠ 8 ∧ m.k ≠ 10 := by
      refine ⟨fun e => ?_, fun e => ?_, fun e => ?_⟩
      all_goals (unfold OpJ.ms at hm; rw [e] at hm; simp at hm)
    have := rhear_o r gs gp gf q (MR.rms {}) false w h ⟨by decide, by decide, by decide, by decide⟩ (fun w' f => rr_nil w')
    rw [rms_v]
    refine this.mono ?_
    rintro e w' ⟨rfl, hh⟩
    refine ⟨rfl, ?_⟩
    unfold RJ.hear
    rw [if_neg h3, if_neg hk.1, if_neg hk.2.1, if_neg hk.2.2]
    rw [if_neg (by simp)] at hh
    exact hh
  · have hr := fun w' (f : Fr noB w w') => rr_ms u x w' (hw.frN f)
    have oth : ∀ M : MR, u = mrV M → (M.k ≠ 3 ∧ M.k ≠ 4 ∧ M.k ≠ 8 ∧ M.k ≠ 10) → (m.k ≠ 4 ∧ m.k ≠ 8 ∧ m.k ≠ 10) → Calls Try.prog 15 #[.pointer (some ⟨r, 0, none⟩), u] w fun e w' => e = .returned (.tuple #[]) ∧ RHear w w' r gs gp gf (q.hear m) := by
      intro M hM hk hk2
      subst hM
      rw [rms_v]
      refine (rhear_o r gs gp gf q M.rms x.ok w h hk hr).mono ?_
      rintro e w' ⟨rfl, hh⟩
      refine ⟨rfl, ?_⟩
      unfold RJ.hear
      rw [if_neg h3, if_neg hk2.1, if_neg hk2.2.1, if_neg hk2.2.2]
      split at hh <;> exact hh
    unfold OpJ.ms at hm
    by_cases e1 : m.k = 1
    · rw [if_pos e1] at hm; injection hm with hm; subst hm; obtain rfl := hw
      exact oth _ rfl ⟨(by decide : (1 : Int) ≠ 3), (by decide : (1 : Int) ≠ 4), (by decide : (1 : Int) ≠ 8), (by decide : (1 : Int) ≠ 10)⟩ (by omega)
    rw [if_neg e1] at hm
    by_cases e2 : m.k = 2
    · rw [if_pos e2] at hm; injection hm with hm; subst hm; obtain rfl := hw
      exact oth _ rfl ⟨(by decide : (2 : Int) ≠ 3), (by decide : (2 : Int) ≠ 4), (by decide : (2 : Int) ≠ 8), (by decide : (2 : Int) ≠ 10)⟩ (by omega)
    rw [if_neg e2, if_neg h3] at hm
    by_cases e4 : m.k = 4
    · rw [if_pos e4] at hm; injection hm with hm; subst hm; obtain rfl := hw
      rw [rms_v]
      refine (rhear_4 r gs gp gf q (MR.rms { k := 4, a := m.a, t := m.t, j := m.j }) (bGone m.a m.t m.j) w h rfl hr).mono ?_
      rintro e w' ⟨rfl, hh⟩
      refine ⟨rfl, ?_⟩
      unfold RJ.hear
      rw [if_neg h3, if_pos e4]
      exact hh
    rw [if_neg e4] at hm
    by_cases e5 : m.k = 5
    · rw [if_pos e5] at hm; injection hm with hm; subst hm; obtain rfl := hw
      exact oth _ rfl ⟨(by decide : (5 : Int) ≠ 3), (by decide : (5 : Int) ≠ 4), (by decide : (5 : Int) ≠ 8), (by decide : (5 : Int) ≠ 10)⟩ (by omega)
    rw [if_neg e5] at hm
    by_cases e6 : m.k = 6
    · rw [if_pos e6] at hm; injection hm with hm; subst hm; obtain ⟨sa, sc, rfl, _⟩ := hw
      exact oth _ rfl ⟨(by decide : (6 : Int) ≠ 3), (by decide : (6 : Int) ≠ 4), (by decide : (6 : Int) ≠ 8), (by decide : (6 : Int) ≠ 10)⟩ (by omega)
    rw [if_neg e6] at hm
    by_cases e7 : m.k = 7
    · rw [if_pos e7] at hm; injection hm with hm; subst hm; obtain ⟨sa, sc, rfl, _⟩ := hw
      exact oth _ rfl ⟨(by decide : (7 : Int) ≠ 3), (by decide : (7 : Int) ≠ 4), (by decide : (7 : Int) ≠ 8), (by decide : (7 : Int) ≠ 10)⟩ (by omega)
    rw [if_neg e7] at hm
    by_cases e8 : m.k = 8
    · rw [if_pos e8] at hm; injection hm with hm; subst hm; obtain rfl := hw
      rw [rms_v]
      refine (rhear_8 r gs gp gf q (MR.rms { k := 8, t := m.t, j := m.j }) (bStored m.t m.j) w h rfl hr).mono ?_
      rintro e w' ⟨rfl, hh⟩
      refine ⟨rfl, ?_⟩
      unfold RJ.hear
      rw [if_neg h3, if_neg e4, if_pos e8]
      exact hh
    rw [if_neg e8] at hm
    by_cases e9 : m.k = 9
    · rw [if_pos e9] at hm; injection hm with hm; subst hm; obtain rfl := hw
      exact oth _ rfl ⟨(by decide : (9 : Int) ≠ 3), (by decide : (9 : Int) ≠ 4), (by decide : (9 : Int) ≠ 8), (by decide : (9 : Int) ≠ 10)⟩ (by omega)
    rw [if_neg e9] at hm
    by_cases e10 : m.k = 10
    · rw [if_pos e10] at hm; injection hm with hm; subst hm; obtain rfl := hw
      rw [rms_v]
      refine (rhear_10 r gs gp gf q (MR.rms { k := 10, a := m.a, t := m.t, j := m.j }) (bUnpinned m.a m.t m.j) w h rfl hr).mono ?_
      rintro e w' ⟨rfl, hh⟩
      refine ⟨rfl, ?_⟩
      unfold RJ.hear
      rw [if_neg h3, if_neg e4, if_neg e8, if_pos e10]
      exact hh
    rw [if_neg e10] at hm
    cases hm

/-! ### both jobs stay alike -/
theorem JRl.hear {j : JS} {q : RJ} (h : JRl j q) (m : OpJ) (hun : m.un = m.xs.length) : JRl (j.hear m) (q.hear m) := by
  by_cases hc : m.t = j.tr ∧ m.j = j.id
  · have hc2 : m.t = q.tr ∧ m.j = q.id := by rw [h.r.tr, h.r.id]; exact hc
    by_cases k3 : m.k = 3
    · have e2 : q.hear m = if pinB m.a m.t m.j 1 m.xs = true then q.go3 m.pt m.xs else q := by
        unfold RJ.hear
        rw [if_pos k3]
        by_cases hb : pinB m.a m.t m.j 1 m.xs = true
        · rw [if_pos ⟨hb, hc2⟩, if_pos hb]
        · rw [if_neg (fun e => hb e.1), if_neg hb]
      rw [e2]
      by_cases hb : pinB m.a m.t m.j 1 m.xs = true
      · rw [if_pos hb]
        obtain ⟨⟨ha0, ha3⟩, hin, hl4⟩ := pinB_facts hb
        by_cases hp : j.ph = 1 ∧ (j.at m.a.toNat).v = true ∧ (j.at m.a.toNat).p = false
        · have hpin := pins_yes k3 hc.1 hc.2 hb hp.1 hp.2.1 hp.2.2
          rw [hear_3yes k3 hpin hc.1 hc.2]
          exact h.pin (by omega) _ m.pt m.xs hp.1 hp.2.1 hp.2.2 (by show m.a = _; omega) ⟨rfl, rfl, rfl, rfl, rfl, hun⟩ hin
        · have hno : j.pins m = false := by
            refine pins_false2 ?_
            by_cases p1 : j.ph = 1
            · by_cases p2 : (j.at m.a.toNat).v = true
              · right; right
                cases hq : (j.at m.a.toNat).p with
                | true => rfl
                | false => exact absurd ⟨p1, p2, hq⟩ hp
              · right; left; simpa using p2
            · exact Or.inl p1
          rw [hear_3no k3 hno, go3_no h m.pt m.xs ha0 (by show m.a < 4; omega) hp]
          exact h
      · rw [if_neg hb, hear_3no k3 (pins_false (fun e => hb e.1))]
        exact h
    · by_cases k4 : m.k = 4
      · rw [hear_4 k4 hc.1 hc.2]
        unfold RJ.hear
        rw [if_neg k3, if_pos k4]
        by_cases hb : bGone m.a m.t m.j = true
        · rw [if_pos hb, if_pos ⟨hb, hc2⟩]
          have := bGone_facts hb
          exact h.gon this.1 (by omega)
        · rw [if_neg hb, if_neg (fun e => hb e.1)]; exact h
      · by_cases k8 : m.k = 8
        · rw [hear_8 k8 hc.1 hc.2]
          unfold RJ.hear
          rw [if_neg k3, if_neg k4, if_pos k8]
          by_cases hb : bStored m.t m.j = true
          · rw [if_pos hb, if_pos ⟨hb, hc2⟩]; exact h.sto
          · rw [if_neg hb, if_neg (fun e => hb e.1)]; exact h
        · by_cases k10 : m.k = 10
          · rw [hear_10 k10 hc.1 hc.2]
            unfold RJ.hear
            rw [if_neg k3, if_neg k4, if_neg k8, if_pos k10]
            by_cases hb : bUnpinned m.a m.t m.j = true
            · rw [if_pos hb, if_pos ⟨hb, hc2⟩]
              have := bUnp_facts hb
              exact h.unp this.1 (by omega)
            · rw [if_neg hb, if_neg (fun e => hb e.1)]; exact h
          · rw [hear_other k3 k4 k8 k10]
            unfold RJ.hear
            rw [if_neg k3, if_neg k4, if_neg k8, if_neg k10]
            exact h
  · have hc2 : ¬ (m.t = q.tr ∧ m.j = q.id) := by rw [h.r.tr, h.r.id]; exact hc
    rw [hear_mis hc]
    have : q.hear m = q := by
      unfold RJ.hear
      have e : ∀ b : Bool, ¬ (b = true ∧ m.t = q.tr ∧ m.j = q.id) := fun b e => hc2 e.2
      rw [if_neg (e _), if_neg (e _), if_neg (e _), if_neg (e _)]
      simp
    rw [this]; exact h
/-- the reference's parts, as they lie -/
def RdX (w : World) (M0 : Nat) (q : RJ) (X : Nat → List Int) : Prop :=
  ∀ k, k < 4 → RdI w (.slice (q.P.getD k pt0).ua (q.P.getD k pt0).un (q.P.getD k pt0).uc) (X k) ∧ (X k ≠ [] → ∀ g o, (q.P.getD k pt0).ua = some ⟨g, o, none⟩ → g < M0)
theorem RdX.fr {w w' : World} {M0 : Nat} {q : RJ} {X : Nat → List Int} {S : Nat → Prop} (h : RdX w M0 q X) (f : Fr S w w') (hS : ∀ g, g < M0 → ¬ S g) : RdX w' M0 q X := fun k hk =>
  ⟨(h k hk).1.fr1 f (fun hne g o n c e => hS g ((h k hk).2 hne g o (by injection e))), (h k hk).2⟩
theorem pin1_P (xs : List Int) (q : RJ) (a : Int) (p : RPt) : (q.pin1 a p xs).P = q.P.set a.toNat p := (marks_P xs (q.pin0 a p)).1
theorem RdX.hear {w : World} {M0 : Nat} {j : JS} {q : RJ} {X : Nat → List Int} (h : RdX w M0 q X) (hr : JRl j q) (m : OpJ) (hx : RdI w (.slice m.ua m.un m.uc) m.xs) (hm0 : m.xs ≠ [] → ∀ g o, m.ua = some ⟨g, o, none⟩ → g < M0) : RdX w M0 (q.hear m) (j.hearX m X) := by
  by_cases hp : j.pins m = true
  · obtain ⟨k3, ht, hj, ha4, hp1⟩ := pins_a hp
    have hpv : (j.at m.a.toNat).v = true ∧ (j.at m.a.toNat).p = false ∧ pinB m.a m.t m.j 1 m.xs = true := by
      unfold JS.pins at hp
      simp only [Bool.and_eq_true, decide_eq_true_eq, Bool.not_eq_true'] at hp
      exact ⟨hp.2.2.2.2.2.1, hp.2.2.2.2.2.2, hp.2.2.2.1⟩
    obtain ⟨⟨ha0, ha3⟩, hin, hl4⟩ := pinB_facts hpv.2.2
    have hag : m.a.toNat < j.ag := by
      rcases Nat.lt_or_ge m.a.toNat j.ag with k | k
      · exact k
      · have := hpv.1; rw [hr.r.no _ k ha4] at this; cases this
    have hst : q.S.getD m.a.toNat 0 = 1 := by rw [hr.r.st _ hag]; unfold stN; rw [hpv.1, hpv.2.1]; rfl
    have eP : (q.hear m).P = q.P.set m.a.toNat m.pt := by
      unfold RJ.hear
      rw [if_pos k3, if_pos ⟨hpv.2.2, by rw [hr.r.tr]; exact ht, by rw [hr.r.id]; exact hj⟩]
      unfold RJ.go3
      rw [if_pos ⟨by rw [hr.r.ph]; exact hp1, by show q.vis m.a = true; rw [hr.r.vis ha0 (by omega)]; exact hpv.1, hst⟩]
      split
      · exact pin1_P m.xs q m.a m.pt
      · exact pin1_P m.xs q m.a m.pt
    have eX : j.hearX m X = fun b => if b = m.a.toNat then m.xs else X b := by unfold JS.hearX; rw [if_pos hp]
    rw [eX]
    intro k hk
    rw [eP]
    by_cases hka : k = m.a.toNat
    · subst hka
      rw [show (q.P.set m.a.toNat m.pt).getD m.a.toNat pt0 = m.pt by simp [List.getD, hr.np, hag]]
      simp only [if_pos rfl]
      exact ⟨hx, hm0⟩
    · rw [show (q.P.set m.a.toNat m.pt).getD k pt0 = q.P.getD k pt0 by simp [List.getD, List.getElem?_set_ne (fun e => hka e.symm)]]
      simp only [if_neg hka]
      exact h k hk
  · have hp' : j.pins m = false := by simpa using hp
    rw [hearX_no hp']
    have eP : (q.hear m).P = q.P := by
      unfold RJ.hear
      by_cases k3 : m.k = 3
      · rw [if_pos k3]
        by_cases hb : pinB m.a m.t m.j 1 m.xs = true ∧ m.t = q.tr ∧ m.j = q.id
        · rw [if_pos hb]
          obtain ⟨⟨ha0, ha3⟩, _, _⟩ := pinB_facts hb.1
          rw [go3_no hr m.pt m.xs ha0 (by show m.a < 4; omega)]
          rintro ⟨q1, q2, q3⟩
          rw [hr.r.tr, hr.r.id] at hb
          rw [pins_yes k3 hb.2.1 hb.2.2 hb.1 q1 q2 q3] at hp'
          cases hp'
        · rw [if_neg hb]
      · rw [if_neg k3]
        by_cases k4 : m.k = 4
        · rw [if_pos k4]
          split
          · unfold RJ.go4; split <;> rfl
          · rfl
        · rw [if_neg k4]
          by_cases k8 : m.k = 8
          · rw [if_pos k8]
            split
            · unfold RJ.go8; split <;> rfl
            · rfl
          · rw [if_neg k8]
            by_cases k10 : m.k = 10
            · rw [if_pos k10]
              split
              · unfold RJ.go10
                split
                · split <;> rfl
                · rfl
              · rfl
            · rw [if_neg k10]
    intro k hk
    rw [eP]
    exact h k hk
end Go.Proofs.Ytppgachfobpgbaa
