/-
  A call's message by the plain type, and what the coordinator makes of it: pieces of CoordM, CoordQ, CoordX.
-/
import Derived.Test.YtidcoddefebdpaaJobNilW
import Derived.Test.YtidcoddefebdpaaCoordAwk
set_option linter.unusedVariables false
set_option linter.unusedSimpArgs false
set_option maxRecDepth 100000
namespace Go.Proofs.Ytidcoddefebdpaa
open Go.RowKit Go Go.Maps Go.Lib

theorem rdSp_nil (w : World) : RdSp w (.slice none 0 0) [] := ⟨none, 0, rfl, by simp, by simp [maxLen], fun _ => rfl, fun i s hi => by simp at hi⟩
def OpJ.pn (m : OpJ) (a : Int) : Pn := ⟨a, m.t, m.j, 1, m.xs, m.lo⟩
def OpJ.ms (m : OpJ) : Option Ms := if m.k = 1 then some (.trigger m.a m.t 0) else if m.k = 2 then some (.pin m.t m.j) else if m.k = 3 then some (.pinned (m.pn m.a)) else if m.k = 4 then some (.gone m.a m.t m.j) else if m.k = 5 then some (.collect m.t m.j) else if m.k = 6 then some (.chunk m.a m.t m.j 0 1 []) else if m.k = 7 then some (.manifest m.t m.j 0 [m.pn m.a, m.pn (wrap64 (m.a + 1))]) else if m.k = 8 then some (.stored m.t m.j) else if m.k = 9 then some (.unpin m.t m.j) else if m.k = 10 then some (.unpinned m.a m.t m.j) else none
theorem man2_rd {w : World} {g : Nat} {m : OpJ} {b : Int} (hb : Blk w g 56 [.int .i64 m.a, .int .i64 m.t, .int .i64 m.j, .int .i64 1, .slice m.ua m.un m.uc, .bool m.lo, .int .i64 b, .int .i64 m.t, .int .i64 m.j, .int .i64 1, .slice m.ua m.un m.uc, .bool m.lo]) (hx : RdI w (.slice m.ua m.un m.uc) m.xs) : RdPs w (.slice (some ⟨g, 0, none⟩) 2 2) [m.pn m.a, m.pn b] := by
  have hl := hx.len
  rw [hl] at hb hx
  refine ⟨_, 2, rfl, by simp, by simp, fun i p hi => ?_⟩
  match i, hi with
  | 0, hi =>
    simp at hi
    subst hi
    refine ⟨g, 0, m.ua, m.uc, rfl, fun q x hq => ?_, hx⟩
    rw [hb.cell]
    rcases (show q = 0 ∨ q = 1 ∨ q = 2 ∨ q = 3 ∨ q = 4 ∨ q = 5 by have := (List.getElem?_eq_some_iff.1 hq).1; simp [pnC] at this; omega) with rfl | rfl | rfl | rfl | rfl | rfl <;> simpa [pnC, OpJ.pn] using hq
  | 1, hi =>
    simp at hi
    subst hi
    refine ⟨g, 0, m.ua, m.uc, rfl, fun q x hq => ?_, hx⟩
    rw [hb.cell]
    rcases (show q = 0 ∨ q = 1 ∨ q = 2 ∨ q = 3 ∨ q = 4 ∨ q = 5 by have := (List.getElem?_eq_some_iff.1 hq).1; simp [pnC] at this; omega) with rfl | rfl | rfl | rfl | rfl | rfl <;> simpa [pnC, OpJ.pn] using hq
  | i + 2, hi => simp at hi

theorem ms_tab {m : OpJ} {x : Ms} (h : m.ms = some x) : (m.k = 1 ∧ x = .trigger m.a m.t 0) ∨ (m.k = 2 ∧ x = .pin m.t m.j) ∨ (m.k = 3 ∧ x = .pinned (m.pn m.a)) ∨ (m.k = 4 ∧ x = .gone m.a m.t m.j) ∨ (m.k = 5 ∧ x = .collect m.t m.j) ∨ (m.k = 6 ∧ x = .chunk m.a m.t m.j 0 1 []) ∨ (m.k = 7 ∧ x = .manifest m.t m.j 0 [m.pn m.a, m.pn (wrap64 (m.a + 1))]) ∨ (m.k = 8 ∧ x = .stored m.t m.j) ∨ (m.k = 9 ∧ x = .unpin m.t m.j) ∨ (m.k = 10 ∧ x = .unpinned m.a m.t m.j) := by
  unfold OpJ.ms at h
  by_cases h1 : m.k = 1
  · rw [if_pos h1] at h; injection h with h; exact Or.inl ⟨h1, h.symm⟩
  rw [if_neg h1] at h
  by_cases h2 : m.k = 2
  · rw [if_pos h2] at h; injection h with h; exact Or.inr (Or.inl ⟨h2, h.symm⟩)
  rw [if_neg h2] at h
  by_cases h3 : m.k = 3
  · rw [if_pos h3] at h; injection h with h; exact Or.inr (Or.inr (Or.inl ⟨h3, h.symm⟩))
  rw [if_neg h3] at h
  by_cases h4 : m.k = 4
  · rw [if_pos h4] at h; injection h with h; exact Or.inr (Or.inr (Or.inr (Or.inl ⟨h4, h.symm⟩)))
  rw [if_neg h4] at h
  by_cases h5 : m.k = 5
  · rw [if_pos h5] at h; injection h with h; exact Or.inr (Or.inr (Or.inr (Or.inr (Or.inl ⟨h5, h.symm⟩))))
  rw [if_neg h5] at h
  by_cases h6 : m.k = 6
  · rw [if_pos h6] at h; injection h with h; exact Or.inr (Or.inr (Or.inr (Or.inr (Or.inr (Or.inl ⟨h6, h.symm⟩)))))
  rw [if_neg h6] at h
  by_cases h7 : m.k = 7
  · rw [if_pos h7] at h; injection h with h; exact Or.inr (Or.inr (Or.inr (Or.inr (Or.inr (Or.inr (Or.inl ⟨h7, h.symm⟩))))))
  rw [if_neg h7] at h
  by_cases h8 : m.k = 8
  · rw [if_pos h8] at h; injection h with h; exact Or.inr (Or.inr (Or.inr (Or.inr (Or.inr (Or.inr (Or.inr (Or.inl ⟨h8, h.symm⟩)))))))
  rw [if_neg h8] at h
  by_cases h9 : m.k = 9
  · rw [if_pos h9] at h; injection h with h; exact Or.inr (Or.inr (Or.inr (Or.inr (Or.inr (Or.inr (Or.inr (Or.inr (Or.inl ⟨h9, h.symm⟩))))))))
  rw [if_neg h9] at h
  by_cases h10 : m.k = 10
  · rw [if_pos h10] at h; injection h with h; exact Or.inr (Or.inr (Or.inr (Or.inr (Or.inr (Or.inr (Or.inr (Or.inr (Or.inr ⟨h10, h.symm⟩))))))))
  rw [if_neg h10] at h
  cases h
theorem ms_tj {m : OpJ} {x : Ms} (h : m.ms = some x) : m.k = x.k ∧ x.tj.1 = m.t := by
  rcases ms_tab h with ⟨hk, rfl⟩ | ⟨hk, rfl⟩ | ⟨hk, rfl⟩ | ⟨hk, rfl⟩ | ⟨hk, rfl⟩ | ⟨hk, rfl⟩ | ⟨hk, rfl⟩ | ⟨hk, rfl⟩ | ⟨hk, rfl⟩ | ⟨hk, rfl⟩ <;> exact ⟨hk, rfl⟩
/-- may the message be? -/
def OpJ.okm (m : OpJ) : Bool := match m.ms with
  | none => false
  | some x => x.ok
/-- what the coordinator makes of a call's message -/
def CS.hearO (C : CS) (o : Option Ms) (pn : Nat) : CS × Option JE := match o with
  | none => (C, none)
  | some x => C.hear x pn
theorem hearO_bad {C : CS} {m : OpJ} (h : m.okm = false) (pn : Nat) : C.hearO m.ms pn = (C, none) := by
  unfold OpJ.okm at h
  cases hm : m.ms with
  | none => rfl
  | some x =>
    rw [hm] at h
    show C.hear x pn = _
    unfold CS.hear
    exact if_pos h
/-- the message's value by the plain type -/
theorem msgv_ms {w : World} {m : OpJ} {v : Value} (hv : MsgV w m v) (hx : RdI w (.slice m.ua m.un m.uc) m.xs) : (m.ms = none ∧ v = .nilIface) ∨ ∃ x, m.ms = some x ∧ MsW w v x := by
  cases hv with
  | k1 hk => exact Or.inr ⟨.trigger m.a m.t 0, by unfold OpJ.ms; rw [if_pos hk], rfl⟩
  | k2 hk => exact Or.inr ⟨.pin m.t m.j, by unfold OpJ.ms; rw [if_neg (by omega), if_pos hk], rfl⟩
  | k3 hk => exact Or.inr ⟨.pinned (m.pn m.a), by unfold OpJ.ms; rw [if_neg (by omega), if_neg (by omega), if_pos hk], _, rfl, hx⟩
  | k4 hk => exact Or.inr ⟨.gone m.a m.t m.j, by unfold OpJ.ms; rw [if_neg (by omega), if_neg (by omega), if_neg (by omega), if_pos hk], rfl⟩
  | k5 hk => exact Or.inr ⟨.collect m.t m.j, by unfold OpJ.ms; rw [if_neg (by omega), if_neg (by omega), if_neg (by omega), if_neg (by omega), if_pos hk], rfl⟩
  | k6 hk => exact Or.inr ⟨.chunk m.a m.t m.j 0 1 [], by unfold OpJ.ms; rw [if_neg (by omega), if_neg (by omega), if_neg (by omega), if_neg (by omega), if_neg (by omega), if_pos hk], _, rfl, rdSp_nil w⟩
  | k7 g hk hb => exact Or.inr ⟨.manifest m.t m.j 0 [m.pn m.a, m.pn (wrap64 (m.a + 1))], by unfold OpJ.ms; rw [if_neg (by omega), if_neg (by omega), if_neg (by omega), if_neg (by omega), if_neg (by omega), if_neg (by omega), if_pos hk], _, rfl, man2_rd hb hx⟩
  | k8 hk => exact Or.inr ⟨.stored m.t m.j, by unfold OpJ.ms; rw [if_neg (by omega), if_neg (by omega), if_neg (by omega), if_neg (by omega), if_neg (by omega), if_neg (by omega), if_neg (by omega), if_pos hk], rfl⟩
  | k9 hk => exact Or.inr ⟨.unpin m.t m.j, by unfold OpJ.ms; rw [if_neg (by omega), if_neg (by omega), if_neg (by omega), if_neg (by omega), if_neg (by omega), if_neg (by omega), if_neg (by omega), if_neg (by omega), if_pos hk], rfl⟩
  | k10 hk => exact Or.inr ⟨.unpinned m.a m.t m.j, by unfold OpJ.ms; rw [if_neg (by omega), if_neg (by omega), if_neg (by omega), if_neg (by omega), if_neg (by omega), if_neg (by omega), if_neg (by omega), if_neg (by omega), if_neg (by omega), if_pos hk], rfl⟩
  | k0 hk => exact Or.inl ⟨by unfold OpJ.ms; rw [if_neg (by omega), if_neg (by omega), if_neg (by omega), if_neg (by omega), if_neg (by omega), if_neg (by omega), if_neg (by omega), if_neg (by omega), if_neg (by omega), if_neg (by omega)], rfl⟩
theorem hearO_cv (w0 : World) (c bm : Nat) (D : Nat → Prop) (C : CS) (m : OpJ) (v : Value) (w : World) (h : CoV w0 w c bm D C) (hv : MsgV w m v) (hx : RdI w (.slice m.ua m.un m.uc) m.xs) (hap : m.xs ≠ [] → ∀ g o, m.ua = some ⟨g, o, none⟩ → ¬ D g) (hla : C.la < 1073741824) (hrf : 0 ≤ C.rf ∧ C.rf < 1000000000) :
    Calls Try.prog 10 #[.pointer (some ⟨c, 0, none⟩), v] w fun e w' => HearTo e w0 w w' c bm D (C.hearO m.ms) := by
  rcases msgv_ms hv hx with ⟨hm, rfl⟩ | ⟨x, hm, hw⟩
  · refine (hear_co_nil c w).mono ?_
    rintro e w' ⟨rfl, f⟩
    rw [hm]
    exact ⟨_, w.heap.size, D, rfl, rfl, Nat.le_refl _, h.frN f, fun g hg => Or.inl hg, f.mono (fun _ _ q => q.elim)⟩
  · rw [hm]
    refine hear_cv w0 c bm D C x v w h hw (fun pn ua un uc h1 h2 h3 g o h4 => ?_) hla hrf
    subst h1
    rcases ms_tab hm with ⟨hk, e⟩ | ⟨hk, e⟩ | ⟨hk, e⟩ | ⟨hk, e⟩ | ⟨hk, e⟩ | ⟨hk, e⟩ | ⟨hk, e⟩ | ⟨hk, e⟩ | ⟨hk, e⟩ | ⟨hk, e⟩
    any_goals (cases e; done)
    injection e with e
    subst e
    cases hv with
    | k3 _ =>
      unfold mPinned at h2
      have h5 : m.ua = ua := by
        simp only [Value.iface.injEq, Value.agg.injEq] at h2
        simp_all
      exact hap h3 g o (by rw [h5]; exact h4)
    | _ => omega
theorem noTr_ms {m : OpJ} {x : Ms} (h : m.ms = some x) (hk : m.k ≠ 1) : NoTr x := by
  rcases ms_tab h with ⟨q, rfl⟩ | ⟨_, rfl⟩ | ⟨_, rfl⟩ | ⟨_, rfl⟩ | ⟨_, rfl⟩ | ⟨_, rfl⟩ | ⟨_, rfl⟩ | ⟨_, rfl⟩ | ⟨_, rfl⟩ | ⟨_, rfl⟩
  · exact absurd q hk
  all_goals trivial
theorem ms_trig {m : OpJ} {x : Ms} (h : m.ms = some x) (hk : m.k = 1) : x = .trigger m.a m.t 0 := by
  rcases ms_tab h with ⟨_, e⟩ | ⟨q, _⟩ | ⟨q, _⟩ | ⟨q, _⟩ | ⟨q, _⟩ | ⟨q, _⟩ | ⟨q, _⟩ | ⟨q, _⟩ | ⟨q, _⟩ | ⟨q, _⟩
  · exact e
  all_goals omega
theorem new_two (id t c : Int) (n a : Nat) : (JS.new id t c n a).tr = t ∧ (JS.new id t c n a).id = id := ⟨(upd_two _ _ _ |> fun e => (by unfold JS.two at e; simp only [Prod.mk.injEq] at e; exact e.1)), (upd_two _ _ _ |> fun e => (by unfold JS.two at e; simp only [Prod.mk.injEq] at e; exact e.2))⟩
/-- what stays so amid the law's loop -/
structure CS.lw (C : CS) (k : Nat) : Prop where
  wf : C.wf
  la : C.la ≤ k
  rf : 0 ≤ C.rf ∧ C.rf ≤ k
  tk : ∀ e ∈ C.Q, okI e.j.tr
theorem put_la (C : CS) (e : JE) : (C.put e).la = C.la ∧ (C.put e).rf = C.rf ∧ (C.put e).mo = C.mo := ⟨rfl, rfl, rfl⟩
theorem tk_other {C : CS} (h : ∀ e ∈ C.Q, okI e.j.tr) (m : Ms) : ∀ e ∈ (C.other m).1.Q, okI e.j.tr := by
  unfold CS.other
  cases hq : C.at m.tj.1 with
  | none => exact h
  | some x =>
    have hx := (at_some hq).1
    intro e he
    dsimp only at he
    unfold CS.told at he
    split at he
    · exact h e (List.mem_filter.1 he).1
    · have key : e ∈ (C.put (x.hear m)).Q → okI e.j.tr := fun he => by
        rcases put_mem he with rfl | ⟨q, _⟩
        · show okI (x.j.hearM m).tr
          rw [(hearM_tr x.j m).1]; exact h x hx
        · exact h e q
      split at he <;> exact key he
theorem other_num (C : CS) (m : Ms) : (C.other m).1.la = C.la ∧ (C.other m).1.rf = C.rf := by
  unfold CS.other
  cases C.at m.tj.1 with
  | none => exact ⟨rfl, rfl⟩
  | some x =>
    dsimp only
    unfold CS.told
    split
    · exact ⟨rfl, rfl⟩
    · split <;> exact ⟨rfl, rfl⟩
theorem told_inv {C : CS} (h : C.wf) (m : Ms) : ∀ e ∈ (C.other m).2.toList, e.j.inv := by
  unfold CS.other
  cases hq : C.at m.tj.1 with
  | none => intro e he; cases he
  | some x =>
    have hx := (at_some hq).1
    intro e he
    dsimp only at he
    unfold CS.told at he
    split at he
    · cases he
    · split at he
      · cases he
      · have : e = x.hear m := by simpa using he
        subst this
        exact hearM_inv (h.inv x hx) m
theorem hear_trig {C : CS} {a t c : Int} (h : (Ms.trigger a t c).ok = true) (pn : Nat) : C.hear (.trigger a t c) pn = C.begin a t c pn := by
  unfold CS.hear
  rw [if_neg (by rw [h]; simp)]
theorem begin_lw {C : CS} {k : Nat} (h : C.lw k) {a t : Int} (hb : bTrigger a t 0 = true) (pn : Nat) (hw : (C.begin a t 0 pn).1.wf) : (C.begin a t 0 pn).1.lw (k + 1) ∧ ∀ e ∈ (C.begin a t 0 pn).2.toList, e.j.inv := by
  have hl := h.la
  have hr := h.rf
  obtain ⟨_, _, t1, t2⟩ := bT_facts hb
  revert hw
  unfold CS.begin
  split
  · exact fun hw => ⟨⟨hw, by show C.la ≤ _; omega, by show 0 ≤ C.rf ∧ C.rf ≤ _; omega, h.tk⟩, fun e he => by cases he⟩
  · split
    · exact fun hw => ⟨⟨hw, by show C.la ≤ _; omega, by show 0 ≤ C.rf + 1 ∧ C.rf + 1 ≤ _; omega, h.tk⟩, fun e he => by cases he⟩
    · refine fun hw => ⟨⟨hw, by show C.la + 1 ≤ _; omega, by show 0 ≤ C.rf ∧ C.rf ≤ _; omega, fun e he => ?_⟩, fun e he => ?_⟩
      · rcases List.mem_append.1 he with q | q
        · exact h.tk e q
        · rw [List.mem_singleton] at q
          subst q
          show okI (JS.new _ _ _ _ _).tr
          rw [(new_two _ _ _ _ _).1]
          exact okI_of (by omega) (by omega)
      · have : e = ⟨pn, C.la + 1, JS.new (C.la + 1) t 0 C.ag.toNat a.toNat, fun _ => []⟩ := by simpa using he
        subst this
        exact inv_new _ _ _ _ _
theorem hearO_lw {C : CS} {k : Nat} (h : C.lw k) (m : OpJ) (pn : Nat) (hw : (C.hearO m.ms pn).1.wf) : (C.hearO m.ms pn).1.lw (k + 1) ∧ ∀ e ∈ (C.hearO m.ms pn).2.toList, e.j.inv := by
  have hl := h.la
  have hr := h.rf
  have no : (C.hearO m.ms pn) = (C, none) → (C.hearO m.ms pn).1.lw (k + 1) ∧ ∀ e ∈ (C.hearO m.ms pn).2.toList, e.j.inv := fun e => by
    rw [e]
    exact ⟨⟨h.wf, by show C.la ≤ _; omega, by show 0 ≤ C.rf ∧ C.rf ≤ _; omega, h.tk⟩, fun e he => by cases he⟩
  cases hok : m.okm
  · exact no (hearO_bad hok pn)
  · cases hms : m.ms with
    | none => exact hms ▸ no (by rw [hms]; rfl)
    | some x =>
      have hxo : x.ok = true := by unfold OpJ.okm at hok; rw [hms] at hok; exact hok
      rw [hms] at hw
      by_cases h1 : m.k = 1
      · obtain rfl := ms_trig hms h1
        have e : C.hearO (some (.trigger m.a m.t 0)) pn = C.begin m.a m.t 0 pn := hear_trig hxo pn
        rw [e] at hw ⊢
        exact begin_lw h hxo pn hw
      · have e : C.hearO (some x) pn = C.other x := hear_oth (noTr_ms hms h1) pn hxo
        rw [e] at hw ⊢
        obtain ⟨e1, e2⟩ := other_num C x
        exact ⟨⟨hw, by rw [e1]; omega, by rw [e2]; omega, tk_other h.tk x⟩, told_inv h.wf x⟩
theorem trace_jg (p : Nat) (L : Nat → Prop) (j : JS) (X : Nat → List Int) (w : World) (h : JG w p L j X) : Calls Try.prog 14 #[.pointer (some ⟨p, 0, none⟩)] w fun e w' => e = .returned (.int .i64 j.tr) ∧ w' = w := by
  obtain ⟨j', hJ, rfl, _⟩ := h
  exact trace_any p j' w hJ
theorem zg_get {w : World} {B n : Nat} {gv : Value} {G : List (Int × Value)} (h : w.ownsRow B 47 2 gv n (zgC G)) {i : Nat} {x : Int} {m : Value} (hi : G[i]? = some (x, m)) : ∃ g, (∃ c, gv = .slice (some ⟨g, 0, none⟩) n c) ∧ w.cell? ⟨g, i * 2, none⟩ = some (.int .i64 x) ∧ w.cell? ⟨g, i * 2 + 1, none⟩ = some m := by
  have hil := (List.getElem?_eq_some_iff.1 hi).1
  have key : ∀ (G : List (Int × Value)) (i : Nat) x m, G[i]? = some (x, m) → (zgC G)[i * 2]? = some (.int .i64 x) ∧ (zgC G)[i * 2 + 1]? = some m := by
    intro G
    induction G with
    | nil => intro i x m h; simp at h
    | cons y r ih =>
      intro i x m h
      cases i with
      | zero => simp at h; subst h; exact ⟨rfl, rfl⟩
      | succ i =>
        obtain ⟨k1, k2⟩ := ih i x m (by simpa using h)
        have e : zgC (y :: r) = .int .i64 y.1 :: y.2 :: zgC r := rfl
        rw [e, show (i + 1) * 2 = i * 2 + 1 + 1 by omega]
        exact ⟨by simpa using k1, by simpa using k2⟩
  obtain ⟨k1, k2⟩ := key G i x m hi
  have hl : (zgC G).length = G.length * 2 := by
    clear key k1 k2 hi hil h
    induction G with
    | nil => rfl
    | cons y r ih => show (zgC r).length + 1 + 1 = _; rw [ih, List.length_cons]; omega
  have hnG : G.length = n := by have := h.1; omega
  obtain ⟨g, cap, rfl, _⟩ := ownsRow_some h (by omega)
  have c1 := h.cells (g := g) rfl _ _ k1
  have c2 := h.cells (g := g) rfl _ _ k2
  rw [add_none, Nat.zero_add] at c1 c2
  exact ⟨g, ⟨cap, rfl⟩, c1, c2⟩
end Go.Proofs.Ytidcoddefebdpaa
