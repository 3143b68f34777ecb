/-
  What both say is the same: the law's comparison.
  Both coordinators hear a call's message: what stays of them, plain; where a call's message lies.
  The reference's coordinator hears a trigger.
-/
import Derived.Test.YtidcoddefebdpaaGreatRjB
import Derived.Test.YtidcoddefebdpaaGreatCoordP2
import Derived.Test.YtidcoddefebdpaaGreatCoA
import Derived.Test.YtidcoddefebdpaaGreatCoB
section
set_option linter.unusedVariables false
set_option linter.unusedSimpArgs false
set_option maxRecDepth 100000
set_option maxRecDepth 100000
namespace Go.Proofs.YtidcoddefebdpaaGreat
open Go.RowKit Go Go.Maps Go.Lib

set_option maxHeartbeats 8000000 in
theorem sameQ_any (w : World) (Q : List JE) (B B2 M0 : Nat) (u ut uo : Value) (hp : SaidP B w u Q) (hr : SaidR B2 M0 w ut uo Q) (hi : ∀ e ∈ Q, e.j.inv) (hQ : Q.length ≤ 8) :
    Calls Tryz.prog 8 #[u, ut, uo] w fun e w' => e = .returned (.bool true) ∧ Fr noB w w' := by
  obtain ⟨P, h1, oG, h2⟩ := hp
  obtain ⟨R, h3, oT, oM, h4⟩ := hr
  obtain ⟨hl, hsz⟩ := sameQ (w := w) Q P R h1 h3 hi h2 (fun i e p k1 k2 k3 => (h4 i e p k1 k2 k3).ps)
  have hGl := tickG_len Q P
  rw [← hl] at oT oM
  generalize tickG Q P = G at *
  generalize tickZ Q R = Z at *
  obtain ⟨nz, hnz⟩ : ∃ nz, G.length = nz := ⟨_, rfl⟩
  rw [hnz] at oG oT oM hsz hGl
  have hn5 : nz ≤ 100 := by omega
  obtain ⟨ga, gc, rfl⟩ := ownsRow_slice oG
  obtain ⟨ta, tc, rfl⟩ := ownsRow_slice oT
  obtain ⟨ma, mc, rfl⟩ := ownsRow_slice oM
  have hgG := fun i x m h => zg_get oG (i := i) (x := x) (m := m) h
  have hgT := fun i x M h => zt_get oT (i := i) (x := x) (M := M) h
  have hgM := fun i x M h => zm_get oM (i := i) (x := x) (M := M) h
  have e4 : ((nz : Int) != nz) = false := by simp
  replace hsz := Lib.hid hsz
  replace hgG := Lib.hid hgG
  replace hgT := Lib.hid hgT
  replace hgM := Lib.hid hgM
  clear h1 h2 h3 h4 hi hl hnz oG oT oM hGl
  go_enter Tryz.func8, Tryz.ntmps8
  go_wp2_with fail
  go_loopg [15] nz (fun gk2 i wr2 => ∃ k2 : Nat, k2 + gk2 = nz ∧ i = .int .i64 k2 ∧ Hid (Fr noB w wr2))
  case atStart => exact ⟨0, Nat.zero_add _, rfl, Lib.hid (Fr.refl _ _)⟩
  case round =>
    obtain ⟨k2, hk2, rfl, fI⟩ := hrel
    obtain ⟨wr2, rfl⟩ : ∃ wr2 : World, wr2 = wr := ⟨_, rfl⟩
    obtain ⟨gk2, rfl⟩ : ∃ gk2 : Nat, gk2 = gk := ⟨_, rfl⟩
    by_cases hlt2 : k2 < nz
    · obtain ⟨x2, m2, M2, hG2, hZ2, hsm⟩ := hsz.out k2 hlt2
      obtain ⟨gg, ⟨gc', hgv⟩, a0, a1⟩ := hgG.out k2 x2 m2 hG2
      obtain ⟨tg, ⟨tc', htv⟩, a2⟩ := hgT.out k2 x2 M2 hZ2
      obtain ⟨mg, ⟨mc', hmv⟩, a3⟩ := hgM.out k2 x2 M2 hZ2
      injection hgv with hgv _ hgc
      injection htv with htv _ htc
      injection hmv with hmv _ hmc
      subst hgv htv hmv hgc htc hmc
      have hA : ∀ w', Fr noB w w' → (w'.cell? ⟨gg, k2 * 2, none⟩ = some (.int .i64 x2) ∧ w'.cell? ⟨gg, k2 * 2 + 1, none⟩ = some m2 ∧ w'.cell? ⟨tg, k2, none⟩ = some (.int .i64 x2) ∧ w'.cell? ⟨mg, k2 * 15, none⟩ = some (.int .i64 M2.k) ∧ w'.cell? ⟨mg, k2 * 15 + 1, none⟩ = some (.int .i64 M2.a) ∧ w'.cell? ⟨mg, k2 * 15 + 2, none⟩ = some (.int .i64 M2.t) ∧ w'.cell? ⟨mg, k2 * 15 + 3, none⟩ = some (.int .i64 M2.j) ∧ w'.cell? ⟨mg, k2 * 15 + 4, none⟩ = some (.int .i64 M2.c) ∧ w'.cell? ⟨mg, k2 * 15 + 5, none⟩ = some (.int .i64 M2.i) ∧ w'.cell? ⟨mg, k2 * 15 + 6, none⟩ = some (.int .i64 M2.n) ∧ w'.cell? ⟨mg, k2 * 15 + 7, none⟩ = some (.int .i64 M2.pa) ∧ w'.cell? ⟨mg, k2 * 15 + 8, none⟩ = some (.int .i64 M2.pt) ∧ w'.cell? ⟨mg, k2 * 15 + 9, none⟩ = some (.int .i64 M2.pj) ∧ w'.cell? ⟨mg, k2 * 15 + 10, none⟩ = some (.int .i64 M2.pc) ∧ w'.cell? ⟨mg, k2 * 15 + 11, none⟩ = some (.slice M2.ua M2.un M2.uc) ∧ w'.cell? ⟨mg, k2 * 15 + 12, none⟩ = some (.bool M2.lo) ∧ w'.cell? ⟨mg, k2 * 15 + 13, none⟩ = some (.slice M2.qa M2.qn M2.qc) ∧ w'.cell? ⟨mg, k2 * 15 + 14, none⟩ = some (.slice M2.sa M2.sn M2.sc)) := fun w' f => ⟨f.cell a0 (fun q => q), f.cell a1 (fun q => q), f.cell a2 (fun q => q), f.cell (a3 0 _ rfl) (fun q => q), f.cell (a3 1 _ rfl) (fun q => q), f.cell (a3 2 _ rfl) (fun q => q), f.cell (a3 3 _ rfl) (fun q => q), f.cell (a3 4 _ rfl) (fun q => q), f.cell (a3 5 _ rfl) (fun q => q), f.cell (a3 6 _ rfl) (fun q => q), f.cell (a3 7 _ rfl) (fun q => q), f.cell (a3 8 _ rfl) (fun q => q), f.cell (a3 9 _ rfl) (fun q => q), f.cell (a3 10 _ rfl) (fun q => q), f.cell (a3 11 _ rfl) (fun q => q), f.cell (a3 12 _ rfl) (fun q => q), f.cell (a3 13 _ rfl) (fun q => q), f.cell (a3 14 _ rfl) (fun q => q)⟩
      have hsm2 : ∀ w1, Fr noB w w1 → Calls Tryz.prog 12 #[m2] w1 fun e w2 => ∃ u, e = .returned u ∧ Fr noB w1 w2 ∧ ∀ w3, Fr noB w2 w3 → Calls Tryz.prog 20 #[u, .agg #[.int .i64 M2.k, .int .i64 M2.a, .int .i64 M2.t, .int .i64 M2.j, .int .i64 M2.c, .int .i64 M2.i, .int .i64 M2.n, .int .i64 M2.pa, .int .i64 M2.pt, .int .i64 M2.pj, .int .i64 M2.pc, .slice M2.ua M2.un M2.uc, .bool M2.lo, .slice M2.qa M2.qn M2.qc, .slice M2.sa M2.sn M2.sc]] w3 fun e w4 => e = .returned (.bool true) ∧ Fr noB w3 w4 := hsm
      have fCI : Fr noB w wr2 := fI.out
      have hm2 : nz - (k2 + 1) < gk2 := by omega
      have hk22 : k2 + 1 + (nz - (k2 + 1)) = nz := by omega
      have hb2 : (k2 : Int) < nz := by omega
      have ex : (x2 != x2) = false := by simp
      replace hA := Lib.hid hA
      replace hsm2 := Lib.hid hsm2
      replace hm2 := Lib.hid hm2
      replace hk22 := Lib.hid hk22
      clear a0 a1 a2 a3 hsm hG2 hZ2
      go_upto_region 6 with fail
      go_cut [41] from 18 to 41 (fun b wy => b = .bool false ∧ Fr noB wr2 wy)
      case first =>
        go_region_held3 (fun w' => w'.cell? ⟨gg, k2 * 2, none⟩ = some (.int .i64 x2) ∧ w'.cell? ⟨gg, k2 * 2 + 1, none⟩ = some m2 ∧ w'.cell? ⟨tg, k2, none⟩ = some (.int .i64 x2) ∧ w'.cell? ⟨mg, k2 * 15, none⟩ = some (.int .i64 M2.k) ∧ w'.cell? ⟨mg, k2 * 15 + 1, none⟩ = some (.int .i64 M2.a) ∧ w'.cell? ⟨mg, k2 * 15 + 2, none⟩ = some (.int .i64 M2.t) ∧ w'.cell? ⟨mg, k2 * 15 + 3, none⟩ = some (.int .i64 M2.j) ∧ w'.cell? ⟨mg, k2 * 15 + 4, none⟩ = some (.int .i64 M2.c) ∧ w'.cell? ⟨mg, k2 * 15 + 5, none⟩ = some (.int .i64 M2.i) ∧ w'.cell? ⟨mg, k2 * 15 + 6, none⟩ = some (.int .i64 M2.n) ∧ w'.cell? ⟨mg, k2 * 15 + 7, none⟩ = some (.int .i64 M2.pa) ∧ w'.cell? ⟨mg, k2 * 15 + 8, none⟩ = some (.int .i64 M2.pt) ∧ w'.cell? ⟨mg, k2 * 15 + 9, none⟩ = some (.int .i64 M2.pj) ∧ w'.cell? ⟨mg, k2 * 15 + 10, none⟩ = some (.int .i64 M2.pc) ∧ w'.cell? ⟨mg, k2 * 15 + 11, none⟩ = some (.slice M2.ua M2.un M2.uc) ∧ w'.cell? ⟨mg, k2 * 15 + 12, none⟩ = some (.bool M2.lo) ∧ w'.cell? ⟨mg, k2 * 15 + 13, none⟩ = some (.slice M2.qa M2.qn M2.qc) ∧ w'.cell? ⟨mg, k2 * 15 + 14, none⟩ = some (.slice M2.sa M2.sn M2.sc))
          (first | exact hA.out _ (fCI.seqN z8) | exact hA.out _ (fCI.seqN z7) | exact hA.out _ (fCI.seqN ((Fr.refl noB _).drewN 1)) | fail)
          (first
            | (go_at_call 20; refine (hsame.out _ (Fr.refl _ _)).mono ?_; rintro e w8 ⟨rfl, z80⟩; have z8 := z7.seqN z80)
            | (go_at_call 12; refine (hsm2.out _ (fCI.seqN ((Fr.refl noB _).drewN 1))).mono ?_; rintro e w7 ⟨u7, rfl, z70, hsame⟩; replace hsame := Lib.hid hsame; have z7 := ((Fr.refl noB wr2).drewN 1).seqN z70)
            | fail)
        all_goals (
          go_wp2_with fail
          go_meet
          exact ⟨rfl, z8⟩)
      case rest =>
        obtain ⟨rfl, fY⟩ := hcut
        have fI2 := Lib.hid (fI.out.seqN fY)
        clear fY
        go_wp2_with fail
        go_roundg (nz - (k2 + 1))
        case rel => exact ⟨k2 + 1, hk22.out, by go_num, fI2⟩
        case measure => exact hm2.out
    · obtain rfl : k2 = nz := by omega
      go_wp2_with fail
      go_ret
      exact ⟨rfl, fI.out⟩
end Go.Proofs.YtidcoddefebdpaaGreat
end

section
set_option linter.unusedVariables false
set_option linter.unusedSimpArgs false
set_option maxRecDepth 100000
set_option maxRecDepth 100000
namespace Go.Proofs.YtidcoddefebdpaaGreat
open Go.RowKit Go Go.Maps Go.Lib

theorem noTr_ms {m : OpJ} {x : Ms} (h : m.ms = some x) (hk : m.k ≠ 1) : NoTr x := by
  rcases ms_tab h with ⟨q, rfl⟩ | ⟨_, rfl⟩ | ⟨_, rfl⟩ | ⟨_, rfl⟩ | ⟨_, rfl⟩ | ⟨_, rfl⟩ | ⟨_, rfl⟩ | ⟨_, rfl⟩ | ⟨_, rfl⟩ | ⟨_, rfl⟩
  · exact absurd q hk
  all_goals trivial
theorem ms_trig {m : OpJ} {x : Ms} (h : m.ms = some x) (hk : m.k = 1) : x = .trigger m.a m.t 0 := by
  rcases ms_tab h with ⟨_, e⟩ | ⟨q, _⟩ | ⟨q, _⟩ | ⟨q, _⟩ | ⟨q, _⟩ | ⟨q, _⟩ | ⟨q, _⟩ | ⟨q, _⟩ | ⟨q, _⟩ | ⟨q, _⟩
  · exact e
  all_goals omega
theorem new_two (id t c : Int) (n a : Nat) : (JS.new id t c n a).tr = t ∧ (JS.new id t c n a).id = id := ⟨(upd_two _ _ _ |> fun e => (by unfold JS.two at e; simp only [Prod.mk.injEq] at e; exact e.1)), (upd_two _ _ _ |> fun e => (by unfold JS.two at e; simp only [Prod.mk.injEq] at e; exact e.2))⟩
/-- what stays so amid the law's loop -/
structure CS.lw (C : CS) (k : Nat) : Prop where
  wf : C.wf
  la : C.la ≤ k
  rf : 0 ≤ C.rf ∧ C.rf ≤ k
  tk : ∀ e ∈ C.Q, okI e.j.tr
theorem put_la (C : CS) (e : JE) : (C.put e).la = C.la ∧ (C.put e).rf = C.rf ∧ (C.put e).mo = C.mo := ⟨rfl, rfl, rfl⟩
theorem tk_other {C : CS} (h : ∀ e ∈ C.Q, okI e.j.tr) (m : Ms) : ∀ e ∈ (C.other m).1.Q, okI e.j.tr := by
  unfold CS.other
  cases hq : C.at m.tj.1 with
  | none => exact h
  | some x =>
    have hx := (at_some hq).1
    intro e he
    dsimp only at he
    unfold CS.told at he
    split at he
    · exact h e (List.mem_filter.1 he).1
    · have key : e ∈ (C.put (x.hear m)).Q → okI e.j.tr := fun he => by
        rcases put_mem he with rfl | ⟨q, _⟩
        · show okI (x.j.hearM m).tr
          rw [(hearM_tr x.j m).1]; exact h x hx
        · exact h e q
      split at he <;> exact key he
theorem other_num (C : CS) (m : Ms) : (C.other m).1.la = C.la ∧ (C.other m).1.rf = C.rf := by
  unfold CS.other
  cases C.at m.tj.1 with
  | none => exact ⟨rfl, rfl⟩
  | some x =>
    dsimp only
    unfold CS.told
    split
    · exact ⟨rfl, rfl⟩
    · split <;> exact ⟨rfl, rfl⟩
theorem told_inv {C : CS} (h : C.wf) (m : Ms) : ∀ e ∈ (C.other m).2.toList, e.j.inv := by
  unfold CS.other
  cases hq : C.at m.tj.1 with
  | none => intro e he; cases he
  | some x =>
    have hx := (at_some hq).1
    intro e he
    dsimp only at he
    unfold CS.told at he
    split at he
    · cases he
    · split at he
      · cases he
      · have : e = x.hear m := by simpa using he
        subst this
        exact hearM_inv (h.inv x hx) m
theorem hear_trig {C : CS} {a t c : Int} (h : (Ms.trigger a t c).ok = true) (pn : Nat) : C.hear (.trigger a t c) pn = C.begin a t c pn := by
  unfold CS.hear
  rw [if_neg (by rw [h]; simp)]
theorem begin_lw {C : CS} {k : Nat} (h : C.lw k) {a t : Int} (hb : bTrigger a t 0 = true) (pn : Nat) (hw : (C.begin a t 0 pn).1.wf) : (C.begin a t 0 pn).1.lw (k + 1) ∧ ∀ e ∈ (C.begin a t 0 pn).2.toList, e.j.inv := by
  have hl := h.la
  have hr := h.rf
  obtain ⟨_, _, t1, t2⟩ := bT_facts hb
  revert hw
  unfold CS.begin
  split
  · exact fun hw => ⟨⟨hw, by show C.la ≤ _; omega, by show 0 ≤ C.rf ∧ C.rf ≤ _; omega, h.tk⟩, fun e he => by cases he⟩
  · split
    · exact fun hw => ⟨⟨hw, by show C.la ≤ _; omega, by show 0 ≤ C.rf + 1 ∧ C.rf + 1 ≤ _; omega, h.tk⟩, fun e he => by cases he⟩
    · refine fun hw => ⟨⟨hw, by show C.la + 1 ≤ _; omega, by show 0 ≤ C.rf ∧ C.rf ≤ _; omega, fun e he => ?_⟩, fun e he => ?_⟩
      · rcases List.mem_append.1 he with q | q
        · exact h.tk e q
        · rw [List.mem_singleton] at q
          subst q
          show okI (JS.new _ _ _ _ _).tr
          rw [(new_two _ _ _ _ _).1]
          exact okI_of (by omega) (by omega)
      · have : e = ⟨pn, C.la + 1, JS.new (C.la + 1) t 0 C.ag.toNat a.toNat, fun _ => []⟩ := by simpa using he
        subst this
        exact inv_new _ _ _ _ _
theorem hearO_lw {C : CS} {k : Nat} (h : C.lw k) (m : OpJ) (pn : Nat) (hw : (C.hearO m.ms pn).1.wf) : (C.hearO m.ms pn).1.lw (k + 1) ∧ ∀ e ∈ (C.hearO m.ms pn).2.toList, e.j.inv := by
  have hl := h.la
  have hr := h.rf
  have no : (C.hearO m.ms pn) = (C, none) → (C.hearO m.ms pn).1.lw (k + 1) ∧ ∀ e ∈ (C.hearO m.ms pn).2.toList, e.j.inv := fun e => by
    rw [e]
    exact ⟨⟨h.wf, by show C.la ≤ _; omega, by show 0 ≤ C.rf ∧ C.rf ≤ _; omega, h.tk⟩, fun e he => by cases he⟩
  cases hok : m.okm
  · exact no (hearO_bad hok pn)
  · cases hms : m.ms with
    | none => exact hms ▸ no (by rw [hms]; rfl)
    | some x =>
      have hxo : x.ok = true := by unfold OpJ.okm at hok; rw [hms] at hok; exact hok
      rw [hms] at hw
      by_cases h1 : m.k = 1
      · obtain rfl := ms_trig hms h1
        have e : C.hearO (some (.trigger m.a m.t 0)) pn = C.begin m.a m.t 0 pn := hear_trig hxo pn
        rw [e] at hw ⊢
        exact begin_lw h hxo pn hw
      · have e : C.hearO (some x) pn = C.other x := hear_oth (noTr_ms hms h1) pn hxo
        rw [e] at hw ⊢
        obtain ⟨e1, e2⟩ := other_num C x
        exact ⟨⟨hw, by rw [e1]; omega, by rw [e2]; omega, tk_other h.tk x⟩, told_inv h.wf x⟩
/-- a call's message, and where it lies -/
def MsgB (B : Nat) (w : World) (m : OpJ) (v : Value) : Prop := (m.k ≠ 7 ∧ ∀ w', MsgV w' m v) ∨ (m.k = 7 ∧ ∃ g, v = mManifest m.t m.j 0 (.slice (some ⟨g, 0, none⟩) 2 2) ∧ B ≤ g ∧ Blk w g 67 [.int .i64 m.a, .int .i64 m.t, .int .i64 m.j, .int .i64 1, .slice m.ua m.un m.uc, .bool m.lo, .int .i64 (wrap64 (m.a + 1)), .int .i64 m.t, .int .i64 m.j, .int .i64 1, .slice m.ua m.un m.uc, .bool m.lo])
theorem MsgB.v {B : Nat} {w : World} {m : OpJ} {v : Value} (h : MsgB B w m v) : MsgV w m v := by
  rcases h with ⟨_, h⟩ | ⟨hk, g, rfl, _, hb⟩
  · exact h w
  · exact .k7 g hk hb
theorem MsgB.fr {B : Nat} {w w' : World} {m : OpJ} {v : Value} {S : Nat → Prop} (h : MsgB B w m v) (f : Fr S w w') (hS : ∀ g, S g → g < B) : MsgB B w' m v := by
  rcases h with h | ⟨hk, g, e, hg, hb⟩
  · exact Or.inl h
  · exact Or.inr ⟨hk, g, e, hg, f.blk hb (fun q => by have := hS g q; omega)⟩
theorem MsgB.frN {B : Nat} {w w' : World} {m : OpJ} {v : Value} (h : MsgB B w m v) (f : Fr noB w w') : MsgB B w' m v := h.fr f (fun _ q => q.elim)
theorem MsgB.mono {B B' : Nat} {w : World} {m : OpJ} {v : Value} (h : MsgB B w m v) (hB : B' ≤ B) : MsgB B' w m v := by
  rcases h with h | ⟨hk, g, e, hg, hb⟩
  · exact Or.inl h
  · exact Or.inr ⟨hk, g, e, by omega, hb⟩
theorem makeB_any (m : OpJ) (w : World) :
    Calls Tryz.prog 26 #[.int .i64 m.k, .int .i64 m.a, .int .i64 m.t, .int .i64 m.j, .int .i64 0, .int .i64 1, .slice m.ua m.un m.uc, .bool m.lo, .slice none 0 0] w fun e w' => ∃ v, e = .returned v ∧ MsgB w.heap.size w' m v ∧ Fr noB w w' := by
  by_cases h7 : m.k = 7
  · rw [h7]; exact (make_7 m.a m.t m.j 0 1 m.ua m.un m.uc m.lo none 0 0 w).mono fun e w' ⟨g, h1, h0, h2, h3⟩ => ⟨_, h1, Or.inr ⟨h7, g, rfl, h0, h2⟩, h3⟩
  · refine (make_any m w).mono fun e w' ⟨v, h1, h2, h3⟩ => ⟨v, h1, Or.inl ⟨h7, fun w2 => ?_⟩, h3⟩
    cases h2 with
    | k1 h => exact .k1 h
    | k2 h => exact .k2 h
    | k3 h => exact .k3 h
    | k4 h => exact .k4 h
    | k5 h => exact .k5 h
    | k6 h => exact .k6 h
    | k7 g h hb => exact absurd h h7
    | k8 h => exact .k8 h
    | k9 h => exact .k9 h
    | k10 h => exact .k10 h
    | k0 h => exact .k0 h
set_option maxHeartbeats 1000000 in
theorem messageB_any (m : OpJ) (w : World) :
    Calls Tryz.prog 10 #[.agg #[.int .i64 m.k, .int .i64 m.a, .int .i64 m.t, .int .i64 m.j, .slice m.ua m.un m.uc, .bool m.lo]] w fun e w' => ∃ v, e = .returned v ∧ MsgB w.heap.size w' m v ∧ Fr noB w w' := by
  have fX := (Fr.refl noB w).alloc (.cells #[.int .i64 m.k, .int .i64 m.a, .int .i64 m.t, .int .i64 m.j, .slice m.ua m.un m.uc, .bool m.lo] 38)
  have hsz := fX.size
  have hm := makeB_any m
  replace hm := Lib.hid hm
  replace hsz := Lib.hid hsz
  go_enter Tryz.func10, Tryz.ntmps10
  go_wp2_with fail
  refine (hm.out _).mono ?_
  rintro e w1 ⟨v, rfl, hv, f1⟩
  have g1 := fX.seqN f1
  have hv := hv.mono hsz.out
  replace hv := Lib.hid hv
  clear fX f1 hm
  go_wp2_with fail
  go_ret
  exact ⟨v, rfl, hv.out, g1⟩
end Go.Proofs.YtidcoddefebdpaaGreat
end

section
set_option linter.unusedVariables false
set_option linter.unusedSimpArgs false
set_option maxRecDepth 100000
set_option maxRecDepth 100000
namespace Go.Proofs.YtidcoddefebdpaaGreat
open Go.RowKit Go Go.Maps Go.Lib

/-- a job more -/
theorem Rc.more {w w1 w2 w3 : World} {z B M0 : Nat} {E : Nat → Prop} {ja : Option Addr} {jc : Nat} {C : CS} {R : List QE} (h : Rc w z B E ja jc C.ag C.mo C.la C.rf R) (hl : Rl w M0 C R) {a t : Int} (hM : M0 ≤ B)
    (s1 : Fr (onlyB z) w w1) (b1 : Blk w1 z 35 [.int .i64 C.ag, .int .i64 C.mo, .slice ja R.length jc, .int .i64 (C.la + 1), .int .i64 C.rf])
    {x : QE} (hx : ∀ g, x.B g → w.heap.size ≤ g) (f2 : Fr noB w1 w2) (hj : Rj w2 x.r x.gs x.gp x.gf x.q) (hjr : JRl (JE.new C a t 0 0).j x.q) (hjx : RdX w2 M0 x.q (fun _ => []))
    {w2' : World} (f2' : Fr noB w2 w2') {ja' : Option Addr} {jc' : Nat} (o3 : w3.ownsRow B 58 1 (.slice ja' (R.length + 1) jc') (R.length + 1) (R.map QE.v ++ [x.v])) (f3 : Fr (rowB (.slice ja R.length jc)) w2' w3) (m3 : Moved w2' (.slice ja R.length jc) (.slice ja' (R.length + 1) jc'))
    {w4 : World} (e4 : w4 = w3.setCell ⟨z, 2, none⟩ (.slice ja' (R.length + 1) jc')) :
    ∃ E', (∀ pn, Rc w4 z B E' ja' jc' C.ag C.mo (C.la + 1) C.rf (R ++ [x]) ∧ Rl w4 M0 { C with la := C.la + 1, Q := C.Q ++ [JE.new C a t 0 pn] } (R ++ [x])) ∧ (∀ g, E' g → E g ∨ w.heap.size ≤ g) ∧ Fr E w w4 := by
  subst e4
  have s4 : Fr (onlyB z) w3 (w3.setCell ⟨z, 2, none⟩ (.slice ja' (R.length + 1) jc')) := (Fr.refl _ _).store rfl
  have hs1 := s1.size
  have hs2 := f2.size
  have hs2' := f2'.size
  have hs3 := f3.size
  have hs4 := s4.size
  have hEl := h.lo
  have hxE : ∀ g, x.B g → ¬ E g := fun g hg q => by have := hx g hg; have := (hEl g q).2; omega
  have hzE := h.ine.1
  have hrow : ∀ g, rowB (.slice ja R.length jc) g → E g := fun g hg => h.ine.2.1 g hg
  have f22 := f2.seqN f2'
  have hxlt : ∀ g, x.B g → g < w2.heap.size := fun g hg => by
    rcases hg with rfl | rfl | rfl | rfl
    · exact hj.blk.lt
    · exact hj.bs.lt
    · exact hj.bp.lt
    · exact hj.bf.lt
  have hnew : ∀ g, (Value.slice ja' (R.length + 1) jc').ownBlock = some g → E g ∨ w2'.heap.size ≤ g := fun g hg => by
    rcases m3 with e | e
    · exact Or.inl (h.ine.2.1 g (by rw [← e]; exact hg))
    · rw [e] at hg; injection hg with hg; exact Or.inr (by omega)
  have hzn : ∀ g, (Value.slice ja' (R.length + 1) jc').ownBlock = some g → ¬ onlyB z g := fun g hg e => by
    unfold onlyB at e
    subst e
    rcases m3 with e | e
    · exact h.az2 (by rw [← e]; exact hg)
    · rw [e] at hg; injection hg with hg; have := (hEl _ hzE).2; omega
  have b2 := f22.blk b1 (fun q => q)
  have b3 := f3.blk b2 (fun e => h.az2 e)
  have b4 := b3.set 2 (.slice ja' (R.length + 1) jc')
  simp only [List.set_cons_zero, List.set_cons_succ] at b4
  have hlen : (R ++ [x]).length = R.length + 1 := by rw [List.length_append]; rfl
  have hEs : ∀ g, E g → g < w3.heap.size := fun g hg => by have := (hEl g hg).2; omega
  refine ⟨fun g => E g ∨ (w.heap.size ≤ g ∧ g < w3.heap.size), fun pn => ⟨⟨?_, ?_, ?_, ?_, ?_, ?_, ⟨Or.inl hzE, ?_, ?_⟩, ?_⟩, ?_, ?_⟩, fun g hg => hg.imp id (fun q => q.1), ?_⟩
  · rw [hlen]; exact b4
  · rw [hlen, List.map_append]; exact ownsRow_fr o3 s4 hzn
  · intro y hy
    rcases List.mem_append.1 hy with q | q
    · have j1 := (h.jobs y q).fr s1 (fun g hg e => (h.az y q g hg).1 e)
      exact ((j1.frN f22).fr f3 (fun g hg e => (h.az y q g hg).2 e)).fr s4 (fun g hg e => (h.az y q g hg).1 e)
    · obtain rfl := List.mem_singleton.1 q
      exact ((hj.frN f2').fr f3 (fun g hg e => hxE g hg (hrow g e))).fr s4 (fun g hg e => by unfold onlyB at e; subst e; exact hxE _ hg hzE)
  · rw [List.pairwise_append]
    refine ⟨h.ap, List.pairwise_singleton _ _, fun y hy u hu => ?_⟩
    obtain rfl := List.mem_singleton.1 hu
    exact fun g hg q => hxE g q (h.ine.2.2 y hy g hg)
  · intro y hy g hg
    rw [hlen]
    rcases List.mem_append.1 hy with q | q
    · refine ⟨(h.az y q g hg).1, fun e => ?_⟩
      rcases m3 with e' | e'
      · exact (h.az y q g hg).2 (by rw [← e']; exact e)
      · rw [e'] at e; injection e with e; have := (hEl g (h.ine.2.2 y q g hg)).2; omega
    · obtain rfl := List.mem_singleton.1 q
      refine ⟨fun e => by subst e; exact hxE _ hg hzE, fun e => ?_⟩
      rcases hnew g e with q | q
      · exact hxE g hg q
      · have := hxlt g hg; omega
  · rw [hlen]; exact fun e => hzn z e rfl
  · intro g hg
    rw [hlen] at hg
    rcases hnew g hg with q | q
    · exact Or.inl q
    · exact Or.inr ⟨by omega, (o3.lt g hg).2⟩
  · intro y hy g hg
    rcases List.mem_append.1 hy with q | q
    · exact Or.inl (h.ine.2.2 y q g hg)
    · obtain rfl := List.mem_singleton.1 q
      exact Or.inr ⟨hx g hg, by have := hxlt g hg; omega⟩
  · intro g hg
    rcases hg with hg | hg
    · have := hEl g hg; exact ⟨this.1, by omega⟩
    · have := (hEl z hzE); exact ⟨by omega, by omega⟩
  · show (C.Q ++ [JE.new C a t 0 pn]).length = _
    rw [List.length_append, List.length_append, hl.len]; rfl
  · intro i e y h1 h2
    have hfr : ∀ {q : RJ} {X : Nat → List Int}, RdX w2 M0 q X → RdX (w3.setCell ⟨z, 2, none⟩ (.slice ja' (R.length + 1) jc')) M0 q X := fun r => ((r.fr f2' (fun _ _ q => q)).fr f3 (fun g hg e => by have := (hEl g (hrow g e)).1; omega)).fr s4 (fun g hg e => by unfold onlyB at e; subst e; have := (hEl _ hzE).1; omega)
    rcases Nat.lt_or_ge i R.length with q | q
    · have h1' : C.Q[i]? = some e := by
        have : (C.Q ++ [JE.new C a t 0 pn])[i]? = some e := h1
        rwa [List.getElem?_append_left (by rw [hl.len]; exact q)] at this
      rw [List.getElem?_append_left q] at h2
      obtain ⟨r1, r2⟩ := hl.rel i e y h1' h2
      exact ⟨r1, hfr ((r2.fr s1 (fun g hg e => by unfold onlyB at e; subst e; have := (hEl _ hzE).1; omega)).fr f2 (fun _ _ q => q))⟩
    · have hik : i = R.length := by
        have := (List.getElem?_eq_some_iff.1 h2).1
        rw [hlen] at this
        omega
      have h1' : (C.Q ++ [JE.new C a t 0 pn])[i]? = some e := h1
      rw [hik, List.getElem?_append_right (by rw [hl.len]; exact Nat.le_refl _), hl.len, Nat.sub_self] at h1'
      rw [hik, List.getElem?_append_right (Nat.le_refl _), Nat.sub_self] at h2
      obtain rfl := one_get h1'
      obtain rfl := one_get h2
      exact ⟨hjr, hfr hjx⟩
  · have hE : ∀ {u v : World}, Fr (onlyB z) u v → Fr E u v := fun f => f.mono (fun g _ e => by unfold onlyB at e; subst e; exact hzE)
    exact (((hE s1).seqN f22).trans (f3.mono (fun g _ e => hrow g e)) (fun _ _ q => q) (fun _ _ q => q)).trans (hE s4) (fun _ _ q => q) (fun _ _ q => q)
end Go.Proofs.YtidcoddefebdpaaGreat
end
