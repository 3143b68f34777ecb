/-
  A manifest comes: copyParts.
  Stage 18: a name only.
  A manifest comes: take; any message comes: Hear.
-/
import Derived.Test.YtdmhnoffejjpnaaGreatDoorZAR
import Derived.Test.YtdmhnoffejjpnaaGreatDoorZAO
import Derived.Test.YtdmhnoffejjpnaaGreatDoorZAM
section
set_option linter.unusedVariables false
set_option linter.unusedSimpArgs false
set_option maxRecDepth 100000
set_option maxRecDepth 100000
namespace Go.Proofs.YtdmhnoffejjpnaaGreatDoor
open Go.RowKit Go Go.Maps Go.Lib

/-- the cells of parts -/
def PuAt (cs : List Value) (P : List PU) : Prop := ∀ i u, P[i]? = some u → ∀ q x, u.cs[q]? = some x → cs[i * 6 + q]? = some x
theorem pu_of {w : World} {a : Addr} {n c : Nat} {ps : List Pn} (h : RdPs w (.slice (some a) n c) ps) (hne : ps ≠ []) : ∃ (P : List PU) (g o : Nat), a = ⟨g, o, none⟩ ∧ P.map PU.p = ps ∧ P.length = n ∧ n ≤ c ∧ (∀ j x, (P.flatMap PU.cs)[j]? = some x → w.cell? ⟨g, o + j, none⟩ = some x) ∧ ∀ u ∈ P, RdI w u.v u.p.cr := by
  obtain ⟨a', c', e, h1, h2, h3⟩ := h
  injection e with e1 e2 e3
  subst e2 e3
  obtain ⟨p0, hp0⟩ : ∃ p0, ps[0]? = some p0 := ⟨ps[0]'(List.length_pos_iff.2 hne), List.getElem?_eq_getElem _⟩
  obtain ⟨g, o, ua0, uc0, e4, _, _⟩ := h3 0 p0 hp0
  rw [← e1] at e4
  injection e4 with e4
  have key : ∀ i : Fin ps.length, ∃ ua uc, (∀ q x, (pnC ps[i] (.slice ua ps[i].cr.length uc))[q]? = some x → w.cell? ⟨g, o + (i.1 * 6 + q), none⟩ = some x) ∧ RdI w (.slice ua ps[i].cr.length uc) ps[i].cr := by
    intro i
    obtain ⟨g', o', ua, uc, e5, h5, h6⟩ := h3 i.1 ps[i] (List.getElem?_eq_getElem i.2)
    rw [← e1, e4] at e5
    injection e5 with e5
    injection e5 with e6 e7 _
    subst e6 e7
    exact ⟨ua, uc, h5, h6⟩
  obtain ⟨ua, uc, hk1, hk2⟩ : ∃ (ua : Fin ps.length → Option Addr) (uc : Fin ps.length → Nat), (∀ i : Fin ps.length, ∀ q x, (pnC ps[i] (.slice (ua i) ps[i].cr.length (uc i)))[q]? = some x → w.cell? ⟨g, o + (i.1 * 6 + q), none⟩ = some x) ∧ (∀ i : Fin ps.length, RdI w (.slice (ua i) ps[i].cr.length (uc i)) ps[i].cr) :=
    ⟨fun i => (key i).choose, fun i => (key i).choose_spec.choose, fun i => (key i).choose_spec.choose_spec.1, fun i => (key i).choose_spec.choose_spec.2⟩
  let P : List PU := List.ofFn fun i => PU.mk ps[i] (ua i) (uc i)
  have hlen : P.length = ps.length := by simp [P]
  have hget : ∀ i u, P[i]? = some u → ∃ hi : i < ps.length, u = PU.mk ps[i] (ua ⟨i, hi⟩) (uc ⟨i, hi⟩) := by
    intro i u hu
    have hi : i < ps.length := by rw [← hlen]; exact (List.getElem?_eq_some_iff.1 hu).1
    refine ⟨hi, ?_⟩
    have : P[i]? = some (PU.mk ps[i] (ua ⟨i, hi⟩) (uc ⟨i, hi⟩)) := by simp [P, hi]
    rw [this] at hu
    injection hu with hu
    exact hu.symm
  refine ⟨P, g, o, e4, ?_, hlen, h1, ?_, ?_⟩
  · apply List.ext_getElem?
    intro i
    rw [List.getElem?_map]
    by_cases hi : i < ps.length
    · have : P[i]? = some (PU.mk ps[i] (ua ⟨i, hi⟩) (uc ⟨i, hi⟩)) := by simp [P, hi]
      rw [this, List.getElem?_eq_getElem hi]; rfl
    · rw [List.getElem?_eq_none (by omega), List.getElem?_eq_none (by omega)]; rfl
  · intro j x hx
    have hj : j < P.length * 6 := by rw [← PU.len]; exact (List.getElem?_eq_some_iff.1 hx).1
    obtain ⟨u, hu⟩ : ∃ u, P[j / 6]? = some u := ⟨_, List.getElem?_eq_getElem (by omega)⟩
    obtain ⟨hi, rfl⟩ := hget _ _ hu
    have h9 := PU.get P (j / 6) (j % 6) _ hu (by omega)
    rw [show j / 6 * 6 + j % 6 = j by omega, hx] at h9
    have := hk1 ⟨j / 6, hi⟩ (j % 6) x h9.symm
    rw [show o + j = o + ((j / 6) * 6 + j % 6) by omega]
    exact this
  · intro u hu
    obtain ⟨i, hi⟩ := List.getElem?_of_mem hu
    obtain ⟨hi2, rfl⟩ := hget _ _ hi
    exact hk2 ⟨i, hi2⟩
theorem flatpu_one (P : List PU) : ∀ u ∈ P.flatMap PU.cs, u.oneCell' = true := by
  intro u hu
  obtain ⟨q, _, h⟩ := List.mem_flatMap.1 hu
  exact pu_one q u h
/-- one part's crumbs put elsewhere -/
theorem PuAt.set {cs : List Value} {P : List PU} (h : PuAt cs P) {k : Nat} {u : PU} (hu : P[k]? = some u) (a : Option Addr) (c : Nat) : PuAt (cs.set (k * 6 + 4) (.slice a u.p.cr.length c)) (P.set k { u with a := a, c := c }) := by
  intro i v hv q x hx
  have hk := (List.getElem?_eq_some_iff.1 hu).1
  by_cases hik : k = i
  · subst hik
    rw [List.getElem?_set_self hk] at hv
    injection hv with hv
    subst hv
    have hq6 : q < 6 := (List.getElem?_eq_some_iff.1 hx).1
    have h0 := fun q x hq => h k u hu q x hq
    have hlen4 : k * 6 + 4 < cs.length := (List.getElem?_eq_some_iff.1 (h0 4 _ rfl)).1
    by_cases h4 : q = 4
    · subst h4
      rw [List.getElem?_set_self hlen4]
      exact hx
    · rw [List.getElem?_set_ne (by omega)]
      refine h0 q x ?_
      rcases (show q = 0 ∨ q = 1 ∨ q = 2 ∨ q = 3 ∨ q = 5 by omega) with rfl | rfl | rfl | rfl | rfl <;> exact hx
  · rw [List.getElem?_set_ne hik] at hv
    have hq6 : q < 6 := (List.getElem?_eq_some_iff.1 hx).1
    rw [List.getElem?_set_ne (by omega)]
    exact h i v hv q x hx

set_option maxHeartbeats 8000000 in
theorem copy_any (v : Value) (ps : List Pn) (w : World) (hv : RdPs w v ps) (hne : ps ≠ []) (h4 : ps.length ≤ 4) (hc4 : ∀ p ∈ ps, p.cr.length ≤ 4) :
    Calls Tryz.prog 129 #[v] w fun e w' => ∃ v', e = .returned v' ∧ RdPsD w' (fun g => w.heap.size ≤ g ∧ g < w'.heap.size) v' ps ∧ Fr noB w w' := by
  obtain ⟨a, n, c, rfl⟩ : ∃ a n c, v = .slice (some a) n c := by
    obtain ⟨a, c, e, _, _, h3⟩ := hv
    obtain ⟨g, o, _, _, e4, _⟩ := h3 0 (ps[0]'(List.length_pos_iff.2 hne)) (List.getElem?_eq_getElem _)
    exact ⟨_, _, _, by rw [e, e4]⟩
  obtain ⟨P, g0, o0, rfl, hP, hPn, hnc, hsrc, hrd⟩ := pu_of hv hne
  have hn4 : n ≤ 4 := by rw [← hPn, ← List.length_map (f := PU.p), hP]; exact h4
  have hn0 : 0 < n := by rw [← hPn, ← List.length_map (f := PU.p), hP]; exact List.length_pos_iff.2 hne
  have hcl := clonep_any ⟨g0, o0, none⟩ n c (P.flatMap PU.cs) w hnc (by omega) (by rw [PU.len, hPn]) (fun j u hj => by rw [add_none]; exact hsrc j u hj) (flatpu_one P)
  have hcr : ∀ u ∈ P, u.p.cr.length ≤ 4 := fun u hu => hc4 _ (by rw [← hP]; exact List.mem_map.2 ⟨u, hu, rfl⟩)
  replace hcl := Lib.hid hcl
  replace hrd := Lib.hid hrd
  replace hcr := Lib.hid hcr
  replace hP := Lib.hid hP
  replace hPn := Lib.hid hPn
  clear hsrc hv h4 hc4 hne
  go_enter Tryz.func129, Tryz.ntmps129
  go_wp2_with fail
  go_fit hcl.out
  rintro e w1 ⟨v1, rfl, o1, f1⟩
  obtain ⟨g, cap, rfl, hg⟩ := ownsRow_some o1 hn0
  obtain ⟨cs, hb1, hpu1, hcap⟩ : ∃ cs, Blk w1 g 70 cs ∧ PuAt cs P ∧ n ≤ cap := by
    rcases o1.2 with ⟨q, _⟩ | ⟨g', cap', cur, q1, q2, q3, q4, q5, q6, q7⟩
    · cases q
    · injection q1 with q1 _ q8
      injection q1 with q1
      injection q1 with q1 _ _
      subst q1 q8
      refine ⟨cur.toList, by unfold Blk; rw [Array.toArray_toList]; exact q3, fun i u hu q x hx => ?_, q4⟩
      have hq6 : q < 6 := (List.getElem?_eq_some_iff.1 hx).1
      have h9 := PU.get P i q u hu hq6
      rw [hx] at h9
      have hlt : i * 6 + q < n * 6 := by
        have := (List.getElem?_eq_some_iff.1 h9).1
        rw [PU.len, hPn.out] at this
        exact this
      rw [← q7, List.getElem?_take_of_lt hlt] at h9
      exact h9
  have hgw : w.heap.size ≤ g := hg
  have hg1 : g < w1.heap.size := hb1.lt
  replace hb1 := Lib.hid hb1
  replace hpu1 := Lib.hid hpu1
  have hrd1 : Hid (∀ i u, P[i]? = some u → RdI w1 u.v u.p.cr ∧ (i < 0 → ∀ g' o', u.a = some ⟨g', o', none⟩ → w.heap.size ≤ g' ∧ (u.p.cr ≠ [] → g' ≠ g))) := Lib.hid (fun i u hu => ⟨(hrd.out u (List.mem_of_getElem? hu)).frN f1, fun q => absurd q (Nat.not_lt_zero _)⟩)
  have holdw : Hid (∀ u ∈ P, u.p.cr ≠ [] → ∀ g' o', u.a = some ⟨g', o', none⟩ → g' < w.heap.size) := Lib.hid (fun u hu hne g' o' e => by
    obtain ⟨a', c', e1, _, _, h3⟩ := hrd.out u hu
    obtain ⟨g2, o2, e2, hc⟩ := h3 0 (List.length_pos_iff.2 hne)
    unfold PU.v at e1
    injection e1 with e1
    rw [← e1, e] at e2
    injection e2 with e2
    injection e2 with e2 _ _
    rw [e2]
    exact lt_of_cell hc)
  clear o1 hcl hrd
  go_wp2_with fail
  go_loopg [9] n (fun gk i wr => ∃ (k : Nat) (P' : List PU) (cs' : List Value), k + gk = n ∧ i = .int .i64 k ∧ Hid (P'.map PU.p = ps) ∧ Hid (P'.length = n) ∧ Hid (Blk wr g 70 cs') ∧ Hid (PuAt cs' P') ∧ Hid (∀ i u, P'[i]? = some u → RdI wr u.v u.p.cr ∧ u.p.cr.length ≤ 4 ∧ (i < k → ∀ g' o', u.a = some ⟨g', o', none⟩ → w.heap.size ≤ g') ∧ (u.p.cr ≠ [] → ∀ g' o', u.a = some ⟨g', o', none⟩ → g' ≠ g)) ∧ Hid (Fr noB w wr))
  case atStart => exact ⟨0, P, cs, Nat.zero_add _, rfl, hP, hPn, hb1, hpu1, Lib.hid (fun i u hu => ⟨(hrd1.out i u hu).1, hcr.out u (List.mem_of_getElem? hu), fun q => absurd q (Nat.not_lt_zero _), fun hne g' o' e => by have := holdw.out u (List.mem_of_getElem? hu) hne g' o' e; omega⟩), Lib.hid f1⟩
  case round =>
    clear hb1 hpu1 hrd1 hP hPn holdw hcr
    obtain ⟨k, P', cs', hk, rfl, hP, hPn, hb, hpu, hrd, fr⟩ := hrel
    by_cases hlt : k < n
    · obtain ⟨u, hu⟩ : ∃ u, P'[k]? = some u := ⟨_, List.getElem?_eq_getElem (by rw [hPn.out]; exact hlt)⟩
      obtain ⟨hr1, hr4, _, _⟩ := hrd.out k u hu
      have hu4 : cs'[k * 6 + 4]? = some (.slice u.a u.p.cr.length u.c) := hpu.out k u hu 4 _ rfl
      have c4 : wr.cell? ⟨g, k * 6 + 4, none⟩ = some (.slice u.a u.p.cr.length u.c) := by rw [hb.out.cell]; exact hu4
      have hcl := clonei_any (.slice u.a u.p.cr.length u.c) u.p.cr wr hr1 (by omega)
      have hb1 : (k : Int) < n := by omega
      have hmeas : n - (k + 1) < gk := by omega
      have hkn2 : k + 1 + (n - (k + 1)) = n := by omega
      obtain ⟨cl, hcl0⟩ : ∃ cl, u.p.cr.length = cl := ⟨_, rfl⟩
      rw [hcl0] at hcl c4
      replace hcl0 := Lib.hid hcl0
      replace hcl := Lib.hid hcl
      replace hmeas := Lib.hid hmeas
      replace hkn2 := Lib.hid hkn2
      replace hu := Lib.hid hu
      replace hr1 := Lib.hid hr1
      clear hu4 hk
      go_wp2_with fail
      go_fit hcl.out
      rintro e w3 ⟨ta, tc, rfl, hrd3, hta, f3⟩
      have hb3 := f3.blk hb.out (fun q => q)
      have c43 : w3.cell? ⟨g, k * 6 + 4, none⟩ = some (.slice u.a cl u.c) := f3.cell c4 (fun q => q)
      have z3 := hb3.frozen (k * 6 + 4)
      have hgr : g < wr.heap.size := hb.out.lt
      have hs3 : Fr (onlyB g) w3 (w3.setCell ⟨g, k * 6 + 4, none⟩ (.slice ta cl tc)) := (Fr.refl _ _).store (onlyB_self g)
      have hb4 := hb3.set (k * 6 + 4) (.slice ta cl tc)
      have hpu4 := hpu.out.set hu.out ta tc
      rw [hcl0.out] at hpu4
      have hP4 : (P'.set k { u with a := ta, c := tc }).map PU.p = ps := by
        rw [← hP.out]
        apply List.ext_getElem?
        intro i
        by_cases hik : k = i
        · subst hik
          rw [List.getElem?_map, List.getElem?_map, List.getElem?_set_self (by rw [hPn.out]; exact hlt), hu.out]; rfl
        · rw [List.getElem?_map, List.getElem?_map, List.getElem?_set_ne hik]
      have hrd4 : ∀ i v, (P'.set k { u with a := ta, c := tc })[i]? = some v → RdI (w3.setCell ⟨g, k * 6 + 4, none⟩ (.slice ta cl tc)) v.v v.p.cr ∧ v.p.cr.length ≤ 4 ∧ (i < k + 1 → ∀ g' o', v.a = some ⟨g', o', none⟩ → w.heap.size ≤ g') ∧ (v.p.cr ≠ [] → ∀ g' o', v.a = some ⟨g', o', none⟩ → g' ≠ g) := by
        intro i v hv
        have hsz := fr.out.size
        by_cases hik : k = i
        · subst hik
          rw [List.getElem?_set_self (by rw [hPn.out]; exact hlt)] at hv
          injection hv with hv
          subst hv
          have hne : ∀ g' o', ta = some ⟨g', o', none⟩ → g' ≠ g := fun g' o' e => by have := hta g' o' e; omega
          refine ⟨?_, hr4, fun _ g' o' e => by have := hta g' o' e; omega, fun _ g' o' e => hne g' o' e⟩
          show RdI _ (.slice ta u.p.cr.length tc) u.p.cr
          have h9 : RdI w3 (.slice ta u.p.cr.length tc) u.p.cr := by rw [hcl0.out]; exact hrd3
          exact h9.fr hs3 (fun g' o n c e q => hne g' o (by injection e) (by unfold onlyB at q; exact q))
        · rw [List.getElem?_set_ne hik] at hv
          obtain ⟨k1, k2, k3, k4⟩ := hrd.out i v hv
          exact ⟨(k1.frN f3).fr1 hs3 (fun hne g' o n c e q => k4 hne g' o (by unfold PU.v at e; injection e) (by unfold onlyB at q; exact q)), k2, fun hi => k3 (by omega), k4⟩
      have fr4 : Fr noB w (w3.setCell ⟨g, k * 6 + 4, none⟩ (.slice ta cl tc)) := (fr.out.seqN f3).storeNew hgw
      replace hb4 := Lib.hid hb4
      replace hpu4 := Lib.hid hpu4
      replace hP4 := Lib.hid hP4
      replace hrd4 := Lib.hid hrd4
      replace fr4 := Lib.hid fr4
      have hl4 : Hid ((P'.set k { u with a := ta, c := tc }).length = n) := Lib.hid (by rw [List.length_set]; exact hPn.out)
      clear hb3 hs3 hrd3 f3 hcl hrd c4 hb hpu hP fr
      go_wp2_with fail
      go_roundg (n - (k + 1))
      case rel => exact ⟨k + 1, _, _, hkn2.out, by go_num, hP4, hl4, hb4, hpu4, hrd4, fr4⟩
      case measure => exact hmeas.out
    · obtain rfl : k = n := by omega
      go_wp2_with fail
      go_ret
      have hlen : ps.length = k := by rw [← hP.out, List.length_map]; exact hPn.out
      refine ⟨_, rfl, ⟨some ⟨g, 0, none⟩, cap, by rw [hlen]; rfl, by omega, by omega, fun i p hp => ?_⟩, fr.out⟩
      rw [← hP.out, List.getElem?_map] at hp
      cases hq : P'[i]? with
      | none => rw [hq] at hp; cases hp
      | some u =>
        rw [hq] at hp
        injection hp with hp
        subst hp
        have hik : i < k := by rw [← hPn.out]; exact (List.getElem?_eq_some_iff.1 hq).1
        obtain ⟨k1, k2, k3, k4⟩ := hrd.out i u hq
        refine ⟨g, u.a, u.c, rfl, ⟨hgw, hb.out.lt⟩, fun q x hx => ?_, k1, fun hne g' o' e => ⟨k3 hik g' o' e, ?_⟩⟩
        · rw [hb.out.cell]
          exact hpu.out i u hq q x hx
        · obtain ⟨a', c', e1, _, _, h3⟩ := k1
          obtain ⟨g2, o2, e2, hc⟩ := h3 0 (List.length_pos_iff.2 hne)
          unfold PU.v at e1
          injection e1 with e1
          rw [← e1, e] at e2
          injection e2 with e2
          injection e2 with e2 _ _
          rw [e2]
          exact lt_of_cell hc
end Go.Proofs.YtdmhnoffejjpnaaGreatDoor
end

section

end

section
set_option linter.unusedVariables false
set_option linter.unusedSimpArgs false
set_option maxRecDepth 100000
set_option maxRecDepth 100000
namespace Go.Proofs.YtdmhnoffejjpnaaGreatDoor
open Go.RowKit Go Go.Maps Go.Lib

theorem risB_l : ∀ (xs : List Int) (last : Int), -1 ≤ last → last ≤ 3 → risB last xs = true → (xs.length : Int) ≤ 3 - last
  | [], last, h1, h2, _ => by simp; omega
  | x :: r, last, h1, h2, h => by
    unfold risB inB at h
    simp only [Bool.and_eq_true, decide_eq_true_eq] at h
    have := risB_l r x (by omega) (by omega) h.2
    rw [List.length_cons]; omega
theorem pn_in {p : Pn} (h : pnB p = true) : 0 ≤ p.a ∧ p.a ≤ 3 ∧ 0 ≤ p.n ∧ p.n ≤ 1000 ∧ p.cr.length ≤ 4 := by
  unfold pnB pinB inB at h
  simp only [Bool.and_eq_true, decide_eq_true_eq] at h
  have := risB_l p.cr (-1) (by omega) (by omega) h.2.2.2.2.2
  omega
theorem manF_in (t j : Int) : ∀ (ps : List Pn) (last : Int), -1 ≤ last → last ≤ 3 → manF t j last ps = true → (ps.length : Int) ≤ 3 - last ∧ ∀ p ∈ ps, pnB p = true
  | [], last, h1, h2, _ => ⟨by simp; omega, fun p hp => by cases hp⟩
  | p :: r, last, h1, h2, h => by
    unfold manF at h
    simp only [Bool.and_eq_true, decide_eq_true_eq] at h
    have hp := pn_in h.1
    obtain ⟨k1, k2⟩ := manF_in t j r p.a (by omega) (by omega) h.2.2.2.2
    refine ⟨by rw [List.length_cons]; omega, fun q hq => ?_⟩
    rcases List.mem_cons.1 hq with rfl | hq
    · exact h.1
    · exact k2 q hq
theorem man_in {t j c : Int} {ps : List Pn} (h : manB t j c ps = true) : 0 ≤ c ∧ c ≤ 3 ∧ ps ≠ [] ∧ ps.length ≤ 4 ∧ ∀ p ∈ ps, pnB p = true := by
  unfold manB inB at h
  simp only [Bool.and_eq_true, decide_eq_true_eq] at h
  obtain ⟨k1, k2⟩ := manF_in t j ps (-1) (by omega) (by omega) h.2.2.2.2
  exact ⟨h.2.2.1.1, h.2.2.1.2, fun e => by rw [e] at h; simp at h, by omega, k2⟩
/-- what a call makes of it, wherever its manifest comes to lie -/
def AsmTo2 (w w' : World) (p bm : Nat) (D : Nat → Prop) (A' : AP) : Prop := ∃ mb' D', AsmP w' p bm mb' D' A' ∧ (∀ g, D g → D' g) ∧ (∀ g, D' g → D g ∨ w.heap.size ≤ g) ∧ Fr D w w'
theorem AsmTo.to2 {w w' : World} {p bm mb : Nat} {D : Nat → Prop} {A' : AP} (h : AsmTo w w' p bm mb D A') : AsmTo2 w w' p bm D A' := by obtain ⟨D', h⟩ := h; exact ⟨mb, D', h⟩
theorem AsmTo2.pre {w w1 w' : World} {p bm : Nat} {D : Nat → Prop} {A' : AP} (h : AsmTo2 w1 w' p bm D A') (f : Fr noB w w1) : AsmTo2 w w' p bm D A' := by
  obtain ⟨mb, D', h1, h2, h3, h4⟩ := h
  refine ⟨mb, D', h1, h2, fun g hg => (h3 g hg).elim Or.inl (fun q => Or.inr (Nat.le_trans f.size q)), f.trans h4 (fun _ _ q => False.elim q) (fun _ _ q => q)⟩
theorem AsmP.same {w w' : World} {p bm mb : Nat} {D : Nat → Prop} {A : AP} (h : AsmP w p bm mb D A) (f : Fr noB w w') : AsmTo2 w w' p bm D A := ⟨mb, D, h.frN f, fun _ q => q, fun _ q => Or.inl q, f.mono (fun _ _ q => False.elim q)⟩

theorem RdSp.set_ptr {w : World} {g0 o0 : Nat} {q : Option Addr} {v : Value} {L : List Sp} (h : RdSp w v L) (hc : w.cell? ⟨g0, o0, none⟩ = some (.pointer q)) (x : Value) : RdSp (w.setCell ⟨g0, o0, none⟩ x) v L := by
  obtain ⟨a, c, rfl, hl, hc', hn, h1⟩ := h
  have go : ∀ p u, w.cell? p = some u → (∀ q, u ≠ .pointer q) → (w.setCell ⟨g0, o0, none⟩ x).cell? p = some u := by
    intro p u hp hu
    refine (World.cell?_setCell_other w _ p x (fun e => ?_)).trans hp
    subst e
    rw [hc] at hp
    injection hp with hp
    exact hu q hp.symm
  refine ⟨a, c, rfl, hl, hc', hn, fun i s hi => ?_⟩
  obtain ⟨g, o, rfl, c0, c1, c2⟩ := h1 i s hi
  exact ⟨g, o, rfl, go _ _ c0 (by intro q e; cases e), go _ _ c1 (by intro q e; cases e), go _ _ c2 (by intro q e; cases e)⟩
set_option maxHeartbeats 8000000 in
theorem take_man_no (p bm mb : Nat) (D : Nat → Prop) (A : AP) (t j c : Int) (va : Option Addr) (vn vc : Nat) (x : Int × List Pn) (w : World) (h : AsmP w p bm mb D A) (hm : A.man = some x) :
    Calls Tryz.prog 111 #[.pointer (some ⟨p, 0, none⟩), mManifest t j c (.slice va vn vc)] w fun e w' => e = .returned (.bool false) ∧ AsmTo2 w w' p bm D A := by
  unfold mManifest
  have q0 := as_Manifest_Manifest
  have f1 : Fr noB w (w.alloc (.cells #[.int .i64 t, .int .i64 j, .int .i64 c, .slice va vn vc] 73)) := (Fr.refl _ _).alloc _
  have c2 : (w.alloc (.cells #[.int .i64 t, .int .i64 j, .int .i64 c, .slice va vn vc] 73)).cell? ⟨p, 2, none⟩ = some (.pointer (some ⟨mb, 0, none⟩)) := by
    have := (h.frN f1).blk.cell 2
    rw [show A.mp mb = some ⟨mb, 0, none⟩ by unfold AP.mp; rw [hm]] at this
    exact this
  have hx := Lib.hid (h.same f1)
  clear h f1 hm
  go_enter Tryz.func111, Tryz.ntmps111
  go_wp2_with fail
  go_ret
  exact ⟨rfl, hx.out⟩

set_option maxHeartbeats 8000000 in
theorem take_man (p bm mb : Nat) (D : Nat → Prop) (A : AP) (c : Int) (v : Value) (ps : List Pn) (w : World) (h : AsmP w p bm mb D A) (hm : A.man = none) (hv : RdPs w v ps) (hb : manB A.tr A.jb c ps = true) :
    Calls Tryz.prog 111 #[.pointer (some ⟨p, 0, none⟩), mManifest A.tr A.jb c v] w fun e w' => e = .returned (.bool true) ∧ AsmTo2 w w' p bm D { A with man := some (c, ps) } := by
  obtain ⟨va, vn, vc, rfl⟩ : ∃ va vn vc, v = .slice va vn vc := by obtain ⟨a, c, e, _⟩ := hv; exact ⟨_, _, _, e⟩
  unfold mManifest
  obtain ⟨_, _, hne, h4, hpn⟩ := man_in hb
  have hc4 : ∀ p ∈ ps, p.cr.length ≤ 4 := fun p hp => (pn_in (hpn p hp)).2.2.2.2
  have q0 := as_Manifest_Manifest
  obtain ⟨cb, hcb⟩ : ∃ cb, w.heap.size = cb := ⟨_, rfl⟩
  have f1 : Fr noB w (w.alloc (.cells #[.int .i64 A.tr, .int .i64 A.jb, .int .i64 c, .slice va vn vc] 73)) := (Fr.refl _ _).alloc _
  have b1 := Blk.new w 73 [.int .i64 A.tr, .int .i64 A.jb, .int .i64 c, .slice va vn vc]
  have hs1 : (w.alloc (.cells #[.int .i64 A.tr, .int .i64 A.jb, .int .i64 c, .slice va vn vc] 73)).heap.size = cb + 1 := by rw [size_alloc, hcb]
  rw [hcb] at b1
  have c2 : (w.alloc (.cells #[.int .i64 A.tr, .int .i64 A.jb, .int .i64 c, .slice va vn vc] 73)).cell? ⟨p, 2, none⟩ = some (.pointer none) := by
    have := (h.frN f1).blk.cell 2
    rw [show A.mp mb = none by unfold AP.mp; rw [hm]] at this
    exact this
  have hlt := h.lt
  rw [hcb] at hlt
  have hpc : p < cb := hlt _ h.dp
  have hbc : bm < cb := hlt _ h.db
  have h1 := h.frN f1
  have hv1 := hv.frH f1.toH
  have hcl := copy_any (.slice va vn vc) ps _ hv1 hne h4 hc4
  clear hv hv1
  go_enter Tryz.func111, Tryz.ntmps111
  go_upto_region 4 with fail
  try rw [hcb]
  replace h := Lib.hid h
  replace hcb := Lib.hid hcb
  generalize (w.alloc (.cells #[.int .i64 A.tr, .int .i64 A.jb, .int .i64 c, .slice va vn vc] 73)) = w1 at *
  have k3 : w1.cell? ⟨cb, 3, none⟩ = some (.slice va vn vc) := b1.cell 3
  replace h1 := Lib.hid h1
  replace b1 := Lib.hid b1
  replace f1 := Lib.hid f1
  replace hs1 := Lib.hid hs1
  replace hcl := Lib.hid hcl
  replace hpn := Lib.hid hpn
  replace hlt := Lib.hid hlt
  replace hm := Lib.hid hm
  go_wp2_with fail
  go_fit hcl.out
  rintro e w2 ⟨v2', rfl, hrd, f2⟩
  obtain ⟨a2, n2, k2, rfl⟩ : ∃ a n c, v2' = .slice a n c := by obtain ⟨a, c, e, _⟩ := hrd; exact ⟨_, _, _, e⟩
  have b2 := f2.blk b1.out (fun q => q)
  have k32 : w2.cell? ⟨cb, 3, none⟩ = some (.slice va vn vc) := b2.cell 3
  have z32 := b2.frozen 3
  have h2 := h1.out.frN f2
  have b2p := h2.blk
  rw [show A.mp mb = none by unfold AP.mp; rw [hm.out]] at b2p
  have s1 : Fr (onlyB cb) w2 (w2.setCell ⟨cb, 3, none⟩ (.slice a2 n2 k2)) := (Fr.refl _ _).store (onlyB_self cb)
  have p3 := s1.blk b2p (by unfold onlyB; omega)
  have c23 : (w2.setCell ⟨cb, 3, none⟩ (.slice a2 n2 k2)).cell? ⟨p, 2, none⟩ = some (.pointer none) := p3.cell 2
  have z23 := p3.frozen 2
  have b3 := b2.set 3 (.slice a2 n2 k2)
  simp only [List.set_cons_zero, List.set_cons_succ] at b3
  replace h2 := Lib.hid h2
  replace b3 := Lib.hid b3
  replace p3 := Lib.hid p3
  replace s1 := Lib.hid s1
  replace f2 := Lib.hid f2
  replace hrd := Lib.hid hrd
  clear b2 b2p c2 k3 hcl b1
  go_wp2_with fail
  go_ret
  have hs1' := hs1.out
  have hcb' := hcb.out
  have f12 := f1.out.seqN f2.out
  have s2 : Fr (onlyB p) (w2.setCell ⟨cb, 3, none⟩ (.slice a2 n2 k2)) ((w2.setCell ⟨cb, 3, none⟩ (.slice a2 n2 k2)).setCell ⟨p, 2, none⟩ (.pointer (some ⟨cb, 0, none⟩))) := (Fr.refl _ _).store (onlyB_self p)
  have p4 := p3.out.set 2 (.pointer (some ⟨cb, 0, none⟩))
  simp only [List.set_cons_zero, List.set_cons_succ] at p4
  have b4 := s2.blk b3.out (by unfold onlyB; omega)
  have f24 : Fr (fun g => g = cb ∨ g = p) w2 ((w2.setCell ⟨cb, 3, none⟩ (.slice a2 n2 k2)).setCell ⟨p, 2, none⟩ (.pointer (some ⟨cb, 0, none⟩))) := s1.out.trans s2 (fun _ _ q => Or.inl q) (fun _ _ q => Or.inr q)
  have hsz : cb + 1 ≤ w2.heap.size := by have := f2.out.size; omega
  have hszF := f24.size
  have hD2 : ∀ g, cb + 1 ≤ g ∧ g < w2.heap.size → ¬ (g = cb ∨ g = p) := fun g hg q => by omega
  have hrd2 : RdPsD w2 (fun g => cb + 1 ≤ g ∧ g < w2.heap.size) (.slice a2 n2 k2) ps := hrd.out.mono (fun g hg => by omega)
  have hrd4 := hrd2.fr f24 hD2
  have hoo : ∀ o ∈ A.O, OAp w2 D o ∧ o.m ≠ p ∧ o.m ≠ bm ∧ o.m ≠ mb ∧ 0 ≤ o.a ∧ o.a ≤ 3 := h2.out.inn
  refine ⟨rfl, cb, fun g => D g ∨ (cb ≤ g ∧ g < w2.heap.size), ⟨?_, fun c' ps' e => ?_, ?_, fun o ho => ?_, h2.out.nm, Or.inl h2.out.dp, Or.inl h2.out.db, ⟨h2.out.nb.1, by omega, Or.inr ⟨by omega, by omega⟩⟩, fun g hg => ?_⟩, fun g hg => Or.inl hg, fun g hg => hg.elim Or.inl (fun q => Or.inr (by omega)), ?_⟩
  · exact p4
  · injection e with e
    injection e with e1 e2
    subst e1 e2
    exact ⟨⟨_, b4, hrd4.mono (fun g hg => Or.inr (by omega))⟩, Or.inr ⟨by omega, by omega⟩, by omega, h4, hpn.out⟩
  · exact h2.out.om.fr f24 (by have := h2.out.nb.1; omega)
  · obtain ⟨k1, k2, k3, k4, k5⟩ := hoo o ho
    have kk := k1.fr s1.out (fun g hg q => by have := hlt.out g hg; unfold onlyB at q; omega)
    have hom := hlt.out _ (h.out.inn o ho).1.dm
    exact ⟨OAp.mono ⟨k1.mp.fr f24 (by omega), fun e he => ⟨(kk.rd e he).1.set_ptr c23 _, (k1.rd e he).2⟩, k1.dm, k1.t0, k1.t5, k1.ix⟩ (fun g hg => Or.inl hg), k2, k3, by omega, k5⟩
  · rcases hg with hg | hg
    · have := hlt.out g hg; omega
    · omega
  · exact f12.trans f24 (fun _ _ q => False.elim q) (fun g hg q => by
      rcases q with q | q
      · exact absurd hg (by omega)
      · rw [q]; exact h.out.dp)

def Ms.tj : Ms → Int × Int
  | .trigger _ t _ => (t, 0)
  | .pin t j => (t, j)
  | .pinned p => (p.t, p.j)
  | .gone _ t j => (t, j)
  | .collect t j => (t, j)
  | .chunk _ t j _ _ _ => (t, j)
  | .manifest t j _ _ => (t, j)
  | .stored t j => (t, j)
  | .unpin t j => (t, j)
  | .unpinned _ t j => (t, j)
theorem of_ms (v : Value) (m : Ms) (w : World) (h : MsW w v m) : Calls Tryz.prog 26 #[v] w fun e w' => e = .returned (.tuple #[.int .i64 m.tj.1, .int .i64 m.tj.2, .bool true]) ∧ Fr noB w w' := by
  cases m with
  | trigger a t c => obtain rfl := h; exact of_of (v := .nilIface) (of_Trigger a t c w)
  | pin t j => obtain rfl := h; exact of_of (v := .nilIface) (of_Pin t j w)
  | pinned p => obtain ⟨u, rfl, h1⟩ := h; obtain ⟨ua, uc, rfl, _⟩ := h1; exact of_of (v := .nilIface) (of_Pinned p.a p.t p.j p.n ua _ uc p.lo w)
  | gone a t j => obtain rfl := h; exact of_of (v := .nilIface) (of_Gone a t j w)
  | collect t j => obtain rfl := h; exact of_of (v := .nilIface) (of_Collect t j w)
  | chunk a t j i n sp => obtain ⟨u, rfl, h1⟩ := h; obtain ⟨ua, uc, rfl, _⟩ := h1; exact of_of (v := .nilIface) (of_Chunk a t j i n ua _ uc w)
  | manifest t j c ps => obtain ⟨u, rfl, h1⟩ := h; obtain ⟨ua, uc, rfl, _⟩ := h1; exact of_of (v := .nilIface) (of_Manifest t j c ua _ uc w)
  | stored t j => obtain rfl := h; exact of_of (v := .nilIface) (of_Stored t j w)
  | unpin t j => obtain rfl := h; exact of_of (v := .nilIface) (of_Unpin t j w)
  | unpinned a t j => obtain rfl := h; exact of_of (v := .nilIface) (of_Unpinned a t j w)
abbrev CH := List (Int × Int × List (Int × List Sp))
/-- what a message that may be, of this trace and job, makes of what came -/
def takeM (man : Option (Int × List Pn)) (C : CH) : Ms → Bool × Option (Int × List Pn) × CH
  | .manifest _ _ c ps => if man.isSome then (false, man, C) else (true, some (c, ps), C)
  | .chunk a _ _ i n sp => ((chunkC C a i n sp).1, man, (chunkC C a i n sp).2)
  | _ => (false, man, C)
def AP.hears (A : AP) (m : Ms) : Bool := m.ok && (decide (m.tj.1 = A.tr) && decide (m.tj.2 = A.jb))
def AP.hearM (A : AP) (m : Ms) : Bool × Option (Int × List Pn) × CH := if A.hears m = true then takeM A.man A.C m else (false, A.man, A.C)
def Is (A A' : AP) (x : Option (Int × List Pn) × CH) : Prop := A'.tr = A.tr ∧ A'.jb = A.jb ∧ A'.man = x.1 ∧ A'.C = x.2

set_option maxHeartbeats 4000000 in
theorem take_chunk (p bm mb : Nat) (D : Nat → Prop) (A : AP) (a t j i n : Int) (v : Value) (sp : List Sp) (w : World) (h : AsmP w p bm mb D A) (hb : chunkB a t j i n sp = true) (hs : RdSp w v sp) :
    Calls Tryz.prog 111 #[.pointer (some ⟨p, 0, none⟩), mChunk a t j i n v] w fun e w' => e = .returned (.bool (chunkC A.C a i n sp).1) ∧ ∃ A', Is A A' (A.man, (chunkC A.C a i n sp).2) ∧ AsmTo2 w w' p bm D A' := by
  obtain ⟨va, vc, rfl⟩ : ∃ va vc, v = .slice va sp.length vc := by obtain ⟨a, c, e, _⟩ := hs; exact ⟨_, _, e⟩
  obtain ⟨vn, hvn⟩ : ∃ vn, sp.length = vn := ⟨_, rfl⟩
  rw [hvn] at hs ⊢
  clear hvn
  have key : ∀ w', Fr noB w w' → Calls Tryz.prog 130 #[.pointer (some ⟨p, 0, none⟩), .agg #[.int .i64 a, .int .i64 t, .int .i64 j, .int .i64 i, .int .i64 n, .slice va vn vc]] w' fun e w'' => e = .returned (.bool (chunkC A.C a i n sp).1) ∧ ∃ A', Is A A' (A.man, (chunkC A.C a i n sp).2) ∧ AsmTo2 w' w'' p bm D A' := by
    intro w' f
    cases hl : A.at a with
    | none =>
      have e0 : chunkC A.C a i n sp = (true, (a, n, [(i, sp)]) :: A.C) := by unfold chunkC; rw [c_look, hl]; rfl
      rw [e0]
      refine (chunk_new p bm mb D A a t j i n _ sp w' (h.frN f) hb (hs.frN f) hl).mono ?_
      rintro e w'' ⟨rfl, A', h1, h2, h3, h4, h5⟩
      exact ⟨rfl, A', ⟨h1, h2, h3, h4⟩, h5.to2⟩
    | some o =>
      refine (chunk_old p bm mb D A a t j i n _ sp o w' (h.frN f) hb (hs.frN f) hl).mono ?_
      rintro e w'' ⟨h1, h2⟩
      by_cases hq : (look (enS o.E) i).isSome = true ∨ n ≠ o.t
      · have e0 : chunkC A.C a i n sp = (false, A.C) := by unfold chunkC; rw [c_look, hl]; show (if _ then _ else _) = _; rw [if_pos hq]
        rw [e0]
        obtain ⟨rfl, k⟩ := h1 hq
        exact ⟨rfl, A, ⟨rfl, rfl, rfl, rfl⟩, k.to2⟩
      · have e0 : chunkC A.C a i n sp = (true, A.C.map fun c => if c.1 = a then (c.1, c.2.1, (i, sp) :: c.2.2) else c) := by unfold chunkC; rw [c_look, hl]; show (if _ then _ else _) = _; rw [if_neg hq]
        rw [e0]
        obtain ⟨rfl, A', k1, k2, k3, k4, k5⟩ := h2 hq
        exact ⟨rfl, A', ⟨k1, k2, k3, k4⟩, k5.to2⟩
  obtain ⟨r, hr⟩ : ∃ r, chunkC A.C a i n sp = r := ⟨_, rfl⟩
  rw [hr] at key ⊢
  have f1 : Fr noB w (w.alloc (.cells #[.int .i64 a, .int .i64 t, .int .i64 j, .int .i64 i, .int .i64 n, .slice va vn vc] 75)) := (Fr.refl _ _).alloc _
  have k1 := key _ f1
  replace f1 := Lib.hid f1
  replace k1 := Lib.hid k1
  clear key hr hs hb h
  unfold mChunk
  have q0 := as_Chunk_Manifest
  have q1 := as_Chunk_Chunk
  go_enter Tryz.func111, Tryz.ntmps111
  go_wp2_with fail
  go_fit k1.out
  rintro e w2 ⟨rfl, A', h1, h2⟩
  have hp := Lib.hid (h2.pre f1.out)
  clear k1 h2
  go_wp2_with fail
  go_ret
  exact ⟨rfl, A', h1, hp.out⟩

theorem atake_Trigger (p : Nat) (a t c : Int) (w : World) : Calls Tryz.prog 111 #[.pointer (some ⟨p, 0, none⟩), mTrigger a t c] w fun e w' => e = .returned (.bool false) ∧ w' = w := by
  unfold mTrigger
  have q0 := as_Trigger_Manifest
  have q1 := as_Trigger_Chunk
  go_enter Tryz.func111, Tryz.ntmps111
  go_wp2_with fail
  go_ret
  exact ⟨rfl, rfl⟩
theorem atake_Pin (p : Nat) (t j : Int) (w : World) : Calls Tryz.prog 111 #[.pointer (some ⟨p, 0, none⟩), mPin t j] w fun e w' => e = .returned (.bool false) ∧ w' = w := by
  unfold mPin
  have q0 := as_Pin_Manifest
  have q1 := as_Pin_Chunk
  go_enter Tryz.func111, Tryz.ntmps111
  go_wp2_with fail
  go_ret
  exact ⟨rfl, rfl⟩
theorem atake_Pinned (p : Nat) (a t j c : Int) (ua : Option Addr) (un uc : Nat) (l : Bool) (w : World) : Calls Tryz.prog 111 #[.pointer (some ⟨p, 0, none⟩), mPinned a t j c (.slice ua un uc) l] w fun e w' => e = .returned (.bool false) ∧ w' = w := by
  unfold mPinned
  have q0 := as_Pinned_Manifest
  have q1 := as_Pinned_Chunk
  go_enter Tryz.func111, Tryz.ntmps111
  go_wp2_with fail
  go_ret
  exact ⟨rfl, rfl⟩
theorem atake_Gone (p : Nat) (a t j : Int) (w : World) : Calls Tryz.prog 111 #[.pointer (some ⟨p, 0, none⟩), mGone a t j] w fun e w' => e = .returned (.bool false) ∧ w' = w := by
  unfold mGone
  have q0 := as_Gone_Manifest
  have q1 := as_Gone_Chunk
  go_enter Tryz.func111, Tryz.ntmps111
  go_wp2_with fail
  go_ret
  exact ⟨rfl, rfl⟩
theorem atake_Collect (p : Nat) (t j : Int) (w : World) : Calls Tryz.prog 111 #[.pointer (some ⟨p, 0, none⟩), mCollect t j] w fun e w' => e = .returned (.bool false) ∧ w' = w := by
  unfold mCollect
  have q0 := as_Collect_Manifest
  have q1 := as_Collect_Chunk
  go_enter Tryz.func111, Tryz.ntmps111
  go_wp2_with fail
  go_ret
  exact ⟨rfl, rfl⟩
theorem atake_Stored (p : Nat) (t j : Int) (w : World) : Calls Tryz.prog 111 #[.pointer (some ⟨p, 0, none⟩), mStored t j] w fun e w' => e = .returned (.bool false) ∧ w' = w := by
  unfold mStored
  have q0 := as_Stored_Manifest
  have q1 := as_Stored_Chunk
  go_enter Tryz.func111, Tryz.ntmps111
  go_wp2_with fail
  go_ret
  exact ⟨rfl, rfl⟩
theorem atake_Unpin (p : Nat) (t j : Int) (w : World) : Calls Tryz.prog 111 #[.pointer (some ⟨p, 0, none⟩), mUnpin t j] w fun e w' => e = .returned (.bool false) ∧ w' = w := by
  unfold mUnpin
  have q0 := as_Unpin_Manifest
  have q1 := as_Unpin_Chunk
  go_enter Tryz.func111, Tryz.ntmps111
  go_wp2_with fail
  go_ret
  exact ⟨rfl, rfl⟩
theorem atake_Unpinned (p : Nat) (a t j : Int) (w : World) : Calls Tryz.prog 111 #[.pointer (some ⟨p, 0, none⟩), mUnpinned a t j] w fun e w' => e = .returned (.bool false) ∧ w' = w := by
  unfold mUnpinned
  have q0 := as_Unpinned_Manifest
  have q1 := as_Unpinned_Chunk
  go_enter Tryz.func111, Tryz.ntmps111
  go_wp2_with fail
  go_ret
  exact ⟨rfl, rfl⟩
def HearPost (e : Ending) (w w' : World) (p bm : Nat) (D : Nat → Prop) (A : AP) (ok : Prop) (r : Bool) (N : AP → Prop) : Prop := (ok → e = .returned (.bool r) ∧ ∃ A', N A' ∧ AsmTo2 w w' p bm D A') ∧ (¬ ok → e = .returned (.bool false) ∧ AsmTo2 w w' p bm D A)
set_option maxHeartbeats 4000000 in
theorem ahear_gen (p bm mb : Nat) (D : Nat → Prop) (A : AP) (m : Value) (b : Bool) (t jb : Int) (r : Bool) (N : AP → Prop) (w : World) (h : AsmP w p bm mb D A)
    (hr0 : Calls Tryz.prog 40 #[m] w fun e w'' => e = .returned (.bool b) ∧ Fr noB w w'')
    (ho : ∀ w', Fr noB w w' → Calls Tryz.prog 26 #[m] w' fun e w'' => e = .returned (.tuple #[.int .i64 t, .int .i64 jb, .bool true]) ∧ Fr noB w' w'')
    (hk : b = true → t = A.tr → jb = A.jb → ∀ w', Fr noB w w' → Calls Tryz.prog 111 #[.pointer (some ⟨p, 0, none⟩), m] w' fun e w'' => e = .returned (.bool r) ∧ ∃ A', N A' ∧ AsmTo2 w' w'' p bm D A') :
    Calls Tryz.prog 88 #[.pointer (some ⟨p, 0, none⟩), m] w fun e w' => HearPost e w w' p bm D A (b = true ∧ t = A.tr ∧ jb = A.jb) r N := by
  obtain ⟨ok, hok⟩ : ∃ ok : Prop, ok ↔ (b = true ∧ t = A.tr ∧ jb = A.jb) := ⟨_, Iff.rfl⟩
  rw [← propext hok]
  replace hk : Hid (ok → ∀ w', Fr noB w w' → Calls Tryz.prog 111 #[.pointer (some ⟨p, 0, none⟩), m] w' fun e w'' => e = .returned (.bool r) ∧ ∃ A', N A' ∧ AsmTo2 w' w'' p bm D A') := Lib.hid fun q => hk (hok.1 q).1 (hok.1 q).2.1 (hok.1 q).2.2
  replace ho := Lib.hid ho
  replace hok := Lib.hid hok
  replace h := Lib.hid h
  go_enter Tryz.func88, Tryz.ntmps88
  go_wp2_with fail
  refine hr0.mono ?_
  rintro e w1 ⟨rfl, f1⟩
  clear hr0
  cases b with
  | false =>
    go_wp2_with fail
    go_ret
    exact ⟨fun q => absurd (hok.out.1 q).1 (by decide), fun _ => ⟨rfl, h.out.same f1⟩⟩
  | true =>
    go_wp2_with fail
    refine (ho.out w1 f1).mono ?_
    rintro e w2 ⟨rfl, f2⟩
    have g2 := f1.seqN f2
    have h2 := h.out.frN g2
    have c0 : w2.cell? ⟨p, 0, none⟩ = some (.int .i64 A.tr) := h2.blk.cell 0
    have c1 : w2.cell? ⟨p, 1, none⟩ = some (.int .i64 A.jb) := h2.blk.cell 1
    replace h2 := Lib.hid h2
    have hno := Lib.hid (h.out.same g2)
    replace g2 := Lib.hid g2
    clear ho f1 f2
    by_cases ht : t = A.tr
    · by_cases hj : jb = A.jb
      · have hyes := hok.out.2 ⟨by trivial, ht, hj⟩
        have k := Lib.hid (hk.out hyes w2 g2.out)
        replace hyes := Lib.hid hyes
        subst ht hj
        go_wp2_with fail
        go_fit k.out
        rintro e w3 ⟨rfl, A', k1, k2⟩
        have k3 := Lib.hid (k2.pre g2.out)
        clear k2 k hk
        go_wp2_with fail
        go_ret
        exact ⟨fun _ => ⟨rfl, A', k1, k3.out⟩, fun q => absurd hyes.out q⟩
      · have e1 : decide (jb = A.jb) = false := decide_eq_false hj
        have e2 : (jb == A.jb) = false := by simpa using hj
        replace hj := Lib.hid hj
        subst ht
        go_wp2_with fail
        go_ret
        exact ⟨fun q => absurd (hok.out.1 q).2.2 hj.out, fun _ => ⟨rfl, hno.out⟩⟩
    · have e1 : decide (t = A.tr) = false := decide_eq_false ht
      have e2 : (t == A.tr) = false := by simpa using ht
      replace ht := Lib.hid ht
      go_wp2_with fail
      go_ret
      exact ⟨fun q => absurd (hok.out.1 q).2.1 ht.out, fun _ => ⟨rfl, hno.out⟩⟩
theorem ahear_any (p bm mb : Nat) (D : Nat → Prop) (A : AP) (m : Ms) (v : Value) (w : World) (h : AsmP w p bm mb D A) (hm : MsW w v m) :
    Calls Tryz.prog 88 #[.pointer (some ⟨p, 0, none⟩), v] w fun e w' => e = .returned (.bool (A.hearM m).1) ∧ ∃ A', Is A A' (A.hearM m).2 ∧ AsmTo2 w w' p bm D A' := by
  have hk : m.ok = true → m.tj.1 = A.tr → m.tj.2 = A.jb → ∀ w', Fr noB w w' → Calls Tryz.prog 111 #[.pointer (some ⟨p, 0, none⟩), v] w' fun e w'' => e = .returned (.bool (takeM A.man A.C m).1) ∧ ∃ A', Is A A' (takeM A.man A.C m).2 ∧ AsmTo2 w' w'' p bm D A' := by
    intro hb ht hj w' f
    have no : ∀ {Q : Ending → World → Prop}, (∀ e w'', Q e w'' → e = .returned (.bool false) ∧ w'' = w') → Calls Tryz.prog 111 #[.pointer (some ⟨p, 0, none⟩), v] w' Q → Calls Tryz.prog 111 #[.pointer (some ⟨p, 0, none⟩), v] w' fun e w'' => e = .returned (.bool false) ∧ ∃ A', Is A A' (A.man, A.C) ∧ AsmTo2 w' w'' p bm D A' := by
      intro Q hQ hc
      refine hc.mono fun e w'' hq => ?_
      obtain ⟨rfl, rfl⟩ := hQ e w'' hq
      exact ⟨rfl, A, ⟨rfl, rfl, rfl, rfl⟩, (h.frN f).same (Fr.refl _ _)⟩
    have hm' := hm.frN f
    cases m with
    | trigger a t c => obtain rfl := hm'; exact no (fun _ _ q => q) (atake_Trigger p a t c w')
    | pin t j => obtain rfl := hm'; exact no (fun _ _ q => q) (atake_Pin p t j w')
    | pinned q => obtain ⟨u, rfl, h1⟩ := hm'; obtain ⟨ua, uc, rfl, _⟩ := h1; exact no (fun _ _ q => q) (atake_Pinned p q.a q.t q.j q.n ua _ uc q.lo w')
    | gone a t j => obtain rfl := hm'; exact no (fun _ _ q => q) (atake_Gone p a t j w')
    | collect t j => obtain rfl := hm'; exact no (fun _ _ q => q) (atake_Collect p t j w')
    | stored t j => obtain rfl := hm'; exact no (fun _ _ q => q) (atake_Stored p t j w')
    | unpin t j => obtain rfl := hm'; exact no (fun _ _ q => q) (atake_Unpin p t j w')
    | unpinned a t j => obtain rfl := hm'; exact no (fun _ _ q => q) (atake_Unpinned p a t j w')
    | chunk a t j i n sp =>
      obtain ⟨u, rfl, h1⟩ := hm'
      exact take_chunk p bm mb D A a t j i n u sp w' (h.frN f) hb h1
    | manifest t j c ps =>
      obtain ⟨u, rfl, h1⟩ := hm'
      obtain rfl : t = A.tr := ht
      obtain rfl : j = A.jb := hj
      cases hman : A.man with
      | none =>
        refine (take_man p bm mb D A c u ps w' (h.frN f) hman h1 hb).mono ?_
        rintro e w'' ⟨rfl, k⟩
        exact ⟨by unfold takeM; rfl, { A with man := some (c, ps) }, ⟨rfl, rfl, rfl, rfl⟩, k⟩
      | some x =>
        obtain ⟨ua, uc, rfl, _⟩ := h1
        refine (take_man_no p bm mb D A A.tr A.jb c ua _ uc x w' (h.frN f) hman).mono ?_
        rintro e w'' ⟨rfl, k⟩
        exact ⟨rfl, A, ⟨rfl, rfl, hman, rfl⟩, k⟩
  refine (ahear_gen p bm mb D A v m.ok m.tj.1 m.tj.2 _ _ w h (right_ms v m w hm) (fun w' f => of_ms v m w' (hm.frN f)) hk).mono ?_
  rintro e w' ⟨h1, h2⟩
  unfold AP.hearM AP.hears
  by_cases hq : m.ok = true ∧ m.tj.1 = A.tr ∧ m.tj.2 = A.jb
  · rw [if_pos (by rw [hq.1, hq.2.1, hq.2.2]; simp)]
    exact h1 hq
  · rw [if_neg (by simpa using hq)]
    obtain ⟨rfl, k⟩ := h2 hq
    exact ⟨rfl, A, ⟨rfl, rfl, rfl, rfl⟩, k⟩
end Go.Proofs.YtdmhnoffejjpnaaGreatDoor
end
