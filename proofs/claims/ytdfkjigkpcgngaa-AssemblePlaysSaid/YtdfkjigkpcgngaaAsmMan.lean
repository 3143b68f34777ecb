/-
  A manifest comes: copyParts.
-/
import Derived.Test.YtdfkjigkpcgngaaAsmChunk
set_option linter.unusedVariables false
set_option linter.unusedSimpArgs false
set_option maxRecDepth 100000
set_option maxRecDepth 100000
namespace Go.Proofs.Ytdfkjigkpcgngaa
open Go.RowKit Go Go.Maps Go.Lib

/-- the cells of parts -/
def PuAt (cs : List Value) (P : List PU) : Prop := ∀ i u, P[i]? = some u → ∀ q x, u.cs[q]? = some x → cs[i * 6 + q]? = some x
theorem pu_of {w : World} {a : Addr} {n c : Nat} {ps : List Pn} (h : RdPs w (.slice (some a) n c) ps) (hne : ps ≠ []) : ∃ (P : List PU) (g o : Nat), a = ⟨g, o, none⟩ ∧ P.map PU.p = ps ∧ P.length = n ∧ n ≤ c ∧ (∀ j x, (P.flatMap PU.cs)[j]? = some x → w.cell? ⟨g, o + j, none⟩ = some x) ∧ ∀ u ∈ P, RdI w u.v u.p.cr := by
  obtain ⟨a', c', e, h1, h2, h3⟩ := h
  injection e with e1 e2 e3
  subst e2 e3
  obtain ⟨p0, hp0⟩ : ∃ p0, ps[0]? = some p0 := ⟨ps[0]'(List.length_pos_iff.2 hne), List.getElem?_eq_getElem _⟩
  obtain ⟨g, o, ua0, uc0, e4, _, _⟩ := h3 0 p0 hp0
  rw [← e1] at e4
  injection e4 with e4
  have key : ∀ i : Fin ps.length, ∃ ua uc, (∀ q x, (pnC ps[i] (.slice ua ps[i].cr.length uc))[q]? = some x → w.cell? ⟨g, o + (i.1 * 6 + q), none⟩ = some x) ∧ RdI w (.slice ua ps[i].cr.length uc) ps[i].cr := by
    intro i
    obtain ⟨g', o', ua, uc, e5, h5, h6⟩ := h3 i.1 ps[i] (List.getElem?_eq_getElem i.2)
    rw [← e1, e4] at e5
    injection e5 with e5
    injection e5 with e6 e7 _
    subst e6 e7
    exact ⟨ua, uc, h5, h6⟩
  obtain ⟨ua, uc, hk1, hk2⟩ : ∃ (ua : Fin ps.length → Option Addr) (uc : Fin ps.length → Nat), (∀ i : Fin ps.length, ∀ q x, (pnC ps[i] (.slice (ua i) ps[i].cr.length (uc i)))[q]? = some x → w.cell? ⟨g, o + (i.1 * 6 + q), none⟩ = some x) ∧ (∀ i : Fin ps.length, RdI w (.slice (ua i) ps[i].cr.length (uc i)) ps[i].cr) :=
    ⟨fun i => (key i).choose, fun i => (key i).choose_spec.choose, fun i => (key i).choose_spec.choose_spec.1, fun i => (key i).choose_spec.choose_spec.2⟩
  let P : List PU := List.ofFn fun i => PU.mk ps[i] (ua i) (uc i)
  have hlen : P.length = ps.length := by simp [P]
  have hget : ∀ i u, P[i]? = some u → ∃ hi : i < ps.length, u = PU.mk ps[i] (ua ⟨i, hi⟩) (uc ⟨i, hi⟩) := by
    intro i u hu
    have hi : i < ps.length := by rw [← hlen]; exact (List.getElem?_eq_some_iff.1 hu).1
    refine ⟨hi, ?_⟩
    have : P[i]? = some (PU.mk ps[i] (ua ⟨i, hi⟩) (uc ⟨i, hi⟩)) := by simp [P, hi]
    rw [this] at hu
    injection hu with hu
    exact hu.symm
  refine ⟨P, g, o, e4, ?_, hlen, h1, ?_, ?_⟩
  · apply List.ext_getElem?
    intro i
    rw [List.getElem?_map]
    by_cases hi : i < ps.length
    · have : P[i]? = some (PU.mk ps[i] (ua ⟨i, hi⟩) (uc ⟨i, hi⟩)) := by simp [P, hi]
      rw [this, List.getElem?_eq_getElem hi]; rfl
    · rw [List.getElem?_eq_none (by omega), List.getElem?_eq_none (by omega)]; rfl
  · intro j x hx
    have hj : j < P.length * 6 := by rw [← PU.len]; exact (List.getElem?_eq_some_iff.1 hx).1
    obtain ⟨u, hu⟩ : ∃ u, P[j / 6]? = some u := ⟨_, List.getElem?_eq_getElem (by omega)⟩
    obtain ⟨hi, rfl⟩ := hget _ _ hu
    have h9 := PU.get P (j / 6) (j % 6) _ hu (by omega)
    rw [show j / 6 * 6 + j % 6 = j by omega, hx] at h9
    have := hk1 ⟨j / 6, hi⟩ (j % 6) x h9.symm
    rw [show o + j = o + ((j / 6) * 6 + j % 6) by omega]
    exact this
  · intro u hu
    obtain ⟨i, hi⟩ := List.getElem?_of_mem hu
    obtain ⟨hi2, rfl⟩ := hget _ _ hi
    exact hk2 ⟨i, hi2⟩
theorem flatpu_one (P : List PU) : ∀ u ∈ P.flatMap PU.cs, u.oneCell' = true := by
  intro u hu
  obtain ⟨q, _, h⟩ := List.mem_flatMap.1 hu
  exact pu_one q u h
/-- one part's crumbs put elsewhere -/
theorem PuAt.set {cs : List Value} {P : List PU} (h : PuAt cs P) {k : Nat} {u : PU} (hu : P[k]? = some u) (a : Option Addr) (c : Nat) : PuAt (cs.set (k * 6 + 4) (.slice a u.p.cr.length c)) (P.set k { u with a := a, c := c }) := by
  intro i v hv q x hx
  have hk := (List.getElem?_eq_some_iff.1 hu).1
  by_cases hik : k = i
  · subst hik
    rw [List.getElem?_set_self hk] at hv
    injection hv with hv
    subst hv
    have hq6 : q < 6 := (List.getElem?_eq_some_iff.1 hx).1
    have h0 := fun q x hq => h k u hu q x hq
    have hlen4 : k * 6 + 4 < cs.length := (List.getElem?_eq_some_iff.1 (h0 4 _ rfl)).1
    by_cases h4 : q = 4
    · subst h4
      rw [List.getElem?_set_self hlen4]
      exact hx
    · rw [List.getElem?_set_ne (by omega)]
      refine h0 q x ?_
      rcases (show q = 0 ∨ q = 1 ∨ q = 2 ∨ q = 3 ∨ q = 5 by omega) with rfl | rfl | rfl | rfl | rfl <;> exact hx
  · rw [List.getElem?_set_ne hik] at hv
    have hq6 : q < 6 := (List.getElem?_eq_some_iff.1 hx).1
    rw [List.getElem?_set_ne (by omega)]
    exact h i v hv q x hx

set_option maxHeartbeats 8000000 in
theorem copy_any (v : Value) (ps : List Pn) (w : World) (hv : RdPs w v ps) (hne : ps ≠ []) (h4 : ps.length ≤ 4) (hc4 : ∀ p ∈ ps, p.cr.length ≤ 4) :
    Calls Try.prog 34 #[v] w fun e w' => ∃ v', e = .returned v' ∧ RdPsD w' (fun g => w.heap.size ≤ g ∧ g < w'.heap.size) v' ps ∧ Fr noB w w' := by
  obtain ⟨a, n, c, rfl⟩ : ∃ a n c, v = .slice (some a) n c := by
    obtain ⟨a, c, e, _, _, h3⟩ := hv
    obtain ⟨g, o, _, _, e4, _⟩ := h3 0 (ps[0]'(List.length_pos_iff.2 hne)) (List.getElem?_eq_getElem _)
    exact ⟨_, _, _, by rw [e, e4]⟩
  obtain ⟨P, g0, o0, rfl, hP, hPn, hnc, hsrc, hrd⟩ := pu_of hv hne
  have hn4 : n ≤ 4 := by rw [← hPn, ← List.length_map (f := PU.p), hP]; exact h4
  have hn0 : 0 < n := by rw [← hPn, ← List.length_map (f := PU.p), hP]; exact List.length_pos_iff.2 hne
  have hcl := clonep_any ⟨g0, o0, none⟩ n c (P.flatMap PU.cs) w hnc (by omega) (by rw [PU.len, hPn]) (fun j u hj => by rw [add_none]; exact hsrc j u hj) (flatpu_one P)
  have hcr : ∀ u ∈ P, u.p.cr.length ≤ 4 := fun u hu => hc4 _ (by rw [← hP]; exact List.mem_map.2 ⟨u, hu, rfl⟩)
  replace hcl := Lib.hid hcl
  replace hrd := Lib.hid hrd
  replace hcr := Lib.hid hcr
  replace hP := Lib.hid hP
  replace hPn := Lib.hid hPn
  clear hsrc hv h4 hc4 hne
  go_enter Try.func34, Try.ntmps34
  go_wp2_with fail
  go_fit hcl.out
  rintro e w1 ⟨v1, rfl, o1, f1⟩
  obtain ⟨g, cap, rfl, hg⟩ := ownsRow_some o1 hn0
  obtain ⟨cs, hb1, hpu1, hcap⟩ : ∃ cs, Blk w1 g 65 cs ∧ PuAt cs P ∧ n ≤ cap := by
    rcases o1.2 with ⟨q, _⟩ | ⟨g', cap', cur, q1, q2, q3, q4, q5, q6, q7⟩
    · cases q
    · injection q1 with q1 _ q8
      injection q1 with q1
      injection q1 with q1 _ _
      subst q1 q8
      refine ⟨cur.toList, by unfold Blk; rw [Array.toArray_toList]; exact q3, fun i u hu q x hx => ?_, q4⟩
      have hq6 : q < 6 := (List.getElem?_eq_some_iff.1 hx).1
      have h9 := PU.get P i q u hu hq6
      rw [hx] at h9
      have hlt : i * 6 + q < n * 6 := by
        have := (List.getElem?_eq_some_iff.1 h9).1
        rw [PU.len, hPn.out] at this
        exact this
      rw [← q7, List.getElem?_take_of_lt hlt] at h9
      exact h9
  have hgw : w.heap.size ≤ g := hg
  have hg1 : g < w1.heap.size := hb1.lt
  replace hb1 := Lib.hid hb1
  replace hpu1 := Lib.hid hpu1
  have hrd1 : Hid (∀ i u, P[i]? = some u → RdI w1 u.v u.p.cr ∧ (i < 0 → ∀ g' o', u.a = some ⟨g', o', none⟩ → w.heap.size ≤ g' ∧ (u.p.cr ≠ [] → g' ≠ g))) := Lib.hid (fun i u hu => ⟨(hrd.out u (List.mem_of_getElem? hu)).frN f1, fun q => absurd q (Nat.not_lt_zero _)⟩)
  have holdw : Hid (∀ u ∈ P, u.p.cr ≠ [] → ∀ g' o', u.a = some ⟨g', o', none⟩ → g' < w.heap.size) := Lib.hid (fun u hu hne g' o' e => by
    obtain ⟨a', c', e1, _, _, h3⟩ := hrd.out u hu
    obtain ⟨g2, o2, e2, hc⟩ := h3 0 (List.length_pos_iff.2 hne)
    unfold PU.v at e1
    injection e1 with e1
    rw [← e1, e] at e2
    injection e2 with e2
    injection e2 with e2 _ _
    rw [e2]
    exact lt_of_cell hc)
  clear o1 hcl hrd
  go_wp2_with fail
  go_loopg [9] n (fun gk i wr => ∃ (k : Nat) (P' : List PU) (cs' : List Value), k + gk = n ∧ i = .int .i64 k ∧ Hid (P'.map PU.p = ps) ∧ Hid (P'.length = n) ∧ Hid (Blk wr g 65 cs') ∧ Hid (PuAt cs' P') ∧ Hid (∀ i u, P'[i]? = some u → RdI wr u.v u.p.cr ∧ u.p.cr.length ≤ 4 ∧ (i < k → ∀ g' o', u.a = some ⟨g', o', none⟩ → w.heap.size ≤ g') ∧ (u.p.cr ≠ [] → ∀ g' o', u.a = some ⟨g', o', none⟩ → g' ≠ g)) ∧ Hid (Fr noB w wr))
  case atStart => exact ⟨0, P, cs, Nat.zero_add _, rfl, hP, hPn, hb1, hpu1, Lib.hid (fun i u hu => ⟨(hrd1.out i u hu).1, hcr.out u (List.mem_of_getElem? hu), fun q => absurd q (Nat.not_lt_zero _), fun hne g' o' e => by have := holdw.out u (List.mem_of_getElem? hu) hne g' o' e; omega⟩), Lib.hid f1⟩
  case round =>
    clear hb1 hpu1 hrd1 hP hPn holdw hcr
    obtain ⟨k, P', cs', hk, rfl, hP, hPn, hb, hpu, hrd, fr⟩ := hrel
    by_cases hlt : k < n
    · obtain ⟨u, hu⟩ : ∃ u, P'[k]? = some u := ⟨_, List.getElem?_eq_getElem (by rw [hPn.out]; exact hlt)⟩
      obtain ⟨hr1, hr4, _, _⟩ := hrd.out k u hu
      have hu4 : cs'[k * 6 + 4]? = some (.slice u.a u.p.cr.length u.c) := hpu.out k u hu 4 _ rfl
      have c4 : wr.cell? ⟨g, k * 6 + 4, none⟩ = some (.slice u.a u.p.cr.length u.c) := by rw [hb.out.cell]; exact hu4
      have hcl := clonei_any (.slice u.a u.p.cr.length u.c) u.p.cr wr hr1 (by omega)
      have hb1 : (k : Int) < n := by omega
      have hmeas : n - (k + 1) < gk := by omega
      have hkn2 : k + 1 + (n - (k + 1)) = n := by omega
      obtain ⟨cl, hcl0⟩ : ∃ cl, u.p.cr.length = cl := ⟨_, rfl⟩
      rw [hcl0] at hcl c4
      replace hcl0 := Lib.hid hcl0
      replace hcl := Lib.hid hcl
      replace hmeas := Lib.hid hmeas
      replace hkn2 := Lib.hid hkn2
      replace hu := Lib.hid hu
      replace hr1 := Lib.hid hr1
      clear hu4 hk
      go_wp2_with fail
      go_fit hcl.out
      rintro e w3 ⟨ta, tc, rfl, hrd3, hta, f3⟩
      have hb3 := f3.blk hb.out (fun q => q)
      have c43 : w3.cell? ⟨g, k * 6 + 4, none⟩ = some (.slice u.a cl u.c) := f3.cell c4 (fun q => q)
      have z3 := hb3.frozen (k * 6 + 4)
      have hgr : g < wr.heap.size := hb.out.lt
      have hs3 : Fr (onlyB g) w3 (w3.setCell ⟨g, k * 6 + 4, none⟩ (.slice ta cl tc)) := (Fr.refl _ _).store (onlyB_self g)
      have hb4 := hb3.set (k * 6 + 4) (.slice ta cl tc)
      have hpu4 := hpu.out.set hu.out ta tc
      rw [hcl0.out] at hpu4
      have hP4 : (P'.set k { u with a := ta, c := tc }).map PU.p = ps := by
        rw [← hP.out]
        apply List.ext_getElem?
        intro i
        by_cases hik : k = i
        · subst hik
          rw [List.getElem?_map, List.getElem?_map, List.getElem?_set_self (by rw [hPn.out]; exact hlt), hu.out]; rfl
        · rw [List.getElem?_map, List.getElem?_map, List.getElem?_set_ne hik]
      have hrd4 : ∀ i v, (P'.set k { u with a := ta, c := tc })[i]? = some v → RdI (w3.setCell ⟨g, k * 6 + 4, none⟩ (.slice ta cl tc)) v.v v.p.cr ∧ v.p.cr.length ≤ 4 ∧ (i < k + 1 → ∀ g' o', v.a = some ⟨g', o', none⟩ → w.heap.size ≤ g') ∧ (v.p.cr ≠ [] → ∀ g' o', v.a = some ⟨g', o', none⟩ → g' ≠ g) := by
        intro i v hv
        have hsz := fr.out.size
        by_cases hik : k = i
        · subst hik
          rw [List.getElem?_set_self (by rw [hPn.out]; exact hlt)] at hv
          injection hv with hv
          subst hv
          have hne : ∀ g' o', ta = some ⟨g', o', none⟩ → g' ≠ g := fun g' o' e => by have := hta g' o' e; omega
          refine ⟨?_, hr4, fun _ g' o' e => by have := hta g' o' e; omega, fun _ g' o' e => hne g' o' e⟩
          show RdI _ (.slice ta u.p.cr.length tc) u.p.cr
          have h9 : RdI w3 (.slice ta u.p.cr.length tc) u.p.cr := by rw [hcl0.out]; exact hrd3
          exact h9.fr hs3 (fun g' o n c e q => hne g' o (by injection e) (by unfold onlyB at q; exact q))
        · rw [List.getElem?_set_ne hik] at hv
          obtain ⟨k1, k2, k3, k4⟩ := hrd.out i v hv
          exact ⟨(k1.frN f3).fr1 hs3 (fun hne g' o n c e q => k4 hne g' o (by unfold PU.v at e; injection e) (by unfold onlyB at q; exact q)), k2, fun hi => k3 (by omega), k4⟩
      have fr4 : Fr noB w (w3.setCell ⟨g, k * 6 + 4, none⟩ (.slice ta cl tc)) := (fr.out.seqN f3).storeNew hgw
      replace hb4 := Lib.hid hb4
      replace hpu4 := Lib.hid hpu4
      replace hP4 := Lib.hid hP4
      replace hrd4 := Lib.hid hrd4
      replace fr4 := Lib.hid fr4
      have hl4 : Hid ((P'.set k { u with a := ta, c := tc }).length = n) := Lib.hid (by rw [List.length_set]; exact hPn.out)
      clear hb3 hs3 hrd3 f3 hcl hrd c4 hb hpu hP fr
      go_wp2_with fail
      go_roundg (n - (k + 1))
      case rel => exact ⟨k + 1, _, _, hkn2.out, by go_num, hP4, hl4, hb4, hpu4, hrd4, fr4⟩
      case measure => exact hmeas.out
    · obtain rfl : k = n := by omega
      go_wp2_with fail
      go_ret
      have hlen : ps.length = k := by rw [← hP.out, List.length_map]; exact hPn.out
      refine ⟨_, rfl, ⟨some ⟨g, 0, none⟩, cap, by rw [hlen]; rfl, by omega, by omega, fun i p hp => ?_⟩, fr.out⟩
      rw [← hP.out, List.getElem?_map] at hp
      cases hq : P'[i]? with
      | none => rw [hq] at hp; cases hp
      | some u =>
        rw [hq] at hp
        injection hp with hp
        subst hp
        have hik : i < k := by rw [← hPn.out]; exact (List.getElem?_eq_some_iff.1 hq).1
        obtain ⟨k1, k2, k3, k4⟩ := hrd.out i u hq
        refine ⟨g, u.a, u.c, rfl, ⟨hgw, hb.out.lt⟩, fun q x hx => ?_, k1, fun hne g' o' e => ⟨k3 hik g' o' e, ?_⟩⟩
        · rw [hb.out.cell]
          exact hpu.out i u hq q x hx
        · obtain ⟨a', c', e1, _, _, h3⟩ := k1
          obtain ⟨g2, o2, e2, hc⟩ := h3 0 (List.length_pos_iff.2 hne)
          unfold PU.v at e1
          injection e1 with e1
          rw [← e1, e] at e2
          injection e2 with e2
          injection e2 with e2 _ _
          rw [e2]
          exact lt_of_cell hc
end Go.Proofs.Ytdfkjigkpcgngaa
