/-
  The reference's coordinator hears a call's message: all cases.
  Both coordinators hear a call's message, side by side: what the law's loop keeps.
-/
import Derived.Test.YtidcoddefebdpaaGreatCoD
import Derived.Test.YtidcoddefebdpaaGreatCoordP3
section
set_option linter.unusedVariables false
set_option linter.unusedSimpArgs false
set_option maxRecDepth 100000
namespace Go.Proofs.YtidcoddefebdpaaGreat
open Go.RowKit Go Go.Maps Go.Lib

theorem rhear_co {w : World} {z B M0 : Nat} {E : Nat → Prop} {C : CS} (h : Rr w z B M0 E C) (hw : C.wf) (m : OpJ) (u : Value) (hu : LkV w m u) (hx : RdI w (.slice m.ua m.un m.uc) m.xs) (hm0 : m.xs ≠ [] → ∀ g o, m.ua = some ⟨g, o, none⟩ → g < M0) (hMB : M0 ≤ B) (hla : C.la < 1073741824) (hrf : 0 ≤ C.rf ∧ C.rf < 1000000000) :
    Calls Tryz.prog 11 #[.pointer (some ⟨z, 0, none⟩), u] w fun e w' => RHearTo e w w' z B M0 E (fun pn => C.hearO m.ms pn) := by
  obtain ⟨M, rfl, hM⟩ := lkv_mr hu
  cases hok : m.okm
  · have hr := fun w' (f : Fr noB w w') => rright_lk w' (hu.frN f) (hx.frN f)
    simp only [hok] at hr
    refine (rhear_bad z M w hr).mono ?_
    rintro e w' ⟨rfl, f⟩
    exact RHearTo.no h (fun pn => hearO_bad hok pn) f
  · obtain ⟨x, hms⟩ : ∃ x, m.ms = some x := by
      cases q : m.ms with
      | none => unfold OpJ.okm at hok; rw [q] at hok; cases hok
      | some x => exact ⟨x, rfl⟩
    have hxo : x.ok = true := by unfold OpJ.okm at hok; rw [hms] at hok; exact hok
    obtain ⟨ja, jc, R, hR, hL⟩ := h
    by_cases h1 : m.k = 1
    · obtain rfl := hM.g x hms h1
      rw [hms]
      obtain rfl := ms_trig hms h1
      have e : (fun pn => C.hearO (some (.trigger m.a m.t 0)) pn) = C.begin m.a m.t 0 := funext fun pn => hear_trig hxo pn
      rw [e]
      exact rhear_trig hR hL hw m.a m.t hxo hMB hla hrf
    · have e : (fun pn => C.hearO m.ms pn) = fun _ => C.other x := funext fun pn => by rw [hms]; exact hear_oth (noTr_ms hms h1) pn hxo
      rw [e]
      by_cases h4 : ∃ e, C.at m.t = some e ∧ (e.j.hear m).ph = 4
      · exact rhear_end hR hL hw m x hms h1 hok M hM hu hx hx.len hm0 hMB h4
      · exact rhear_oth hR hL hw m x hms h1 hok M hM hu hx hx.len hm0 hMB (fun e q1 q2 => h4 ⟨e, q1, q2⟩)
end Go.Proofs.YtidcoddefebdpaaGreat
end

section
set_option linter.unusedVariables false
set_option linter.unusedSimpArgs false
set_option maxRecDepth 100000
namespace Go.Proofs.YtidcoddefebdpaaGreat
open Go.RowKit Go Go.Maps Go.Lib

theorem Rr.lo {w : World} {z B M0 : Nat} {E : Nat → Prop} {C : CS} (h : Rr w z B M0 E C) : ∀ g, E g → B ≤ g ∧ g < w.heap.size := by
  obtain ⟨ja, jc, R, h1, _⟩ := h
  exact h1.lo
/-- the cells of the reference's coordinator -/
def RCells (w : World) (z : Nat) (ja : Option Addr) (nJ jc : Nat) (la rf : Int) : Prop := w.cell? ⟨z, 2, none⟩ = some (.slice ja nJ jc) ∧ w.cell? ⟨z, 3, none⟩ = some (.int .i64 la) ∧ w.cell? ⟨z, 4, none⟩ = some (.int .i64 rf)
theorem Rr.cells {w : World} {z B M0 : Nat} {E : Nat → Prop} {C : CS} (h : Rr w z B M0 E C) : ∃ ja jc, RCells w z ja C.Q.length jc C.la C.rf ∧ ∀ i, i < C.Q.length → ∃ (e : JE) (g r : Nat), C.Q[i]? = some e ∧ ja = some ⟨g, 0, none⟩ ∧ w.cell? ⟨g, i, none⟩ = some (.pointer (some ⟨r, 0, none⟩)) ∧ w.cell? ⟨r, 1, none⟩ = some (.int .i64 e.j.tr) ∧ w.cell? ⟨r, 3, none⟩ = some (.int .i64 e.j.ph) := by
  obtain ⟨ja, jc, R, h1, h2⟩ := h
  refine ⟨ja, jc, ⟨?_, h1.blk.cell 3, h1.blk.cell 4⟩, fun i hi => ?_⟩
  · rw [h2.len]; exact h1.blk.cell 2
  · obtain ⟨x, g, hx, e1, c0, c1, c3, _⟩ := h1.job (k := i) (by rw [← h2.len]; exact hi)
    have he : C.Q[i]? = some C.Q[i] := List.getElem?_eq_getElem hi
    obtain ⟨r1, _⟩ := h2.rel i _ x he hx
    exact ⟨_, g, x.r, he, e1, c0, by rw [← r1.r.tr]; exact c1, by rw [← r1.r.ph]; exact c3⟩
theorem CoV.base {w0 w1 w : World} {c bm : Nat} {D : Nat → Prop} {C : CS} (h : CoV w1 w c bm D C) (f : Fr noB w0 w1) : CoV w0 w c bm D C :=
  ⟨h.is, fun g hg => Nat.le_trans f.size (h.ge g hg), h.lt, f.seqN h.fr0⟩
/-- amid the law's loop -/
structure CI (w wr : World) (c bm z k : Nat) (D E : Nat → Prop) (C : CS) : Prop where
  pa : CoV w wr c bm D C
  pr : Rr wr z w.heap.size w.heap.size E C
  ap : ∀ g, D g → ¬ E g
  lw : C.lw k
theorem CI.frN {w wr w' : World} {c bm z k : Nat} {D E : Nat → Prop} {C : CS} (h : CI w wr c bm z k D E C) (f : Fr noB wr w') : CI w w' c bm z k D E C := ⟨h.pa.frN f, h.pr.frN f, h.ap, h.lw⟩
theorem CS.lw.up {C : CS} {k : Nat} (h : C.lw k) : C.lw (k + 1) := ⟨h.wf, by have := h.la; omega, by have := h.rf; omega, h.tk⟩
theorem CI.up {w wr : World} {c bm z k : Nat} {D E : Nat → Prop} {C : CS} (h : CI w wr c bm z k D E C) : CI w wr c bm z (k + 1) D E C := ⟨h.pa, h.pr, h.ap, h.lw.up⟩
theorem SaidR.slices {B M0 : Nat} {w : World} {ut uo : Value} {Q : List JE} (h : SaidR B M0 w ut uo Q) : (∃ a n c, ut = .slice a n c) ∧ ∃ a n c, uo = .slice a n c := by
  obtain ⟨P, _, h1, h2, _⟩ := h
  obtain ⟨a, c, rfl⟩ := ownsRow_slice h1
  obtain ⟨b, d, rfl⟩ := ownsRow_slice h2
  exact ⟨⟨_, _, _, rfl⟩, ⟨_, _, _, rfl⟩⟩
theorem SaidP.sl {B : Nat} {w : World} {u : Value} {Q : List JE} (h : SaidP B w u Q) : ∃ a n c, u = .slice a n c := by
  obtain ⟨P, _, h1, _⟩ := h
  obtain ⟨a, c, rfl⟩ := ownsRow_slice h1
  exact ⟨_, _, _, rfl⟩
theorem SaidP.frN {B : Nat} {w w' : World} {u : Value} {Q : List JE} (h : SaidP B w u Q) (f : Fr noB w w') : SaidP B w' u Q := by
  obtain ⟨P, h1, h2, h3⟩ := h
  exact ⟨P, h1, ownsRow_fr h2 f (fun _ _ q => q), fun i e pv k1 k2 k3 => (h3 i e pv k1 k2 k3).frN f⟩
/-- what both say is the same, from here on -/
def SameNow (w9 : World) (u ut uo : Value) : Prop := ∀ w', Fr noB w9 w' → Calls Tryz.prog 8 #[u, ut, uo] w' fun e w'' => e = .returned (.bool true) ∧ Fr noB w' w''
theorem sameNow {w : World} {Q : List JE} {B B2 M0 : Nat} {u ut uo : Value} (hp : SaidP B w u Q) (hr : SaidR B2 M0 w ut uo Q) (hi : ∀ e ∈ Q, e.j.inv) (hQ : Q.length ≤ 8) : SameNow w u ut uo := fun w' f => sameQ_any w' Q B B2 M0 u ut uo (hp.frN f) (hr.fr f (fun g q => q.elim)) hi hQ
/-- the numbers that the program tells -/
def Nums (w9 : World) (c nJ : Nat) (la rf : Int) : Prop := ∀ w', Fr noB w9 w' → (Calls Tryz.prog 14 #[.pointer (some ⟨c, 0, none⟩)] w' fun e w'' => e = .returned (.int .i64 nJ) ∧ w'' = w') ∧ (Calls Tryz.prog 15 #[.pointer (some ⟨c, 0, none⟩)] w' fun e w'' => e = .returned (.int .i64 la) ∧ w'' = w') ∧ (Calls Tryz.prog 16 #[.pointer (some ⟨c, 0, none⟩)] w' fun e w'' => e = .returned (.int .i64 rf) ∧ w'' = w')
/-- the program has heard -/
def Heard (w w9 : World) (c bm z k : Nat) (ut uo : Value) (ja : Option Addr) (nJ jc : Nat) (la rf : Int) (e : Ending) : Prop := ∃ a n cc C' D' E', e = .returned (.slice a n cc) ∧ CI w w9 c bm z (k + 1) D' E' C' ∧ Nums w9 c nJ la rf ∧ SameNow w9 (.slice a n cc) ut uo ∧ RCells w9 z ja nJ jc la rf
theorem both_hear {w w7 w8 : World} {c bm z k B : Nat} {D E : Nat → Prop} {C : CS} {m : OpJ} {v : Value} {e : Ending} (I : CI w w7 c bm z k D E C) (hk : k < 200) (hv : MsgB B w7 m v) (hE : ∀ g, E g → g < B) (hx : RdI w7 (.slice m.ua m.un m.uc) m.xs) (hm0 : m.xs ≠ [] → ∀ g o, m.ua = some ⟨g, o, none⟩ → g < w.heap.size)
    (hR : RHearTo e w7 w8 z w.heap.size w.heap.size E (fun pn => C.hearO m.ms pn)) :
    ∃ ta tn tc oa on oc ja nJ jc la rf, e = .returned (.tuple #[.slice ta tn tc, .slice oa on oc]) ∧ RCells w8 z ja nJ jc la rf ∧ Fr noB w w8 ∧ ∀ w', Fr noB w8 w' → Calls Tryz.prog 13 #[.pointer (some ⟨c, 0, none⟩), v] w' fun e w9 => Heard w w9 c bm z k (.slice ta tn tc) (.slice oa on oc) ja nJ jc la rf e := by
  obtain ⟨ut, uo, E', rfl, hall, hE', fE⟩ := hR
  obtain ⟨⟨ta, tn, tc, rfl⟩, oa, on, oc, rfl⟩ := (hall 0).1.slices
  obtain ⟨ja, jc, hC0, _⟩ := (hall 0).2.cells
  have A8 := I.pa.fr fE (fun g hg => I.ap g hg) (fun g hg => (I.pr.lo g hg).1)
  have hla := I.lw.la
  have hrf := I.lw.rf
  refine ⟨ta, tn, tc, oa, on, oc, ja, _, jc, _, _, rfl, hC0, A8.fr0, fun w8' f8 => ?_⟩
  have V8 := (hv.fr fE hE).frN f8
  have X8 := (hx.fr1 fE (fun hne g o n c e q => by
    have h1 := hm0 hne g o (by injection e)
    have h2 := (I.pr.lo g q).1
    omega)).frN f8
  refine (hearO_cv w c bm D C m v w8' (A8.frN f8) V8.v X8 (fun hne g o e hD => by have := hm0 hne g o e; have := I.pa.ge g hD; omega) (by omega) (by omega)).mono ?_
  rintro e w9 ⟨u, pn, D', rfl, ho, hpn, A9, hD', f9⟩
  have hP := SaidP.out ho
  obtain ⟨hsr, hrr⟩ := hall pn
  have hsr9 := (hsr.fr f8 (fun g q => q.elim)).fr f9 (fun g hg => ⟨I.pa.ge g hg, I.pa.lt g hg⟩)
  have hrr9 := (hrr.frN f8).fr f9 (fun g hg hD => by
    have h1 := I.pa.ge g hD
    have h2 := I.pa.lt g hD
    rcases hg with hg | hg
    · rcases hE' g hg with q | q
      · exact I.ap g hD q
      · omega
    · omega)
  have hz : E z := by
    obtain ⟨ja, jc, R, h1, _⟩ := I.pr
    exact h1.ine.1
  have hC9 : RCells w9 z ja (C.hearO m.ms 0).1.Q.length jc (C.hearO m.ms 0).1.la (C.hearO m.ms 0).1.rf := by
    have ff := fun (i : Nat) (x : Value) (hc : w8.cell? ⟨z, i, none⟩ = some x) => f9.cell (f8.cell hc (fun q => q)) (fun q => I.ap z q hz)
    exact ⟨ff 2 _ hC0.1, ff 3 _ hC0.2.1, ff 4 _ hC0.2.2⟩
  obtain ⟨jb, jd, hC', _⟩ := hrr9.cells
  have n1 := hC'.1.symm.trans hC9.1
  have n2 := hC'.2.1.symm.trans hC9.2.1
  have n3 := hC'.2.2.symm.trans hC9.2.2
  simp only [Option.some.injEq, Value.slice.injEq, Value.int.injEq, true_and] at n1 n2 n3
  obtain ⟨hlw, hinv⟩ := hearO_lw I.lw m pn A9.wf
  obtain ⟨a, n, cc, rfl⟩ := hP.sl
  refine ⟨a, n, cc, _, D', E', rfl, ⟨A9, hrr9, fun g hg q => ?_, hlw⟩, fun w' f => ⟨by rw [← n1.2.1]; exact jobs_cv (A9.frN f), by rw [← n2]; exact last_cv (A9.frN f), by rw [← n3]; exact refused_cv (A9.frN f)⟩, sameNow hP hsr9 hinv ?_, hC9⟩
  · have hlo := (hrr.frN f8).lo g q
    rcases hD' g hg with p | p
    · rcases hE' g q with r | r
      · exact I.ap g p r
      · have := I.pa.lt g p; omega
    · omega
  · cases (C.hearO m.ms pn).2 <;> simp
end Go.Proofs.YtidcoddefebdpaaGreat
end
