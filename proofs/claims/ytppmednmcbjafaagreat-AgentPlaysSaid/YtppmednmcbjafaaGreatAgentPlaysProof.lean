/-
  The document's agent: a span is written.
  The agent and the document's agent side by side amid the law.
  What the arms of the law's walk want: both agents amid a round.
  The agent is the document's: the law's walk.
  The agent is the document's: over the arguments as they come.
  Proved here: for every input the law spoorlaw12.AgentPlays returns true, and its arguments read behind the call as they read before; no condition.
-/
import Derived.Test.YtppmednmcbjafaaGreatQmD
import Derived.Test.YtppmednmcbjafaaGreatQmB
import Derived.Deep.LoopGhost
import Derived.Deep.DeepCutAuto
import Derived.Test.YtppmednmcbjafaaGreatQmE
import Derived.Test.YtppmednmcbjafaaGreatAgAwake2
import Derived.Deep.CutBlock
import Derived.Deep.RegionHeld3
import Derived.Test.YtppmednmcbjafaaGreatArgs
import Derived.SizedLaws
section
set_option linter.unusedVariables false
set_option linter.unusedSimpArgs false
set_option maxRecDepth 100000
namespace Go.Proofs.YtppmednmcbjafaaGreat
open Go.RowKit Go Go.Maps Go.Lib

namespace KR
theorem rkwrite_any (k g B N : Nat) (K : KS) (t : Int) (x : ByteArray) (T : Nat → Prop) (w : World) (h : Rx w k g B N K T) (hTl : ∀ q, T q → q < w.heap.size)
    (hz : K.pins.length < 1000000) (hzl : K.loss.length < 1000000) (hzg : K.gone.length < 1000000) (hsd : U64 K.sd) (hrng : ∀ y ∈ K.P.map (·.1), 1 ≤ y ∧ y ≤ 65535) (hra : noRoom N K.P t → mayL K ≠ [] → goes K t ≠ t → ¬ noRoom N (without K.P (goes K t)) t) :
    Calls Tryz.prog 14 #[.pointer (some ⟨k, 0, none⟩), .int .i64 t, .string x] w fun e w' => e = .returned (.tuple #[spV (K.ws N t x), .int .i64 (K.we N t x)]) ∧ Rx w' k g B N (K.wr N t x) (nx T w w') ∧ Fr T w w' := by
  have same : ∀ w', Fr noB w w' → Rx w' k g B N K (nx T w w') ∧ Fr T w w' := fun w' f => ⟨(h.frN f).mono (fun q _ e => Or.inl e), f.mono (fun _ _ q => False.elim q)⟩
  by_cases hb : mayB t x = false
  · have e1 : K.we N t x = 1 := by unfold KS.we; rw [if_pos hb]
    have e2 : K.wr N t x = K := by unfold KS.wr; rw [if_pos hb]
    have e3 : K.ws N t x = sp0 := by unfold KS.ws; rw [if_neg (by rw [e1]; decide)]
    rw [e1, e2, e3]
    exact (rkw_bad k t x w hb).mono fun e w' ⟨he, f⟩ => ⟨he, same w' f⟩
  · have hb' : mayB t x = true := by simpa using hb
    by_cases hl : t ∈ K.loss
    · have e1 : K.we N t x = 10 := by unfold KS.we; rw [if_neg hb, if_pos hl]
      have e2 : K.wr N t x = K := by unfold KS.wr; rw [if_neg hb, if_pos hl]
      have e3 : K.ws N t x = sp0 := by unfold KS.ws; rw [if_neg (by rw [e1]; decide)]
      rw [e1, e2, e3]
      obtain ⟨vp, vl, vg, S, h1, _⟩ := h
      exact (rkw_lost k g B N K vp vl vg S t x w h1 hb' hl).mono fun e w' ⟨he, f⟩ => ⟨he, same w' f⟩
    · by_cases hp : t ∈ K.pins
      · have e1 : K.we N t x = 12 := by unfold KS.we; rw [if_neg hb, if_neg hl, if_pos hp]
        have e2 : K.wr N t x = K := by unfold KS.wr; rw [if_neg hb, if_neg hl, if_pos hp]
        have e3 : K.ws N t x = sp0 := by unfold KS.ws; rw [if_neg (by rw [e1]; decide)]
        rw [e1, e2, e3]
        obtain ⟨vp, vl, vg, S, h1, _⟩ := h
        exact (rkw_pin k g B N K vp vl vg S t x w h1 hb' hl hp).mono fun e w' ⟨he, f⟩ => ⟨he, same w' f⟩
      · exact rkw_go k g B N K t x T w h hTl hb' hl hp hz hzl hzg hsd hrng hra
end KR
section
variable {w : World} {z : Nat} {col : Nat → Nat} {n : Nat} {A : AG} {b : Bd}
theorem rwrite_any (t : Int) (x : ByteArray) (h : RA w z col n A b) (hk : KIn A.N A.K) (hn : n < 201) :
    Calls Tryz.prog 14 #[.pointer (some ⟨b.k, 0, none⟩), .int .i64 t, .string x] w fun e w' => e = .returned (.tuple #[spV (A.K.ws A.N t x), .int .i64 (A.K.we A.N t x)]) ∧ ∃ c2, RTo w w' z col (n + 1) { A with K := A.K.wr A.N t x } c2 := by
  obtain ⟨z1, z2, z3⟩ := h.z2
  refine (KR.rkwrite_any b.k b.g b.B A.N A.K t x _ w h.kx (fun q hq => h.low q (by rw [hq]; decide)) (by omega) (by omega) (by omega) hk.sd hk.rng (hk.room t)).mono ?_
  rintro e w' ⟨rfl, hx, f⟩
  obtain ⟨l1, l2, l3⟩ := wr_len A.K A.N t x
  exact ⟨rfl, h.keeper hx f (Nat.le_succ n) (by omega) ⟨by omega, by omega, by omega⟩⟩
end
end Go.Proofs.YtppmednmcbjafaaGreat
end

section
set_option linter.unusedVariables false
set_option linter.unusedSimpArgs false
set_option maxRecDepth 100000
namespace Go.Proofs.YtppmednmcbjafaaGreat
open Go.RowKit Go Go.Maps Go.Lib

structure AP (w0 w : World) (p z n : Nat) (col rcol : Nat → Nat) (A : AG) : Prop where
  ag : AgIn w0 w p col n A
  ra : ∃ b, RA w z rcol n A b
  rlo : ∀ q, q < w0.heap.size → rcol q = 0
  ap : ∀ q, col q = 0 ∨ rcol q = 0
  inv : A.Inv
  sd : U64 A.K.sd
  tt : 1 ≤ A.T ∧ A.T ≤ 1000
section
variable {w0 w w1 w2 : World} {p z n : Nat} {col rcol c2 c3 : Nat → Nat} {A B : AG}
theorem AP.kin (h : AP w0 w p z n col rcol A) : KIn A.N A.K := by
  obtain ⟨a, ha⟩ := h.ag.ag
  exact ⟨h.sd, fun y hy => key_rng ha.kp.po hy, fun t h1 h2 h3 => room_after ha.kp.po h1 h2 h3⟩
theorem AP.xl (h : AP w0 w p z n col rcol A) (t : Int) : (A.X t).length ≤ 4 := by
  obtain ⟨a, ha⟩ := h.ag.ag
  exact ha.cm.lenX t
theorem AP.xs (h : AP w0 w p z n col rcol A) (t : Int) : (A.X t).Pairwise (· < ·) := by
  obtain ⟨a, ha⟩ := h.ag.ag
  exact ha.cm.sorted t
theorem AP.frN (h : AP w0 w p z n col rcol A) (f : Fr noB w w1) : AP w0 w1 p z n col rcol A := by
  obtain ⟨b, hb⟩ := h.ra
  exact { h with ag := h.ag.frN f, ra := ⟨b, hb.frN f⟩ }
/-- what the law itself writes -/
theorem AP.fr {S : Nat → Prop} (h : AP w0 w p z n col rcol A) (f : Fr S w w1) (hS : ∀ q, S q → w0.heap.size ≤ q ∧ col q = 0 ∧ rcol q = 0) : AP w0 w1 p z n col rcol A := by
  obtain ⟨b, hb⟩ := h.ra
  obtain ⟨⟨a, ha⟩, f0, lo⟩ := h.ag
  exact { h with ag := ⟨⟨a, ha.fr f (fun q hq s => hq (hS q s).2.1)⟩, f0.trans f (fun _ _ q => q) (fun q hq s => by have := (hS q s).1; omega), lo⟩, ra := ⟨b, hb.fr f (fun q hq s => hq (hS q s).2.2)⟩ }
/-- behind the agent's own call -/
structure APm (w0 w w1 : World) (p z n : Nat) (col rcol c2 : Nat → Nat) (A B : AG) : Prop where
  h : AP w0 w p z n col rcol A
  ag : AgIn w0 w1 p c2 (n + 1) B
  ra : ∃ b, RA w1 z rcol n A b
  ap : ∀ q, c2 q = 0 ∨ rcol q = 0
  fr : Fr (fun q => col q ≠ 0) w w1
  cc : ∀ q, q < w.heap.size → c2 q = col q
theorem AP.mid (h : AP w0 w p z n col rcol A) (k : ATo w w1 p col (n + 1) B c2) : APm w0 w w1 p z n col rcol c2 A B := by
  obtain ⟨b, hb⟩ := h.ra
  have hag := h.ag.step k
  obtain ⟨ha, f, hc⟩ := k
  refine ⟨h, hag, ⟨b, hb.fr f (fun q hq hs => ?_)⟩, fun q => ?_, f, hc⟩
  · rcases h.ap q with e | e
    · exact hs e
    · exact hq e
  · by_cases hq : q < w.heap.size
    · rw [hc q hq]; exact h.ap q
    · refine Or.inr ?_
      by_cases e : rcol q = 0
      · exact e
      · exact absurd (hb.low q e) hq
theorem APm.frN (h : APm w0 w w1 p z n col rcol c2 A B) (f : Fr noB w1 w2) : APm w0 w w2 p z n col rcol c2 A B := by
  obtain ⟨b, hb⟩ := h.ra
  exact { h with ag := h.ag.frN f, ra := ⟨b, hb.frN f⟩, fr := h.fr.seqN f }
/-- behind the document's call too -/
theorem APm.fin (h : APm w0 w w1 p z n col rcol c2 A B) (k : RTo w1 w2 z rcol (n + 1) B c3) (hi : B.Inv) (hsd : B.K.sd = A.K.sd) (hT : B.T = A.T) : AP w0 w2 p z (n + 1) c2 c3 B ∧ Fr (fun q => col q ≠ 0 ∨ rcol q ≠ 0) w w2 ∧ (∀ q, q < w.heap.size → c2 q = col q ∧ c3 q = rcol q) := by
  obtain ⟨hb, f, hc⟩ := k
  obtain ⟨⟨a, ha⟩, f0, lo⟩ := h.ag
  have hsz := h.fr.size
  have f9 : Fr (fun q => col q ≠ 0 ∨ rcol q ≠ 0) w w2 := h.fr.trans f (fun _ _ q => Or.inl q) (fun _ _ q => Or.inr q)
  refine ⟨⟨⟨⟨a, ha.fr f (fun q hq hs => ?_)⟩, f0.trans f (fun _ _ q => q) (fun q hq s => s (h.h.rlo q hq)), lo⟩, hb, fun q hq => ?_, fun q => ?_, hi, by rw [hsd]; exact h.h.sd, by rw [hT]; exact h.h.tt⟩, f9, fun q hq => ⟨h.cc q hq, hc q (by omega)⟩⟩
  · rcases h.ap q with e | e
    · exact hq e
    · exact hs e
  · rw [hc q (Nat.lt_of_lt_of_le hq f0.size)]; exact h.h.rlo q hq
  · by_cases hq : q < w1.heap.size
    · rw [hc q hq]; exact h.ap q
    · refine Or.inl ?_
      by_cases e : c2 q = 0
      · exact e
      · exact absurd (ha.low q e) hq
/-- the two that are new -/
theorem AP.begin {wA wB : World} {id : Int} {cf : Cf} (hm : cf.may id) (hsd : U64 cf.sd) (f0 : Fr noB w0 w) (ha : ∃ a, AgA wA p col 0 (AG.new id cf) a) (f1 : Fr noB w wA) (hc : ∀ q, q < w.heap.size → col q = 0) (hb : ∃ d, RA wB z rcol 0 (AG.new id cf) d) (f2 : Fr noB wA wB) (hr : ∀ q, q < wA.heap.size → rcol q = 0) : AP w0 wB p z 0 col rcol (AG.new id cf) := by
  have hi := AG.new_inv id cf
  have g := (AgIn.begin f0 ha f1 hc).frN f2
  obtain ⟨a, ha⟩ := ha
  refine ⟨g, hb, fun q hq => hr q (Nat.lt_of_lt_of_le hq (Nat.le_trans f0.size f1.size)), fun q => ?_, hi, hsd, hm.2.2.1⟩
  by_cases hq : q < wA.heap.size
  · exact Or.inr (hr q hq)
  · refine Or.inl ?_
    by_cases e : col q = 0
    · exact e
    · exact absurd (ha.low q e) hq
end
end Go.Proofs.YtppmednmcbjafaaGreat
end

section
set_option linter.unusedVariables false
set_option linter.unusedSimpArgs false
set_option maxRecDepth 100000
namespace Go.Proofs.YtppmednmcbjafaaGreat
open Go.RowKit Go Go.Maps Go.Lib

theorem wrapSI (z : Int) (h0 : 0 ≤ z) (h1 : z ≤ 1000) : IntKind.i64.wrap z = z := by rw [IntKind.wrap_i64]; omega
theorem wrapS6I (z : Int) (h0 : 0 ≤ z) (h1 : z ≤ 1000) : wrap64 z = z := IntWalk.wrap64_in _ (by omega)
/-- what no call turns -/
structure AG.Sam (A B : AG) : Prop where
  N : B.N = A.N
  id : B.id = A.id
  T : B.T = A.T
  sd : B.K.sd = A.K.sd
theorem wr_sd (K : KS) (N : Nat) (t : Int) (x : ByteArray) : (K.wr N t x).sd = K.sd := by
  unfold KS.wr
  repeat' split
  all_goals rfl
theorem sam_wr (A : AG) (t : Int) (x : ByteArray) : A.Sam { A with K := A.K.wr A.N t x } := ⟨rfl, rfl, rfl, wr_sd _ _ _ _⟩
theorem sam_cr (A : AG) (t o : Int) : A.Sam (A.cr t o) := by unfold AG.cr; split <;> exact ⟨rfl, rfl, rfl, rfl⟩
theorem sam_tr (A : AG) (t o : Int) : A.Sam (A.tr t o) := by unfold AG.tr; split <;> exact ⟨rfl, rfl, rfl, rfl⟩
theorem sam_tick (A : AG) (E : List Int) : A.Sam (A.tick E) := ⟨rfl, rfl, rfl, rfl⟩
theorem sam_ear (A : AG) (o : OpA) : A.Sam (A.ear o) := by
  have r : A.Sam A := ⟨rfl, rfl, rfl, rfl⟩
  unfold AG.ear
  split
  · next m _ =>
    unfold AG.hear
    split
    · exact r
    · cases m with
      | pin t j =>
        show A.Sam (A.pn t j)
        unfold AG.pn
        by_cases h1 : j ≤ A.done t ∨ j < A.job t
        · rw [if_pos h1]; exact r
        rw [if_neg h1]
        by_cases h2 : j ≤ A.over t
        · rw [if_pos h2]; exact r
        rw [if_neg h2]
        exact ⟨rfl, rfl, rfl, rfl⟩
      | unpin t j => show A.Sam (A.un t j); unfold AG.un; split <;> exact ⟨rfl, rfl, rfl, rfl⟩
      | _ => exact r
  · exact r
theorem ag_ear2 (p : Nat) (col : Nat → Nat) (n : Nat) (A : AG) (a : Ad) (o : OpA) (w : World) (h : AgA w p col n A a) (hn : n < 100000) : Calls Tryz.prog 23 #[.pointer (some ⟨p, 0, none⟩), o.msv] w fun e w' => ∃ vu vo c2, e = .returned (.tuple #[vu, vo]) ∧ ATo w w' p col (n + 1) (A.ear o) c2 ∧ Kept (freeB w.heap.size c2) w' (fun u => OutW u vu (A.says o).1 ∧ OutW u vo (A.says o).2) := by
  rcases o.msW w with ⟨e1, e2⟩ | ⟨m, e1, e2⟩
  · rw [e2]
    refine (ag_hear_nil p col n A a w h).mono ?_
    rintro e w' ⟨rfl, f⟩
    refine ⟨_, _, col, rfl, ?_, ?_⟩
    · unfold AG.ear
      rw [e1]
      exact ATo.same (h.up (Nat.le_succ n) (by omega)) f
    · unfold AG.says
      rw [e1]
      exact (Kept.any OutW.nil).and (Kept.any OutW.nil)
  · refine (ag_hear p col n A a o.msv m w h hn e2).mono ?_
    rintro e w' ⟨u, v, c2, rfl, hto, hk⟩
    refine ⟨u, v, c2, rfl, ?_, ?_⟩
    · unfold AG.ear
      rw [e1]
      exact hto
    · unfold AG.says
      rw [e1]
      exact hk
def Ms.fewL (l : List Ms) : Prop := (∀ m ∈ l, m.few) ∧ l.length ≤ 1000
theorem fewL_nil : Ms.fewL [] := ⟨fun m h => by simp at h, by simp⟩
theorem fewL_one {m : Ms} (h : m.few) : Ms.fewL [m] := ⟨fun q hq => by simp at hq; rw [hq]; exact h, by simp⟩
theorem fewL_cks (A : AG) (t j : Int) (h48 : (txt A.K.P t).length ≤ 48) : Ms.fewL (A.cks t j) := by
  refine ⟨fun m hm => ?_, ?_⟩
  · obtain ⟨i, hi, rfl⟩ := List.mem_iff_getElem.1 hm
    have := cks_get A t j hi
    rw [List.getElem?_eq_getElem hi] at this
    injection this with this
    rw [this]
    trivial
  · rw [cks_len]; omega
theorem says_few (A : AG) (o : OpA) (h48 : ∀ t, (txt A.K.P t).length ≤ 48) : Ms.fewL (A.says o).1 ∧ Ms.fewL (A.says o).2 := by
  unfold AG.says
  split
  · next m _ =>
    unfold AG.outs
    split
    · exact ⟨fewL_nil, fewL_nil⟩
    · cases m with
      | pin t j =>
        refine ⟨?_, fewL_nil⟩
        show Ms.fewL (A.pu t j)
        unfold AG.pu
        by_cases h1 : j ≤ A.done t ∨ j < A.job t
        · rw [if_pos h1]; exact fewL_nil
        rw [if_neg h1]
        by_cases h2 : j ≤ A.over t
        · rw [if_pos h2]; exact fewL_one trivial
        rw [if_neg h2]
        exact fewL_one trivial
      | collect t j =>
        show Ms.fewL (A.co t j).1 ∧ Ms.fewL (A.co t j).2
        unfold AG.co
        by_cases h1 : j = A.job t
        · rw [if_pos h1]; exact ⟨fewL_nil, fewL_cks A t j (h48 t)⟩
        rw [if_neg h1]
        by_cases h2 : j ≤ A.done t
        · rw [if_pos h2]; exact ⟨fewL_nil, fewL_nil⟩
        rw [if_neg h2]
        exact ⟨fewL_one trivial, fewL_nil⟩
      | unpin t j => exact ⟨fewL_one trivial, fewL_nil⟩
      | _ => exact ⟨fewL_nil, fewL_nil⟩
  · exact ⟨fewL_nil, fewL_nil⟩
theorem RA.txt48 {w : World} {z : Nat} {col : Nat → Nat} {n : Nat} {A : AG} {b : Bd} (h : RA w z col n A b) (t : Int) : (txt A.K.P t).length ≤ 48 := by
  obtain ⟨vp, vl, vg, S, hR, _⟩ := h.kx
  obtain ⟨vt, vs, V, hq, _⟩ := hR.pool
  exact KR.txt_len48 hq t
/-- both agents, the law's config and the law's call -/
structure Mt (w0 w : World) (p z k gX gA : Nat) (id : Int) (N : Nat) (CL OL : List Value) (col rcol : Nat → Nat) (A : AG) : Prop where
  ap : AP w0 w p z k col rcol A
  N : A.N = N
  id : A.id = id
  cX : col gX = 0 ∧ rcol gX = 0
  cA : col gA = 0 ∧ rcol gA = 0
  bX : Blk w gX 24 CL
  bA : Blk w gA 36 OL
section
variable {w0 w w1 w2 : World} {p z k gX gA : Nat} {id : Int} {N : Nat} {CL OL : List Value} {col rcol c2 c3 : Nat → Nat} {A B : AG}
theorem Mt.frN (h : Mt w0 w p z k gX gA id N CL OL col rcol A) (f : Fr noB w w1) : Mt w0 w1 p z k gX gA id N CL OL col rcol A :=
  ⟨h.ap.frN f, h.N, h.id, h.cX, h.cA, f.blk h.bX (fun q => q), f.blk h.bA (fun q => q)⟩
theorem Mt.fr {S : Nat → Prop} (h : Mt w0 w p z k gX gA id N CL OL col rcol A) (f : Fr S w w1) (hS : ∀ q, S q → w0.heap.size ≤ q ∧ (col q = 0 ∧ rcol q = 0) ∧ q ≠ gX ∧ q ≠ gA) : Mt w0 w1 p z k gX gA id N CL OL col rcol A :=
  ⟨h.ap.fr f (fun q hq => ⟨(hS q hq).1, (hS q hq).2.1.1, (hS q hq).2.1.2⟩), h.N, h.id, h.cX, h.cA, f.blk h.bX (fun q => (hS _ q).2.2.1 rfl), f.blk h.bA (fun q => (hS _ q).2.2.2 rfl)⟩
/-- behind the agent's call -/
structure Md (w0 w w1 : World) (p z k gX gA : Nat) (id : Int) (N : Nat) (CL OL : List Value) (col rcol c2 : Nat → Nat) (A B : AG) : Prop where
  m : Mt w0 w p z k gX gA id N CL OL col rcol A
  d : APm w0 w w1 p z k col rcol c2 A B
  s : A.Sam B
  i : B.Inv
theorem Md.frN (h : Md w0 w w1 p z k gX gA id N CL OL col rcol c2 A B) (f : Fr noB w1 w2) : Md w0 w w2 p z k gX gA id N CL OL col rcol c2 A B := { h with d := h.d.frN f }
theorem Md.bA (h : Md w0 w w1 p z k gX gA id N CL OL col rcol c2 A B) : Blk w1 gA 36 OL := h.d.fr.blk h.m.bA (fun q => q h.m.cA.1)
theorem Mt.step {B : AG} {w1 : World} (h : Mt w0 w p z k gX gA id N CL OL col rcol A) (ht : ATo w w1 p col (k + 1) B c2) (s : A.Sam B) (i : B.Inv) : Md w0 w w1 p z k gX gA id N CL OL col rcol c2 A B := ⟨h, h.ap.mid ht, s, i⟩
theorem Md.fin (h : Md w0 w w1 p z k gX gA id N CL OL col rcol c2 A B) (hr : RTo w1 w2 z rcol (k + 1) B c3) : Mt w0 w2 p z (k + 1) gX gA id N CL OL c2 c3 B := by
  obtain ⟨h1, h2, h3⟩ := h.d.fin hr h.i h.s.sd h.s.T
  have lx := h3 gX h.m.bX.lt
  have la := h3 gA h.m.bA.lt
  exact ⟨h1, h.s.N.trans h.m.N, h.s.id.trans h.m.id, ⟨by rw [lx.1]; exact h.m.cX.1, by rw [lx.2]; exact h.m.cX.2⟩, ⟨by rw [la.1]; exact h.m.cA.1, by rw [la.2]; exact h.m.cA.2⟩,
    h2.blk h.m.bX (fun e => by rcases e with e | e; exact e h.m.cX.1; exact e h.m.cX.2), h2.blk h.m.bA (fun e => by rcases e with e | e; exact e h.m.cA.1; exact e h.m.cA.2)⟩
/-- new blocks behind the agent's call are nobody's -/
theorem Md.new (h : Md w0 w w1 p z k gX gA id N CL OL col rcol c2 A B) {w' : World} (f : Fr noB w1 w') (hr : RTo w' w2 z rcol (k + 1) B c3) (q : Nat) (h1 : w1.heap.size ≤ q) (h2 : q < w'.heap.size) : w0.heap.size ≤ q ∧ (c2 q = 0 ∧ c3 q = 0) ∧ q ≠ gX ∧ q ≠ gA := by
  obtain ⟨⟨a, ha⟩, f0, _⟩ := h.d.ag
  obtain ⟨b, hb⟩ := h.d.ra
  have s0 := f0.size
  have sA := h.d.fr.size
  have lx := h.m.bX.lt
  have la := h.m.bA.lt
  refine ⟨by omega, ⟨?_, ?_⟩, by omega, by omega⟩
  · by_cases e : c2 q = 0
    · exact e
    · have := ha.low q e; omega
  · rw [hr.2.2 q h2]
    by_cases e : rcol q = 0
    · exact e
    · have := hb.low q e; omega
theorem Mt.lowR (h : Mt w0 w p z k gX gA id N CL OL col rcol A) (q : Nat) (e : rcol q ≠ 0) : q < w.heap.size := by
  obtain ⟨b, hb⟩ := h.ap.ra
  exact hb.low q e
/-- what is made later is nobody's -/
theorem Mt.above (h : Mt w0 w p z k gX gA id N CL OL col rcol A) (q : Nat) (hq : w.heap.size ≤ q) : w0.heap.size ≤ q ∧ (col q = 0 ∧ rcol q = 0) ∧ q ≠ gX ∧ q ≠ gA := by
  obtain ⟨⟨a, ha⟩, f0, _⟩ := h.ap.ag
  have s0 := f0.size
  have lx := h.bX.lt
  have la := h.bA.lt
  refine ⟨by omega, ⟨?_, ?_⟩, by omega, by omega⟩
  · by_cases e : col q = 0
    · exact e
    · have := ha.low q e; omega
  · by_cases e : rcol q = 0
    · exact e
    · have := h.lowR q e; omega
theorem ints_true (v u : Value) (xs : List Int) (w : World) (hv : RdI w v xs) (hu : RdI w u xs) : Calls Tryz.prog 19 #[v, u] w fun e w' => e = .returned (.bool true) ∧ Fr noB w w' :=
  (sameInts_any v u xs xs w hv hu).mono fun e w' ⟨h, q, hq⟩ => ⟨by simpa using h, hq ▸ (Fr.refl noB w).drewN q⟩
/-! ### the calls, two by two -/
theorem m_span (h : Mt w0 w p z k gX gA id N CL OL col rcol A) (hk : k < 200) (t : Int) (x : ByteArray) :
    Calls Tryz.prog 13 #[.pointer (some ⟨p, 0, none⟩), .int .i64 t, .string x] w fun e w' => e = .returned (.tuple #[spV (A.K.ws A.N t x), .int .i64 (A.K.we A.N t x)]) ∧ ∃ c2, Md w0 w w' p z k gX gA id N CL OL col rcol c2 A { A with K := A.K.wr A.N t x } := by
  obtain ⟨a, ha⟩ := h.ap.ag.ag
  exact (ag_span p col k A a t x w ha (by omega)).mono fun e w' ⟨e1, c2, hto⟩ => ⟨e1, c2, h.step hto (sam_wr A t x) (h.ap.inv.wr t x)⟩
theorem m_write (t : Int) (x : ByteArray) (h : Md w0 w w1 p z k gX gA id N CL OL col rcol c2 A { A with K := A.K.wr A.N t x }) (hk : k < 200) : ∃ kp, ∀ w', Fr noB w1 w' → w'.cell? ⟨z, 1, none⟩ = some (.pointer (some ⟨kp, 0, none⟩)) ∧
    Calls Tryz.prog 14 #[.pointer (some ⟨kp, 0, none⟩), .int .i64 t, .string x] w' fun e w2 => e = .returned (.tuple #[spV (A.K.ws A.N t x), .int .i64 (A.K.we A.N t x)]) ∧ (∃ c3, Mt w0 w2 p z (k + 1) gX gA id N CL OL c2 c3 { A with K := A.K.wr A.N t x } ∧ ∀ q, w1.heap.size ≤ q → q < w'.heap.size → w0.heap.size ≤ q ∧ (c2 q = 0 ∧ c3 q = 0) ∧ q ≠ gX ∧ q ≠ gA) ∧ Fr (fun q => rcol q = 1) w' w2 := by
  obtain ⟨b, hb⟩ := h.d.ra
  refine ⟨b.k, fun w' f => ⟨(hb.frN f).blk.cell 1, ?_⟩⟩
  have hb' := hb.frN f
  have hk9 := h.m.ap.kin
  obtain ⟨z1, z2, z3⟩ := hb'.z2
  refine (KR.rkwrite_any b.k b.g b.B A.N A.K t x _ w' hb'.kx (fun q hq => hb'.low q (by rw [hq]; decide)) (by omega) (by omega) (by omega) hk9.sd hk9.rng (hk9.room t)).mono ?_
  rintro e w2 ⟨rfl, hx, f2⟩
  obtain ⟨l1, l2, l3⟩ := wr_len A.K A.N t x
  obtain ⟨c3, hr⟩ := hb'.keeper hx f2 (Nat.le_succ k) (by omega) ⟨by omega, by omega, by omega⟩
  exact ⟨rfl, ⟨c3, (h.frN f).fin hr, fun q h1 h2 => h.new f hr q h1 h2⟩, f2⟩
theorem m_crumb (h : Mt w0 w p z k gX gA id N CL OL col rcol A) (hk : k < 200) (t o : Int) (ht : okI t) :
    Calls Tryz.prog 15 #[.pointer (some ⟨p, 0, none⟩), .int .i64 t, .int .i64 o] w fun e w' => e = .returned (.int .i64 (A.crE t o)) ∧ ∃ c2, Md w0 w w' p z k gX gA id N CL OL col rcol c2 A (A.cr t o) := by
  obtain ⟨a, ha⟩ := h.ap.ag.ag
  exact (ag_crumb p col k A a t o w ha ht (by omega)).mono fun e w' ⟨e1, c2, hto⟩ => ⟨e1, c2, h.step hto (sam_cr A t o) (h.ap.inv.cr t o)⟩
theorem m_crumb2 (t o : Int) (h : Md w0 w w1 p z k gX gA id N CL OL col rcol c2 A (A.cr t o)) (hk : k < 200) :
    Calls Tryz.prog 16 #[.pointer (some ⟨z, 0, none⟩), .int .i64 t, .int .i64 o] w1 fun e w2 => e = .returned (.int .i64 (A.crE t o)) ∧ ∃ c3, Mt w0 w2 p z (k + 1) gX gA id N CL OL c2 c3 (A.cr t o) := by
  obtain ⟨b, hb⟩ := h.d.ra
  exact (rcrumb_any t o hb h.m.ap.inv (h.m.ap.xl t) (h.m.ap.xs t) (by omega)).mono fun e w' ⟨e1, c3, hr⟩ => ⟨e1, c3, h.fin hr⟩
theorem m_trig (h : Mt w0 w p z k gX gA id N CL OL col rcol A) (hk : k < 200) (t c : Int) :
    Calls Tryz.prog 17 #[.pointer (some ⟨p, 0, none⟩), .int .i64 t, .int .i64 c] w fun e w' => e = .returned (.tuple #[A.trV t c, .int .i64 (A.trE t c)]) ∧ Md w0 w w' p z k gX gA id N CL OL col rcol col A (A.tr t c) := by
  obtain ⟨a, ha⟩ := h.ap.ag.ag
  exact (ag_trigger p col k A a t c w ha (by omega)).mono fun e w' ⟨e1, hto⟩ => ⟨e1, h.step hto (sam_tr A t c) (h.ap.inv.tr t c)⟩
theorem m_trig2 (t c : Int) (h : Md w0 w w1 p z k gX gA id N CL OL col rcol c2 A (A.tr t c)) (hk : k < 200) :
    Calls Tryz.prog 18 #[.pointer (some ⟨z, 0, none⟩), .int .i64 t, .int .i64 c] w1 fun e w2 => e = .returned (.int .i64 (A.trE t c)) ∧ Mt w0 w2 p z (k + 1) gX gA id N CL OL c2 rcol (A.tr t c) ∧ Fr (fun q => rcol q ≠ 0) w1 w2 := by
  obtain ⟨b, hb⟩ := h.d.ra
  exact (rtrig_any t c hb (by omega)).mono fun e w' ⟨e1, hr⟩ => ⟨e1, h.fin hr, hr.2.1⟩
theorem m_tick (h : Mt w0 w p z k gX gA id N CL OL col rcol A) (hk : k < 200) :
    Calls Tryz.prog 20 #[.pointer (some ⟨p, 0, none⟩)] w fun e w' => ∃ v E, e = .returned v ∧ A.Ended E ∧ Md w0 w w' p z k gX gA id N CL OL col rcol col A (A.tick E) ∧ Kept (freeB w.heap.size col) w' (fun u => RdI u v E) := by
  obtain ⟨a, ha⟩ := h.ap.ag.ag
  exact (ag_tick p col k A a w ha h.ap.inv (by omega)).mono fun e w' ⟨v, E, e1, hE, hto, hkp⟩ => ⟨v, E, e1, hE, h.step hto (sam_tick A E) (h.ap.inv.tick hE), hkp⟩
theorem m_tick2 {E : List Int} (hE : A.Ended E) (h : Md w0 w w1 p z k gX gA id N CL OL col rcol c2 A (A.tick E)) (hk : k < 200) {v : Value} (hkp : Kept (freeB w.heap.size col) w1 (fun u => RdI u v E)) :
    Calls Tryz.prog 21 #[.pointer (some ⟨z, 0, none⟩)] w1 fun e w2 => ∃ u, e = .returned u ∧ RdI w2 u E ∧ RdI w2 v E ∧ ∃ c3, Mt w0 w2 p z (k + 1) gX gA id N CL OL c2 c3 (A.tick E) := by
  obtain ⟨b, hb⟩ := h.d.ra
  exact (ratick_any E hb hE h.m.ap.tt.2 (by omega)).mono fun e w' ⟨u, e1, hu, c3, hr⟩ => ⟨u, e1, hu, hkp w' (hr.2.1.mono (fun q _ y n => by have h1 := h.m.lowR q y; have h2 := n.1; omega)), c3, h.fin hr⟩
theorem m_ear (h : Mt w0 w p z k gX gA id N CL OL col rcol A) (hk : k < 200) (o : OpA) :
    Calls Tryz.prog 23 #[.pointer (some ⟨p, 0, none⟩), o.msv] w fun e w' => ∃ vu vo c2, e = .returned (.tuple #[vu, vo]) ∧ Md w0 w w' p z k gX gA id N CL OL col rcol c2 A (A.ear o) ∧ Kept (freeB w.heap.size c2) w' (fun u => OutW u vu (A.says o).1 ∧ OutW u vo (A.says o).2) := by
  obtain ⟨a, ha⟩ := h.ap.ag.ag
  exact (ag_ear2 p col k A a o w ha (by omega)).mono fun e w' ⟨u, v, c2, e1, hto, hkp⟩ => ⟨u, v, c2, e1, h.step hto (sam_ear A o) (h.ap.inv.ear o), hkp⟩
theorem m_ear2 (o : OpA) (h : Md w0 w w1 p z k gX gA id N CL OL col rcol c2 A (A.ear o)) (hk : k < 200) {vu vo : Value} (hkp : Kept (freeB w.heap.size c2) w1 (fun u => OutW u vu (A.says o).1 ∧ OutW u vo (A.says o).2)) :
    Calls Tryz.prog 24 #[.pointer (some ⟨z, 0, none⟩), mrV o.rm] w1 fun e w2 => ∃ x y c3, e = .returned (.tuple #[x, y]) ∧ Mt w0 w2 p z (k + 1) gX gA id N CL OL c2 c3 (A.ear o) ∧ (∀ w3, Fr noB w2 w3 → Calls Tryz.prog 26 #[vu, x] w3 fun e w' => e = .returned (.bool true) ∧ Fr noB w3 w') ∧ (∀ w3, Fr noB w2 w3 → Calls Tryz.prog 26 #[vo, y] w3 fun e w' => e = .returned (.bool true) ∧ Fr noB w3 w') := by
  obtain ⟨b, hb⟩ := h.d.ra
  obtain ⟨⟨s1, s2⟩, s3, s4⟩ := says_few A o (fun t => hb.txt48 t)
  refine (rhear_op o hb h.m.ap.tt.1 (h.m.ap.xl o.t) (by omega)).mono ?_
  rintro e w2 ⟨x, y, rfl, hx, hy, c3, hr⟩
  have hk2 := hkp.step hr.2.1 (fun q y n => by have h1 := h.m.lowR q y; have h2 := n.1; omega)
  exact ⟨x, y, c3, rfl, h.fin hr, fun w3 f => same12_any w3 vu x _ (hk2 w3 (f.mono (fun q _ z => False.elim z))).1 (hx.frN f) s1 s2, fun w3 f => same12_any w3 vo y _ (hk2 w3 (f.mono (fun q _ z => False.elim z))).2 (hy.frN f) s3 s4⟩
end
end Go.Proofs.YtppmednmcbjafaaGreat
end

section
set_option linter.unusedVariables false
set_option linter.unusedSimpArgs false
set_option maxRecDepth 100000
namespace Go.Proofs.YtppmednmcbjafaaGreat
open Go.RowKit Go Go.Maps Go.Lib

/-- an operand of a held region comes up -/
theorem tk {P : Program} {ops : Array Oper} {Q : Exit → Act → World → Prop} {md : Region.Mode} {S : World → Prop} {oi : Oper} {v : Value} {fuel : Nat} {listed l2 : Array Bool} {a a2 : Act} {w : World} (i : Nat) (h : wpAnyH P md ops Q S fuel l2 a2 w)
    (hi : ops[i]? = some oi := by ((simp only [List.getElem?_toArray, List.getElem?_cons_succ, List.getElem?_cons_zero]); try rfl))
    (hs : Region.noSelect ops = true := by kernel_rfl) (hf : Region.free md ops listed i = true := by kernel_rfl) (hr : (Region.ready md ops listed).contains i = true := by kernel_rfl)
    (hQ : ∀ c a w, Q (.panic c) (a.put oi.dst v) w → Q (.panic c) a w := by exact (fun _ _ _ h => h))
    (hy : YieldsIf P ops S oi v a := by (refine Or.inl ⟨by rfl, ?_⟩; intro w hSw; (try dsimp only at hSw); go_simp; try with_reducible rfl)) (hS : S w := by assumption)
    (ha : a.put oi.dst v = a2 := by ((try simp only [Act.put, List.setIfInBounds_toArray, List.set_cons_zero, List.set_cons_succ]); try rfl))
    (hl : listed.setIfInBounds i true = l2 := by ((try simp only [List.setIfInBounds_toArray, List.set_cons_zero, List.set_cons_succ]); try rfl)) : wpAnyH P md ops Q S (fuel + 1) listed a w := by
  subst ha; subst hl
  exact wpAnyH_take hi hs hf hr hQ hy hS h
/-- the exit behind a region: as it goes on -/
def restQ (G : Act → World → Prop) : Exit → Act → World → Prop := fun e a w => match e with | .normal => G a w | _ => False
theorem restQ_out {G : Act → World → Prop} {e : Exit} {a : Act} {w : World} (h : restQ G e a w) : e = .normal ∧ G a w := by
  cases e with
  | normal => exact ⟨rfl, h⟩
  | _ => exact False.elim h
/-- amid the law, k calls made -/
def AL (w0 w : World) (p z k gX : Nat) (id : Int) (N : Nat) (CL : List Value) : Prop := ∃ col rcol A, AP w0 w p z k col rcol A ∧ A.N = N ∧ A.id = id ∧ col gX = 0 ∧ rcol gX = 0 ∧ Blk w gX 24 CL
set_option maxHeartbeats 40000000 in
theorem agentPlays_any (id : Int) (cf : Cf) (v : Value) (xs : List OpA) (w : World) (hsd : U64 cf.sd) (hv : SlR w v 4 (IsOpA w) xs) :
    Calls Tryz.prog 3 #[.int .i64 id, .agg cf.cs.toArray, v] w fun e w' => e = .returned (.bool true) ∧ Fr noB w w' := by
  have hfew : ∀ w1, Fr noB w w1 → Calls Tryz.prog 9 #[v] w1 fun e w' => e = .returned (.bool (fewB xs)) ∧ Fr noB w1 w' := fun w1 f => few_any v xs w w1 (hv.frame f (fun _ _ q => q))
  have hmay := fun w' => rmay_any id cf w'
  have hno := fun w' h => ag_new_no id cf w' hsd h
  have hag := fun w' h => ag_new id cf w' h hsd
  have hrg := fun w' h => rag_new id cf w' h
  have hbeg := fun (w wA wB : World) p z col rcol hm f0 ha f1 hc hb f2 hr => AP.begin (w0 := w) (w := w) (wA := wA) (wB := wB) (p := p) (z := z) (col := col) (rcol := rcol) (id := id) hm hsd f0 ha f1 hc hb f2 hr
  obtain ⟨a, c, rfl, hx1, hx2, hx3⟩ := hv
  unfold maxLen at hx2
  have hok := @fewB_ok xs
  have hget : ∀ k, k < xs.length → ∃ m, xs[k]? = some m := fun k hk => ⟨xs[k], List.getElem?_eq_getElem hk⟩
  generalize hn : xs.length = n at *
  obtain ⟨CM, hCM⟩ : ∃ CM, cf.may id = CM := ⟨_, rfl⟩
  obtain ⟨A0, hA0⟩ : ∃ A0, AG.new id cf = A0 := ⟨_, rfl⟩
  have hA1 : A0.N = cf.N.toNat ∧ A0.id = id := by rw [← hA0]; exact ⟨rfl, rfl⟩
  rw [hA0] at hag hrg hbeg
  obtain ⟨M, N, T, J, sd, bB, bR⟩ := cf
  simp only at hsd hA1
  unfold Cf.cs at hmay hno hag hrg ⊢
  simp only at hmay hno hag hrg ⊢
  have hmN : CM → 1 ≤ N ∧ N ≤ 16 := fun h => by rw [← hCM] at h; exact h.2.1
  rw [hCM] at hmay hno hag hrg hbeg
  replace hx3 := Lib.hid hx3
  replace hget := Lib.hid hget
  replace hn := Lib.hid hn
  replace hfew := Lib.hid hfew
  replace hok := Lib.hid hok
  replace hmay := Lib.hid hmay
  replace hno := Lib.hid hno
  replace hag := Lib.hid hag
  replace hrg := Lib.hid hrg
  replace hbeg := Lib.hid hbeg
  replace hmN := Lib.hid hmN
  replace hCM := Lib.hid hCM
  replace hA0 := Lib.hid hA0
  obtain ⟨hx1, _⟩ := hx1
  generalize fewB xs = F at *
  have fX := (Fr.refl noB w).alloc (.cells #[.int .i64 M, .int .i64 N, .int .i64 T, .int .i64 J, .int .u64 sd, .int .i64 bB, .int .i64 bR] 24)
  have bX := Blk.new w 24 [.int .i64 M, .int .i64 N, .int .i64 T, .int .i64 J, .int .u64 sd, .int .i64 bB, .int .i64 bR]
  go_enter Tryz.func3, Tryz.ntmps3
  go_upto_region 1 with fail
  generalize (w.alloc (.cells #[.int .i64 M, .int .i64 N, .int .i64 T, .int .i64 J, .int .u64 sd, .int .i64 bB, .int .i64 bR] 24)) = wX at *
  obtain ⟨gX, hgX⟩ : ∃ g, w.heap.size = g := ⟨_, rfl⟩
  rw [hgX] at bX
  try rw [hgX]
  replace hgX := Lib.hid hgX
  go_wp2_with fail
  go_fit (awake_any wX)
  rintro e w1 ⟨rfl, f1⟩
  go_wp2_with fail
  go_fit (hfew.out w1 (fX.seqN f1))
  rintro e w2 ⟨rfl, f2⟩
  have g2 := (fX.seqN f1).seqN f2
  have b2 := (f1.seqN f2).blk bX (fun q => q)
  clear f1 f2 fX bX hfew
  cases F
  · go_wp2_with fail
    go_fit (awake_any w2)
    rintro e w3 ⟨rfl, f3⟩
    have g3 := g2.seqN f3
    go_wp2_with fail
    go_ret
    exact ⟨rfl, g3⟩
  obtain ⟨hn2, hxs⟩ := hok.out rfl
  clear hok
  have y0 : w2.cell? ⟨gX, 0, none⟩ = some (.int .i64 M) := b2.cell 0
  have y1 : w2.cell? ⟨gX, 1, none⟩ = some (.int .i64 N) := b2.cell 1
  have y2 : w2.cell? ⟨gX, 2, none⟩ = some (.int .i64 T) := b2.cell 2
  have y3 : w2.cell? ⟨gX, 3, none⟩ = some (.int .i64 J) := b2.cell 3
  have y4 : w2.cell? ⟨gX, 4, none⟩ = some (.int .u64 sd) := b2.cell 4
  have y5 : w2.cell? ⟨gX, 5, none⟩ = some (.int .i64 bB) := b2.cell 5
  have y6 : w2.cell? ⟨gX, 6, none⟩ = some (.int .i64 bR) := b2.cell 6
  have b2lt := Lib.hid b2.lt
  by_cases hm : CM
  case neg =>
    replace b2 := Lib.hid b2
    go_wp2_with fail
    go_fit (hno.out w2 hm)
    rintro e w3 ⟨rfl, f3⟩
    have b3 := f3.blk b2.out (fun q => q)
    have z0 : w3.cell? ⟨gX, 0, none⟩ = some (.int .i64 M) := b3.cell 0
    have z1 : w3.cell? ⟨gX, 1, none⟩ = some (.int .i64 N) := b3.cell 1
    have z2 : w3.cell? ⟨gX, 2, none⟩ = some (.int .i64 T) := b3.cell 2
    have z3 : w3.cell? ⟨gX, 3, none⟩ = some (.int .i64 J) := b3.cell 3
    have z4 : w3.cell? ⟨gX, 4, none⟩ = some (.int .u64 sd) := b3.cell 4
    have z5 : w3.cell? ⟨gX, 5, none⟩ = some (.int .i64 bB) := b3.cell 5
    have z6 : w3.cell? ⟨gX, 6, none⟩ = some (.int .i64 bR) := b3.cell 6
    have g3 := g2.seqN f3
    clear y0 y1 y2 y3 y4 y5 y6 b3
    go_wp2_with fail
    go_fit (hmay.out w3)
    rintro e w4 ⟨x, rfl, hx, f4⟩
    have hxf : x = false := by
      cases x with
      | false => rfl
      | true => exact absurd (hx.1 rfl) hm
    subst hxf
    have g4 := g3.seqN f4
    clear hx z0 z1 z2 z3 z4 z5 z6
    go_wp2_with fail
    go_ret
    exact ⟨rfl, g4⟩
  replace b2 := Lib.hid b2
  go_wp2_with fail
  go_fit (hag.out w2 hm)
  rintro e w3 ⟨p, col, rfl, ha, f3, hcol⟩
  have b3 := f3.blk b2.out (fun q => q)
  have z0 : w3.cell? ⟨gX, 0, none⟩ = some (.int .i64 M) := b3.cell 0
  have z1 : w3.cell? ⟨gX, 1, none⟩ = some (.int .i64 N) := b3.cell 1
  have z2 : w3.cell? ⟨gX, 2, none⟩ = some (.int .i64 T) := b3.cell 2
  have z3 : w3.cell? ⟨gX, 3, none⟩ = some (.int .i64 J) := b3.cell 3
  have z4 : w3.cell? ⟨gX, 4, none⟩ = some (.int .u64 sd) := b3.cell 4
  have z5 : w3.cell? ⟨gX, 5, none⟩ = some (.int .i64 bB) := b3.cell 5
  have z6 : w3.cell? ⟨gX, 6, none⟩ = some (.int .i64 bR) := b3.cell 6
  have g3 := g2.seqN f3
  replace ha := Lib.hid ha
  replace hcol := Lib.hid hcol
  replace b3 := Lib.hid b3
  clear y0 y1 y2 y3 y4 y5 y6 b2
  go_wp2_with fail
  go_fit (hmay.out w3)
  rintro e w4 ⟨x, rfl, hx, f4⟩
  have hxt : x = true := hx.2 hm
  subst hxt
  have b4 := f4.blk b3.out (fun q => q)
  have u0 : w4.cell? ⟨gX, 0, none⟩ = some (.int .i64 M) := b4.cell 0
  have u1 : w4.cell? ⟨gX, 1, none⟩ = some (.int .i64 N) := b4.cell 1
  have u2 : w4.cell? ⟨gX, 2, none⟩ = some (.int .i64 T) := b4.cell 2
  have u3 : w4.cell? ⟨gX, 3, none⟩ = some (.int .i64 J) := b4.cell 3
  have u4 : w4.cell? ⟨gX, 4, none⟩ = some (.int .u64 sd) := b4.cell 4
  have u5 : w4.cell? ⟨gX, 5, none⟩ = some (.int .i64 bB) := b4.cell 5
  have u6 : w4.cell? ⟨gX, 6, none⟩ = some (.int .i64 bR) := b4.cell 6
  have g4 := g3.seqN f4
  have b4lt := Lib.hid b4.lt
  replace b4 := Lib.hid b4
  clear hx b3 z0 z1 z2 z3 z4 z5 z6
  go_wp2_with fail
  go_fit (hrg.out w4 hm)
  rintro e w5 ⟨z, rcol, rfl, hb, f5, hrcol⟩
  have b5 := f5.blk b4.out (fun q => q)
  have h5 := hbeg.out w w3 w5 p z col rcol hm (Fr.refl noB w) (by exact ha.out) (by exact g3) (fun q hq => hcol.out q (Nat.lt_of_lt_of_le hq g2.size)) hb (f4.seqN f5) (fun q hq => hrcol q (Nat.lt_of_lt_of_le hq f4.size))
  have hcX : col gX = 0 ∧ rcol gX = 0 := ⟨hcol.out gX (by exact b2lt.out), hrcol gX (by exact b4lt.out)⟩
  replace h5 := Lib.hid h5
  replace b5 := Lib.hid b5
  clear b4 ha hcol hb hrcol f3 f4 f5 g2 g3 g4 u0 u1 u2 u3 u4 u5 u6 hag hrg hbeg hno hmay
  have hL0 : AL w w5 p z 0 gX id N.toNat [.int .i64 M, .int .i64 N, .int .i64 T, .int .i64 J, .int .u64 sd, .int .i64 bB, .int .i64 bR] := ⟨col, rcol, A0, h5.out, hA1.1, hA1.2, hcX.1, hcX.2, b5.out⟩
  have hN := hmN.out hm
  replace hL0 := Lib.hid hL0
  clear h5 b5 hcX hA1 hmN hA0 hCM b2lt b4lt
  go_wp2_with fail
  go_loopg [60] n (fun gk i wr => ∃ k : Nat, k + gk = n ∧ i = .int .i64 k ∧ Hid (AL w wr p z k gX id N.toNat [.int .i64 M, .int .i64 N, .int .i64 T, .int .i64 J, .int .u64 sd, .int .i64 bB, .int .i64 bR]))
  case atStart => exact ⟨0, by omega, rfl, hL0⟩
  case round =>
    obtain ⟨k, hkn0, rfl, hL⟩ := hrel
    have hk : k ≤ n := by omega
    clear hL0
    by_cases hlt : k < n
    · have hmeas : n - (k + 1) < gk := by omega
      have hkn2 : k + 1 + (n - (k + 1)) = n := by omega
      replace hmeas := Lib.hid hmeas
      replace hkn2 := Lib.hid hkn2
      clear hkn0
      obtain ⟨m, hmk⟩ := hget.out k hlt
      obtain ⟨g, o, cs, rfl, hcs, ⟨rfl, hw1, hw2, hw3, hsm⟩, hc⟩ := hx3.out k m hmk
      obtain ⟨col, rcol, A, hP, hAN, hAid, hx, hrx, hbX⟩ := hL.out
      have fr := hP.ag.fr
      have c0 := fr.cell (hc 0 _ rfl) (fun q => q)
      have c1 := fr.cell (hc 1 _ rfl) (fun q => q)
      have c2 := fr.cell (hc 2 _ rfl) (fun q => q)
      have c3 := fr.cell (hc 3 _ rfl) (fun q => q)
      rw [Nat.add_zero] at c0
      simp only [← Nat.add_assoc] at c1 c2 c3
      obtain ⟨kk, t, zz, sx⟩ := m
      simp only at c0 c1 c2 c3 hw1 hw2 hw3 hsm
      have fA := (Fr.refl noB wr).alloc (.cells #[.int .i64 kk, .int .i64 t, .int .i64 zz, .string sx] 36)
      have bA := Blk.new wr 36 [.int .i64 kk, .int .i64 t, .int .i64 zz, .string sx]
      have PA := hP.frN fA
      have bXA := fA.blk hbX (fun q => q)
      replace hmk := Lib.hid hmk
      replace PA := Lib.hid PA
      replace bXA := Lib.hid bXA
      clear hc fr hL
      go_upto_region 12 with fail
      obtain ⟨gA, hgA⟩ : ∃ q, wr.heap.size = q := ⟨_, rfl⟩
      have hxA : col gA = 0 ∧ rcol gA = 0 := by
        obtain ⟨⟨a1, ha1⟩, _, _⟩ := hP.ag
        obtain ⟨b1, hb1⟩ := hP.ra
        constructor
        · by_cases e : col gA = 0
          · exact e
          · have := ha1.low gA e; omega
        · by_cases e : rcol gA = 0
          · exact e
          · have := hb1.low gA e; omega
      rw [hgA] at bA
      try rw [hgA]
      generalize (wr.alloc (.cells #[.int .i64 kk, .int .i64 t, .int .i64 zz, .string sx] 36)) = wA at *
      have hM : Mt w wA p z k gX gA id N.toNat [.int .i64 M, .int .i64 N, .int .i64 T, .int .i64 J, .int .u64 sd, .int .i64 bB, .int .i64 bR] [.int .i64 kk, .int .i64 t, .int .i64 zz, .string sx] col rcol A := ⟨PA.out, hAN, hAid, ⟨hx, hrx⟩, hxA, bXA.out, bA⟩
      replace hM := Lib.hid hM
      replace hgA := Lib.hid hgA
      clear c0 c1 c2 c3 hbX fA hP PA bXA hxA hAN hAid hx hrx bA
      have hokt : okI t := hw2
      have i0 : wA.cell? ⟨gA, 0, none⟩ = some (.int .i64 kk) := hM.out.bA.cell 0
      go_upto_block 2 with fail
      clear i0
      go_cut [12, 13, 14, 15, 16, 17, 18, 19, 20, 21, 22, 23, 24] from 61 to 170 (fun v12 v13 v14 v15 v16 v17 v18 v19 v20 v21 v22 v23 v24 wx => ∃ (r : Int) (col' rcol' : Nat → Nat) (A' : AG), v12 = .int .i64 r ∧ v13 = .int .i64 r ∧ Mt w wx p z (k + 1) gX gA id N.toNat [.int .i64 M, .int .i64 N, .int .i64 T, .int .i64 J, .int .u64 sd, .int .i64 bB, .int .i64 bR] [.int .i64 kk, .int .i64 t, .int .i64 zz, .string sx] col' rcol' A')
      case first =>
        have hkn : k < 200 := by omega
        as_aux_lemma =>
        by_cases k1 : kk = 1
        · subst k1
          have hA := m_span hM.out hkn t sx
          have hB0 := fun (c2 : Nat → Nat) (wB : World) (h : Md w wA wB p z k gX gA id N.toNat [.int .i64 M, .int .i64 N, .int .i64 T, .int .i64 J, .int .u64 sd, .int .i64 bB, .int .i64 bR] [.int .i64 1, .int .i64 t, .int .i64 zz, .string sx] col rcol c2 A { A with K := A.K.wr A.N t sx }) => m_write t sx h hkn
          have hz10 : rcol z ≠ 1 := by
            obtain ⟨b, hb⟩ := hM.out.ap.ra
            rw [hb.c10]; decide
          obtain ⟨sp, hsp⟩ : ∃ s, A.K.ws A.N t sx = s := ⟨_, rfl⟩
          obtain ⟨er, her⟩ : ∃ s, A.K.we A.N t sx = s := ⟨_, rfl⟩
          simp only [hsp, her] at hA hB0
          unfold spV at hA hB0
          have i0 : wA.cell? ⟨gA, 0, none⟩ = some (.int .i64 1) := hM.out.bA.cell 0
          have i1 : wA.cell? ⟨gA, 1, none⟩ = some (.int .i64 t) := hM.out.bA.cell 1
          have i3 : wA.cell? ⟨gA, 3, none⟩ = some (.string sx) := hM.out.bA.cell 3
          replace hA := Lib.hid hA
          replace hB0 := Lib.hid hB0
          replace hsp := Lib.hid hsp
          replace her := Lib.hid her
          replace hz10 := Lib.hid hz10
          go_wp2_with fail
          go_fit hA.out
          rintro e wB ⟨rfl, c2, hD⟩
          obtain ⟨kp, hkp⟩ := hB0.out c2 wB hD
          have bAB := hD.bA
          have fB := (Fr.refl noB wB).alloc (.cells #[.int .i64 sp.t, .int .i64 sp.q, .string sp.x] 38)
          have bB := Blk.new wB 38 [.int .i64 sp.t, .int .i64 sp.q, .string sp.x]
          have hlo : ∀ q, wB.heap.size ≤ q → rcol q ≠ 1 := fun q hq e => by
            have h1 := hM.out.lowR q (by rw [e]; decide)
            have h2 := hD.d.fr.size
            omega
          have hzB : z < wB.heap.size := by
            obtain ⟨b, hb⟩ := hD.d.ra
            exact hb.blk.lt
          replace hD := Lib.hid hD
          replace hkp := Lib.hid hkp
          replace hlo := Lib.hid hlo
          replace hzB := Lib.hid hzB
          clear hA hB0 i0 i1 i3
          go_upto_region 21 with fail
          have hf : ∀ w', Fr noB (wB.alloc (.cells #[.int .i64 sp.t, .int .i64 sp.q, .string sp.x] 38)) w' → ((w'.cell? ⟨gA, 1, none⟩ = some (.int .i64 t) ∧ w'.cell? ⟨gA, 3, none⟩ = some (.string sx)) ∧ w'.cell? ⟨z, 1, none⟩ = some (.pointer (some ⟨kp, 0, none⟩))) := fun w' f => ⟨⟨(f.blk (fB.blk bAB (fun q => q)) (fun q => q)).cell 1, (f.blk (fB.blk bAB (fun q => q)) (fun q => q)).cell 3⟩, (hkp.out w' (fB.seqN f)).1⟩
          have hW := fun (w' : World) (f : Fr noB (wB.alloc (.cells #[.int .i64 sp.t, .int .i64 sp.q, .string sp.x] 38)) w') => (hkp.out w' (fB.seqN f)).2
          have hsB := fB.size
          have hgSC := bB.lt
          have hbS := hlo.out wB.heap.size (Nat.le_refl _)
          have hbC := hlo.out _ fB.size
          have hzC := Nat.lt_of_lt_of_le hzB.out fB.size
          obtain ⟨gS, hgS⟩ : ∃ q, wB.heap.size = q := ⟨_, rfl⟩
          rw [hgS] at bB hgSC hbS
          try rw [hgS]
          generalize hwC : (wB.alloc (.cells #[.int .i64 sp.t, .int .i64 sp.q, .string sp.x] 38)) = wC at *
          clear hwC hkp fB bAB hlo hzB
          replace hgS := Lib.hid hgS
          replace bB := Lib.hid bB
          replace hf := Lib.hid hf
          replace hW := Lib.hid hW
          replace hsB := Lib.hid hsB
          replace hgSC := Lib.hid hgSC
          replace hbS := Lib.hid hbS
          replace hbC := Lib.hid hbC
          replace hzC := Lib.hid hzC
          refine wp_region_held_drew (S := (fun w' => ((w'.cell? ⟨gA, 1, none⟩ = some (.int .i64 t) ∧ w'.cell? ⟨gA, 3, none⟩ = some (.string sx)) ∧ w'.cell? ⟨z, 1, none⟩ = some (.pointer (some ⟨kp, 0, none⟩))))) (by kernel_rfl) (hf.out _ ((Fr.refl noB wC).drew)) (fun hHeld => ?_)
          refine tk 0 ?_
          refine tk 1 ?_
          refine tk 2 ?_
          refine tk 3 ?_
          refine tk 4 ?_
          refine tk 5 ?_
          refine tk 6 ?_
          refine tk 7 ?_
          (refine wpAnyH_ready (rs := [8, 12]) (by kernel_rfl) (by simp) (AllReadyH.cons (o := ?_) ?_ (fun K hK => ?_) (AllReadyH.cons (o := ?_) ?_ (fun K hK => ?_) AllReadyH.nil)); rotate_left 1; (focus ((simp only [List.getElem?_toArray, List.getElem?_cons_succ, List.getElem?_cons_zero]); try rfl)); rotate_left 2; (focus ((simp only [List.getElem?_toArray, List.getElem?_cons_succ, List.getElem?_cons_zero]); try rfl)); rotate_left 1)
          · go_simp
            have fQ := (Fr.refl noB wC).drew
            refine (hW.out _ fQ).mono ?_
            rintro e wD ⟨rfl, ⟨c3, hM2, hnew⟩, fW⟩
            have hf2 : ∀ w', Fr noB wD w' → ((w'.cell? ⟨gA, 1, none⟩ = some (.int .i64 t) ∧ w'.cell? ⟨gA, 3, none⟩ = some (.string sx)) ∧ w'.cell? ⟨z, 1, none⟩ = some (.pointer (some ⟨kp, 0, none⟩))) := fun w' f => ⟨⟨(f.blk hM2.bA (fun q => q)).cell 1, (f.blk hM2.bA (fun q => q)).cell 3⟩, f.cell (fW.cell (hf.out _ fQ).2 hz10.out) (fun q => q)⟩
            have bS := Lib.hid (fW.blk (fQ.blk bB.out (fun q => q)) hbS.out)
            replace hf2 := Lib.hid hf2
            replace hM2 := Lib.hid hM2
            replace hnew := Lib.hid hnew
            replace fW := Lib.hid fW
            clear fQ
            go_wp2_with fail
            refine hK.out _ _ (hf2.out _ (Fr.refl noB wD)) (fun hHeld => ?_)
            clear hK K
            try simp only [Act.put, List.setIfInBounds_toArray, List.set_cons_zero, List.set_cons_succ]
            refine tk 9 ?_
            refine tk 10 ?_
            refine tk 11 ?_
            (refine wpAnyH_ready (rs := [12]) (by kernel_rfl) (by simp) (AllReadyH.cons (o := ?_) ?_ (fun K hK => ?_) AllReadyH.nil); rotate_left 1; (focus ((simp only [List.getElem?_toArray, List.getElem?_cons_succ, List.getElem?_cons_zero]); try rfl)))
            go_simp
            have fZ := (Fr.refl noB wD).alloc (.cells #[.int .i64 0, .int .i64 0, .string (ByteArray.mk #[])] 38)
            have bZ := Blk.new wD 38 [.int .i64 0, .int .i64 0, .string (ByteArray.mk #[])]
            have hMZ := Lib.hid (hM2.out.frN fZ)
            have bSZ := Lib.hid (fZ.blk bS.out (fun q => q))
            have hnZ := Lib.hid (hM2.out.above wD.heap.size (Nat.le_refl _))
            have hgZ : Hid (gS ≠ wD.heap.size) := Lib.hid (by have := bS.out.lt; omega)
            have hzg : Hid (z ≠ wD.heap.size) := Lib.hid (by obtain ⟨b, hb⟩ := hM2.out.ap.ra; have := hb.blk.lt; omega)
            have hzZ := Lib.hid (hf2.out _ fZ)
            replace bZ := Lib.hid bZ
            clear fZ
            refine hK.out _ _ (hzZ.out) (fun hHeld => ?_)
            clear hK K
            try simp only [Act.put, List.setIfInBounds_toArray, List.set_cons_zero, List.set_cons_succ]
            (refine wpAnyH_ready (rs := [13]) (by kernel_rfl) (by simp) (AllReadyH.cons (o := ?_) ?_ (fun K hK => ?_) AllReadyH.nil); rotate_left 1; (focus ((simp only [List.getElem?_toArray, List.getElem?_cons_succ, List.getElem?_cons_zero]); try rfl)))
            rw [if_pos (by rfl)]
            refine wp_store_mid 38 (.tmp 16) (.tmp 112) rfl (wD.heap.size) 0 #[.int .i64 sp.t, .int .i64 sp.q, .string sp.x] (by simp [Act.eval, Act.put]) (by simp [Act.eval, Act.put]) (thereN (i := 0) (n := 3) bZ.out (by simp)) size_span (one_span _ _ _) ?_
            obtain ⟨w9, hw9, f9, h9⟩ := store3 _ (wD.heap.size) 0 (.int .i64 sp.t) (.int .i64 sp.q) (.string sp.x)
            rw [← hw9]
            clear hw9
            have b9 : Blk w9 (wD.heap.size) 38 [.int .i64 sp.t, .int .i64 sp.q, .string sp.x] := h9 _ _ bZ.out
            have M9 := hMZ.out.fr f9 (fun q e => by unfold onlyB at e; rw [e]; exact hnZ.out)
            have bS9 := f9.blk bSZ.out (fun e => by unfold onlyB at e; exact hgZ.out e)
            have S9 : ((w9.cell? ⟨gA, 1, none⟩ = some (.int .i64 t) ∧ w9.cell? ⟨gA, 3, none⟩ = some (.string sx)) ∧ w9.cell? ⟨z, 1, none⟩ = some (.pointer (some ⟨kp, 0, none⟩))) := ⟨⟨M9.bA.cell 1, M9.bA.cell 3⟩, f9.cell (hzZ.out).2 (fun e => by unfold onlyB at e; exact hzg.out e)⟩
            replace b9 := Lib.hid b9
            replace M9 := Lib.hid M9
            replace bS9 := Lib.hid bS9
            clear f9 h9
            refine hK.out _ _ (S9) (fun hHeld => ?_)
            clear hK K
            try simp only [Act.put, List.setIfInBounds_toArray, List.set_cons_zero, List.set_cons_succ]
            refine tk 14 ?_
            refine wpAnyH_done (by kernel_rfl) ?_ _
            clear hHeld
            have q0 := bS9.out.cell 0
            have q1 := bS9.out.cell 1
            have q2 := bS9.out.cell 2
            have r0 := b9.out.cell 0
            have r1 := b9.out.cell 1
            have r2 := b9.out.cell 2
            simp only [List.getElem?_cons_zero, List.getElem?_cons_succ] at q0 q1 q2 r0 r1 r2
            go_wp2_with fail
            go_meet
            exact ⟨er, c2, c3, _, rfl, rfl, M9.out⟩
          · go_simp
            have fZ0 := ((Fr.refl noB wC).drew).alloc (.cells #[.int .i64 0, .int .i64 0, .string (ByteArray.mk #[])] 38)
            have bZ0 := Blk.new wC.drew 38 [.int .i64 0, .int .i64 0, .string (ByteArray.mk #[])]
            replace fZ0 := Lib.hid fZ0
            replace bZ0 := Lib.hid bZ0
            refine hK.out _ _ (hf.out _ fZ0.out) (fun hHeld => ?_)
            clear hK K
            try simp only [Act.put, List.setIfInBounds_toArray, List.set_cons_zero, List.set_cons_succ]
            (refine wpAnyH_ready (rs := [8]) (by kernel_rfl) (by simp) (AllReadyH.cons (o := ?_) ?_ (fun K hK => ?_) AllReadyH.nil); rotate_left 1; (focus ((simp only [List.getElem?_toArray, List.getElem?_cons_succ, List.getElem?_cons_zero]); try rfl)))
            go_simp
            have fQ := fZ0.out
            refine (hW.out _ fQ).mono ?_
            rintro e wD ⟨rfl, ⟨c3, hM2, hnew⟩, fW⟩
            have hf2 : ∀ w', Fr noB wD w' → ((w'.cell? ⟨gA, 1, none⟩ = some (.int .i64 t) ∧ w'.cell? ⟨gA, 3, none⟩ = some (.string sx)) ∧ w'.cell? ⟨z, 1, none⟩ = some (.pointer (some ⟨kp, 0, none⟩))) := fun w' f => ⟨⟨(f.blk hM2.bA (fun q => q)).cell 1, (f.blk hM2.bA (fun q => q)).cell 3⟩, f.cell (fW.cell (hf.out _ fQ).2 hz10.out) (fun q => q)⟩
            have bS := Lib.hid (fW.blk (fQ.blk bB.out (fun q => q)) hbS.out)
            have bZ := Lib.hid (fW.blk bZ0.out hbC.out)
            have hMZ := Lib.hid hM2
            have bSZ := bS
            have hnZ := Lib.hid (hnew wC.heap.size hsB.out (by have := bZ0.out.lt; simp at this ⊢))
            have hgZ : Hid (gS ≠ wC.heap.size) := Lib.hid (by have := hgSC.out; omega)
            have hzg : Hid (z ≠ wC.heap.size) := Lib.hid (by have := hzC.out; omega)
            have hzZ := Lib.hid (hf2 _ (Fr.refl noB wD))
            replace hf2 := Lib.hid hf2
            replace hM2 := Lib.hid hM2
            replace hnew := Lib.hid hnew
            replace fW := Lib.hid fW
            clear fQ
            go_wp2_with fail
            refine hK.out _ _ (hzZ.out) (fun hHeld => ?_)
            clear hK K
            try simp only [Act.put, List.setIfInBounds_toArray, List.set_cons_zero, List.set_cons_succ]
            refine tk 9 ?_
            refine tk 10 ?_
            refine tk 11 ?_
            (refine wpAnyH_ready (rs := [13]) (by kernel_rfl) (by simp) (AllReadyH.cons (o := ?_) ?_ (fun K hK => ?_) AllReadyH.nil); rotate_left 1; (focus ((simp only [List.getElem?_toArray, List.getElem?_cons_succ, List.getElem?_cons_zero]); try rfl)))
            rw [if_pos (by rfl)]
            refine wp_store_mid 38 (.tmp 16) (.tmp 112) rfl (wC.heap.size) 0 #[.int .i64 sp.t, .int .i64 sp.q, .string sp.x] (by simp [Act.eval, Act.put]) (by simp [Act.eval, Act.put]) (thereN (i := 0) (n := 3) bZ.out (by simp)) size_span (one_span _ _ _) ?_
            obtain ⟨w9, hw9, f9, h9⟩ := store3 _ (wC.heap.size) 0 (.int .i64 sp.t) (.int .i64 sp.q) (.string sp.x)
            rw [← hw9]
            clear hw9
            have b9 : Blk w9 (wC.heap.size) 38 [.int .i64 sp.t, .int .i64 sp.q, .string sp.x] := h9 _ _ bZ.out
            have M9 := hMZ.out.fr f9 (fun q e => by unfold onlyB at e; rw [e]; exact hnZ.out)
            have bS9 := f9.blk bSZ.out (fun e => by unfold onlyB at e; exact hgZ.out e)
            have S9 : ((w9.cell? ⟨gA, 1, none⟩ = some (.int .i64 t) ∧ w9.cell? ⟨gA, 3, none⟩ = some (.string sx)) ∧ w9.cell? ⟨z, 1, none⟩ = some (.pointer (some ⟨kp, 0, none⟩))) := ⟨⟨M9.bA.cell 1, M9.bA.cell 3⟩, f9.cell (hzZ.out).2 (fun e => by unfold onlyB at e; exact hzg.out e)⟩
            replace b9 := Lib.hid b9
            replace M9 := Lib.hid M9
            replace bS9 := Lib.hid bS9
            clear f9 h9
            refine hK.out _ _ (S9) (fun hHeld => ?_)
            clear hK K
            try simp only [Act.put, List.setIfInBounds_toArray, List.set_cons_zero, List.set_cons_succ]
            refine tk 14 ?_
            refine wpAnyH_done (by kernel_rfl) ?_ _
            clear hHeld
            have q0 := bS9.out.cell 0
            have q1 := bS9.out.cell 1
            have q2 := bS9.out.cell 2
            have r0 := b9.out.cell 0
            have r1 := b9.out.cell 1
            have r2 := b9.out.cell 2
            simp only [List.getElem?_cons_zero, List.getElem?_cons_succ] at q0 q1 q2 r0 r1 r2
            go_wp2_with fail
            go_meet
            exact ⟨er, c2, c3, _, rfl, rfl, M9.out⟩
        by_cases k2 : kk = 2
        · subst k2
          have hA := m_crumb hM.out hkn t zz hokt
          have hB0 := fun (c2 : Nat → Nat) (wB : World) (h : Md w wA wB p z k gX gA id N.toNat [.int .i64 M, .int .i64 N, .int .i64 T, .int .i64 J, .int .u64 sd, .int .i64 bB, .int .i64 bR] [.int .i64 2, .int .i64 t, .int .i64 zz, .string sx] col rcol c2 A (A.cr t zz)) => m_crumb2 t zz h hkn
          obtain ⟨er, her⟩ : ∃ s, A.crE t zz = s := ⟨_, rfl⟩
          simp only [her] at hA hB0
          have i0 : wA.cell? ⟨gA, 0, none⟩ = some (.int .i64 2) := hM.out.bA.cell 0
          have i1 : wA.cell? ⟨gA, 1, none⟩ = some (.int .i64 t) := hM.out.bA.cell 1
          have i2 : wA.cell? ⟨gA, 2, none⟩ = some (.int .i64 zz) := hM.out.bA.cell 2
          replace hB0 := Lib.hid hB0
          replace her := Lib.hid her
          have hM9 := fun (w' : World) (f : Fr noB wA w') => hM.out.frN f
          have hA9 := fun (w' : World) (f : Fr noB wA w') => m_crumb (hM.out.frN f) hkn t zz hokt
          have hB9 := fun (c2 : Nat → Nat) (w' wB : World) (h : Md w w' wB p z k gX gA id N.toNat [.int .i64 M, .int .i64 N, .int .i64 T, .int .i64 J, .int .u64 sd, .int .i64 bB, .int .i64 bR] [.int .i64 2, .int .i64 t, .int .i64 zz, .string sx] col rcol c2 A (A.cr t zz)) => m_crumb2 t zz h hkn
          simp only [her.out] at hA9 hB9
          replace hA9 := Lib.hid hA9
          replace hB9 := Lib.hid hB9
          replace hM9 := Lib.hid hM9
          clear hA hB0
          go_wp2_with fail
          go_region_held3 (fun w' => w'.cell? ⟨gA, 1, none⟩ = some (.int .i64 t) ∧ w'.cell? ⟨gA, 2, none⟩ = some (.int .i64 zz))
            (first | exact ⟨hMC.bA.cell 1, hMC.bA.cell 2⟩ | exact ⟨hD.bA.cell 1, hD.bA.cell 2⟩ | exact ⟨(hM9.out _ ((Fr.refl noB _).drewN 1)).bA.cell 1, (hM9.out _ ((Fr.refl noB _).drewN 1)).bA.cell 2⟩ | fail)
            (first
             | (go_at_call 16; refine (hB9.out _ _ _ hD).mono ?_; rintro e wC ⟨rfl, c3, hMC⟩)
             | (go_at_call 15; refine (hA9.out _ ((Fr.refl noB _).drewN 1)).mono ?_; rintro e wB ⟨rfl, c2, hD⟩)
             | fail)
          all_goals (
            replace hMC := Lib.hid hMC
            clear hD
            go_wp2_with fail
            go_meet
            exact ⟨er, c2, c3, _, rfl, rfl, hMC.out⟩)
        by_cases k3 : kk = 3
        · subst k3
          by_cases e0 : A.trE t zz = 0
          · have hA := m_trig hM.out hkn t zz
            have hV : A.trV t zz = .agg #[.int .i64 id, .int .i64 t, .int .i64 zz] := by unfold AG.trV; rw [if_pos e0, hM.out.id]
            have hB9 := fun (c2 : Nat → Nat) (w' wB : World) (h : Md w w' wB p z k gX gA id N.toNat [.int .i64 M, .int .i64 N, .int .i64 T, .int .i64 J, .int .u64 sd, .int .i64 bB, .int .i64 bR] [.int .i64 3, .int .i64 t, .int .i64 zz, .string sx] col rcol c2 A (A.tr t zz)) => m_trig2 t zz h hkn
            rw [e0] at hA
            simp only [e0] at hB9
            rw [hV] at hA
            clear hV
            have i0 : wA.cell? ⟨gA, 0, none⟩ = some (.int .i64 3) := hM.out.bA.cell 0
            have i1 : wA.cell? ⟨gA, 1, none⟩ = some (.int .i64 t) := hM.out.bA.cell 1
            have i2 : wA.cell? ⟨gA, 2, none⟩ = some (.int .i64 zz) := hM.out.bA.cell 2
            replace hA := Lib.hid hA
            replace hB9 := Lib.hid hB9
            go_wp2_with fail
            go_fit hA.out
            rintro e wB ⟨rfl, hD⟩
            have fB := (Fr.refl noB wB).alloc (.cells #[.int .i64 id, .int .i64 t, .int .i64 zz] 53)
            have bB := Blk.new wB 53 [.int .i64 id, .int .i64 t, .int .i64 zz]
            have hD2 := hD.frN fB
            have hlo : rcol wB.heap.size = 0 := by
              by_cases e : rcol wB.heap.size = 0
              · exact e
              · have h1 := hM.out.lowR _ e
                have h2 := hD.d.fr.size
                omega
            clear hA i0 i1 i2 hD fB
            go_upto_region 29 with fail
            obtain ⟨gS, hgS⟩ : ∃ q, wB.heap.size = q := ⟨_, rfl⟩
            rw [hgS] at bB hlo
            try rw [hgS]
            generalize hwC : (wB.alloc (.cells #[.int .i64 id, .int .i64 t, .int .i64 zz] 53)) = wC at *
            clear hwC
            have i1 : wC.cell? ⟨gA, 1, none⟩ = some (.int .i64 t) := hD2.bA.cell 1
            have i2 : wC.cell? ⟨gA, 2, none⟩ = some (.int .i64 zz) := hD2.bA.cell 2
            replace hgS := Lib.hid hgS
            replace bB := Lib.hid bB
            replace hD2 := Lib.hid hD2
            replace hlo := Lib.hid hlo
            go_wp2_with fail
            go_fit (hB9.out _ _ _ hD2.out)
            rintro e wD ⟨rfl, hM2, fW⟩
            have bS := fW.blk bB.out (fun e => e hlo.out)
            have q0 := bS.cell 0
            have q1 := bS.cell 1
            have q2 := bS.cell 2
            simp only [List.getElem?_cons_zero, List.getElem?_cons_succ] at q0 q1 q2
            have j1 : wD.cell? ⟨gA, 1, none⟩ = some (.int .i64 t) := hM2.bA.cell 1
            have j2 : wD.cell? ⟨gA, 2, none⟩ = some (.int .i64 zz) := hM2.bA.cell 2
            replace hM2 := Lib.hid hM2
            clear bS fW i1 i2 hD2
            go_wp2_with fail
            go_meet
            exact ⟨0, col, rcol, _, rfl, rfl, hM2.out⟩
          · have hA := m_trig hM.out hkn t zz
            have hV : A.trV t zz = .agg #[.int .i64 0, .int .i64 0, .int .i64 0] := by unfold AG.trV; rw [if_neg e0]
            have hB9 := fun (c2 : Nat → Nat) (w' wB : World) (h : Md w w' wB p z k gX gA id N.toNat [.int .i64 M, .int .i64 N, .int .i64 T, .int .i64 J, .int .u64 sd, .int .i64 bB, .int .i64 bR] [.int .i64 3, .int .i64 t, .int .i64 zz, .string sx] col rcol c2 A (A.tr t zz)) => m_trig2 t zz h hkn
            obtain ⟨er, her⟩ : ∃ s, A.trE t zz = s := ⟨_, rfl⟩
            rw [her] at hA e0
            simp only [her] at hB9
            have de : (er == 0) = false := beq_eq_false_iff_ne.2 e0
            have dd : decide (er = 0) = false := decide_eq_false e0
            replace her := Lib.hid her
            replace e0 := Lib.hid e0
            rw [hV] at hA
            clear hV
            have i0 : wA.cell? ⟨gA, 0, none⟩ = some (.int .i64 3) := hM.out.bA.cell 0
            have i1 : wA.cell? ⟨gA, 1, none⟩ = some (.int .i64 t) := hM.out.bA.cell 1
            have i2 : wA.cell? ⟨gA, 2, none⟩ = some (.int .i64 zz) := hM.out.bA.cell 2
            replace hA := Lib.hid hA
            replace hB9 := Lib.hid hB9
            go_wp2_with fail
            go_fit hA.out
            rintro e wB ⟨rfl, hD⟩
            have fB := (Fr.refl noB wB).alloc (.cells #[.int .i64 0, .int .i64 0, .int .i64 0] 53)
            have bB := Blk.new wB 53 [.int .i64 0, .int .i64 0, .int .i64 0]
            have hD2 := hD.frN fB
            have hlo : rcol wB.heap.size = 0 := by
              by_cases e : rcol wB.heap.size = 0
              · exact e
              · have h1 := hM.out.lowR _ e
                have h2 := hD.d.fr.size
                omega
            clear hA i0 i1 i2 hD fB
            go_upto_region 29 with fail
            obtain ⟨gS, hgS⟩ : ∃ q, wB.heap.size = q := ⟨_, rfl⟩
            rw [hgS] at bB hlo
            try rw [hgS]
            generalize hwC : (wB.alloc (.cells #[.int .i64 0, .int .i64 0, .int .i64 0] 53)) = wC at *
            clear hwC
            have i1 : wC.cell? ⟨gA, 1, none⟩ = some (.int .i64 t) := hD2.bA.cell 1
            have i2 : wC.cell? ⟨gA, 2, none⟩ = some (.int .i64 zz) := hD2.bA.cell 2
            replace hgS := Lib.hid hgS
            replace bB := Lib.hid bB
            replace hD2 := Lib.hid hD2
            replace hlo := Lib.hid hlo
            go_wp2_with fail
            go_fit (hB9.out _ _ _ hD2.out)
            rintro e wD ⟨rfl, hM2, fW⟩
            have bS := fW.blk bB.out (fun e => e hlo.out)
            have q0 := bS.cell 0
            have q1 := bS.cell 1
            have q2 := bS.cell 2
            simp only [List.getElem?_cons_zero, List.getElem?_cons_succ] at q0 q1 q2
            have j1 : wD.cell? ⟨gA, 1, none⟩ = some (.int .i64 t) := hM2.bA.cell 1
            have j2 : wD.cell? ⟨gA, 2, none⟩ = some (.int .i64 zz) := hM2.bA.cell 2
            replace hM2 := Lib.hid hM2
            clear bS fW i1 i2 hD2
            go_wp2_with fail
            go_meet
            exact ⟨er, col, rcol, _, rfl, rfl, hM2.out⟩
        by_cases k4 : kk = 4
        · subst k4
          have hA := m_tick hM.out hkn
          have hB9 := fun (E : List Int) (hE : A.Ended E) (w' wB : World) (v : Value) (h : Md w w' wB p z k gX gA id N.toNat [.int .i64 M, .int .i64 N, .int .i64 T, .int .i64 J, .int .u64 sd, .int .i64 bB, .int .i64 bR] [.int .i64 4, .int .i64 t, .int .i64 zz, .string sx] col rcol col A (A.tick E)) (hkp : Kept (freeB w'.heap.size col) wB (fun u => RdI u v E)) => m_tick2 hE h hkn hkp
          have i0 : wA.cell? ⟨gA, 0, none⟩ = some (.int .i64 4) := hM.out.bA.cell 0
          replace hA := Lib.hid hA
          replace hB9 := Lib.hid hB9
          go_wp2_with fail
          go_fit hA.out
          rintro e wB ⟨vE, E, rfl, hE, hD, hkp⟩
          have hB := hB9.out E hE wA wB vE hD hkp
          replace hB := Lib.hid hB
          clear hA hB9 i0 hD hkp
          replace hE := Lib.hid hE
          go_wp2_with fail
          go_fit hB.out
          rintro e wC ⟨vr, rfl, hvr, hvE, c3, hM2⟩
          have hse := ints_true vE vr E wC hvE hvr
          replace hM2 := Lib.hid hM2
          replace hse := Lib.hid hse
          clear hvE hvr hB
          go_wp2_with fail
          go_fit hse.out
          rintro e wD ⟨rfl, f9⟩
          have hM3 := Lib.hid (hM2.out.frN f9)
          clear hM2 f9 hse
          go_wp2_with fail
          go_meet
          exact ⟨0, col, c3, _, rfl, rfl, hM3.out⟩
        have d1 : (kk == 1) = false := beq_eq_false_iff_ne.2 k1
        have d2 : (kk == 2) = false := beq_eq_false_iff_ne.2 k2
        have d3 : (kk == 3) = false := beq_eq_false_iff_ne.2 k3
        have d4 : (kk == 4) = false := beq_eq_false_iff_ne.2 k4
        have d5 : decide (kk = 1) = false := decide_eq_false k1
        have d6 : decide (kk = 2) = false := decide_eq_false k2
        have d7 : decide (kk = 3) = false := decide_eq_false k3
        have d8 : decide (kk = 4) = false := decide_eq_false k4
        have hmsg := message_any ⟨kk, t, zz, sx⟩ wA
        have hlike := fun w' => like_op ⟨kk, t, zz, sx⟩ w'
        have hA9 := fun (w' : World) (h : Mt w w' p z k gX gA id N.toNat [.int .i64 M, .int .i64 N, .int .i64 T, .int .i64 J, .int .u64 sd, .int .i64 bB, .int .i64 bR] [.int .i64 kk, .int .i64 t, .int .i64 zz, .string sx] col rcol A) => m_ear h hkn ⟨kk, t, zz, sx⟩
        have hB9 := fun (c2 : Nat → Nat) (w' wB : World) (vu vo : Value) (h : Md w w' wB p z k gX gA id N.toNat [.int .i64 M, .int .i64 N, .int .i64 T, .int .i64 J, .int .u64 sd, .int .i64 bB, .int .i64 bR] [.int .i64 kk, .int .i64 t, .int .i64 zz, .string sx] col rcol c2 A (A.ear ⟨kk, t, zz, sx⟩)) (hkp : Kept (freeB w'.heap.size c2) wB (fun u => OutW u vu (A.says ⟨kk, t, zz, sx⟩).1 ∧ OutW u vo (A.says ⟨kk, t, zz, sx⟩).2)) => m_ear2 ⟨kk, t, zz, sx⟩ h hkn hkp
        obtain ⟨mv, hmv⟩ : ∃ v, OpA.msv ⟨kk, t, zz, sx⟩ = v := ⟨_, rfl⟩
        obtain ⟨mr, hmr⟩ : ∃ v, mrV (OpA.rm ⟨kk, t, zz, sx⟩) = v := ⟨_, rfl⟩
        simp only [hmv] at hmsg
        simp only [hmv] at hA9
        simp only [hmv, hmr] at hlike
        simp only [hmr] at hB9
        clear hmv hmr k1 k2 k3 k4
        have i0 : wA.cell? ⟨gA, 0, none⟩ = some (.int .i64 kk) := hM.out.bA.cell 0
        have i1 : wA.cell? ⟨gA, 1, none⟩ = some (.int .i64 t) := hM.out.bA.cell 1
        have i2 : wA.cell? ⟨gA, 2, none⟩ = some (.int .i64 zz) := hM.out.bA.cell 2
        have i3 : wA.cell? ⟨gA, 3, none⟩ = some (.string sx) := hM.out.bA.cell 3
        replace hmsg := Lib.hid hmsg
        replace hlike := Lib.hid hlike
        replace hA9 := Lib.hid hA9
        replace hB9 := Lib.hid hB9
        go_wp2_with fail
        go_fit hmsg.out
        rintro e wB ⟨rfl, f1⟩
        have hA := Lib.hid (hA9.out wB (hM.out.frN f1))
        clear hmsg i0 i1 i2 i3 hA9 f1
        go_wp2_with fail
        go_fit hA.out
        rintro e wC ⟨vu, vo, c2, rfl, hD, hkp⟩
        replace hD := Lib.hid hD
        replace hkp := Lib.hid hkp
        clear hA
        go_wp2_with fail
        go_fit (hlike.out wC)
        rintro e wD ⟨rfl, f2⟩
        have hB := Lib.hid (hB9.out c2 wB wD vu vo (hD.out.frN f2) (hkp.out.stepN f2))
        clear hlike hB9 hD hkp f2
        go_wp2_with fail
        go_fit hB.out
        rintro e wE ⟨x, y, c3, rfl, hM2, hs1, hs2⟩
        replace hM2 := Lib.hid hM2
        replace hs1 := Lib.hid hs1
        replace hs2 := Lib.hid hs2
        clear hB
        go_wp2_with fail
        go_fit (hs1.out wE (Fr.refl noB wE))
        rintro e wF ⟨rfl, f3⟩
        go_wp2_with fail
        go_fit (hs2.out wF f3)
        rintro e wG ⟨rfl, f4⟩
        have hM3 := Lib.hid (hM2.out.frN (f3.seqN f4))
        clear hs1 hs2 f3 f4 hM2
        go_wp2_with fail
        go_meet
        exact ⟨0, c2, c3, _, rfl, rfl, hM3.out⟩
      case rest =>
        obtain ⟨r, col', rcol', A', rfl, rfl, hB⟩ := hcut
        obtain ⟨a, ha⟩ := hB.ap.ag.ag
        obtain ⟨b, hb⟩ := hB.ap.ra
        obtain ⟨vl, vg, y0, y3, y4, rl, rg⟩ := rk_cells hb
        have h48 := hb.txt48 t
        have hBN := hB.N
        have z1 : wc.cell? ⟨z, 1, none⟩ = some (.pointer (some ⟨b.k, 0, none⟩)) := hb.blk.cell 1
        have z2 : wc.cell? ⟨z, 2, none⟩ = some (.pointer (some ⟨b.c, 0, none⟩)) := hb.blk.cell 2
        have z3 : wc.cell? ⟨z, 3, none⟩ = some (.pointer (some ⟨b.l, 0, none⟩)) := hb.blk.cell 3
        have a1 : wc.cell? ⟨gA, 1, none⟩ = some (.int .i64 t) := hB.bA.cell 1
        have x1 : wc.cell? ⟨gX, 1, none⟩ = some (.int .i64 N) := hB.bX.cell 1
        have hSp := fun (w' : World) (f : Fr noB wc w') => ag_spans (t := t) (h := ha.frN f)
        have hPo := fun (w' : World) (f : Fr noB wc w') => rpof_any t (hb.frN f)
        have hCr := fun (w' : World) (f : Fr noB wc w') => ag_crumbs (t := t) (h := ha.frN f) (ht := hokt)
        have hCo := fun (w' : World) (f : Fr noB wc w') => rcof_any t (hb.frN f)
        have hJo := fun (w' : World) (f : Fr noB wc w') => ag_job (t := t) (h := ha.frN f) (ht := hokt)
        have hLo := fun (w' : World) (f : Fr noB wc w') => rof_job t (hb.frN f)
        have hLs := fun (w' : World) (f : Fr noB wc w') => ag_lost (t := t) (h := ha.frN f) (ht := hokt)
        have hIn := fun (w' : World) (f : Fr noB wc w') => rin_loss (A := A') t (w' := w') (rl.frN f)
        have hUs := fun (w' : World) (f : Fr noB wc w') => ag_used (h := ha.frN f)
        have hFr := fun (w' : World) (f : Fr noB wc w') => rpfree_any (hb.frN f)
        have hEv := fun (w' : World) (f : Fr noB wc w') => ag_evicted (h := ha.frN f)
        have hGr : ∀ w', Fr noB wc w' → RdI w' vg A'.K.gone := fun w' f => rg.frN f
        obtain ⟨bk, hbk⟩ : ∃ q, b.k = q := ⟨_, rfl⟩
        obtain ⟨bg, hbg⟩ : ∃ q, b.g = q := ⟨_, rfl⟩
        obtain ⟨bc, hbc⟩ : ∃ q, b.c = q := ⟨_, rfl⟩
        obtain ⟨bl, hbl⟩ : ∃ q, b.l = q := ⟨_, rfl⟩
        rw [hbk] at y0 y3 y4 z1
        rw [hbg] at y0
        rw [hbc] at z2
        rw [hbl] at z3
        simp only [hbg] at hPo hFr
        simp only [hbc] at hCo
        simp only [hbl] at hLo
        have hspl : (spansOf t (txt A'.K.P t)).length ≤ 1000000 := by rw [spansOf_len]; omega
        have hspe := spansOf_len t (txt A'.K.P t)
        have hfr0 := (hFr wc (Fr.refl _ _))
        obtain ⟨U, hU⟩ : ∃ U, U = used A'.K.P := ⟨_, rfl⟩
        obtain ⟨F, hF⟩ : ∃ F, F = A'.N - U := ⟨_, rfl⟩
        have hUle : U ≤ A'.N := by rw [hU]; exact ha.kp.po.le
        simp only [← hU] at hUs hFr
        simp only [← hF] at hFr
        have hN16 := hN
        have hsub2 : N - (F : Int) = (U : Int) := by omega
        have hU16 : (0 : Int) ≤ (U : Int) ∧ (U : Int) ≤ 1000 := by omega
        have hsub : IntKind.i64.wrap (N - (F : Int)) = (U : Int) := by rw [hsub2]; exact wrapSI _ hU16.1 hU16.2
        have hw1 : wrap64 (N - (F : Int)) = (U : Int) := by rw [hsub2]; exact wrapS6I _ hU16.1 hU16.2
        have hfld := field_job
        have hall : ∀ w', Fr noB wc w' → (w'.cell? ⟨gA, 1, none⟩ = some (.int .i64 t) ∧ w'.cell? ⟨z, 1, none⟩ = some (.pointer (some ⟨bk, 0, none⟩)) ∧ w'.cell? ⟨z, 2, none⟩ = some (.pointer (some ⟨bc, 0, none⟩)) ∧ w'.cell? ⟨z, 3, none⟩ = some (.pointer (some ⟨bl, 0, none⟩)) ∧ w'.cell? ⟨bk, 0, none⟩ = some (.pointer (some ⟨bg, 0, none⟩)) ∧ w'.cell? ⟨bk, 3, none⟩ = some (vl) ∧ w'.cell? ⟨bk, 4, none⟩ = some (vg) ∧ w'.cell? ⟨gX, 1, none⟩ = some (.int .i64 N)) := fun w' f => ⟨f.cell a1 (fun q => q), f.cell z1 (fun q => q), f.cell z2 (fun q => q), f.cell z3 (fun q => q), f.cell y0 (fun q => q), f.cell y3 (fun q => q), f.cell y4 (fun q => q), f.cell x1 (fun q => q)⟩
        clear a1 z1 z2 z3 y0 y3 y4 x1 rl rg ha hb hfr0 hbk hbg hbc hbl
        replace hSp := Lib.hid hSp
        replace hPo := Lib.hid hPo
        replace hCr := Lib.hid hCr
        replace hCo := Lib.hid hCo
        replace hJo := Lib.hid hJo
        replace hLo := Lib.hid hLo
        replace hLs := Lib.hid hLs
        replace hIn := Lib.hid hIn
        replace hUs := Lib.hid hUs
        replace hFr := Lib.hid hFr
        replace hEv := Lib.hid hEv
        replace hGr := Lib.hid hGr
        replace hall := Lib.hid hall
        replace hspl := Lib.hid hspl
        replace hspe := Lib.hid hspe
        replace hU := Lib.hid hU
        replace hF := Lib.hid hF
        replace hBN := Lib.hid hBN
        replace hUle := Lib.hid hUle
        replace hB := Lib.hid hB
        have hrr : (r != r) = false := by simp
        replace hN16 := ()
        replace hsub := Lib.hid hsub
        replace hw1 := Lib.hid hw1
        clear hsub2 hU16
        replace hfld := ()
        go_wp2_with fail
        obtain ⟨G, hG⟩ : ∃ G : Act → World → Prop, G = (fun (a' : Act) (w' : World) => ∃ (z171 z172 z173 z174 z175 z176 z177 z178 z179 z180 z181 z182 z183 z184 z185 z186 z187 z188 z189 z190 z191 z192 z193 z194 z195 z196 z197 z198 z199 z200 z201 z202 z203 z204 z205 z206 z207 z208 z209 z210 z211 z212 z213 z214 z215 z216 z217 z218 z219 z220 z221 z222 z223 z224 z225 z226 z227 z228 z229 z230 z231 z232 z233 z234 z235 z236 z237 z238 z239 z240 z241 z242 z243 z244 z245 z246 z247 z248 z249 z250 z251 z252 z253 z254 z255 z256 z257 z258 z259 z260 z261 z262 z263 z264 z265 z266 : Value), a' = ({ tmps := #[Value.int .i64 id, Value.agg #[.int .i64 M, .int .i64 N, .int .i64 T, .int .i64 J, .int .u64 sd, .int .i64 bB, .int .i64 bR], Value.slice (some ⟨g, o, none⟩) n c, undef, Value.pointer (some ⟨gX, 0, none⟩), undef, u6, Value.pointer (some ⟨p, 0, none⟩), Value.int .i64 0, Value.pointer (some ⟨z, 0, none⟩), undef, Value.pointer (some ⟨gA, 0, none⟩), Value.int .i64 r, Value.int .i64 r, u14, u15, u16, u17, u18, u19, u20, u21, u22, u23, u24, Value.bool true, Value.bool false, Value.bool false, Value.slice (some ⟨g, o, none⟩) n c, Value.bool true, Value.bool false, Value.bool false, undef, Value.tuple #[.pointer (some ⟨p, 0, none⟩), .int .i64 0], Value.int .i64 id, Value.agg #[.int .i64 M, .int .i64 N, .int .i64 T, .int .i64 J, .int .u64 sd, .int .i64 bB, .int .i64 bR], Value.tuple #[.pointer (some ⟨p, 0, none⟩), .int .i64 0], Value.pointer (some ⟨p, 0, none⟩), Value.int .i64 0, Value.int .i64 id, Value.agg #[.int .i64 M, .int .i64 N, .int .i64 T, .int .i64 J, .int .u64 sd, .int .i64 bB, .int .i64 bR], Value.bool true, Value.bool false, undef, undef, undef, undef, undef, undef, Value.int .i64 0, Value.bool false, Value.bool false, Value.pointer (some ⟨p, 0, none⟩), Value.bool false, Value.bool false, Value.int .i64 id, Value.agg #[.int .i64 M, .int .i64 N, .int .i64 T, .int .i64 J, .int .u64 sd, .int .i64 bB, .int .i64 bR], Value.pointer (some ⟨z, 0, none⟩), Value.slice (some ⟨g, o, none⟩) n c, Value.int .i64 (n : Int), Value.int .i64 (k : Int), u61, u62, u63, u64, u65, u66, u67, u68, u69, u70, u71, u72, u73, u74, u75, u76, u77, u78, u79, u80, u81, u82, u83, u84, u85, u86, u87, u88, u89, u90, u91, u92, u93, u94, u95, u96, u97, u98, u99, u100, u101, u102, u103, u104, u105, u106, u107, u108, u109, u110, u111, u112, u113, u114, u115, u116, u117, u118, u119, u120, u121, u122, u123, u124, u125, u126, u127, u128, u129, u130, u131, u132, u133, u134, u135, u136, u137, u138, u139, u140, u141, u142, u143, u144, u145, u146, u147, u148, u149, u150, u151, u152, u153, u154, u155, u156, u157, u158, u159, u160, u161, u162, u163, u164, u165, u166, u167, u168, u169, u170, z171, z172, z173, z174, z175, z176, z177, z178, z179, z180, z181, z182, z183, z184, z185, z186, z187, z188, z189, z190, z191, z192, z193, z194, z195, z196, z197, z198, z199, z200, z201, z202, z203, z204, z205, z206, z207, z208, z209, z210, z211, z212, z213, z214, z215, z216, z217, z218, z219, z220, z221, z222, z223, z224, z225, z226, z227, z228, z229, z230, z231, z232, z233, z234, z235, z236, z237, z238, z239, z240, z241, z242, z243, z244, z245, z246, z247, z248, z249, z250, z251, z252, z253, z254, z255, z256, z257, z258, z259, z260, z261, z262, z263, z264, z265, z266, .bool false, u268], defers := [] } : Act) ∧ Hid (AL w w' p z (k + 1) gX id N.toNat [.int .i64 M, .int .i64 N, .int .i64 T, .int .i64 J, .int .u64 sd, .int .i64 bB, .int .i64 bR])) := ⟨_, rfl⟩
        replace hG := Lib.hid hG
        refine wp_mono (Q := restQ G) ?reg ?endg
        case endg =>
          intro e a9 w9 h9
          have h8 : e = .normal ∧ G a9 w9 := restQ_out h9
          rw [hG.out] at h8
          clear hall hSp hPo hCr hCo hJo hLo hLs hIn hUs hFr hEv hGr hspl hspe hU hF hBN hUle hB hsub hw1 hG h9 h48 hokt
          obtain ⟨rfl, h9⟩ := h8
          obtain ⟨z171, z172, z173, z174, z175, z176, z177, z178, z179, z180, z181, z182, h9⟩ := h9
          obtain ⟨z183, z184, z185, z186, z187, z188, z189, z190, z191, z192, z193, z194, h9⟩ := h9
          obtain ⟨z195, z196, z197, z198, z199, z200, z201, z202, z203, z204, z205, z206, h9⟩ := h9
          obtain ⟨z207, z208, z209, z210, z211, z212, z213, z214, z215, z216, z217, z218, h9⟩ := h9
          obtain ⟨z219, z220, z221, z222, z223, z224, z225, z226, z227, z228, z229, z230, h9⟩ := h9
          obtain ⟨z231, z232, z233, z234, z235, z236, z237, z238, z239, z240, z241, z242, h9⟩ := h9
          obtain ⟨z243, z244, z245, z246, z247, z248, z249, z250, z251, z252, z253, z254, h9⟩ := h9
          obtain ⟨z255, z256, z257, z258, z259, z260, z261, z262, z263, z264, z265, z266, h9⟩ := h9
          obtain ⟨rfl, hL9⟩ := h9
          go_wp2_with fail
          go_roundg (n - (k + 1))
          case rel => exact ⟨k + 1, hkn2.out, by go_num, hL9⟩
          case measure => exact hmeas.out
        refine wp_region_held_drew (S := (fun w' => w'.cell? ⟨gA, 1, none⟩ = some (.int .i64 t) ∧ w'.cell? ⟨z, 1, none⟩ = some (.pointer (some ⟨bk, 0, none⟩)) ∧ w'.cell? ⟨z, 2, none⟩ = some (.pointer (some ⟨bc, 0, none⟩)) ∧ w'.cell? ⟨z, 3, none⟩ = some (.pointer (some ⟨bl, 0, none⟩)) ∧ w'.cell? ⟨bk, 0, none⟩ = some (.pointer (some ⟨bg, 0, none⟩)) ∧ w'.cell? ⟨bk, 3, none⟩ = some (vl) ∧ w'.cell? ⟨bk, 4, none⟩ = some (vg) ∧ w'.cell? ⟨gX, 1, none⟩ = some (.int .i64 N))) (by kernel_rfl) (hall.out _ ((Fr.refl noB wc).drew)) (fun hHeld => ?_)
        have f0 : Fr noB wc wc.drew := (Fr.refl noB wc).drew
        refine tk 0 ?_
        refine tk 1 ?_
        refine tk 2 ?_
        refine tk 3 ?_
        refine tk 4 ?_
        refine tk 5 ?_
        refine tk 6 ?_
        refine tk 8 ?_
        refine tk 9 ?_
        refine tk 10 ?_
        refine tk 11 ?_
        refine tk 12 ?_
        refine tk 13 ?_
        refine tk 14 ?_
        refine tk 15 ?_
        refine tk 16 ?_
        (refine wpAnyH_ready (rs := [7]) (by kernel_rfl) (by simp) (AllReadyH.cons (o := ?_) ?_ (fun K hK => ?_) AllReadyH.nil); rotate_left 1; (focus ((simp only [List.getElem?_toArray, List.getElem?_cons_succ, List.getElem?_cons_zero]); try rfl)))
        go_simp
        refine (hSp.out _ f0).mono ?_
        rintro e w1 ⟨v1, rfl, o1, g1⟩
        have f1 := f0.seqN g1
        have r1 := RdSp.of_own o1 hspe.out
        clear o1 g1
        go_wp2_with fail
        refine hK.out _ _ (hall.out _ f1) (fun hHeld => ?_)
        clear hK K
        try simp only [Act.put, List.setIfInBounds_toArray, List.set_cons_zero, List.set_cons_succ]
        (refine wpAnyH_ready (rs := [17]) (by kernel_rfl) (by simp) (AllReadyH.cons (o := ?_) ?_ (fun K hK => ?_) AllReadyH.nil); rotate_left 1; (focus ((simp only [List.getElem?_toArray, List.getElem?_cons_succ, List.getElem?_cons_zero]); try rfl)))
        go_simp
        refine (hPo.out _ f1).mono ?_
        rintro e w2 ⟨v2, rfl, r2, _, hw⟩
        obtain rfl := hw.symm
        clear hw
        go_wp2_with fail
        refine hK.out _ _ (hall.out _ f1) (fun hHeld => ?_)
        clear hK K
        try simp only [Act.put, List.setIfInBounds_toArray, List.set_cons_zero, List.set_cons_succ]
        (refine wpAnyH_ready (rs := [18]) (by kernel_rfl) (by simp) (AllReadyH.cons (o := ?_) ?_ (fun K hK => ?_) AllReadyH.nil); rotate_left 1; (focus ((simp only [List.getElem?_toArray, List.getElem?_cons_succ, List.getElem?_cons_zero]); try rfl)))
        go_simp
        refine (same_any v1 v2 _ _ r1 r2).mono ?_
        rintro e w3 ⟨rfl, g3⟩
        have f3 := f1.seqN g3
        clear g3 r1 r2
        go_wp2_with fail
        refine hK.out _ _ (hall.out _ f3) (fun hHeld => ?_)
        clear hK K
        try simp only [Act.put, List.setIfInBounds_toArray, List.set_cons_zero, List.set_cons_succ]
        as_aux_lemma =>
        refine tk 19 ?_
        refine tk 20 ?_
        refine tk 21 ?_
        refine tk 22 ?_
        refine tk 23 ?_
        refine tk 24 ?_
        refine tk 26 ?_
        refine tk 27 ?_
        refine tk 28 ?_
        refine tk 29 ?_
        refine tk 30 ?_
        refine tk 31 ?_
        (refine wpAnyH_ready (rs := [25]) (by kernel_rfl) (by simp) (AllReadyH.cons (o := ?_) ?_ (fun K hK => ?_) AllReadyH.nil); rotate_left 1; (focus ((simp only [List.getElem?_toArray, List.getElem?_cons_succ, List.getElem?_cons_zero]); try rfl)))
        go_simp
        refine (hCr.out _ f3).mono ?_
        rintro e w4 ⟨v4, rfl, o4, g4⟩
        have f4 := f3.seqN g4
        have r4 : RdI w4 v4 (A'.X t) := RdI.of_own o4
        clear o4
        go_wp2_with fail
        refine hK.out _ _ (hall.out _ f4) (fun hHeld => ?_)
        clear hK K
        try simp only [Act.put, List.setIfInBounds_toArray, List.set_cons_zero, List.set_cons_succ]
        (refine wpAnyH_ready (rs := [32]) (by kernel_rfl) (by simp) (AllReadyH.cons (o := ?_) ?_ (fun K hK => ?_) AllReadyH.nil); rotate_left 1; (focus ((simp only [List.getElem?_toArray, List.getElem?_cons_succ, List.getElem?_cons_zero]); try rfl)))
        go_simp
        refine (hCo.out _ f4).mono ?_
        rintro e w5 ⟨v5, rfl, r5, g5⟩
        have f5 := f4.seqN g5
        have r45 := r4.frN g5
        have r5f := r5.frN g5
        clear g5 r4 r5
        go_wp2_with fail
        refine hK.out _ _ (hall.out _ f5) (fun hHeld => ?_)
        clear hK K
        try simp only [Act.put, List.setIfInBounds_toArray, List.set_cons_zero, List.set_cons_succ]
        (refine wpAnyH_ready (rs := [33]) (by kernel_rfl) (by simp) (AllReadyH.cons (o := ?_) ?_ (fun K hK => ?_) AllReadyH.nil); rotate_left 1; (focus ((simp only [List.getElem?_toArray, List.getElem?_cons_succ, List.getElem?_cons_zero]); try rfl)))
        go_simp
        refine (ints_true v4 v5 _ _ r45 r5f).mono ?_
        rintro e w6 ⟨rfl, g6⟩
        have f6 := f5.seqN g6
        clear g6 r45 r5f
        go_wp2_with fail
        refine hK.out _ _ (hall.out _ f6) (fun hHeld => ?_)
        clear hK K
        try simp only [Act.put, List.setIfInBounds_toArray, List.set_cons_zero, List.set_cons_succ]
        as_aux_lemma =>
        refine tk 34 ?_
        refine tk 35 ?_
        refine tk 36 ?_
        refine tk 37 ?_
        refine tk 38 ?_
        refine tk 39 ?_
        refine tk 41 ?_
        refine tk 42 ?_
        refine tk 43 ?_
        refine tk 44 ?_
        refine tk 45 ?_
        refine tk 46 ?_
        (refine wpAnyH_ready (rs := [40]) (by kernel_rfl) (by simp) (AllReadyH.cons (o := ?_) ?_ (fun K hK => ?_) AllReadyH.nil); rotate_left 1; (focus ((simp only [List.getElem?_toArray, List.getElem?_cons_succ, List.getElem?_cons_zero]); try rfl)))
        go_simp
        refine (hJo.out _ f6).mono ?_
        rintro e w7 ⟨rfl, hw⟩
        obtain rfl := hw.symm
        clear hw
        go_wp2_with fail
        refine hK.out _ _ (hall.out _ f6) (fun hHeld => ?_)
        clear hK K
        try simp only [Act.put, List.setIfInBounds_toArray, List.set_cons_zero, List.set_cons_succ]
        (refine wpAnyH_ready (rs := [47]) (by kernel_rfl) (by simp) (AllReadyH.cons (o := ?_) ?_ (fun K hK => ?_) AllReadyH.nil); rotate_left 1; (focus ((simp only [List.getElem?_toArray, List.getElem?_cons_succ, List.getElem?_cons_zero]); try rfl)))
        go_simp
        refine (hLo.out _ f6).mono ?_
        rintro e w8 ⟨m0, m2, rfl, g8⟩
        have f8 := f6.seqN g8
        have hfl : ∀ w9 : World, (Instr.field 84 (.agg #[.int .i64 m0, .int .i64 (A'.job t), .int .i64 m2]) 1).run Tryz.prog w9 = .ok (.int .i64 (A'.job t)) w9 := fun w9 => field_job _ _ _ w9
        clear g8
        go_wp2_with fail
        refine hK.out _ _ (hall.out _ f8) (fun hHeld => ?_)
        clear hK K
        try simp only [Act.put, List.setIfInBounds_toArray, List.set_cons_zero, List.set_cons_succ]
        as_aux_lemma =>
        refine tk 48 ?_
        refine tk 49 ?_
        refine tk 50 ?_
        refine tk 51 ?_
        refine tk 52 ?_
        refine tk 53 ?_
        refine tk 54 ?_
        refine tk 56 ?_
        refine tk 57 ?_
        refine tk 58 ?_
        refine tk 59 ?_
        refine tk 60 ?_
        refine tk 61 ?_
        refine tk 62 ?_
        refine tk 63 ?_
        refine tk 64 ?_
        (refine wpAnyH_ready (rs := [55]) (by kernel_rfl) (by simp) (AllReadyH.cons (o := ?_) ?_ (fun K hK => ?_) AllReadyH.nil); rotate_left 1; (focus ((simp only [List.getElem?_toArray, List.getElem?_cons_succ, List.getElem?_cons_zero]); try rfl)))
        go_simp
        refine (hLs.out _ f8).mono ?_
        rintro e w9 ⟨rfl, g9⟩
        have f9 := f8.seqN g9
        clear g9
        go_wp2_with fail
        refine hK.out _ _ (hall.out _ f9) (fun hHeld => ?_)
        clear hK K
        try simp only [Act.put, List.setIfInBounds_toArray, List.set_cons_zero, List.set_cons_succ]
        (refine wpAnyH_ready (rs := [65]) (by kernel_rfl) (by simp) (AllReadyH.cons (o := ?_) ?_ (fun K hK => ?_) AllReadyH.nil); rotate_left 1; (focus ((simp only [List.getElem?_toArray, List.getElem?_cons_succ, List.getElem?_cons_zero]); try rfl)))
        go_simp
        refine (hIn.out _ f9).mono ?_
        rintro e wx ⟨rfl, hw⟩
        obtain rfl := hw.symm
        clear hw
        go_wp2_with fail
        refine hK.out _ _ (hall.out _ f9) (fun hHeld => ?_)
        clear hK K
        try simp only [Act.put, List.setIfInBounds_toArray, List.set_cons_zero, List.set_cons_succ]
        as_aux_lemma =>
        refine tk 66 ?_
        refine tk 67 ?_
        refine tk 68 ?_
        refine tk 69 ?_
        refine tk 71 ?_
        refine tk 72 ?_
        refine tk 73 ?_
        refine tk 74 ?_
        refine tk 75 ?_
        refine tk 76 ?_
        refine tk 77 ?_
        refine tk 78 ?_
        refine tk 79 ?_
        (refine wpAnyH_ready (rs := [70]) (by kernel_rfl) (by simp) (AllReadyH.cons (o := ?_) ?_ (fun K hK => ?_) AllReadyH.nil); rotate_left 1; (focus ((simp only [List.getElem?_toArray, List.getElem?_cons_succ, List.getElem?_cons_zero]); try rfl)))
        go_simp
        refine (hUs.out _ f9).mono ?_
        rintro e wy ⟨rfl, g10⟩
        have f10 := f9.seqN g10
        clear g10
        go_wp2_with fail
        refine hK.out _ _ (hall.out _ f10) (fun hHeld => ?_)
        clear hK K
        try simp only [Act.put, List.setIfInBounds_toArray, List.set_cons_zero, List.set_cons_succ]
        (refine wpAnyH_ready (rs := [80]) (by kernel_rfl) (by simp) (AllReadyH.cons (o := ?_) ?_ (fun K hK => ?_) AllReadyH.nil); rotate_left 1; (focus ((simp only [List.getElem?_toArray, List.getElem?_cons_succ, List.getElem?_cons_zero]); try rfl)))
        go_simp
        refine (hFr.out _ f10).mono ?_
        rintro e wx ⟨rfl, hw, _, _⟩
        obtain rfl := hw.symm
        clear hw
        go_wp2_with fail
        refine hK.out _ _ (hall.out _ f10) (fun hHeld => ?_)
        clear hK K
        try simp only [Act.put, List.setIfInBounds_toArray, List.set_cons_zero, List.set_cons_succ]
        as_aux_lemma =>
        have hsub := hsub.out
        have hw1 := hw1.out
        refine tk 81 ?_
        clear hsub hw1
        refine tk 82 ?_
        refine tk 83 ?_
        refine tk 84 ?_
        refine tk 85 ?_
        refine tk 87 ?_
        refine tk 88 ?_
        refine tk 89 ?_
        refine tk 90 ?_
        refine tk 91 ?_
        refine tk 92 ?_
        refine tk 93 ?_
        (refine wpAnyH_ready (rs := [86]) (by kernel_rfl) (by simp) (AllReadyH.cons (o := ?_) ?_ (fun K hK => ?_) AllReadyH.nil); rotate_left 1; (focus ((simp only [List.getElem?_toArray, List.getElem?_cons_succ, List.getElem?_cons_zero]); try rfl)))
        go_simp
        refine (hEv.out _ f10).mono ?_
        rintro e w11 ⟨v11, rfl, o11, g11⟩
        have f11 := f10.seqN g11
        have r11 : RdI w11 v11 A'.K.gone := RdI.of_own o11
        clear o11 g11
        go_wp2_with fail
        refine hK.out _ _ (hall.out _ f11) (fun hHeld => ?_)
        clear hK K
        try simp only [Act.put, List.setIfInBounds_toArray, List.set_cons_zero, List.set_cons_succ]
        (refine wpAnyH_ready (rs := [94]) (by kernel_rfl) (by simp) (AllReadyH.cons (o := ?_) ?_ (fun K hK => ?_) AllReadyH.nil); rotate_left 1; (focus ((simp only [List.getElem?_toArray, List.getElem?_cons_succ, List.getElem?_cons_zero]); try rfl)))
        go_simp
        refine (ints_true v11 vg _ _ r11 (hGr.out _ f11)).mono ?_
        rintro e w12 ⟨rfl, g12⟩
        have f12 := f11.seqN g12
        clear g12 r11
        go_wp2_with fail
        refine hK.out _ _ (hall.out _ f12) (fun hHeld => ?_)
        clear hK K
        try simp only [Act.put, List.setIfInBounds_toArray, List.set_cons_zero, List.set_cons_succ]
        refine tk 95 ?_
        refine tk 96 ?_
        refine wpAnyH_done (by kernel_rfl) ?_ _
        clear hHeld
        have M9 := hB.out.frN f12
        have hL9 : Hid (AL w w12 p z (k + 1) gX id N.toNat [.int .i64 M, .int .i64 N, .int .i64 T, .int .i64 J, .int .u64 sd, .int .i64 bB, .int .i64 bR]) := Lib.hid ⟨col', rcol', A', M9.ap, M9.N, M9.id, M9.cX.1, M9.cX.2, M9.bX⟩
        clear M9
        show G _ _
        rw [hG.out]
        exact ⟨_, _, _, _, _, _, _, _, _, _, _, _, _, _, _, _, _, _, _, _, _, _, _, _, _, _, _, _, _, _, _, _, _, _, _, _, _, _, _, _, _, _, _, _, _, _, _, _, _, _, _, _, _, _, _, _, _, _, _, _, _, _, _, _, _, _, _, _, _, _, _, _, _, _, _, _, _, _, _, _, _, _, _, _, _, _, _, _, _, _, _, _, _, _, _, _, rfl, hL9⟩
    · obtain rfl : k = n := by omega
      obtain ⟨col, rcol, A, hP, _⟩ := hL.out
      have hF := hP.ag.fr
      clear hP hL
      go_wp2_with fail
      go_ret
      exact ⟨rfl, hF⟩
end Go.Proofs.YtppmednmcbjafaaGreat
end

section
set_option linter.unusedVariables false
set_option linter.unusedSimpArgs false
set_option maxRecDepth 100000
namespace Go.Proofs.YtppmednmcbjafaaGreat
open Go.RowKit Go Go.Maps Go.Lib

def IsCf (cs : List Value) (c : Cf) : Prop := cs = c.cs ∧ U64 c.sd
theorem list7 {α : Type} {cs : List α} (h : cs.length = 7) : cs = [cs[0], cs[1], cs[2], cs[3], cs[4], cs[5], cs[6]] := by
  match cs, h with
  | [a, b, c, d, e, f, g], _ => rfl
theorem u64_wf {n : Int} (h : (Lit.int .u64 n).wf = true) : U64 n := by
  unfold U64
  simp [Lit.wf, IntKind.min, IntKind.max, IntKind.signed, IntKind.bits] at h
  omega
theorem cf_open {H : Type} {enc : TypeId × Value → H} {w : World} {base : Nat} {held : Bool} (n : Nat) (cs : List Value) (y : DataW H × List MemPlace) (hl : cs.length = 7)
    (h : DataW.trod enc Tryz.prog w base (fun _ => true) held n 24 cs = some y) : ∃ m, IsCf cs m := by
  obtain ⟨a, ha, wa⟩ := fld_int (i := 0) (off := 0) Tryz.underlying24 h rfl (by kernel_rfl) (by omega) Tryz.underlying3
  obtain ⟨b, hb, wb⟩ := fld_int (i := 1) (off := 1) Tryz.underlying24 h rfl (by kernel_rfl) (by omega) Tryz.underlying3
  obtain ⟨c, hc, wc⟩ := fld_int (i := 2) (off := 2) Tryz.underlying24 h rfl (by kernel_rfl) (by omega) Tryz.underlying3
  obtain ⟨d, hd, wd⟩ := fld_int (i := 3) (off := 3) Tryz.underlying24 h rfl (by kernel_rfl) (by omega) Tryz.underlying3
  obtain ⟨e, he, we⟩ := fld_int (i := 4) (off := 4) Tryz.underlying24 h rfl (by kernel_rfl) (by omega) Tryz.underlying22
  obtain ⟨f, hf, wf⟩ := fld_int (i := 5) (off := 5) Tryz.underlying24 h rfl (by kernel_rfl) (by omega) Tryz.underlying3
  obtain ⟨g, hg, wg⟩ := fld_int (i := 6) (off := 6) Tryz.underlying24 h rfl (by kernel_rfl) (by omega) Tryz.underlying3
  refine ⟨⟨a, b, c, d, e, f, g⟩, ?_, u64_wf we⟩
  rw [list7 hl, ha, hb, hc, hd, he, hf, hg]; rfl
theorem agentPlays_cs (id : Int) (cs : Array Value) (c : Cf) (v : Value) (xs : List OpA) (w : World) (hid : (Lit.int .i64 id).wf = true) (hc : IsCf cs.toList c) (hv : SlR w v 4 (IsOpA w) xs) :
    Calls Tryz.prog 3 #[.int .i64 id, .agg cs, v] w fun e w' => e = .returned (.bool true) ∧ Fr noB w w' := by
  obtain ⟨h1, h2⟩ := hc
  have e : cs = c.cs.toArray := by rw [← h1]
  subst e
  exact agentPlays_any id c v xs w h2 hv
end Go.Proofs.YtppmednmcbjafaaGreat
end

section
set_option linter.unusedVariables false
set_option linter.unusedSimpArgs false
namespace Go.Proofs.YtppmednmcbjafaaGreat.agentPlays
open Go.ChangeShapes Go.WideShapes Go.ChangeAt Go.RowKit
open Go.ChangeMaps (open_string shut_string)

theorem own : ownKnob Tryz.prog.godebug = none := by kernel_rfl
theorem laidOut : laidOutB Tryz.prog = true := by kernel_rfl

set_option maxRecDepth 100000 in
theorem lifted (os : Os) (started : os.Started) (H : Type) (enc : TypeId × Value → H) :
    ReturnsInHanded {} Tryz.checked os 3 .any (Rows.agentPlaysSpec.pre6 enc Tryz.prog Tryz.f3 Rows.agentPlaysRow.domain false) (Rows.agentPlaysSpec.post enc Tryz.prog Tryz.f3 false true false false) := by
  refine returnsInHanded_of_change (C := Tryz.checked) own started (by kernel_rfl) Tryz.func3
    (ChangeSpec.witness6 (enc := enc) (C := Tryz.checked) false ⟨#[], #[.int .i64 0, .agg #[.int .i64 0, .int .i64 0, .int .i64 0, .int .i64 0, .int .u64 0, .int .i64 0, .int .i64 0], .slice none 0 0], []⟩ 8 (by kernel_rfl) (by kernel_rfl) (by kernel_rfl) (by kernel_rfl)) ?_
  intro W base args ds gs before hval0 hW hcnd _
  have hval : ∀ (j : Nat) t v, Tryz.f3.params[j]? = some t → args[j]? = some v → Value.okWide Tryz.prog W .any base t v := hval0
  have hW' := hW
  obtain ⟨p, q, hA0, hV, rfl, hfz, hnd⟩ := hW
  have hA : DataW.TrodAll enc Tryz.prog W 0 (fun _ => true) true Tryz.f3.params.toList args.toList ds p := hA0
  rw [Tryz.params3] at hA hval
  obtain ⟨v0, vs0, d0, ds0, p0, q0, hargs, rfl, rfl, h0, r0⟩ := trodAll_cons hA
  obtain ⟨v1, vs1, d1, ds1, p1, q1, rfl, rfl, rfl, h1, r1⟩ := trodAll_cons r0
  obtain ⟨v2, vs2, d2, ds2, p2, q2, rfl, rfl, rfl, h2, r2⟩ := trodAll_cons r1
  obtain ⟨rfl, rfl, rfl⟩ := trodAll_nil r2
  obtain rfl : args = #[v0, v1, v2] := by cases args; simp_all
  obtain ⟨rfl, rfl⟩ := trodVars_none hV
  obtain ⟨a0, rfl, rfl, rfl, w0⟩ := open_int Tryz.underlying3 (hval 0 3 v0 rfl rfl) h0
  have k1 := h1
  have lt1 : ∀ x ∈ p1, x.block < W.heap.size := by obtain ⟨m, hm⟩ := k1; exact DataW.trod_lt m _ _ _ hm
  obtain ⟨cs1, rfl, hsz1⟩ := okWide_struct Tryz.underlying24 (hval 1 24 v1 rfl rfl)
  obtain ⟨m1, w1⟩ : ∃ m, IsCf cs1.toList m := by
    obtain ⟨fuel, hf⟩ := h1
    exact cf_open _ _ _ (by rw [Array.length_toList, hsz1]; kernel_rfl) hf
  have k2 := h2
  have lt2 : ∀ x ∈ p2, x.block < W.heap.size := by obtain ⟨m, hm⟩ := k2; exact DataW.trod_lt m _ _ _ hm
  obtain ⟨xs2, w2⟩ : ∃ xs, SlR W v2 4 (IsOpA W) xs := by
    obtain ⟨fuel, hf⟩ := h2
    exact slr_of_trod _ Tryz.underlying25 (by kernel_rfl) (by omega) (okWide_slice Tryz.underlying25 (hval 2 25 v2 rfl rfl)) hf (opa_open)
  clear hA0 hval0
  refine (agentPlays_cs a0 cs1 m1 v2 xs2 W w0 w1 w2).mono fun e W' ⟨he, fr⟩ => ?_
  have bel := Fr.below fr
  subst he
  exact ⟨_, rfl, _, _, _, [], _, [], hW', trodAll_mk1 (shut_bool Tryz.underlying4 _), (trodAll_cons_mk (shut_int Tryz.underlying3 w0) (trodAll_cons_mk (Below.trod laidOut (by kernel_rfl) (of_decide_eq_true (by kernel_rfl)) k1 bel lt1) (trodAll_cons_mk (Below.trod laidOut (by kernel_rfl) (of_decide_eq_true (by kernel_rfl)) k2 bel lt2) trodAll_mk0))), rfl, bel.frame _, fun h => by cases h⟩

theorem over : Rows.agentPlaysRow.holds Tryz.pinned (OpenSpec.ofChange Rows.agentPlaysSpec) :=
  OpenClaim.holds_of_wide 3 Tryz.f3 rfl rfl rfl rfl rfl rfl rfl ⟨rfl, rfl, rfl, rfl, rfl⟩ rfl rfl rfl rfl rfl (by kernel_rfl) Tryz.func3 (by kernel_rfl)
    (of_decide_eq_true (by kernel_rfl)) (by unfold Func.isWrapper; first | (rw [if_pos (by decide +kernel)]; kernel_rfl) | (rw [if_neg (by decide +kernel)]; exact ⟨rfl, rfl⟩))
    (fun os started H enc _ => lifted os started H enc)

theorem proved : Rows.AgentPlaysSaid := over
#print axioms proved
end Go.Proofs.YtppmednmcbjafaaGreat.agentPlays
end
