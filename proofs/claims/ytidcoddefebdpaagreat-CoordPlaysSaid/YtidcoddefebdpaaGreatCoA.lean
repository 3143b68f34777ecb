/-
  The coordinator by its numbers, and where it lies: what only reads; New.
  The coordinator: a job begins.
  The coordinator: a message that is no trigger.
  The coordinator hears any message.
  What a job says, with where the parts of its manifest lie.
  The coordinator's Tick: what all jobs say, by their numbers.
  The coordinator, its blocks set apart: what it hears, what it says.
  What the layer's laws ask first.
-/
import Derived.Test.YtidcoddefebdpaaGreatCoordL
import Derived.Test.YtidcoddefebdpaaGreatCoI
import Derived.Test.YtidcoddefebdpaaGreatJobOutsM
import Derived.Deep.QuietTactic
import Derived.BigQuiet
import Derived.Test.YtidcoddefebdpaaGreatShelf2
import Derived.Deep.LoopGhost
section
set_option linter.unusedVariables false
set_option linter.unusedSimpArgs false
set_option maxRecDepth 100000
set_option maxRecDepth 100000
namespace Go.Proofs.YtidcoddefebdpaaGreat
open Go.RowKit Go Go.Maps Go.Lib

def JE.kv (e : JE) : Int × NJ := (e.j.tr, (e.n, some e.p))
/-- it lies so: U are the blocks of the rows that jobs were told -/
structure Co (w : World) (c bm : Nat) (U : Nat → Prop) (C : CS) : Prop where
  blk : Blk w c 74 [.int .i64 C.ag, .int .i64 C.mo, .map (some bm), .int .i64 C.la, .int .i64 C.rf]
  mp : Mp Tryz.prog 3 klI mkN w bm C.Q.length (C.Q.map JE.kv)
  jobs : ∀ e ∈ C.Q, JG w e.p U e.j e.X
  nu : ¬ U c ∧ ¬ U bm ∧ ∀ e ∈ C.Q, ¬ U e.p
  ap : c ≠ bm ∧ ∀ e ∈ C.Q, e.p ≠ c ∧ e.p ≠ bm
  ul : ∀ g, U g → g < w.heap.size
  wf : C.wf
/-- the blocks that a call may write -/
def coS (c bm : Nat) (C : CS) (g : Nat) : Prop := g = c ∨ g = bm ∨ ∃ e ∈ C.Q, g = e.p
theorem Co.fr {w w' : World} {c bm : Nat} {U S : Nat → Prop} {C : CS} (h : Co w c bm U C) (f : Fr S w w') (hS : ∀ g, coS c bm C g ∨ U g → ¬ S g) : Co w' c bm U C :=
  ⟨f.blk h.blk (hS _ (Or.inl (Or.inl rfl))), h.mp.fr f (hS _ (Or.inl (Or.inr (Or.inl rfl)))), fun e he => (h.jobs e he).fr f (hS _ (Or.inl (Or.inr (Or.inr ⟨e, he, rfl⟩)))) (fun g hg => hS g (Or.inr hg)), h.nu, h.ap, fun g hg => Nat.lt_of_lt_of_le (h.ul g hg) f.size, h.wf⟩
theorem Co.frN {w w' : World} {c bm : Nat} {U : Nat → Prop} {C : CS} (h : Co w c bm U C) (f : Fr noB w w') : Co w' c bm U C := h.fr f (fun _ _ q => q)
theorem Co.lt {w : World} {c bm : Nat} {U : Nat → Prop} {C : CS} (h : Co w c bm U C) : ∀ g, coS c bm C g ∨ U g → g < w.heap.size := by
  rintro g ((rfl | rfl | ⟨e, he, rfl⟩) | hg)
  · exact h.blk.lt
  · exact h.mp.lt
  · exact (h.jobs e he).lt
  · exact h.ul g hg
theorem at_look (C : CS) (t : Int) : look (C.Q.map JE.kv) t = (C.at t).map fun e => (e.n, some e.p) := by
  unfold CS.at look
  induction C.Q with
  | nil => rfl
  | cons e r ih =>
    rw [List.map_cons, List.find?_cons, List.find?_cons]
    show Option.map _ (match decide (e.j.tr = t) with | true => some e.kv | false => _) = _
    by_cases h : e.j.tr = t
    · simp [h, JE.kv]
    · simp only [h, decide_false]
      exact ih
theorem keyIJ : KeyLit Tryz.prog 3 kvI klI okI := keyLit_int Tryz.underlying3
theorem at_unique {C : CS} (h : C.wf) {e : JE} (he : e ∈ C.Q) : C.at e.j.tr = some e := by
  cases hq : C.at e.j.tr with
  | none => exact absurd rfl (at_none hq e he)
  | some x =>
    obtain ⟨h1, h2⟩ := at_some hq
    rw [tr_inj h h1 he h2]
def ptJ (o : Option JE) : Value := .pointer (pJ (o.map (·.p)))
theorem fieldN (n : Int) (p : Option Addr) (w : World) : (Instr.field 79 (.agg #[.int .i64 n, .pointer p]) 1).run Tryz.prog w = .ok (.pointer p) w := by kernel_rfl
set_option maxHeartbeats 1000000 in
theorem of_co (c bm : Nat) (U : Nat → Prop) (C : CS) (t : Int) (w : World) (h : Co w c bm U C) (ht : okI t) : Calls Tryz.prog 17 #[.pointer (some ⟨c, 0, none⟩), .int .i64 t] w fun e w' => e = .returned (ptJ (C.at t)) ∧ w' = w := by
  have c2 : w.cell? ⟨c, 2, none⟩ = some (.map (some bm)) := h.blk.cell 2
  have hlk := h.mp.run_look keyIJ Tryz.underlying72 (zeroN w) mkN_inj t ht
  rw [at_look] at hlk
  have hr : ∃ n, ((Option.map (fun e : JE => (e.n, some e.p)) (C.at t)).getD (0, none) : NJ) = (n, (C.at t).map (·.p)) := by
    cases C.at t with
    | none => exact ⟨0, rfl⟩
    | some e => exact ⟨e.n, rfl⟩
  obtain ⟨n, hn⟩ := hr
  rw [hn] at hlk
  unfold mkN kvI at hlk
  dsimp only at hlk
  unfold ptJ
  have hf := fieldN n (pJ ((C.at t).map (·.p))) w
  generalize pJ ((C.at t).map (·.p)) = pp at *
  clear hn
  replace h := Lib.hid h
  go_enter Tryz.func17, Tryz.ntmps17
  go_wp2_with fail
  go_ret
  exact ⟨rfl, rfl⟩
set_option maxHeartbeats 1000000 in
theorem jobs_co (c bm : Nat) (U : Nat → Prop) (C : CS) (w : World) (h : Co w c bm U C) : Calls Tryz.prog 14 #[.pointer (some ⟨c, 0, none⟩)] w fun e w' => e = .returned (.int .i64 C.Q.length) ∧ w' = w := by
  have c2 : w.cell? ⟨c, 2, none⟩ = some (.map (some bm)) := h.blk.cell 2
  have hlen := h.mp.run_len Tryz.underlying72
  rw [List.length_map] at hlen
  generalize C.Q.length = n at *
  replace h := ()
  go_enter Tryz.func14, Tryz.ntmps14
  go_wp2_with fail
  go_ret
  exact ⟨rfl, rfl⟩
set_option maxHeartbeats 1000000 in
theorem last_co (c bm : Nat) (U : Nat → Prop) (C : CS) (w : World) (h : Co w c bm U C) : Calls Tryz.prog 15 #[.pointer (some ⟨c, 0, none⟩)] w fun e w' => e = .returned (.int .i64 C.la) ∧ w' = w := by
  have c2 : w.cell? ⟨c, 3, none⟩ = some (.int .i64 C.la) := h.blk.cell 3
  clear h
  go_enter Tryz.func15, Tryz.ntmps15
  go_wp2_with fail
  go_ret
  exact ⟨rfl, rfl⟩
set_option maxHeartbeats 1000000 in
theorem refused_co (c bm : Nat) (U : Nat → Prop) (C : CS) (w : World) (h : Co w c bm U C) : Calls Tryz.prog 16 #[.pointer (some ⟨c, 0, none⟩)] w fun e w' => e = .returned (.int .i64 C.rf) ∧ w' = w := by
  have c2 : w.cell? ⟨c, 4, none⟩ = some (.int .i64 C.rf) := h.blk.cell 4
  clear h
  go_enter Tryz.func16, Tryz.ntmps16
  go_wp2_with fail
  go_ret
  exact ⟨rfl, rfl⟩
/-! ### New -/
def cfC (ag jobs : Int) (b l sd bu ra : Value) : List Value := [.int .i64 ag, b, l, .int .i64 jobs, sd, bu, ra]
def CS.new (ag jobs : Int) : CS := ⟨ag, jobs, 0, 0, []⟩
def mayCo (ag jobs : Int) : Bool := (decide (1 ≤ ag) && decide (ag ≤ 4)) && (decide (1 ≤ jobs) && decide (jobs ≤ 8))
theorem new_wf {ag jobs : Int} (h : mayCo ag jobs = true) : (CS.new ag jobs).wf := by
  unfold mayCo at h
  simp only [Bool.and_eq_true, decide_eq_true_eq] at h
  exact ⟨h.1.1, h.1.2, h.2.1, h.2.2, by show ((0 : Nat) : Int) ≤ jobs; omega, by simp [CS.new], by simp [CS.new], by simp [CS.new], fun e he => (by cases he), fun e he => (by cases he), Int.le_refl _⟩
set_option maxHeartbeats 2000000 in
theorem new_co (ag jobs : Int) (b l sd bu ra : Value) (w : World) (h : mayCo ag jobs = true) :
    Calls Tryz.prog 6 #[.agg (cfC ag jobs b l sd bu ra).toArray] w fun e w' => ∃ c bm, e = .returned (.tuple #[.pointer (some ⟨c, 0, none⟩), .int .i64 0]) ∧ w.heap.size ≤ c ∧ w.heap.size ≤ bm ∧ Co w' c bm noB (CS.new ag jobs) ∧ Fr noB w w' := by
  have hwf := new_wf h
  unfold mayCo at h
  simp only [Bool.and_eq_true, decide_eq_true_eq] at h
  obtain ⟨⟨h1, h2⟩, h3, h4⟩ := h
  have d1 : decide (ag < 1) = false := by simp; omega
  have d2 : decide (4 < ag) = false := by simp; omega
  have d3 : decide (jobs < 1) = false := by simp; omega
  have d4 : decide (8 < jobs) = false := by simp; omega
  obtain ⟨B, hB⟩ : ∃ B, w.heap.size = B := ⟨_, rfl⟩
  unfold cfC
  have fA : Fr noB w (w.alloc (.cells #[.int .i64 ag, b, l, .int .i64 jobs, sd, bu, ra] 31)) := (Fr.refl _ _).alloc _
  have bA := Blk.new w 31 [.int .i64 ag, b, l, .int .i64 jobs, sd, bu, ra]
  have hsA : (w.alloc (.cells #[.int .i64 ag, b, l, .int .i64 jobs, sd, bu, ra] 31)).heap.size = B + 1 := by rw [size_alloc, hB]
  rw [hB] at bA
  have a0 : (w.alloc (.cells #[.int .i64 ag, b, l, .int .i64 jobs, sd, bu, ra] 31)).cell? ⟨B, 0, none⟩ = some (.int .i64 ag) := bA.cell 0
  have a3 : (w.alloc (.cells #[.int .i64 ag, b, l, .int .i64 jobs, sd, bu, ra] 31)).cell? ⟨B, 3, none⟩ = some (.int .i64 jobs) := bA.cell 3
  clear h1 h2 h3 h4 bA
  go_enter Tryz.func6, Tryz.ntmps6
  go_upto_region 1 with fail
  try rw [hB]
  generalize hw1 : (w.alloc (.cells #[.int .i64 ag, b, l, .int .i64 jobs, sd, bu, ra] 31)) = w1 at *
  have f2 : Fr noB w1 (w1.alloc (.map #[] 0)) := (Fr.refl _ _).alloc _
  have m2 : Mp Tryz.prog 3 klI mkN (w1.alloc (.map #[] 0)) (B + 1) 0 ([] : List (Int × NJ)) := by have := Mp.made (P := Tryz.prog) (K := 3) (kl := klI) (mk := mkN) w1; rwa [hsA] at this
  have hs2 : (w1.alloc (.map #[] 0)).heap.size = B + 2 := by rw [size_alloc, hsA]
  have f3 : Fr noB (w1.alloc (.map #[] 0)) ((w1.alloc (.map #[] 0)).alloc (.cells #[.int .i64 ag, .int .i64 jobs, .map (some (B + 1)), .int .i64 0, .int .i64 0] 74)) := (Fr.refl _ _).alloc _
  have b3 := Blk.new (w1.alloc (.map #[] 0)) 74 [.int .i64 ag, .int .i64 jobs, .map (some (B + 1)), .int .i64 0, .int .i64 0]
  rw [hs2] at b3
  have m3 := m2.fr f3 (fun q => q)
  have fz := (fA.seqN f2).seqN f3
  have hco : Co ((w1.alloc (.map #[] 0)).alloc (.cells #[.int .i64 ag, .int .i64 jobs, .map (some (B + 1)), .int .i64 0, .int .i64 0] 74)) (B + 2) (B + 1) noB (CS.new ag jobs) :=
    ⟨b3, m3, fun e he => (by cases he), ⟨fun q => q, fun q => q, fun e he => (by cases he)⟩, ⟨by omega, fun e he => (by cases he)⟩, fun g hg => hg.elim, hwf⟩
  have hmm := @run_makeMap Tryz.prog
  replace hco := Lib.hid hco
  replace fz := Lib.hid fz
  replace hwf := Lib.hid hwf
  replace hB := Lib.hid hB
  replace hs2 := Lib.hid hs2
  clear b3 m2 m3 f2 f3 fA hw1
  go_wp2_with fail
  try rw [hsA]
  go_ret2
  refine ⟨B + 2, B + 1, ?_, by have := hB.out; omega, by have := hB.out; omega, ?_, ?_⟩
  · rfl
  · exact hco.out
  · exact fz.out
set_option maxHeartbeats 2000000 in
theorem new_co_no (ag jobs : Int) (b l sd bu ra : Value) (w : World) (h : mayCo ag jobs = false) :
    Calls Tryz.prog 6 #[.agg (cfC ag jobs b l sd bu ra).toArray] w fun e w' => e = .returned (.tuple #[.pointer none, .int .i64 1]) ∧ Fr noB w w' := by
  unfold cfC
  have fA : Fr noB w (w.alloc (.cells #[.int .i64 ag, b, l, .int .i64 jobs, sd, bu, ra] 31)) := (Fr.refl _ _).alloc _
  have bA := Blk.new w 31 [.int .i64 ag, b, l, .int .i64 jobs, sd, bu, ra]
  obtain ⟨B, hB⟩ : ∃ B, w.heap.size = B := ⟨_, rfl⟩
  rw [hB] at bA
  have a0 : (w.alloc (.cells #[.int .i64 ag, b, l, .int .i64 jobs, sd, bu, ra] 31)).cell? ⟨B, 0, none⟩ = some (.int .i64 ag) := bA.cell 0
  have a3 : (w.alloc (.cells #[.int .i64 ag, b, l, .int .i64 jobs, sd, bu, ra] 31)).cell? ⟨B, 3, none⟩ = some (.int .i64 jobs) := bA.cell 3
  replace fA := Lib.hid fA
  clear bA
  by_cases h1 : 1 ≤ ag
  · have d1 : decide (ag < 1) = false := by simp; omega
    by_cases h2 : ag ≤ 4
    · have d2 : decide (4 < ag) = false := by simp; omega
      by_cases h3 : 1 ≤ jobs
      · have d3 : decide (jobs < 1) = false := by simp; omega
        have h4 : ¬ jobs ≤ 8 := fun q => by unfold mayCo at h; simp [h1, h2, h3, q] at h
        have d4 : decide (8 < jobs) = true := by simp; omega
        clear h h1 h2 h3 h4
        go_enter Tryz.func6, Tryz.ntmps6
        go_upto_region 1 with fail
        try rw [hB]
        generalize (w.alloc (.cells #[.int .i64 ag, b, l, .int .i64 jobs, sd, bu, ra] 31)) = w1 at *
        go_wp2_with fail
        go_ret2
        exact ⟨rfl, fA.out⟩
      · have d3 : decide (jobs < 1) = true := by simp; omega
        clear h h1 h2 h3
        go_enter Tryz.func6, Tryz.ntmps6
        go_upto_region 1 with fail
        try rw [hB]
        generalize (w.alloc (.cells #[.int .i64 ag, b, l, .int .i64 jobs, sd, bu, ra] 31)) = w1 at *
        go_wp2_with fail
        go_ret2
        exact ⟨rfl, fA.out⟩
    · have d2 : decide (4 < ag) = true := by simp; omega
      clear h h1 h2
      go_enter Tryz.func6, Tryz.ntmps6
      go_upto_region 1 with fail
      try rw [hB]
      generalize (w.alloc (.cells #[.int .i64 ag, b, l, .int .i64 jobs, sd, bu, ra] 31)) = w1 at *
      go_wp2_with fail
      go_ret2
      exact ⟨rfl, fA.out⟩
  · have d1 : decide (ag < 1) = true := by simp; omega
    clear h h1
    go_enter Tryz.func6, Tryz.ntmps6
    go_upto_region 1 with fail
    try rw [hB]
    generalize (w.alloc (.cells #[.int .i64 ag, b, l, .int .i64 jobs, sd, bu, ra] 31)) = w1 at *
    go_wp2_with fail
    go_ret2
    exact ⟨rfl, fA.out⟩
end Go.Proofs.YtidcoddefebdpaaGreat
end

section
set_option linter.unusedVariables false
set_option linter.unusedSimpArgs false
set_option maxRecDepth 100000
set_option maxRecDepth 100000
namespace Go.Proofs.YtidcoddefebdpaaGreat
open Go.RowKit Go Go.Maps Go.Lib

/-- what is said: a job's outs, or nothing -/
def OutP (B : Nat) (w : World) (u : Value) : Option JE → Prop
  | none => u = .slice none 0 0
  | some e => ∃ pv, w.ownsRow B 76 2 u (e.j.zg pv).length (zgC (e.j.zg pv)) ∧ (e.j.ph = 2 → RdPs w pv (e.j.psl e.X e.j.all))
def CoTo (w w' : World) (c bm : Nat) (U : Nat → Prop) (C C' : CS) : Prop := ∃ U', Co w' c bm U' C' ∧ (∀ g, U' g → U g ∨ w.heap.size ≤ g) ∧ Fr (coS c bm C) w w'
theorem CoTo.same {w w' : World} {c bm : Nat} {U : Nat → Prop} {C : CS} (h : Co w c bm U C) (f : Fr noB w w') : CoTo w w' c bm U C C := ⟨U, h.frN f, fun g hg => Or.inl hg, f.mono (fun _ _ q => q.elim)⟩
theorem wrapS {z : Int} (h0 : 0 ≤ z) (h1 : z ≤ 2000000000) : wrap64 z = z := IntWalk.wrap64_in _ (by omega)
theorem Co.setRf {w : World} {c bm : Nat} {U : Nat → Prop} {C : CS} (h : Co w c bm U C) (x : Int) : Co (w.setCell ⟨c, 4, none⟩ (.int .i64 x)) c bm U { C with rf := x } := by
  have f : Fr (onlyB c) w (w.setCell ⟨c, 4, none⟩ (.int .i64 x)) := (Fr.refl _ _).store rfl
  have hb := h.blk.set 4 (.int .i64 x)
  simp only [List.set_cons_zero, List.set_cons_succ] at hb
  exact ⟨hb, h.mp.fr f (fun q => h.ap.1 q.symm), fun e he => (h.jobs e he).fr f (fun q => (h.ap.2 e he).1 q) (fun g hg q => h.nu.1 (by unfold onlyB at q; rw [← q]; exact hg)), h.nu, h.ap, fun g hg => Nat.lt_of_lt_of_le (h.ul g hg) f.size, ⟨h.wf.a1, h.wf.a4, h.wf.m1, h.wf.m8, h.wf.len, h.wf.nt, h.wf.np, h.wf.nn, h.wf.nl, h.wf.inv, h.wf.l0⟩⟩
theorem bT_facts {a t c : Int} (h : bTrigger a t c = true) : 0 ≤ a ∧ a ≤ 3 ∧ 1 ≤ t ∧ t ≤ 65535 := by
  unfold bTrigger inB at h
  simp only [Bool.and_eq_true, decide_eq_true_eq] at h
  omega
theorem begin_no1 {C : CS} {a t c : Int} {pn : Nat} (h : C.ag ≤ a ∨ (C.at t).isSome = true) : C.begin a t c pn = (C, none) := by unfold CS.begin; rw [if_pos h]
theorem begin_no2 {C : CS} {a t c : Int} {pn : Nat} (h : ¬ (C.ag ≤ a ∨ (C.at t).isSome = true)) (h2 : C.mo ≤ C.Q.length) : C.begin a t c pn = ({ C with rf := C.rf + 1 }, none) := by unfold CS.begin; rw [if_neg h, if_pos h2]
def JE.new (C : CS) (a t c : Int) (pn : Nat) : JE := ⟨pn, C.la + 1, JS.new (C.la + 1) t c C.ag.toNat a.toNat, fun _ => []⟩
theorem begin_yes {C : CS} {a t c : Int} {pn : Nat} (h : ¬ (C.ag ≤ a ∨ (C.at t).isSome = true)) (h2 : ¬ C.mo ≤ C.Q.length) : C.begin a t c pn = ({ C with la := C.la + 1, Q := C.Q ++ [JE.new C a t c pn] }, some (JE.new C a t c pn)) := by unfold CS.begin; rw [if_neg h, if_neg h2]; rfl
theorem new_tr (C : CS) (a t c : Int) (pn : Nat) : (JE.new C a t c pn).j.tr = t := (upd_two _ _ _ |> fun e => (by unfold JS.two at e; simp only [Prod.mk.injEq] at e; exact e.1))
/-- a job more -/
theorem Co.more {w w1 w2 w3 : World} {c bm : Nat} {U : Nat → Prop} {C : CS} (h : Co w c bm U C) {a t cl : Int} {p : Nat} (f1 : Fr noB w w1) (hp : w.heap.size ≤ p) (hj : ∀ L, JG w1 p L (JS.new (C.la + 1) t cl C.ag.toNat a.toNat) (fun _ => []))
    (hn1 : ¬ (C.ag ≤ a ∨ (C.at t).isSome = true)) (hn2 : ¬ C.mo ≤ C.Q.length)
    (hb : Blk w2 c 74 [.int .i64 C.ag, .int .i64 C.mo, .map (some bm), .int .i64 (C.la + 1), .int .i64 C.rf]) (f2 : Fr (onlyB c) w1 w2)
    (hm : Mp Tryz.prog 3 klI mkN w3 bm (C.Q.length + 1) (withKey (C.Q.map JE.kv) t (C.la + 1, some p))) (f3 : Fr (onlyB bm) w2 w3) :
    Co w3 c bm U (C.begin a t cl p).1 ∧ (C.begin a t cl p).2 = some (JE.new C a t cl p) ∧ Fr (coS c bm C) w w3 := by
  have hlt := h.lt
  have hpne : ∀ e ∈ C.Q, e.p ≠ p := fun e he q => by have := hlt e.p (Or.inl (Or.inr (Or.inr ⟨e, he, rfl⟩))); omega
  have hwf := h.wf.begin a t cl p hpne
  have hcl := hlt c (Or.inl (Or.inl rfl))
  have hbl := hlt bm (Or.inl (Or.inr (Or.inl rfl)))
  have f13 : Fr (fun g => g = c ∨ g = bm) w1 w3 := f2.trans f3 (fun _ _ q => Or.inl q) (fun _ _ q => Or.inr q)
  rw [begin_yes hn1 hn2] at hwf ⊢
  have hnone : C.at t = none := by
    cases hq : C.at t with
    | none => rfl
    | some e => exact absurd (Or.inr (by rw [hq]; rfl)) hn1
  have hw : without (C.Q.map JE.kv) t = C.Q.map JE.kv := by
    unfold without
    rw [List.filter_eq_self]
    intro q hq
    obtain ⟨e, he, rfl⟩ := List.mem_map.1 hq
    have := at_none hnone e he
    exact decide_eq_true this
  refine ⟨⟨f3.blk hb (fun q => h.ap.1 q), ?_, fun e he => ?_, ⟨h.nu.1, h.nu.2.1, fun e he => ?_⟩, ⟨h.ap.1, fun e he => ?_⟩, fun g hg => ?_, hwf⟩, rfl, ?_⟩
  · have h1 : (withKey (C.Q.map JE.kv) t (C.la + 1, some p)).Perm ((C.Q ++ [JE.new C a t cl p]).map JE.kv) := by
      unfold withKey
      rw [hw, List.map_append]
      have : JE.kv (JE.new C a t cl p) = (t, (C.la + 1, some p)) := by unfold JE.kv; rw [new_tr]; rfl
      rw [List.map_singleton, this]
      exact List.perm_append_comm (l₁ := [(t, (C.la + 1, some p))])
    have := hm.perm h1
    show Mp _ _ _ _ _ _ (C.Q ++ [_]).length _
    rw [List.length_append]
    exact this
  · rcases List.mem_append.1 he with he | he
    · have hS := h.ap.2 e he
      exact ((h.jobs e he).frN f1).fr f13 (fun q => by rcases q with q | q <;> simp_all) (fun g hg q => by rcases q with q | q <;> (subst q; first | exact h.nu.1 hg | exact h.nu.2.1 hg))
    · obtain rfl := List.mem_singleton.1 he
      exact (hj U).fr f13 (fun q => by have q' : p = c ∨ p = bm := q; omega) (fun g hg q => by rcases q with q | q <;> (subst q; first | exact h.nu.1 hg | exact h.nu.2.1 hg))
  · rcases List.mem_append.1 he with he | he
    · exact h.nu.2.2 e he
    · obtain rfl := List.mem_singleton.1 he
      intro q
      have q' : U p := q
      have := h.ul p q'
      omega
  · rcases List.mem_append.1 he with he | he
    · exact h.ap.2 e he
    · obtain rfl := List.mem_singleton.1 he
      show p ≠ c ∧ p ≠ bm
      omega
  · have := h.ul g hg
    have := f1.size
    have := f13.size
    omega
  · exact f1.trans f13 (fun _ _ q => q.elim) (fun i _ q => by rcases q with q | q; exact Or.inl q; exact Or.inr (Or.inl q))

/-- what a call says, and what becomes of the coordinator (f: by where a new job lies) -/
def SayPost (e : Ending) (w w' : World) (c bm : Nat) (U : Nat → Prop) (C : CS) (f : Nat → CS × Option JE) : Prop := ∃ u pn, e = .returned u ∧ w.heap.size ≤ pn ∧ OutP w.heap.size w' u (f pn).2 ∧ CoTo w w' c bm U C (f pn).1
theorem SayPost.no {w w' : World} {c bm : Nat} {U : Nat → Prop} {C : CS} {f : Nat → CS × Option JE} (hf : ∀ pn, f pn = (C, none)) (h : Co w c bm U C) (fr : Fr noB w w') : SayPost (.returned (.slice none 0 0)) w w' c bm U C f :=
  ⟨_, w.heap.size, rfl, Nat.le_refl _, by rw [hf]; rfl, by rw [hf]; exact CoTo.same h fr⟩
set_option maxHeartbeats 8000000 in
theorem begin_co (c bm : Nat) (U : Nat → Prop) (C : CS) (a t cl : Int) (w : World) (h : Co w c bm U C) (hb : bTrigger a t cl = true) (hla : C.la < 1073741824) (hrf : 0 ≤ C.rf ∧ C.rf < 1000000000) :
    Calls Tryz.prog 53 #[.pointer (some ⟨c, 0, none⟩), .agg #[.int .i64 a, .int .i64 t, .int .i64 cl]] w fun e w' => SayPost e w w' c bm U C (C.begin a t cl) := by
  obtain ⟨ha0, ha3, ht1, ht2⟩ := bT_facts hb
  have okt : okI t := okI_of (by omega) (by omega)
  have hl0 := h.wf.l0
  have hag := h.wf.a4
  have hw1 := wrapS (z := C.la + 1) (by omega) (by omega)
  have hw2 := wrapS (z := C.rf + 1) (by omega) (by omega)
  have hw3 : IntKind.i64.wrap (C.la + 1) = C.la + 1 := by rw [IntKind.wrap_i64]; omega
  have hof := fun w' (f : Fr noB w w') => of_co c bm U C t w' (h.frN f) okt
  have fX : Fr noB w (w.alloc (.cells #[.int .i64 a, .int .i64 t, .int .i64 cl] 66)) := (Fr.refl _ _).alloc _
  have bX := Blk.new w 66 [.int .i64 a, .int .i64 t, .int .i64 cl]
  obtain ⟨gX, hgX⟩ : ∃ g, w.heap.size = g := ⟨_, rfl⟩
  rw [hgX] at bX
  have hlt := h.lt
  have hcX : c < gX := by rw [← hgX]; exact hlt c (Or.inl (Or.inl rfl))
  have hbX : bm < gX := by rw [← hgX]; exact hlt bm (Or.inl (Or.inr (Or.inl rfl)))
  have hco := fun w' (f : Fr noB w w') => h.frN f
  replace h := Lib.hid h
  replace hlt := Lib.hid hlt
  replace hco := Lib.hid hco
  replace hof := Lib.hid hof
  replace hb := Lib.hid hb
  replace okt := Lib.hid okt
  replace hcX := Lib.hid hcX
  replace hbX := Lib.hid hbX
  go_enter Tryz.func53, Tryz.ntmps53
  go_upto_region 1 with fail
  try rw [hgX]
  replace hgX := Lib.hid hgX
  generalize (w.alloc (.cells #[.int .i64 a, .int .i64 t, .int .i64 cl] 66)) = wX at *
  have y0 : wX.cell? ⟨gX, 0, none⟩ = some (.int .i64 a) := bX.cell 0
  have y1 : wX.cell? ⟨gX, 1, none⟩ = some (.int .i64 t) := bX.cell 1
  have HX := hco.out wX fX
  have d0 : wX.cell? ⟨c, 0, none⟩ = some (.int .i64 C.ag) := HX.blk.cell 0
  replace HX := Lib.hid HX
  replace bX := Lib.hid bX
  replace fX := Lib.hid fX
  by_cases h1 : C.ag ≤ a
  · have e1 : decide (C.ag ≤ a) = true := decide_eq_true h1
    replace h1 := Lib.hid h1
    go_quiet (fail)
    go_wp2_with fail
    go_ret
    exact SayPost.no (fun pn => begin_no1 (Or.inl h1.out)) h.out (fX.out.drewN _)
  · have e1 : decide (C.ag ≤ a) = false := decide_eq_false h1
    cases hat : C.at t with
    | some e =>
      have hofs : ∀ nq, Calls Tryz.prog 17 #[.pointer (some ⟨c, 0, none⟩), .int .i64 t] (wX.drewN nq) fun e' w' => e' = .returned (.pointer (some ⟨e.p, 0, none⟩)) ∧ w' = wX.drewN nq := fun nq => by
        have := hof.out _ (fX.out.drewN nq)
        rw [hat] at this
        exact this
      have hno := fun pn => begin_no1 (C := C) (a := a) (t := t) (c := cl) (pn := pn) (Or.inr (by rw [hat]; rfl))
      replace hofs := Lib.hid hofs
      replace hno := Lib.hid hno
      replace h1 := Lib.hid h1
      replace hat := Lib.hid hat
      go_quiet ((go_at_call 17; exact Calls.quiet_of_same (hofs.out _)))
      go_wp2_with fail
      go_ret
      exact SayPost.no hno.out h.out (fX.out.drewN _)
    | none =>
      have hofs : ∀ nq, Calls Tryz.prog 17 #[.pointer (some ⟨c, 0, none⟩), .int .i64 t] (wX.drewN nq) fun e' w' => e' = .returned (.pointer none) ∧ w' = wX.drewN nq := fun nq => by
        have := hof.out _ (fX.out.drewN nq)
        rw [hat] at this
        exact this
      have hn1 : ¬ (C.ag ≤ a ∨ (C.at t).isSome = true) := by rw [hat]; simp; omega
      replace hofs := Lib.hid hofs
      replace hn1 := Lib.hid hn1
      replace hat := Lib.hid hat
      go_quiet ((go_at_call 17; exact Calls.quiet_of_same (hofs.out _)))
      have f1 := fX.out.drewN nq
      have b1 := bX.out.drewN nq
      have H1 := hco.out _ f1
      generalize wX.drewN nq = w1 at *
      clear y0 y1 d0 hofs HX
      have c2 : w1.cell? ⟨c, 2, none⟩ = some (.map (some bm)) := H1.blk.cell 2
      have c1 : w1.cell? ⟨c, 1, none⟩ = some (.int .i64 C.mo) := H1.blk.cell 1
      have hml : ∀ nq, _ := fun nq => (H1.frN ((Fr.refl noB w1).drewN nq)).mp.run_len Tryz.underlying72
      simp only [List.length_map] at hml
      obtain ⟨N, hN⟩ : ∃ N, C.Q.length = N := ⟨_, rfl⟩
      simp only [hN] at hml
      by_cases h2 : C.mo ≤ C.Q.length
      · have e2 : decide (C.mo ≤ (N : Int)) = true := decide_eq_true (by rw [← hN]; exact h2)
        replace h2 := Lib.hid h2
        replace hN := Lib.hid hN
        replace H1 := Lib.hid H1
        replace b1 := Lib.hid b1
        go_wp2_with fail
        go_quiet (fail)
        have H2 := H1.out.frN ((Fr.refl noB w1).drewN nq)
        have f2 := f1.drewN nq
        generalize w1.drewN nq = w2 at *
        have k4 : w2.cell? ⟨c, 4, none⟩ = some (.int .i64 C.rf) := H2.blk.cell 4
        have z4 := H2.blk.frozen 4
        have H3 := Lib.hid (H2.setRf (C.rf + 1))
        have f3 := Lib.hid (f2.trans ((Fr.refl (coS c bm C) w2).store (g := c) (i := 4) (v := .int .i64 (C.rf + 1)) (Or.inl rfl)) (U := coS c bm C) (fun _ _ q => q.elim) (fun _ _ q => q))
        clear c1 c2 hml H2 H1 f2 f1 b1
        replace h1 := ()
        go_wp2_with fail
        go_ret
        refine ⟨_, w.heap.size, rfl, Nat.le_refl _, ?_, ?_⟩
        · rw [begin_no2 hn1.out h2.out]; rfl
        · rw [begin_no2 hn1.out h2.out]; exact ⟨U, H3.out, fun g hg => Or.inl hg, f3.out⟩
      · have e2 : decide (C.mo ≤ (N : Int)) = false := decide_eq_false (by rw [← hN]; exact h2)
        replace h2 := Lib.hid h2
        replace hN := Lib.hid hN
        replace H1 := Lib.hid H1
        replace b1 := Lib.hid b1
        go_wp2_with fail
        go_quiet (fail)
        have H2 := H1.out.frN ((Fr.refl noB w1).drewN nq)
        have f2 := f1.drewN nq
        have b2 := b1.out.drewN nq
        generalize w1.drewN nq = w2 at *
        obtain ⟨A, hA⟩ : ∃ A : Nat, C.ag = A := ⟨C.ag.toNat, by omega⟩
        obtain ⟨q, hq⟩ : ∃ q : Nat, a = q := ⟨a.toNat, by omega⟩
        have hS : ∀ w', Fr noB w2 w' → (w'.cell? ⟨c, 3, none⟩ = some (.int .i64 C.la) ∧ w'.cell? ⟨c, 0, none⟩ = some (.int .i64 (A : Int))) ∧ w'.cell? ⟨gX, 0, none⟩ = some (.int .i64 (q : Int)) ∧ w'.cell? ⟨gX, 1, none⟩ = some (.int .i64 t) ∧ w'.cell? ⟨gX, 2, none⟩ = some (.int .i64 cl) := fun w' f => by
          have hc := (H2.frN f).blk
          have hg := f.blk b2 (fun q => q)
          rw [hA] at hc
          rw [hq] at hg
          exact ⟨⟨hc.cell 3, hc.cell 0⟩, hg.cell 0, hg.cell 1, hg.cell 2⟩
        have hnew := fun w' => new_any (C.la + 1) t cl A q w' (by rw [← hq]; exact hb.out) (by omega) (by omega) (by omega) (by omega)
        replace hS := Lib.hid hS
        replace hnew := Lib.hid hnew
        replace H2 := Lib.hid H2
        replace b2 := Lib.hid b2
        replace f2 := Lib.hid f2
        replace hA := Lib.hid hA
        replace hq := Lib.hid hq
        clear c1 c2 hml H1 f1 b1
        replace h1 := ()
        go_wp2_with fail
        go_cut [5] from 37 to 47 (fun v5 wx => ∃ p, v5 = .pointer (some ⟨p, 0, none⟩) ∧ Hid (w2.heap.size ≤ p) ∧ Hid (∀ L, JG wx p L (JS.new (C.la + 1) t cl A q) (fun _ => [])) ∧ Fr noB w2 wx)
        case first =>
          go_region_held3 (fun w' => (w'.cell? ⟨c, 3, none⟩ = some (.int .i64 C.la) ∧ w'.cell? ⟨c, 0, none⟩ = some (.int .i64 (A : Int))) ∧ w'.cell? ⟨gX, 0, none⟩ = some (.int .i64 (q : Int)) ∧ w'.cell? ⟨gX, 1, none⟩ = some (.int .i64 t) ∧ w'.cell? ⟨gX, 2, none⟩ = some (.int .i64 cl))
            (first | exact hS.out _ fq | exact hS.out _ ((Fr.refl noB _).drewN 1) | fail)
            (first | (go_at_call 71; refine (hnew.out _).mono ?_; rintro e w5 ⟨p, rfl, hp, hj, f5⟩; have fq := ((Fr.refl noB w2).drewN 1).seqN f5) | fail)
          all_goals (
            go_wp2_with fail
            go_meet
            exact ⟨p, rfl, Lib.hid hp, Lib.hid hj, fq⟩)
        case rest =>
          obtain ⟨p, rfl, hp, hj, fc⟩ := hcut
          have f02 := f2.out.seqN fc
          have Hc := H2.out.frN fc
          have bc := fc.blk b2.out (fun q => q)
          have k3 : wc.cell? ⟨c, 3, none⟩ = some (.int .i64 C.la) := Hc.blk.cell 3
          have z3 := Hc.blk.frozen 3
          have hbl := Hc.blk.set 3 (.int .i64 (C.la + 1))
          simp only [List.set_cons_zero, List.set_cons_succ] at hbl
          have s3 : Fr (onlyB c) wc (wc.setCell ⟨c, 3, none⟩ (.int .i64 (C.la + 1))) := (Fr.refl _ _).store rfl
          have bc3 := s3.blk bc (fun e => by have := hcX.out; unfold onlyB at e; omega)
          have hm3 := Hc.mp.fr s3 (fun e => Hc.ap.1 e.symm)
          replace Hc := Lib.hid Hc
          replace bc := Lib.hid bc
          replace hbl := Lib.hid hbl
          replace s3 := Lib.hid s3
          replace bc3 := Lib.hid bc3
          replace hm3 := Lib.hid hm3
          replace f02 := Lib.hid f02
          replace fc := Lib.hid fc
          clear hS hnew
          go_upto_region 10 with fail
          generalize wc.setCell ⟨c, 3, none⟩ (.int .i64 (C.la + 1)) = w3 at *
          have m2 : w3.cell? ⟨c, 2, none⟩ = some (.map (some bm)) := hbl.out.cell 2
          have m3 : w3.cell? ⟨c, 3, none⟩ = some (.int .i64 (C.la + 1)) := hbl.out.cell 3
          have m1 : w3.cell? ⟨gX, 1, none⟩ = some (.int .i64 t) := bc3.out.cell 1
          go_still_tail 12, (by kernel_rfl)
          change wpList _ _ _ _ _ w3.drew
          have fd : Fr noB w3 w3.drew := (Fr.refl _ _).drew
          have hbl4 := fd.blk hbl.out (fun q => q)
          have hm4 := hm3.out.fr fd (fun q => q)
          have s4 := Lib.hid (s3.out.seqN fd)
          generalize w3.drew = w4 at *
          have hlen4 : (C.Q.map JE.kv).length ≤ 1000 := by rw [List.length_map]; have := h.out.wf.len; have := h.out.wf.m8; omega
          have hnc := hm4.length
          have hQ : C.Q.length < maxLen := by unfold maxLen; have := h.out.wf.len; have := h.out.wf.m8; omega
          replace hlen4 := Lib.hid hlen4
          replace hnc := Lib.hid hnc
          clear m1 m2 m3 fd hbl hm3 s3 bc3 k3 z3
          replace hbl4 := Lib.hid hbl4
          go_wp2_with (first
            | (at_mapUpdate; go_loud (refine wpList_put_mp _ rfl _ _ _ 72 rfl keyIJ Tryz.underlying72 mkN_inj hm4 hQ t (C.la + 1, some p) okt.out rfl rfl rfl ?_); intro w6 m6 f6; replace m6 := Lib.hid m6; replace f6 := Lib.hid f6; clear hm4)
            | fail)
          have hmore := Co.more (cl := cl) (a := a) (p := p) h.out f02.out (by have := hp.out; have := f2.out.size; omega) (fun L => by have := hj.out L; rw [show C.ag.toNat = A by have := hA.out; omega, show a.toNat = q by have := hq.out; omega]; exact this) hn1.out (by have := h2.out; omega) hbl4.out s4.out m6.out f6.out
          obtain ⟨H6, hso, fr6⟩ := hmore
          have he : JE.new C a t cl p ∈ (C.begin a t cl p).1.Q := by
            rw [begin_yes hn1.out (by have := h2.out; omega)]
            exact List.mem_append_right _ (List.mem_singleton.2 rfl)
          have hout := pouts_any p U (JE.new C a t cl p).j (JE.new C a t cl p).X w6 (H6.jobs _ he) (H6.wf.inv _ he)
          replace hout := Lib.hid hout
          replace H6 := Lib.hid H6
          replace hso := Lib.hid hso
          replace fr6 := Lib.hid fr6
          clear he
          go_wp2_with fail
          go_fit hout.out
          rintro e w7 ⟨u, pv, rfl, o7, r7, f7⟩
          replace o7 := Lib.hid o7
          replace r7 := Lib.hid r7
          clear hout
          go_wp2_with fail
          go_ret
          refine ⟨u, p, rfl, by have := hp.out; have := f2.out.size; omega, ?_, U, H6.out.frN f7, fun g hg => Or.inl hg, fr6.out.seqN f7⟩
          rw [hso.out]
          exact ⟨pv, ownsRow_mono o7.out fr6.out.size, r7.out⟩
end Go.Proofs.YtidcoddefebdpaaGreat
end

section
set_option linter.unusedVariables false
set_option linter.unusedSimpArgs false
set_option maxRecDepth 100000
set_option maxRecDepth 100000
namespace Go.Proofs.YtidcoddefebdpaaGreat
open Go.RowKit Go Go.Maps Go.Lib

theorem equal_any (v u : Value) (xs ys : List Int) (w : World) (hv : RdI w v xs) (hu : RdI w u ys) (hl : xs.length ≤ 1000000) (hl2 : ys.length ≤ 1000000) :
    Calls Tryz.prog 56 #[v, u] w fun e w' => e = .returned (.bool (decide (xs = ys))) ∧ Fr noB w w' := by
  obtain ⟨a, c, rfl, h1, h2, h3⟩ := hv
  obtain ⟨b, d, rfl, k1, k2, k3⟩ := hu
  by_cases hlen : xs.length = ys.length
  · by_cases h0 : xs.length = 0
    · have hx : xs = [] := List.eq_nil_of_length_eq_zero h0
      have hy : ys = [] := List.eq_nil_of_length_eq_zero (by omega)
      subst hx hy
      refine (Tryz.slices_Equal_int_empty a b c _ d w (by simp)).mono ?_
      rintro e w' ⟨rfl, rfl⟩
      exact ⟨rfl, Fr.refl _ _⟩
    · obtain ⟨g, o, rfl, _⟩ := h3 0 (by omega)
      obtain ⟨g2, o2, rfl, _⟩ := k3 0 (by omega)
      have hc1 : ∀ j, j < xs.length → w.cell? ⟨g, o + j, none⟩ = some (.int .i64 (xs.getD j 0)) := fun j hj => by
        obtain ⟨g', o', e2, h4⟩ := h3 j hj
        cases e2
        exact h4
      have hc2 : ∀ j, j < ys.length → w.cell? ⟨g2, o2 + j, none⟩ = some (.int .i64 (ys.getD j 0)) := fun j hj => by
        obtain ⟨g', o', e2, h4⟩ := k3 j hj
        cases e2
        exact h4
      refine (Tryz.slices_Equal_int g o xs.length c g2 o2 ys.length d xs ys w (Nat.le_refl _) (Nat.le_refl _) (by omega) (by omega) hc1 hc2).mono ?_
      rintro e w' ⟨rfl, q, rfl⟩
      rw [List.take_length, List.take_length]
      refine ⟨?_, (Fr.refl _ _).drewN _⟩
      congr 2
      rw [Bool.eq_iff_iff]
      simp
  · refine (Tryz.slices_Equal_int_lens a b _ c _ d w hlen).mono ?_
    rintro e w' ⟨rfl, rfl⟩
    refine ⟨?_, Fr.refl _ _⟩
    rw [decide_eq_false (fun e => hlen (by rw [e]))]
theorem tj_ok {m : Ms} (h : m.ok = true) : 1 ≤ m.tj.1 ∧ m.tj.1 ≤ 65535 := by
  cases m with
  | trigger a t c => have := bT_facts h; exact ⟨this.2.2.1, this.2.2.2⟩
  | pinned p =>
    have h' : pinB p.a p.t p.j p.n p.cr = true := h
    unfold pinB inB at h'
    simp only [Bool.and_eq_true, decide_eq_true_eq] at h'
    show 1 ≤ p.t ∧ p.t ≤ 65535
    omega
  | chunk a t j i n sp =>
    have h' : chunkB a t j i n sp = true := h
    unfold chunkB inB at h'
    simp only [Bool.and_eq_true, decide_eq_true_eq] at h'
    exact h'.2.1
  | manifest t j c ps =>
    have h' : manB t j c ps = true := h
    unfold manB inB at h'
    simp only [Bool.and_eq_true, decide_eq_true_eq] at h'
    exact h'.1
  | pin t j =>
    have h' : bPin t j = true := h
    unfold bPin inB at h'
    simp only [Bool.and_eq_true, decide_eq_true_eq] at h'
    show 1 ≤ t ∧ t ≤ 65535
    omega
  | gone a t j =>
    have h' : bGone a t j = true := h
    unfold bGone inB at h'
    simp only [Bool.and_eq_true, decide_eq_true_eq] at h'
    show 1 ≤ t ∧ t ≤ 65535
    omega
  | collect t j =>
    have h' : bCollect t j = true := h
    unfold bCollect inB at h'
    simp only [Bool.and_eq_true, decide_eq_true_eq] at h'
    show 1 ≤ t ∧ t ≤ 65535
    omega
  | stored t j =>
    have h' : bStored t j = true := h
    unfold bStored inB at h'
    simp only [Bool.and_eq_true, decide_eq_true_eq] at h'
    show 1 ≤ t ∧ t ≤ 65535
    omega
  | unpin t j =>
    have h' : bUnpin t j = true := h
    unfold bUnpin inB at h'
    simp only [Bool.and_eq_true, decide_eq_true_eq] at h'
    show 1 ≤ t ∧ t ≤ 65535
    omega
  | unpinned a t j =>
    have h' : bUnpinned a t j = true := h
    unfold bUnpinned inB at h'
    simp only [Bool.and_eq_true, decide_eq_true_eq] at h'
    show 1 ≤ t ∧ t ≤ 65535
    omega
theorem p_inj {C : CS} (h : C.wf) {x e : JE} (hx : x ∈ C.Q) (he : e ∈ C.Q) (hp : x.p = e.p) : x = e := by
  have key : ∀ (Q : List JE), (Q.map (·.p)).Nodup → x ∈ Q → e ∈ Q → x = e := by
    intro Q
    induction Q with
    | nil => intro _ hx; cases hx
    | cons y r ih =>
      intro hn h1 h2
      rw [List.map_cons, List.nodup_cons] at hn
      rcases List.mem_cons.1 h1 with rfl | k1
      · rcases List.mem_cons.1 h2 with rfl | k2
        · rfl
        · exact absurd (show x.p ∈ r.map (·.p) from List.mem_map.2 ⟨e, k2, hp.symm⟩) hn.1
      · rcases List.mem_cons.1 h2 with rfl | k2
        · exact absurd (show e.p ∈ r.map (·.p) from List.mem_map.2 ⟨x, k1, hp⟩) hn.1
        · exact ih hn.2 k1 k2
  exact key C.Q h.np hx he
def upU (U : Nat → Prop) (a b : World) : Nat → Prop := fun g => (U g ∨ a.heap.size ≤ g) ∧ g < b.heap.size
theorem put_mem {C : CS} {e' x : JE} (h : x ∈ (C.put e').Q) : x = e' ∨ (x ∈ C.Q ∧ x.j.tr ≠ e'.j.tr) := by
  unfold CS.put at h
  obtain ⟨y, hy, rfl⟩ := List.mem_map.1 h
  split
  · exact Or.inl rfl
  · rename_i hq; exact Or.inr ⟨hy, hq⟩
/-- a job heard a message -/
theorem Co.heard {w w' : World} {c bm : Nat} {U : Nat → Prop} {C : CS} (h : Co w c bm U C) {e : JE} (he : e ∈ C.Q) (m : Ms) (hj : JG w' e.p (fun g => U g ∨ w.heap.size ≤ g) (e.j.hearM m) (e.j.hearXM m e.X)) (f : Fr (onlyB e.p) w w') :
    Co w' c bm (upU U w w') (C.put (e.hear m)) := by
  have ht := hearM_tr e.j m
  have hlt := h.lt
  have hcl := hlt c (Or.inl (Or.inl rfl))
  have hbl := hlt bm (Or.inl (Or.inr (Or.inl rfl)))
  have hap := h.ap.2 e he
  have hf : ∀ x ∈ C.Q, x.j.tr = (e.hear m).j.tr → x = e := fun x hx h2 => tr_inj h.wf hx he (h2.trans ht.1)
  have hkv : (C.put (e.hear m)).Q.map JE.kv = C.Q.map JE.kv := put_map C (e.hear m) JE.kv (fun x hx h2 => by
    rw [hf x hx h2]
    unfold JE.kv
    rw [show (e.hear m).j.tr = e.j.tr from ht.1]
    rfl)
  have hlen : (C.put (e.hear m)).Q.length = C.Q.length := by unfold CS.put; rw [List.length_map]
  refine ⟨f.blk h.blk (fun q => hap.1 q.symm), ?_, fun x hx => ?_, ⟨fun q => ?_, fun q => ?_, fun x hx q => ?_⟩, ⟨h.ap.1, fun x hx => ?_⟩, fun g hg => hg.2, h.wf.put he rfl rfl ht.1 ht.2 (hearM_inv (h.wf.inv e he) m)⟩
  · rw [hkv, hlen]
    exact h.mp.fr f (fun q => hap.2 q.symm)
  · rcases put_mem hx with rfl | ⟨hx, hne⟩
    · exact hj.monoL (fun g hg q => ⟨q, hg⟩)
    · have hp : x.p ≠ e.p := fun q => by
        have := p_inj h.wf hx he q
        subst this
        exact hne ht.1.symm
      exact ((h.jobs x hx).fr f hp (fun g hg q => h.nu.2.2 e he (by unfold onlyB at q; rw [← q]; exact hg))).monoL (fun g hg q => ⟨Or.inl q, hg⟩)
  · rcases q.1 with q | q
    · exact h.nu.1 q
    · omega
  · rcases q.1 with q | q
    · exact h.nu.2.1 q
    · omega
  · have hx' : ∃ y ∈ C.Q, x.p = y.p := by
      rcases put_mem hx with rfl | ⟨hx, _⟩
      · exact ⟨e, he, rfl⟩
      · exact ⟨x, hx, rfl⟩
    obtain ⟨y, hy, hxy⟩ := hx'
    rw [hxy] at q
    rcases q.1 with q | q
    · exact h.nu.2.2 y hy q
    · have := hlt y.p (Or.inl (Or.inr (Or.inr ⟨y, hy, rfl⟩))); omega
  · rcases put_mem hx with rfl | ⟨hx, _⟩
    · exact hap
    · exact h.ap.2 x hx
theorem put_drop (C : CS) (e' : JE) : (C.put e').drop e'.j.tr = C.drop e'.j.tr := by
  unfold CS.put CS.drop
  congr 1
  dsimp only
  rw [List.filter_map]
  have : C.Q.filter ((fun x : JE => decide (x.j.tr ≠ e'.j.tr)) ∘ fun x => if x.j.tr = e'.j.tr then e' else x) = C.Q.filter (fun x => decide (x.j.tr ≠ e'.j.tr)) := by
    refine List.filter_congr fun x _ => ?_
    show decide ((if x.j.tr = e'.j.tr then e' else x).j.tr ≠ e'.j.tr) = _
    split
    · rename_i hq; simp [hq]
    · rfl
  rw [this]
  refine (List.map_congr_left fun x hx => ?_).trans (List.map_id _)
  have := (List.mem_filter.1 hx).2
  simp only [ne_eq, decide_eq_true_eq] at this
  rw [if_neg this]; rfl
/-- a job's entry is deleted -/
theorem Co.dropped {w w' : World} {c bm : Nat} {U : Nat → Prop} {C : CS} (h : Co w c bm U C) {t : Int} {n : Nat} (hm : Mp Tryz.prog 3 klI mkN w' bm n (without (C.Q.map JE.kv) t)) (f : Fr (onlyB bm) w w') : Co w' c bm U (C.drop t) := by
  have hs : (C.drop t).Q.Sublist C.Q := List.filter_sublist
  have hsub : ∀ x ∈ (C.drop t).Q, x ∈ C.Q := fun x hx => hs.subset hx
  have hkv : without (C.Q.map JE.kv) t = (C.drop t).Q.map JE.kv := by
    unfold without CS.drop
    rw [List.filter_map]
    rfl
  rw [hkv] at hm
  exact ⟨f.blk h.blk (fun q => h.ap.1 q), hm.tight (by rw [List.length_map]; exact Nat.le_refl _), fun x hx => (h.jobs x (hsub x hx)).fr f (fun q => (h.ap.2 x (hsub x hx)).2 q) (fun g hg q => h.nu.2.1 (by unfold onlyB at q; rw [← q]; exact hg)), ⟨h.nu.1, h.nu.2.1, fun x hx => h.nu.2.2 x (hsub x hx)⟩, ⟨h.ap.1, fun x hx => h.ap.2 x (hsub x hx)⟩, fun g hg => Nat.lt_of_lt_of_le (h.ul g hg) f.size, h.wf.drop t⟩
end Go.Proofs.YtidcoddefebdpaaGreat
end

section
set_option linter.unusedVariables false
set_option linter.unusedSimpArgs false
set_option maxRecDepth 100000
set_option maxRecDepth 100000
namespace Go.Proofs.YtidcoddefebdpaaGreat
open Go.RowKit Go Go.Maps Go.Lib

/-- is it no Trigger? -/
def NoTr : Ms → Prop
  | .trigger _ _ _ => False
  | _ => True
theorem as_noTr {v : Value} {m : Ms} {w0 : World} (h : MsW w0 v m) (hm : NoTr m) : ∀ w, (Instr.typeAssert v 46 66 true).run Tryz.prog w = .ok (.tuple #[.agg #[.int .i64 0, .int .i64 0, .int .i64 0], .bool false]) w := by
  intro w
  cases m with
  | trigger a t c => exact hm.elim
  | pin t j => obtain rfl := h; exact as_Pin_Trigger _ w
  | pinned p => obtain ⟨u, rfl, _⟩ := h; exact as_Pinned_Trigger _ w
  | gone a t j => obtain rfl := h; exact as_Gone_Trigger _ w
  | collect t j => obtain rfl := h; exact as_Collect_Trigger _ w
  | chunk a t j i n sp => obtain ⟨u, rfl, _⟩ := h; exact as_Chunk_Trigger _ w
  | manifest t j c ps => obtain ⟨u, rfl, _⟩ := h; exact as_Manifest_Trigger _ w
  | stored t j => obtain rfl := h; exact as_Stored_Trigger _ w
  | unpin t j => obtain rfl := h; exact as_Unpin_Trigger _ w
  | unpinned a t j => obtain rfl := h; exact as_Unpinned_Trigger _ w
/-- the names that a Pinned tells lie apart from the coordinator's blocks -/
def ApC (c bm : Nat) (C : CS) (m : Ms) (v : Value) : Prop := ∀ pn ua un uc, m = .pinned pn → v = mPinned pn.a pn.t pn.j pn.n (.slice ua un uc) pn.lo → pn.cr ≠ [] → ∀ g o, ua = some ⟨g, o, none⟩ → ¬ coS c bm C g
/-- what a message that is no trigger makes of the coordinator -/
def CS.other (C : CS) (m : Ms) : CS × Option JE := match C.at m.tj.1 with
  | none => (C, none)
  | some e => C.told e m
theorem hear_oth {C : CS} {m : Ms} (hm : NoTr m) (pn : Nat) (hok : m.ok = true) : C.hear m pn = C.other m := by
  unfold CS.hear CS.other
  rw [hok]
  cases m with
  | trigger a t c => exact hm.elim
  | _ => rfl
theorem put_has {C : CS} {e : JE} (he : e ∈ C.Q) (m : Ms) : e.hear m ∈ (C.put (e.hear m)).Q := by
  unfold CS.put
  refine List.mem_map.2 ⟨e, he, ?_⟩
  rw [if_pos]
  exact (hearM_tr e.j m).1.symm
theorem told_out {C : CS} {e : JE} {m : Ms} (h4 : (e.j.hearM m).ph ≠ 4) (h : ¬ ((e.j.hearM m).ph = e.j.ph ∧ (e.j.hearM m).all = e.j.all)) : C.told e m = (C.put (e.hear m), some (e.hear m)) := by
  unfold CS.told
  rw [if_neg h4, if_neg h]
theorem told_still {C : CS} {e : JE} {m : Ms} (h4 : (e.j.hearM m).ph ≠ 4) (h : (e.j.hearM m).ph = e.j.ph ∧ (e.j.hearM m).all = e.j.all) : C.told e m = (C.put (e.hear m), none) := by
  unfold CS.told
  rw [if_neg h4, if_pos h]
set_option maxHeartbeats 16000000 in
theorem take_other (c bm : Nat) (U : Nat → Prop) (C : CS) (m : Ms) (v : Value) (w : World) (h : Co w c bm U C) (hm : MsW w v m) (hn : NoTr m) (hok : m.ok = true) (hap : ApC c bm C m v) :
    Calls Tryz.prog 34 #[.pointer (some ⟨c, 0, none⟩), v] w fun e w' => SayPost e w w' c bm U C (fun _ => C.other m) := by
  have has := as_noTr hm hn
  obtain ⟨ht1, ht2⟩ := tj_ok hok
  have okt : okI m.tj.1 := okI_of (by omega) (by omega)
  have fX : Fr noB w (w.alloc (.cells #[.int .i64 0, .int .i64 0, .int .i64 0] 66)) := (Fr.refl _ _).alloc _
  have hof := fun w' (f : Fr noB w w') => of_co c bm U C m.tj.1 w' (h.frN f) okt
  have hms := fun w' (f : Fr noB w w') => of_ms v m w' (hm.frN f)
  obtain ⟨tt, htt⟩ : ∃ tt, m.tj.1 = tt := ⟨_, rfl⟩
  obtain ⟨tj, htj⟩ : ∃ tj, m.tj.2 = tj := ⟨_, rfl⟩
  rw [htt] at ht1 ht2 okt
  simp only [htt, htj] at hof hms
  have hms1 := hms _ fX
  replace hof := Lib.hid hof
  replace hms := Lib.hid hms
  replace hms1 := Lib.hid hms1
  replace hm := Lib.hid hm
  replace h := Lib.hid h
  replace htt := Lib.hid htt
  replace htj := Lib.hid htj
  replace hap := Lib.hid hap
  replace okt := Lib.hid okt
  go_enter Tryz.func34, Tryz.ntmps34
  go_wp2_with fail
  go_fit hms1.out
  rintro e w1 ⟨rfl, f1⟩
  have g1 := fX.seqN f1
  have hof1 := hof.out w1 g1
  clear hms1 fX f1 hms
  cases hat : C.at tt with
  | none =>
    rw [hat] at hof1
    have hof1' : Calls Tryz.prog 17 #[.pointer (some ⟨c, 0, none⟩), .int .i64 tt] w1 fun e w' => e = .returned (.pointer none) ∧ w' = w1 := hof1
    have hno : C.other m = (C, none) := by unfold CS.other; rw [htt.out, hat]
    replace hno := Lib.hid hno
    replace hof1' := Lib.hid hof1'
    clear hof1
    go_wp2_with fail
    go_fit hof1'.out
    rintro e w2 ⟨rfl, hw⟩
    obtain rfl := hw.symm
    go_wp2_with fail
    go_ret
    exact SayPost.no (fun _ => hno.out) h.out g1
  | some e =>
    rw [hat] at hof1
    have hof1' : Calls Tryz.prog 17 #[.pointer (some ⟨c, 0, none⟩), .int .i64 tt] w1 fun e' w' => e' = .returned (.pointer (some ⟨e.p, 0, none⟩)) ∧ w' = w1 := hof1
    obtain ⟨he, hetr⟩ := at_some hat
    have hto : C.other m = C.told e m := by unfold CS.other; rw [htt.out, hat]
    have H1 := h.out.frN g1
    have J1 := H1.jobs e he
    have hph := phase_jg e.p U e.j e.X w1 J1
    have hvi := vis_any e.p U e.j e.X w1 J1
    replace hto := Lib.hid hto
    replace hof1' := Lib.hid hof1'
    replace he := Lib.hid he
    replace hetr := Lib.hid hetr
    replace H1 := Lib.hid H1
    replace J1 := Lib.hid J1
    replace hph := Lib.hid hph
    replace hvi := Lib.hid hvi
    replace hat := Lib.hid hat
    clear hof1 hof
    go_wp2_with fail
    go_fit hof1'.out
    rintro e' w2 ⟨rfl, hw⟩
    obtain rfl := hw.symm
    clear hw hof1'
    go_wp2_with fail
    go_fit hph.out
    rintro e' w2 ⟨rfl, hw⟩
    obtain rfl := hw.symm
    clear hw
    go_wp2_with fail
    go_fit hvi.out
    rintro e' w3 ⟨vv, rfl, ov, f3⟩
    have g3 := g1.seqN f3
    have hpw1 : e.p < w1.heap.size := H1.out.lt e.p (Or.inl (Or.inr (Or.inr ⟨e, he.out, rfl⟩)))
    have H3 := H1.out.frN f3
    have hlt := H3.lt
    have hpl := hlt e.p (Or.inl (Or.inr (Or.inr ⟨e, he.out, rfl⟩)))
    have J3 := ((H3.jobs e he.out).monoL (M := fun g => U g ∨ w3.heap.size ≤ g) (fun g _ q => Or.inl q))
    have hhear := hear_ms e.p (fun g => U g ∨ w3.heap.size ≤ g) e.j e.X m v w3 J3 (fun g hg => Or.inr hg) (fun q => by
      rcases q with q | q
      · exact H3.nu.2.2 e he.out q
      · omega) (hm.out.frN g3) (fun pn ua un uc h1 h2 h3 g o h4 q => hap.out pn ua un uc h1 h2 h3 g o h4 (Or.inr (Or.inr ⟨e, he.out, q⟩)))
    replace ov := Lib.hid ov
    replace hhear := Lib.hid hhear
    replace H3 := Lib.hid H3
    replace g3 := Lib.hid g3
    clear hvi hph f3 J3 J1 H1 g1 hlt
    go_wp2_with fail
    go_fit hhear.out
    rintro e' w4 ⟨rfl, J4, f4⟩
    have H4 := H3.out.heard he.out m J4 f4
    have hph4 := phase_jg e.p _ _ _ w4 J4
    have fr4 : Fr (coS c bm C) w w4 := g3.out.trans f4 (fun _ _ q => q.elim) (fun i _ q => Or.inr (Or.inr ⟨e, he.out, q⟩))
    obtain ⟨ph, hphe⟩ : ∃ ph, (e.j.hearM m).ph = ph := ⟨_, rfl⟩
    rw [hphe] at hph4
    replace hph4 := Lib.hid hph4
    replace hphe := Lib.hid hphe
    replace H4 := Lib.hid H4
    replace J4 := Lib.hid J4
    replace f4 := Lib.hid f4
    replace fr4 := Lib.hid fr4
    clear hhear
    go_wp2_with fail
    go_fit hph4.out
    rintro e' w5 ⟨rfl, hw⟩
    obtain rfl := hw.symm
    clear hw
    have hU4 : ∀ g, upU U w3 w4 g → U g ∨ w.heap.size ≤ g := fun g hg => by
      rcases hg.1 with q | q
      · exact Or.inl q
      · exact Or.inr (by have := g3.out.size; omega)
    replace hU4 := Lib.hid hU4
    by_cases h4 : ph = 4
    · subst h4
      have hto4 : C.other m = (C.drop e.j.tr, none) := by rw [hto.out]; unfold CS.told; rw [if_pos hphe.out]
      have c2 : w4.cell? ⟨c, 2, none⟩ = some (.map (some bm)) := H4.out.blk.cell 2
      have hmp := H4.out.mp
      have hdl : Tryz.prog.follows .mixedOrders = true := by kernel_rfl
      replace hto4 := Lib.hid hto4
      go_wp2_with (first
        | (at_delete; refine wpList_del_mp _ rfl _ _ 72 3 rfl keyIJ Tryz.underlying72 hmp tt okt.out rfl rfl ?_; intro w5 m5 f5; replace m5 := Lib.hid m5; replace f5 := Lib.hid f5; clear hmp)
        | fail)
      have H5 := H4.out.dropped m5.out f5.out
      rw [show C.put (e.hear m) = C.put (e.hear m) from rfl, ← hetr.out, show e.j.tr = (e.hear m).j.tr from (hearM_tr e.j m).1.symm, put_drop, show (e.hear m).j.tr = e.j.tr from (hearM_tr e.j m).1] at H5
      have fr5 : Fr (coS c bm C) w w5 := fr4.out.trans f5.out (fun _ _ q => q) (fun i _ q => Or.inr (Or.inl q))
      replace H5 := Lib.hid H5
      replace fr5 := Lib.hid fr5
      go_wp2_with fail
      go_ret
      refine ⟨_, w.heap.size, rfl, Nat.le_refl _, ?_, ?_⟩
      · rw [hto4.out]; rfl
      · rw [hto4.out]; exact ⟨_, H5.out, hU4.out, fr5.out⟩
    · have e4 : (ph == 4) = false := by simpa using h4
      have h4' : (e.j.hearM m).ph ≠ 4 := by rw [hphe.out]; exact h4
      replace h4 := Lib.hid h4
      replace h4' := Lib.hid h4'
      by_cases hpp : ph = e.j.ph
      · have ep : (ph == e.j.ph) = true := by simpa using hpp
        have hvi4 := vis_any e.p _ _ _ w4 J4.out
        replace hpp := Lib.hid hpp
        replace hvi4 := Lib.hid hvi4
        go_wp2_with fail
        go_fit hph4.out
        rintro e' w5 ⟨rfl, hw⟩
        obtain rfl := hw.symm
        clear hw
        go_wp2_with fail
        go_fit hvi4.out
        rintro e' w5 ⟨v2, rfl, o2, f5⟩
        have ovw : w5.ownsRow w1.heap.size 3 1 vv (whichL (fun _ => true) e.j 4).length (rowV (whichL (fun _ => true) e.j 4)) := ownsRow_fr (ownsRow_fr ov.out f4.out (fun g hg q => by
          have h1 := (ov.out.lt g hg).1
          unfold onlyB at q
          omega)) f5 (fun _ _ q => q)
        have heq := equal_any v2 vv _ _ w5 (RdI.of_own o2) (RdI.of_own ovw) (by have := whichL_len (fun _ => true) (e.j.hearM m) 4; omega) (by have := whichL_len (fun _ => true) e.j 4; omega)
        have H5 := H4.out.frN f5
        have fr5 := fr4.out.seqN f5
        obtain ⟨b, hb⟩ : ∃ b, decide (whichL (fun _ => true) (e.j.hearM m) 4 = whichL (fun _ => true) e.j 4) = b := ⟨_, rfl⟩
        rw [hb] at heq
        replace heq := Lib.hid heq
        replace hb := Lib.hid hb
        replace H5 := Lib.hid H5
        replace fr5 := Lib.hid fr5
        clear o2 ovw f5 hvi4 hph4
        go_wp2_with fail
        go_fit heq.out
        rintro e' w6 ⟨rfl, f6⟩
        have H6 := H5.out.frN f6
        have fr6 := fr5.out.seqN f6
        clear heq f6
        cases b with
        | true =>
          have htoo : C.other m = (C.put (e.hear m), none) := by rw [hto.out]; exact told_still h4'.out ⟨by rw [hphe.out]; exact hpp.out, of_decide_eq_true hb.out⟩
          replace htoo := Lib.hid htoo
          replace H6 := Lib.hid H6
          replace fr6 := Lib.hid fr6
          go_wp2_with fail
          go_ret
          refine ⟨_, w.heap.size, rfl, Nat.le_refl _, ?_, ?_⟩
          · rw [htoo.out]; rfl
          · rw [htoo.out]; exact ⟨_, H6.out, hU4.out, fr6.out⟩
        | false =>
          have htoo : C.other m = (C.put (e.hear m), some (e.hear m)) := by rw [hto.out]; exact told_out h4'.out (fun q => by have := of_decide_eq_false hb.out; exact this q.2)
          replace htoo := Lib.hid htoo
          have hout := pouts_any e.p _ (e.hear m).j (e.hear m).X w6 (H6.jobs (e.hear m) (put_has he.out m)) (H6.wf.inv (e.hear m) (put_has he.out m))
          replace hout := Lib.hid hout
          replace H6 := Lib.hid H6; replace fr6 := Lib.hid fr6
          go_wp2_with fail
          go_fit hout.out
          rintro e' wz ⟨u, pv, rfl, oz, rz, fz⟩
          replace oz := Lib.hid oz
          replace rz := Lib.hid rz
          replace fz := Lib.hid fz
          clear hout
          go_wp2_with fail
          go_ret
          refine ⟨u, w.heap.size, rfl, Nat.le_refl _, ?_, ?_⟩
          · rw [htoo.out]; exact ⟨pv, ownsRow_mono oz.out fr6.out.size, rz.out⟩
          · rw [htoo.out]; exact ⟨_, H6.out.frN fz.out, hU4.out, fr6.out.seqN fz.out⟩
      · have ep : (ph == e.j.ph) = false := by simpa using hpp
        have htoo : C.other m = (C.put (e.hear m), some (e.hear m)) := by rw [hto.out]; exact told_out h4'.out (fun q => hpp (by rw [← hphe.out]; exact q.1))
        replace htoo := Lib.hid htoo
        replace hpp := Lib.hid hpp
        go_wp2_with fail
        go_fit hph4.out
        rintro e' w5 ⟨rfl, hw⟩
        obtain rfl := hw.symm
        clear hw hph4
        have hout := pouts_any e.p _ (e.hear m).j (e.hear m).X w4 (H4.out.jobs (e.hear m) (put_has he.out m)) (H4.out.wf.inv (e.hear m) (put_has he.out m))
        replace hout := Lib.hid hout
        skip
        go_wp2_with fail
        go_fit hout.out
        rintro e' wz ⟨u, pv, rfl, oz, rz, fz⟩
        replace oz := Lib.hid oz
        replace rz := Lib.hid rz
        replace fz := Lib.hid fz
        clear hout
        go_wp2_with fail
        go_ret
        refine ⟨u, w.heap.size, rfl, Nat.le_refl _, ?_, ?_⟩
        · rw [htoo.out]; exact ⟨pv, ownsRow_mono oz.out fr4.out.size, rz.out⟩
        · rw [htoo.out]; exact ⟨_, H4.out.frN fz.out, hU4.out, fr4.out.seqN fz.out⟩
theorem SayPost.eq {e : Ending} {w w' : World} {c bm : Nat} {U : Nat → Prop} {C : CS} {f g : Nat → CS × Option JE} (h : SayPost e w w' c bm U C f) (hfg : ∀ pn, f pn = g pn) : SayPost e w w' c bm U C g := by
  obtain ⟨u, pn, h1, h2, h3, h4⟩ := h
  exact ⟨u, pn, h1, h2, by rw [← hfg]; exact h3, by rw [← hfg]; exact h4⟩
set_option maxHeartbeats 4000000 in
theorem take_trig (c bm : Nat) (U : Nat → Prop) (C : CS) (a t cl : Int) (w : World) (h : Co w c bm U C) (hb : bTrigger a t cl = true) (hla : C.la < 1073741824) (hrf : 0 ≤ C.rf ∧ C.rf < 1000000000) :
    Calls Tryz.prog 34 #[.pointer (some ⟨c, 0, none⟩), mTrigger a t cl] w fun e w' => SayPost e w w' c bm U C (C.begin a t cl) := by
  have fX : Fr noB w (w.alloc (.cells #[.int .i64 a, .int .i64 t, .int .i64 cl] 66)) := (Fr.refl _ _).alloc _
  have hbg := begin_co c bm U C a t cl _ (h.frN fX) hb hla hrf
  have has := as_Trigger_Trigger
  replace hbg := Lib.hid hbg
  clear h hb hla hrf
  unfold mTrigger
  go_enter Tryz.func34, Tryz.ntmps34
  go_wp2_with fail
  go_fit hbg.out
  rintro e w1 ⟨u, pn, rfl, hp, ho, U', H, hU, fr⟩
  have hsz := fX.size
  have hout : OutP w.heap.size w1 u (C.begin a t cl pn).2 := by
    cases hq : (C.begin a t cl pn).2 with
    | none => rw [hq] at ho; exact ho
    | some e => rw [hq] at ho; obtain ⟨pv, o1, o2⟩ := ho; exact ⟨pv, ownsRow_mono o1 hsz, o2⟩
  have hfin : SayPost (.returned u) w w1 c bm U C (C.begin a t cl) := ⟨u, pn, rfl, by omega, hout, U', H, fun g hg => (hU g hg).imp id (fun q => by omega), fX.trans fr (fun _ _ q => q.elim) (fun _ _ q => q)⟩
  replace hfin := Lib.hid hfin
  clear hp ho H hU fr hout hsz fX hbg
  go_wp2_with fail
  go_ret
  exact hfin.out
set_option maxHeartbeats 4000000 in
theorem hear_co (c bm : Nat) (U : Nat → Prop) (C : CS) (m : Ms) (v : Value) (w : World) (h : Co w c bm U C) (hm : MsW w v m) (hap : ApC c bm C m v) (hla : C.la < 1073741824) (hrf : 0 ≤ C.rf ∧ C.rf < 1000000000) :
    Calls Tryz.prog 13 #[.pointer (some ⟨c, 0, none⟩), v] w fun e w' => SayPost e w w' c bm U C (C.hear m) := by
  have hr := right_ms v m w hm
  obtain ⟨b, hb⟩ : ∃ b, m.ok = b := ⟨_, rfl⟩
  rw [hb] at hr
  cases b with
  | false =>
    have hno : ∀ pn, C.hear m pn = (C, none) := fun pn => by unfold CS.hear; rw [if_pos hb]
    replace h := Lib.hid h
    replace hno := Lib.hid hno
    replace hr := Lib.hid hr
    clear hm hap hb hla hrf
    go_enter Tryz.func13, Tryz.ntmps13
    go_wp2_with fail
    go_fit hr.out
    rintro e w1 ⟨rfl, f1⟩
    go_wp2_with fail
    go_ret
    exact SayPost.no hno.out h.out f1
  | true =>
    have htk : ∀ w1, Fr noB w w1 → Calls Tryz.prog 34 #[.pointer (some ⟨c, 0, none⟩), v] w1 fun e w' => SayPost e w1 w' c bm U C (C.hear m) := fun w1 f1 => by
      by_cases hn : NoTr m
      · exact (take_other c bm U C m v w1 (h.frN f1) (hm.frN f1) hn hb hap).mono fun e w' q => q.eq (fun pn => (hear_oth hn pn hb).symm)
      · cases m with
        | trigger a t cl =>
          obtain rfl := hm
          exact (take_trig c bm U C a t cl w1 (h.frN f1) hb hla hrf).mono fun e w' q => q.eq (fun pn => by unfold CS.hear; rw [hb, if_neg (by simp)])
        | _ => exact absurd trivial hn
    replace htk := Lib.hid htk
    replace hr := Lib.hid hr
    clear hm hap hb hla hrf h
    go_enter Tryz.func13, Tryz.ntmps13
    go_wp2_with fail
    go_fit hr.out
    rintro e w1 ⟨rfl, f1⟩
    have htk1 := htk.out w1 f1
    replace htk1 := Lib.hid htk1
    clear hr htk
    go_wp2_with fail
    go_fit htk1.out
    rintro e w2 ⟨u, pn, rfl, hp, ho, U', H, hU, fr⟩
    have hsz := f1.size
    have hout : OutP w.heap.size w2 u (C.hear m pn).2 := by
      cases hq : (C.hear m pn).2 with
      | none => rw [hq] at ho; exact ho
      | some e => rw [hq] at ho; obtain ⟨pv, o1, o2⟩ := ho; exact ⟨pv, ownsRow_mono o1 hsz, o2⟩
    have hfin : SayPost (.returned u) w w2 c bm U C (C.hear m) := ⟨u, pn, rfl, by omega, hout, U', H, fun g hg => (hU g hg).imp id (fun q => by omega), f1.trans fr (fun _ _ q => q.elim) (fun _ _ q => q)⟩
    replace hfin := Lib.hid hfin
    clear hp ho H hU fr hout hsz f1 htk1
    go_wp2_with fail
    go_ret
    exact hfin.out
theorem right_nilC (w : World) : Calls Tryz.prog 33 #[.nilIface] w fun e w' => e = .returned (.bool false) ∧ Fr noB w w' := right_of ((mayBe_nil w).mono fun e w' ⟨h1, h2⟩ => ⟨h1, by subst h2; exact Fr.refl _ _⟩)
set_option maxHeartbeats 4000000 in
theorem hear_co_nil (c : Nat) (w : World) : Calls Tryz.prog 13 #[.pointer (some ⟨c, 0, none⟩), .nilIface] w fun e w' => e = .returned (.slice none 0 0) ∧ Fr noB w w' := by
  have hr := right_nilC w
  go_enter Tryz.func13, Tryz.ntmps13
  go_wp2_with fail
  go_fit hr
  rintro e w1 ⟨rfl, f1⟩
  go_wp2_with fail
  go_ret
  exact ⟨rfl, f1⟩
end Go.Proofs.YtidcoddefebdpaaGreat
end

section
set_option linter.unusedVariables false
set_option linter.unusedSimpArgs false
set_option maxRecDepth 100000
set_option maxRecDepth 100000
namespace Go.Proofs.YtidcoddefebdpaaGreat
open Go.RowKit Go Go.Lib

/-- parts that lie among the blocks of D -/
def RdPsD (w : World) (D : Nat → Prop) (v : Value) (ps : List Pn) : Prop :=
  ∃ a c, v = .slice a ps.length c ∧ ps.length ≤ c ∧ ps.length ≤ 1000000 ∧ ∀ i p, ps[i]? = some p → ∃ g ua uc, a = some ⟨g, 0, none⟩ ∧ D g ∧ (∀ q x, (pnC p (.slice ua p.cr.length uc))[q]? = some x → w.cell? ⟨g, i * 6 + q, none⟩ = some x) ∧ RdI w (.slice ua p.cr.length uc) p.cr ∧ (p.cr ≠ [] → ∀ g' o', ua = some ⟨g', o', none⟩ → D g')
theorem RdPsD.fr {w w' : World} {D S : Nat → Prop} {v : Value} {ps : List Pn} (h : RdPsD w D v ps) (hf : Fr S w w') (hS : ∀ g, D g → ¬ S g) : RdPsD w' D v ps := by
  obtain ⟨a, c, rfl, h1, h2, h3⟩ := h
  refine ⟨a, c, rfl, h1, h2, fun i p hi => ?_⟩
  obtain ⟨g, ua, uc, e, hd, h4, h5, h6⟩ := h3 i p hi
  exact ⟨g, ua, uc, e, hd, fun q x hq => hf.cell (h4 q x hq) (hS g hd), h5.fr1 hf (fun hne g' o n c e => hS g' (h6 hne g' o (by injection e))), h6⟩
theorem RdPsD.mono {w : World} {D D' : Nat → Prop} {v : Value} {ps : List Pn} (h : RdPsD w D v ps) (hD : ∀ g, D g → D' g) : RdPsD w D' v ps := by
  obtain ⟨a, c, rfl, h1, h2, h3⟩ := h
  refine ⟨a, c, rfl, h1, h2, fun i p hi => ?_⟩
  obtain ⟨g, ua, uc, e, hd, h4, h5, h6⟩ := h3 i p hi
  exact ⟨g, ua, uc, e, hD g hd, h4, h5, fun hne g' o' e => hD g' (h6 hne g' o' e)⟩
theorem RdPsD.ps {w : World} {D : Nat → Prop} {v : Value} {ps : List Pn} (h : RdPsD w D v ps) : RdPs w v ps := by
  obtain ⟨a, c, rfl, h1, h2, h3⟩ := h
  refine ⟨a, c, rfl, h1, by omega, fun i p hi => ?_⟩
  obtain ⟨g, ua, uc, e, hd, h4, h5, h6⟩ := h3 i p hi
  exact ⟨g, 0, ua, uc, e, fun q x hq => by rw [Nat.zero_add]; exact h4 q x hq, h5⟩
theorem PartsAt.rdD {w : World} {B : Nat} {D : Nat → Prop} {row : Option Nat} {j : JS} {X : Nat → List Int} {L : List Int} {cs : List Value} {pa : Option Addr} {pc : Nat} (ho : w.ownsRow B 67 6 (.slice pa L.length pc) L.length cs) (h : PartsAt w B row j X L L.length cs) (hl : L.length ≤ 1000000) (hD : ∀ g, B ≤ g → g < w.heap.size → D g) : RdPsD w D (.slice pa L.length pc) (j.psl X L) := by
  refine ⟨pa, pc, by rw [psl_len], ?_, by rw [psl_len]; omega, fun i p hp => ?_⟩
  · rw [psl_len]
    rcases ho.2 with ⟨h1, h2⟩ | ⟨g, cap, cur, h1, _, _, h3, _⟩
    · omega
    · injection h1 with _ _ h4; omega
  · obtain ⟨hi, rfl⟩ := psl_get hp
    obtain ⟨ta, tc, h1, h2, h3⟩ := h i hi
    have hlen := h2.len
    obtain ⟨g, cap, hg, hbg⟩ := ownsRow_some ho (by omega)
    injection hg with hg1 _ _
    subst hg1
    refine ⟨g, ta, tc, rfl, hD g hbg (ho.lt g rfl).2, fun q x hq => ?_, by rw [← hlen]; exact h2, fun hne g' o' e => ?_⟩
    · have := ho.cells (g := g) rfl (i * 6 + q) x (h1 q x (by unfold toldC; unfold pnC at hq; simp only at hq ⊢; rw [hlen]; exact hq))
      rw [add_none, Nat.zero_add] at this
      exact this
    · have := h3 hne g' o' e
      exact hD g' this.1 this.2.1
/-- the program's Outs -/
theorem pouts_D (p : Nat) (L : Nat → Prop) (j : JS) (X : Nat → List Int) (w : World) (h : JG w p L j X) (hi : j.inv) :
    Calls Tryz.prog 25 #[.pointer (some ⟨p, 0, none⟩)] w fun e w' => ∃ u pv, e = .returned u ∧ w'.ownsRow w.heap.size 76 2 u (j.zg pv).length (zgC (j.zg pv)) ∧ (j.ph = 2 → RdPsD w' (fun g => w.heap.size ≤ g ∧ g < w'.heap.size) pv (j.psl X j.all)) ∧ Fr noB w w' := by
  obtain ⟨j', hJ, rfl, hag, hT⟩ := h
  have w1 := which_nm (fun v => !v.p) (fun v => rfl) j'
  have w2 := which_nm (fun _ => true) (fun v => rfl) j'
  have w3 := which_nm (fun v => !v.f) (fun v => rfl) j'
  rcases hi.1 with hp | hp | hp | hp
  · refine (outs_1 p j' w hJ hp).mono ?_
    rintro e w' ⟨u, rfl, o, f⟩
    refine ⟨u, .nilIface, rfl, ?_, fun e => by omega, f⟩
    unfold JS.zg; rw [if_pos hp, zgC_map, w1]
    simpa [show j'.nm.tr = j'.tr from rfl, show j'.nm.id = j'.id from rfl, show j'.nm.cl = j'.cl from rfl] using o
  · have hn := hi.2 hp
    rw [none_nm _ (fun v => rfl)] at hn
    refine (outs_2F p j' X w hJ hp hn (fun a ha => ⟨(hT a ha).1, by have := (hT a ha).2.1; omega⟩)).mono ?_
    rintro e w' ⟨u, pa, pc, wm, cs, rfl, o, f, fm, fmw, oP, hpt⟩
    have hl4 : (whichL (fun _ => true) j' 4).length ≤ 4 := whichL_len (fun _ => true) j' 4
    refine ⟨u, .slice pa (whichL (fun _ => true) j' 4).length pc, rfl, ?_, fun _ => ?_, f⟩
    · unfold JS.zg; rw [if_neg (by omega), if_pos hp]
      show w'.ownsRow _ _ _ _ _ ([.int .i64 (-1), _] ++ zgC (List.map _ _))
      rw [zgC_map, w2]
      simpa [show j'.nm.tr = j'.tr from rfl, show j'.nm.id = j'.id from rfl, show j'.nm.cl = j'.cl from rfl] using o
    · unfold JS.all
      rw [w2]
      have hpt2 : PartsAt wm w.heap.size (Value.slice pa (whichL (fun _ => true) j' 4).length pc).ownBlock j'.nm X (whichL (fun _ => true) j' 4) (whichL (fun _ => true) j' 4).length cs := fun i hi => by
        obtain ⟨ta, tc, k1, k2, k3⟩ := hpt i hi
        rw [at_nm]
        exact ⟨ta, tc, k1, k2, k3⟩
      exact ((PartsAt.rdD (D := fun g => w.heap.size ≤ g ∧ g < wm.heap.size) oP hpt2 (by omega) (fun g h1 h2 => ⟨h1, h2⟩)).fr fmw (fun _ _ q => q)).mono (fun g hg => ⟨hg.1, by have := fmw.size; omega⟩)
  · refine (outs_3 p j' w hJ hp).mono ?_
    rintro e w' ⟨u, rfl, o, f⟩
    refine ⟨u, .nilIface, rfl, ?_, fun e => by omega, f⟩
    unfold JS.zg; rw [if_neg (by omega), if_neg (by omega), if_pos hp, zgC_map, w3]
    simpa [show j'.nm.tr = j'.tr from rfl, show j'.nm.id = j'.id from rfl, show j'.nm.cl = j'.cl from rfl] using o
  · refine (outs_4 p j' w hJ hp).mono ?_
    rintro e w' ⟨rfl, rfl⟩
    refine ⟨_, .nilIface, rfl, ?_, fun e => by omega, Fr.refl _ _⟩
    unfold JS.zg; rw [if_neg (by omega), if_neg (by omega), if_neg (by omega)]
    exact World.ownsRow_nil _ _ _ _
end Go.Proofs.YtidcoddefebdpaaGreat
end

section
set_option linter.unusedVariables false
set_option linter.unusedSimpArgs false
set_option maxRecDepth 100000
set_option maxRecDepth 100000
namespace Go.Proofs.YtidcoddefebdpaaGreat
open Go.RowKit Go Go.Maps Go.Lib

theorem wpList_append_rd2 {P : Program} (w : World) {ops : Array Oper} {rest : List Oper} {o : Oper} {a : Act} {Q : Exit → Act → World → Prop} (hgd : o.guard = none) (s x : Operand) (t : TypeId)
    (ho : o.op = .call { callee := .builtin .append, args := #[s, x], argTypes := #[t, t] })
    (base : Nat) (e : TypeId) (i : TypeInfo) (z : Value) (size bytes : Nat) (ht : P.underlying t = some (.slice e)) (hi : P.info? e = some i) (hz : i.zero = some z)
    (hsize : i.size = size) (hby : i.bytes = bytes) (hzs : z.cells.size = size) (hsz : 0 < size)
    (v : Value) (n : Nat) (xs : List Value) (hs : a.eval s = v) (hown : w.ownsRow base e size v n xs)
    (m : Nat) (u : Value) (news : List Value) (hx : a.eval x = u) (hu : (u = .slice none 0 0 ∧ m = 0 ∧ news = []) ∨ ∃ ad c, u = .slice (some ad) m c ∧ ∀ j q, news[j]? = some q → w.cell? (ad.add j) = some q) (hl : news.length = m * size) (h1 : ∀ u ∈ news, u.oneCell' = true)
    (h63 : n + m ≤ maxLen) (hbytes : (n + m) * bytes ≤ 140737488355328) (hbase : base ≤ w.heap.size)
    (h : ∀ v' w', w'.ownsRow base e size v' (n + m) (xs ++ news) → Fr (rowB v) w w' → Moved w v v' → wpList P ops Q rest (a.put o.dst v') w') : wpList P ops Q (o :: rest) a w := by
  rcases hu with ⟨rfl, rfl, rfl⟩ | ⟨ad, c, rfl, hnews⟩
  · exact wpList_append_own_none hgd s x t ho base e i size ht hi v n xs hs hown hx (h v w (by simpa using hown) (Fr.refl _ _) (Or.inl rfl))
  · refine wpList_append_at w (by simp [Region.wanted, hgd]) s x t ho base e i z size bytes ht hi hz hsize hby hzs hsz v n xs hs hown ad m c news hx hl hnews h1 h63 hbytes hbase fun v' w' q1 q2 q3 => h v' w' q1 ((Fr.refl _ w).grown q2 (fun k hk _ => hk)) q3
theorem zgC_one (j : JS) (pv : Value) : ∀ u ∈ zgC (j.zg pv), u.oneCell' = true := by
  have key : ∀ (L : List Int) (m : Value), m.oneCell' = true → ∀ u ∈ zgC (L.map fun x => (x, m)), u.oneCell' = true := by
    intro L m hm u hu
    unfold zgC at hu
    obtain ⟨x, hx, hu⟩ := List.mem_flatMap.1 hu
    obtain ⟨y, hy, rfl⟩ := List.mem_map.1 hx
    simp only [List.mem_cons, List.not_mem_nil, or_false] at hu
    rcases hu with rfl | rfl
    · rfl
    · exact hm
  intro u hu
  unfold JS.zg at hu
  split at hu
  · exact key _ _ rfl u hu
  · split at hu
    · have hu' : u ∈ (Value.int .i64 (-1)) :: (mManifest j.tr j.id j.cl pv) :: zgC ((whichL (fun _ => true) j 4).map fun x => (x, mCollect j.tr j.id)) := hu
      rcases List.mem_cons.1 hu' with rfl | hu'
      · rfl
      · rcases List.mem_cons.1 hu' with rfl | hu'
        · rfl
        · exact key _ _ rfl u hu'
    · split at hu
      · exact key _ _ rfl u hu
      · cases hu
theorem zgC_len (G : List (Int × Value)) : (zgC G).length = G.length * 2 := by
  unfold zgC
  induction G with
  | nil => rfl
  | cons x r ih =>
    rw [List.flatMap_cons, List.length_append, ih]
    simp only [List.length_cons, List.length_nil]
    omega
theorem zgC_app (G H : List (Int × Value)) : zgC (G ++ H) = zgC G ++ zgC H := by unfold zgC; rw [List.flatMap_append]
theorem zg_len5 (j : JS) (pv : Value) : (j.zg pv).length ≤ 5 := by
  unfold JS.zg
  have h1 := whichL_len (fun v => !v.p) j 4
  have h2 := whichL_len (fun _ => true) j 4
  have h3 := whichL_len (fun v => !v.f) j 4
  split
  · rw [List.length_map]; omega
  · split
    · rw [List.length_cons, List.length_map]; omega
    · split
      · rw [List.length_map]; omega
      · simp
/-- what all jobs say -/
def tickG : List JE → List Value → List (Int × Value)
  | e :: r, pv :: ps => e.j.zg pv ++ tickG r ps
  | _, _ => []
theorem tickG_snoc (Q : List JE) (P : List Value) (e : JE) (pv : Value) (h : Q.length = P.length) : tickG (Q ++ [e]) (P ++ [pv]) = tickG Q P ++ e.j.zg pv := by
  induction Q generalizing P with
  | nil =>
    cases P with
    | nil => simp [tickG]
    | cons y r => simp at h
  | cons x r ih =>
    cases P with
    | nil => simp at h
    | cons y s =>
      simp only [List.length_cons] at h
      show x.j.zg y ++ tickG (r ++ [e]) (s ++ [pv]) = _
      rw [ih s (by omega)]
      show _ = x.j.zg y ++ tickG r s ++ _
      rw [List.append_assoc]
theorem tickG_len (Q : List JE) (P : List Value) : (tickG Q P).length ≤ 5 * Q.length := by
  induction Q generalizing P with
  | nil => simp [tickG]
  | cons x r ih =>
    cases P with
    | nil => simp [tickG]
    | cons y s =>
      show (x.j.zg y ++ tickG r s).length ≤ _
      rw [List.length_append, List.length_cons]
      have := zg_len5 x.j y
      have := ih s
      omega
/-- the jobs by their numbers are the jobs in their order -/
theorem sorted_is {C : CS} (h : C.wf) {ss : List NJ} (hp : ss.Perm ((C.Q.map JE.kv).map (·.2))) (hs : ss.Pairwise (fun x y => x.1 ≤ y.1)) : ss = C.Q.map fun e => (e.n, some e.p) := by
  have e1 : (C.Q.map JE.kv).map (·.2) = C.Q.map fun e => (e.n, some e.p) := by rw [List.map_map]; rfl
  rw [e1] at hp
  have hn : (C.Q.map (·.n)).Pairwise (· < ·) := h.nn
  have hs2 : (C.Q.map fun e => ((e.n, some e.p) : NJ)).Pairwise (fun x y => x.1 ≤ y.1) := by
    rw [List.pairwise_map] at hn ⊢
    exact hn.imp (fun q => by show _ ≤ _; omega)
  refine List.Perm.eq_of_pairwise (le := fun x y : NJ => x.1 ≤ y.1) (fun a b ha hb h1 h2 => ?_) hs hs2 hp
  have ha' := hp.mem_iff.1 ha
  obtain ⟨x, hx, rfl⟩ := List.mem_map.1 ha'
  obtain ⟨y, hy, rfl⟩ := List.mem_map.1 hb
  have hxy : x.n = y.n := by
    have h1' : x.n ≤ y.n := h1
    have h2' : y.n ≤ x.n := h2
    omega
  have hnd : (C.Q.map (·.n)).Nodup := hn.imp (fun q => by omega)
  have key : ∀ (Q : List JE), (Q.map (·.n)).Nodup → x ∈ Q → y ∈ Q → x = y := by
    intro Q
    induction Q with
    | nil => intro _ hx; cases hx
    | cons z r ih =>
      intro hn h1 h2
      rw [List.map_cons, List.nodup_cons] at hn
      rcases List.mem_cons.1 h1 with rfl | k1
      · rcases List.mem_cons.1 h2 with rfl | k2
        · rfl
        · exact absurd (show x.n ∈ r.map (·.n) from List.mem_map.2 ⟨y, k2, hxy.symm⟩) hn.1
      · rcases List.mem_cons.1 h2 with rfl | k2
        · exact absurd (show y.n ∈ r.map (·.n) from List.mem_map.2 ⟨x, k1, hxy⟩) hn.1
        · exact ih hn.2 k1 k2
  rw [key C.Q hnd hx hy]
def TickPost (e : Ending) (w w' : World) (Q : List JE) : Prop := ∃ u P, e = .returned u ∧ Q.length = P.length ∧ w'.ownsRow w.heap.size 76 2 u (tickG Q P).length (zgC (tickG Q P)) ∧ (∀ (i : Nat) (e : JE) (pv : Value), Q[i]? = some e → P[i]? = some pv → e.j.ph = 2 → RdPs w' pv (e.j.psl e.X e.j.all)) ∧ Fr noB w w'
set_option maxHeartbeats 8000000 in
theorem tick_co (c bm : Nat) (U : Nat → Prop) (C : CS) (w : World) (h : Co w c bm U C) :
    Calls Tryz.prog 9 #[.pointer (some ⟨c, 0, none⟩)] w fun e w' => TickPost e w w' C.Q := by
  have c2 : w.cell? ⟨c, 2, none⟩ = some (.map (some bm)) := h.blk.cell 2
  have hQ8 : C.Q.length ≤ 8 := by have := h.wf.len; have := h.wf.m8; omega
  have hv := values_any bm w
  have f1 : Fr noB w (w.alloc (.cells #[.map (some bm)] 72)) := (Fr.refl _ _).alloc _
  have H1 := h.frN f1
  have hsz : (w.alloc (.cells #[.map (some bm)] 72)).heap.size = w.heap.size + 1 := size_alloc _ _
  have hcell := (Blk.new w 72 [.map (some bm)]).cell 0
  have hs := sorted_any w.heap.size bm C.Q.length (C.Q.map JE.kv) (by rw [List.length_map]; omega) (w.alloc (.cells #[.map (some bm)] 72)) (by rw [hsz]; omega) hcell H1.mp
  obtain ⟨i0, hi, hz0, hz1, hz2⟩ := info_parts infoOut
  obtain ⟨N, hN⟩ : ∃ N, C.Q.length = N := ⟨_, rfl⟩
  rw [hN] at hQ8
  have hget : ∀ k, k < N → ∃ e, C.Q[k]? = some e := fun k hk => ⟨C.Q[k]'(by omega), List.getElem?_eq_getElem (by omega)⟩
  replace hs := Lib.hid hs
  replace hv := Lib.hid hv
  replace h := Lib.hid h
  replace H1 := Lib.hid H1
  replace f1 := Lib.hid f1
  replace hN := Lib.hid hN
  replace hget := Lib.hid hget
  clear hsz hcell
  go_enter Tryz.func9, Tryz.ntmps9
  go_wp2_with fail
  go_fit hv.out
  rintro e w1 ⟨rfl, rfl⟩
  go_wp2_with fail
  go_fit hs.out
  generalize (w.alloc (.cells #[.map (some bm)] 72)) = w1 at *
  rintro e w2 ⟨sv, ss, rfl, hp, hpw, os, f2⟩
  have hss := sorted_is h.out.wf hp hpw
  have hsl : ss.length = N := by rw [hss, List.length_map]; exact hN.out
  have g2 := f1.out.seqN f2
  obtain ⟨sa, sc, rfl⟩ := ownsRow_slice os
  rw [hsl] at os ⊢
  have hcell : ∀ k e, C.Q[k]? = some e → ∃ g, sa = some ⟨g, 0, none⟩ ∧ ∀ w', Fr noB w2 w' → w'.cell? ⟨g, k * 2, none⟩ = some (.int .i64 e.n) ∧ w'.cell? ⟨g, k * 2 + 1, none⟩ = some (.pointer (some ⟨e.p, 0, none⟩)) := fun k e hk => by
    have hkl := (List.getElem?_eq_some_iff.1 hk).1
    obtain ⟨g, cap, e1, _⟩ := ownsRow_some os (by have := hN.out; omega)
    injection e1 with e1 e2 e3
    subst e1
    have hsk : ss[k]? = some (e.n, some e.p) := by rw [hss, List.getElem?_map, hk]; rfl
    have hcc : ∀ i v, (celN (e.n, some e.p))[i]? = some v → w2.cell? ⟨g, k * 2 + i, none⟩ = some v := fun i v hi => by
      have hi2 : i < 2 := (List.getElem?_eq_some_iff.1 hi).1
      have h2 := flat_getC ss k i _ hsk hi2
      have h3 := os.cells (g := g) rfl (k * 2 + i) v (by rw [h2]; exact hi)
      rw [add_none, Nat.zero_add] at h3
      exact h3
    exact ⟨g, rfl, fun w' f => ⟨f.cell (hcc 0 _ rfl) (fun q => q), f.cell (hcc 1 _ rfl) (fun q => q)⟩⟩
  obtain ⟨B, hB⟩ : ∃ B, w2.heap.size = B := ⟨_, rfl⟩
  replace hcell := Lib.hid hcell
  replace hss := Lib.hid hss
  replace os := Lib.hid os
  replace hB := Lib.hid hB
  clear hp hpw c2 hs hv f2 H1 f1
  go_wp2_with fail
  go_loopg [4, 17] N (fun gk vl vi wr => ∃ (k : Nat) (P : List Value) (D : Nat → Prop), k + gk = N ∧ vi = .int .i64 k ∧ Hid (k = P.length) ∧ Hid (wr.ownsRow B 76 2 vl (tickG (C.Q.take k) P).length (zgC (tickG (C.Q.take k) P))) ∧ Hid (∀ (i : Nat) (e : JE) (pv : Value), C.Q[i]? = some e → P[i]? = some pv → e.j.ph = 2 → RdPsD wr D pv (e.j.psl e.X e.j.all)) ∧ Hid (∀ g, D g → g < wr.heap.size ∧ vl.ownBlock ≠ some g) ∧ Fr noB w2 wr)
  case atStart => exact ⟨0, [], noB, Nat.zero_add _, rfl, Lib.hid rfl, Lib.hid (World.ownsRow_nil _ _ _ _), Lib.hid (fun i e pv _ hi => by simp at hi), Lib.hid (fun g hg => hg.elim), Fr.refl _ _⟩
  case round =>
    obtain ⟨k, P, D, hk, rfl, hkP, hown, hrd, hDr, fr⟩ := hrel
    by_cases hlt : k < N
    · obtain ⟨e, he⟩ := hget.out k hlt
      obtain ⟨g, rfl, hc⟩ := hcell.out k e he
      obtain ⟨c0, c1⟩ := hc wr fr
      have hem := List.mem_of_getElem? he
      have Hr := h.out.frN (g2.seqN fr)
      have hb1 : (k : Int) < N := by omega
      have hmeas : N - (k + 1) < gk := by omega
      have hkn2 : k + 1 + (N - (k + 1)) = N := by omega
      have fA : Fr noB wr (wr.alloc (.cells #[.int .i64 e.n, .pointer (some ⟨e.p, 0, none⟩)] 79)) := (Fr.refl _ _).alloc _
      have hout := pouts_D e.p _ _ _ _ ((Hr.frN fA).jobs e hem) ((Hr.frN fA).wf.inv e hem)
      replace hout := Lib.hid hout
      replace hmeas := Lib.hid hmeas
      replace hkn2 := Lib.hid hkn2
      replace fA := Lib.hid fA
      replace he := Lib.hid he
      replace Hr := Lib.hid Hr
      replace hem := Lib.hid hem
      generalize e.n = en at *
      clear hc hk
      go_wp2_with fail
      go_fit hout.out
      rintro e' w5 ⟨u, pv, rfl, o5, r5, f5⟩
      have fr5 := (fr.seqN fA.out).seqN f5
      have own5 := ownsRow_fr hown.out (fA.out.seqN f5) (fun _ _ q => q)
      have hG5 := zg_len5 e.j pv
      have hGl := tickG_len (C.Q.take k) P
      have htk : (C.Q.take k).length = k := by rw [List.length_take]; have := hN.out; omega
      have hone := zgC_one e.j pv
      have hfl := zgC_len (e.j.zg pv)
      have hwB : B ≤ w5.heap.size := by have := fr5.size; have := hB.out; omega
      have hor : (u = .slice none 0 0 ∧ (e.j.zg pv).length = 0 ∧ zgC (e.j.zg pv) = []) ∨ ∃ ad c, u = .slice (some ad) (e.j.zg pv).length c ∧ ∀ j q, (zgC (e.j.zg pv))[j]? = some q → w5.cell? (ad.add j) = some q := by
        rcases o5.2 with ⟨h1, h2⟩ | ⟨g', cap, cur, h1, _⟩
        · exact Or.inl ⟨h1, h2, List.eq_nil_of_length_eq_zero (by rw [hfl, h2])⟩
        · exact Or.inr ⟨⟨g', 0, none⟩, cap, h1, fun j q hj => o5.cells (g := g') (by rw [h1]; rfl) j q hj⟩
      have htk2 : C.Q.take (k + 1) = C.Q.take k ++ [e] := by rw [List.take_add_one, he.out]; rfl
      have hsn := tickG_snoc (C.Q.take k) P e pv (by rw [htk]; exact hkP.out)
      rw [← htk2] at hsn
      obtain ⟨n1, hn1⟩ : ∃ n1, (tickG (C.Q.take k) P).length = n1 := ⟨_, rfl⟩
      obtain ⟨m1, hm1⟩ : ∃ m1, (e.j.zg pv).length = m1 := ⟨_, rfl⟩
      obtain ⟨X1, hX1⟩ : ∃ X1, zgC (tickG (C.Q.take k) P) = X1 := ⟨_, rfl⟩
      obtain ⟨X, hX⟩ : ∃ X, zgC (e.j.zg pv) = X := ⟨_, rfl⟩
      rw [hX, hm1] at hor hfl
      rw [hX] at hone
      rw [hX1, hn1] at own5
      rw [hn1, htk] at hGl
      rw [hm1] at hG5
      have hszA := fA.out.size
      have hsz5 := f5.size
      obtain ⟨D2, hD2⟩ : ∃ D2 : Nat → Prop, D2 = fun g => D g ∨ (wr.heap.size ≤ g ∧ g < w5.heap.size ∧ u4.ownBlock ≠ some g) := ⟨_, rfl⟩
      have hD2lt : ∀ g, D2 g → g < w5.heap.size ∧ u4.ownBlock ≠ some g := fun g hg => by
        rw [hD2] at hg
        rcases hg with hg | hg
        · have := hDr.out g hg; exact ⟨by omega, this.2⟩
        · exact hg.2
      have hrd2 : ∀ (i : Nat) (e' : JE) (pv' : Value), C.Q[i]? = some e' → (P ++ [pv])[i]? = some pv' → e'.j.ph = 2 → RdPsD w5 D2 pv' (e'.j.psl e'.X e'.j.all) := fun i e' pv' h1 h2 h3 => by
        rcases Nat.lt_or_ge i P.length with q | q
        · rw [List.getElem?_append_left q] at h2
          exact ((hrd.out i e' pv' h1 h2 h3).fr (fA.out.seqN f5) (fun _ _ q => q)).mono (fun g hg => by rw [hD2]; exact Or.inl hg)
        · have hik : i = P.length := by
            have := (List.getElem?_eq_some_iff.1 h2).1
            rw [List.length_append] at this
            simp at this
            omega
          subst hik
          rw [List.getElem?_append_right (Nat.le_refl _), Nat.sub_self] at h2
          simp at h2
          subst h2
          have hee : e' = e := by
            have := he.out
            rw [hkP.out, h1] at this
            injection this
          subst hee
          refine (r5 h3).mono (fun g hg => ?_)
          rw [hD2]
          exact Or.inr ⟨by omega, hg.2, fun q => by have := (hown.out.lt g q).2; omega⟩
      have hkP2 : k + 1 = (P ++ [pv]).length := by rw [List.length_append, hkP.out]; rfl
      replace hn1 := Lib.hid hn1
      replace hm1 := Lib.hid hm1
      replace hX1 := Lib.hid hX1
      replace hX := Lib.hid hX
      replace hor := Lib.hid hor
      replace hone := Lib.hid hone
      replace hfl := Lib.hid hfl
      replace hsn := Lib.hid hsn
      replace hrd2 := Lib.hid hrd2
      replace hkP2 := Lib.hid hkP2
      replace hD2lt := Lib.hid hD2lt
      replace hD2 := Lib.hid hD2
      replace fr5 := Lib.hid fr5
      clear hout o5 r5 f5 fA hown hrd fr c0 c1 htk htk2 hszA hsz5 hDr
      go_wp2_with (first
        | (at_builtin; go_must (refine wpList_append_rd2 _ rfl (.tmp 21) (.tmp 24) 43 rfl B 76 i0 _ 2 24 Tryz.underlying43 hi hz0 hz1 hz2 rfl (by decide) _ n1 X1 rfl own5 m1 u X rfl hor.out hfl.out hone.out ?_ ?_ hwB ?_))
        | fail)
      · unfold maxLen; omega
      · omega
      intro v8 w8 o8 f8 mv8
      have fr8 : Fr noB w2 w8 := fr5.out.trans f8 (fun _ _ q => q) (fun i hi q => by
        have h1 := (own5.lt i q).1
        have h2 := hB.out
        omega)
      have hrd8 : ∀ (i : Nat) (e' : JE) (pv' : Value), C.Q[i]? = some e' → (P ++ [pv])[i]? = some pv' → e'.j.ph = 2 → RdPsD w8 D2 pv' (e'.j.psl e'.X e'.j.all) := fun i e' pv' h1 h2 h3 => (hrd2.out i e' pv' h1 h2 h3).fr f8 (fun g hg q => (hD2lt.out g hg).2 q)
      have hD8 : ∀ g, D2 g → g < w8.heap.size ∧ v8.ownBlock ≠ some g := fun g hg => by
        obtain ⟨h1, h2⟩ := hD2lt.out g hg
        refine ⟨Nat.lt_of_lt_of_le h1 f8.size, fun q => ?_⟩
        rcases mv8 with h | h
        · exact h2 (by rw [← h]; exact q)
        · rw [h] at q
          injection q with q
          omega
      have o8' : w8.ownsRow B 76 2 v8 (tickG (C.Q.take (k + 1)) (P ++ [pv])).length (zgC (tickG (C.Q.take (k + 1)) (P ++ [pv]))) := by
        rw [hsn.out, zgC_app, List.length_append, hX.out, hX1.out, hn1.out, hm1.out]
        exact o8
      replace o8' := Lib.hid o8'
      replace hrd8 := Lib.hid hrd8
      replace hD8 := Lib.hid hD8
      clear o8 f8 mv8 own5 hor hone hfl
      go_wp2_with fail
      go_roundg (N - (k + 1))
      case rel => exact ⟨k + 1, P ++ [pv], D2, hkn2.out, by go_num, hkP2, o8', hrd8, hD8, fr8⟩
      case measure => exact hmeas.out
    · obtain rfl : k = N := by omega
      have htk : C.Q.take k = C.Q := List.take_of_length_le (by rw [hN.out]; exact Nat.le_refl _)
      rw [htk] at hown
      go_wp2_with fail
      go_ret
      exact ⟨_, P, rfl, by rw [hN.out]; exact hkP.out, ownsRow_mono hown.out (by have := g2.size; have := hB.out; omega), fun i e' pv' h1 h2 h3 => (hrd.out i e' pv' h1 h2 h3).ps, g2.seqN fr⟩
end Go.Proofs.YtidcoddefebdpaaGreat
end

section
set_option linter.unusedVariables false
set_option linter.unusedSimpArgs false
set_option maxRecDepth 100000
set_option maxRecDepth 100000
namespace Go.Proofs.YtidcoddefebdpaaGreat
open Go.RowKit Go Go.Maps Go.Lib

/-- the coordinator lies among the blocks of D, none of which there was at first -/
structure CoV (w0 w : World) (c bm : Nat) (D : Nat → Prop) (C : CS) : Prop where
  is : ∃ U, Co w c bm U C ∧ ∀ g, coS c bm C g ∨ U g → D g
  ge : ∀ g, D g → w0.heap.size ≤ g
  lt : ∀ g, D g → g < w.heap.size
  fr0 : Fr noB w0 w
theorem CoV.fr {w0 w w' : World} {c bm : Nat} {D S : Nat → Prop} {C : CS} (h : CoV w0 w c bm D C) (f : Fr S w w') (hS : ∀ g, D g → ¬ S g) (hge : ∀ g, S g → w0.heap.size ≤ g) : CoV w0 w' c bm D C := by
  obtain ⟨U, H, hD⟩ := h.is
  exact ⟨⟨U, H.fr f (fun g hg => hS g (hD g hg)), hD⟩, h.ge, fun g hg => Nat.lt_of_lt_of_le (h.lt g hg) f.size, h.fr0.trans f (fun g _ q => q.elim) (fun g hg q => by have := hge g q; omega)⟩
theorem CoV.frN {w0 w w' : World} {c bm : Nat} {D : Nat → Prop} {C : CS} (h : CoV w0 w c bm D C) (f : Fr noB w w') : CoV w0 w' c bm D C := h.fr f (fun _ _ q => q) (fun _ q => q.elim)
theorem CoV.wf {w0 w : World} {c bm : Nat} {D : Nat → Prop} {C : CS} (h : CoV w0 w c bm D C) : C.wf := by
  obtain ⟨U, H, hD⟩ := h.is
  exact H.wf
theorem hear_p {C : CS} {m : Ms} {pn : Nat} {e : JE} (he : e ∈ (C.hear m pn).1.Q) : e.p = pn ∨ ∃ x ∈ C.Q, x.p = e.p := by
  by_cases hok : m.ok = false
  · unfold CS.hear at he; rw [if_pos hok] at he; exact Or.inr ⟨e, he, rfl⟩
  have hok' : m.ok = true := by simpa using hok
  by_cases hn : NoTr m
  · rw [hear_oth hn pn hok'] at he
    unfold CS.other at he
    cases hq : C.at m.tj.1 with
    | none => rw [hq] at he; exact Or.inr ⟨e, he, rfl⟩
    | some x =>
      rw [hq] at he
      have hx := (at_some hq).1
      dsimp only at he
      unfold CS.told at he
      split at he
      · exact Or.inr ⟨e, (List.mem_filter.1 he).1, rfl⟩
      · have key : e ∈ (C.put (x.hear m)).Q → e.p = pn ∨ ∃ x ∈ C.Q, x.p = e.p := fun he => by
          rcases put_mem he with rfl | ⟨q, _⟩
          · exact Or.inr ⟨x, hx, rfl⟩
          · exact Or.inr ⟨e, q, rfl⟩
        split at he <;> exact key he
  · cases m with
    | trigger a t cl =>
      have e1 : C.hear (.trigger a t cl) pn = C.begin a t cl pn := by unfold CS.hear; rw [if_neg hok]
      rw [e1] at he
      unfold CS.begin at he
      split at he
      · exact Or.inr ⟨e, he, rfl⟩
      · split at he
        · exact Or.inr ⟨e, he, rfl⟩
        · rcases List.mem_append.1 he with q | q
          · exact Or.inr ⟨e, q, rfl⟩
          · rw [List.mem_singleton] at q; subst q; exact Or.inl rfl
    | _ => exact absurd trivial hn
theorem hear_cS {C : CS} {m : Ms} {pn c bm g : Nat} (h : coS c bm (C.hear m pn).1 g) : coS c bm C g ∨ g = pn := by
  rcases h with h | h | ⟨e, he, rfl⟩
  · exact Or.inl (Or.inl h)
  · exact Or.inl (Or.inr (Or.inl h))
  · rcases hear_p he with q | ⟨x, hx, q⟩
    · exact Or.inr q
    · exact Or.inl (Or.inr (Or.inr ⟨x, hx, q.symm⟩))
def ApD (D : Nat → Prop) (m : Ms) (v : Value) : Prop := ∀ pn ua un uc, m = .pinned pn → v = mPinned pn.a pn.t pn.j pn.n (.slice ua un uc) pn.lo → pn.cr ≠ [] → ∀ g o, ua = some ⟨g, o, none⟩ → ¬ D g
def HearTo (e : Ending) (w0 w w' : World) (c bm : Nat) (D : Nat → Prop) (f : Nat → CS × Option JE) : Prop := ∃ u pn D', e = .returned u ∧ OutP w.heap.size w' u (f pn).2 ∧ w.heap.size ≤ pn ∧ CoV w0 w' c bm D' (f pn).1 ∧ (∀ g, D' g → D g ∨ w.heap.size ≤ g) ∧ Fr D w w'
theorem hear_cv (w0 : World) (c bm : Nat) (D : Nat → Prop) (C : CS) (m : Ms) (v : Value) (w : World) (h : CoV w0 w c bm D C) (hm : MsW w v m) (hap : ApD D m v) (hla : C.la < 1073741824) (hrf : 0 ≤ C.rf ∧ C.rf < 1000000000) :
    Calls Tryz.prog 13 #[.pointer (some ⟨c, 0, none⟩), v] w fun e w' => HearTo e w0 w w' c bm D (C.hear m) := by
  obtain ⟨U, H, hD⟩ := h.is
  refine (hear_co c bm U C m v w H hm (fun pn ua un uc h1 h2 h3 g o h4 => fun q => hap pn ua un uc h1 h2 h3 g o h4 (hD g (Or.inl q))) hla hrf).mono ?_
  rintro e w' ⟨u, pn, rfl, hp, ho, U', H', hU', f⟩
  have fD : Fr D w w' := f.mono (fun g _ q => hD g (Or.inl q))
  have hge := h.fr0.size
  refine ⟨u, pn, fun g => (coS c bm (C.hear m pn).1 g ∨ U' g), rfl, ho, hp, ⟨⟨U', H', fun g hg => hg⟩, fun g hg => ?_, fun g hg => H'.lt g hg, h.fr0.trans fD (fun g _ q => q.elim) (fun g hg q => by have := h.ge g q; omega)⟩, fun g hg => ?_, fD⟩
  · rcases hg with hg | hg
    · rcases hear_cS hg with q | rfl
      · exact h.ge g (hD g (Or.inl q))
      · omega
    · rcases hU' g hg with q | q
      · exact h.ge g (hD g (Or.inr q))
      · omega
  · rcases hg with hg | hg
    · rcases hear_cS hg with q | rfl
      · exact Or.inl (hD g (Or.inl q))
      · exact Or.inr hp
    · rcases hU' g hg with q | q
      · exact Or.inl (hD g (Or.inr q))
      · exact Or.inr q
end Go.Proofs.YtidcoddefebdpaaGreat
end

section
set_option linter.unusedVariables false
set_option linter.unusedSimpArgs false
set_option maxRecDepth 100000
set_option maxRecDepth 100000
namespace Go.Proofs.YtidcoddefebdpaaGreat
open Go.RowKit Go Go.Maps Go.Lib

def kC0 : CS := CS.new 2 1
def kJ1 : JS := JS.new 1 7 0 2 1
def kE1 (pn : Nat) : JE := ⟨pn, 1, kJ1, fun _ => []⟩
def kC1 (pn : Nat) (rf : Int) : CS := ⟨2, 1, 1, rf, [kE1 pn]⟩
def kP : Pn := ⟨1, 7, 1, 0, [], false⟩
def kE2 (pn : Nat) : JE := (kE1 pn).hear (.pinned kP)
def kE3 (pn : Nat) : JE := (kE2 pn).hear (.stored 7 1)
def kC2 (pn : Nat) : CS := ⟨2, 1, 1, 1, [kE2 pn]⟩
def kC3 (pn : Nat) : CS := ⟨2, 1, 1, 1, [kE3 pn]⟩
def kC4 : CS := ⟨2, 1, 1, 1, []⟩
theorem kh1 (pn : Nat) : kC0.hear (.trigger 1 7 0) pn = (kC1 pn 0, some (kE1 pn)) := by rfl
theorem kh2 (pn q : Nat) : (kC1 pn 0).hear (.trigger 0 7 0) q = (kC1 pn 0, none) := by rfl
theorem kh3 (pn q : Nat) : (kC1 pn 0).hear (.trigger 0 8 0) q = (kC1 pn 1, none) := by rfl
theorem kh4 (pn q : Nat) : (kC1 pn 1).hear (.pinned kP) q = (kC2 pn, some (kE2 pn)) := by rfl
theorem kh5 (pn q : Nat) : (kC2 pn).hear (.stored 7 1) q = (kC3 pn, some (kE3 pn)) := by rfl
theorem kh6 (pn q : Nat) : (kC3 pn).hear (.unpinned 1 7 1) q = (kC4, none) := by rfl
theorem kl1 (pn : Nat) (pv : Value) : ((kE1 pn).j.zg pv).length = 1 := by rfl
theorem kl2 (pn : Nat) (pv : Value) : ((kE2 pn).j.zg pv).length = 2 := by rfl
theorem kp3 (pn : Nat) : (kE3 pn).j.ph = 3 := by rfl
theorem ka3 (pn : Nat) : (kC3 pn).at 7 = some (kE3 pn) := by rfl
theorem ka4 : kC4.at 7 = none := by rfl
theorem CoV.out {B : Nat} {w : World} {u : Value} {e : JE} {n : Nat} (h : OutP B w u (some e)) (hn : ∀ pv, (e.j.zg pv).length = n) : ∃ a c, u = .slice a n c := by
  obtain ⟨pv, o, _⟩ := h
  rw [hn] at o
  exact ownsRow_slice o
theorem apD_no {D : Nat → Prop} {m : Ms} {v : Value} (h : ∀ pn, m = .pinned pn → pn.cr = []) : ApD D m v := fun pn ua un uc h1 _ h3 => absurd (h pn h1) h3
/-- a job of the coordinator's: how far it is -/
theorem phase_cv {w0 w : World} {c bm : Nat} {D : Nat → Prop} {C : CS} (h : CoV w0 w c bm D C) {e : JE} (he : e ∈ C.Q) : Calls Tryz.prog 18 #[.pointer (some ⟨e.p, 0, none⟩)] w fun x w' => x = .returned (.int .i64 e.j.ph) ∧ w' = w := by
  obtain ⟨U, H, _⟩ := h.is
  exact phase_jg e.p _ _ _ w (H.jobs e he)
theorem of_cv {w0 w : World} {c bm : Nat} {D : Nat → Prop} {C : CS} (h : CoV w0 w c bm D C) (t : Int) (ht : okI t) : Calls Tryz.prog 17 #[.pointer (some ⟨c, 0, none⟩), .int .i64 t] w fun e w' => e = .returned (ptJ (C.at t)) ∧ w' = w := by
  obtain ⟨U, H, _⟩ := h.is
  exact of_co c bm U C t w H ht
theorem jobs_cv {w0 w : World} {c bm : Nat} {D : Nat → Prop} {C : CS} (h : CoV w0 w c bm D C) : Calls Tryz.prog 14 #[.pointer (some ⟨c, 0, none⟩)] w fun e w' => e = .returned (.int .i64 C.Q.length) ∧ w' = w := by
  obtain ⟨U, H, _⟩ := h.is
  exact jobs_co c bm U C w H
theorem last_cv {w0 w : World} {c bm : Nat} {D : Nat → Prop} {C : CS} (h : CoV w0 w c bm D C) : Calls Tryz.prog 15 #[.pointer (some ⟨c, 0, none⟩)] w fun e w' => e = .returned (.int .i64 C.la) ∧ w' = w := by
  obtain ⟨U, H, _⟩ := h.is
  exact last_co c bm U C w H
theorem refused_cv {w0 w : World} {c bm : Nat} {D : Nat → Prop} {C : CS} (h : CoV w0 w c bm D C) : Calls Tryz.prog 16 #[.pointer (some ⟨c, 0, none⟩)] w fun e w' => e = .returned (.int .i64 C.rf) ∧ w' = w := by
  obtain ⟨U, H, _⟩ := h.is
  exact refused_co c bm U C w H
theorem tick_cv {w0 w : World} {c bm : Nat} {D : Nat → Prop} {C : CS} (h : CoV w0 w c bm D C) : Calls Tryz.prog 9 #[.pointer (some ⟨c, 0, none⟩)] w fun e w' => TickPost e w w' C.Q := by
  obtain ⟨U, H, _⟩ := h.is
  exact tick_co c bm U C w H
theorem new_cv (ag jobs : Int) (b l sd bu ra : Value) (w : World) (h : mayCo ag jobs = true) :
    Calls Tryz.prog 6 #[.agg (cfC ag jobs b l sd bu ra).toArray] w fun e w' => ∃ c bm D, e = .returned (.tuple #[.pointer (some ⟨c, 0, none⟩), .int .i64 0]) ∧ CoV w w' c bm D (CS.new ag jobs) := by
  refine (new_co ag jobs b l sd bu ra w h).mono ?_
  rintro e w' ⟨c, bm, rfl, h1, h2, H, f⟩
  refine ⟨c, bm, fun g => coS c bm (CS.new ag jobs) g ∨ noB g, rfl, ⟨⟨noB, H, fun g hg => hg⟩, fun g hg => ?_, fun g hg => H.lt g hg, f⟩⟩
  rcases hg with (rfl | rfl | ⟨e, he, _⟩) | q
  · exact h1
  · exact h2
  · cases he
  · exact q.elim
theorem tick_1 {e : JE} {P : List Value} (h : [e].length = P.length) {n : Nat} (hn : ∀ pv, (e.j.zg pv).length = n) : (tickG [e] P).length = n := by
  match P, h with
  | [pv], _ =>
    show (e.j.zg pv ++ []).length = n
    rw [List.append_nil]; exact hn pv
set_option maxHeartbeats 8000000 in
theorem awake_any (w : World) : Calls Tryz.prog 4 #[] w fun e w' => e = .returned (.bool true) ∧ Fr noB w w' := by
  have hn := new_cv 2 1 (.int .i64 0) (.int .i64 0) (.int .u64 0) (.int .i64 0) (.int .i64 0) w (by decide)
  have hno := fun w' => new_co_no 2 0 (.int .i64 0) (.int .i64 0) (.int .u64 0) (.int .i64 0) (.int .i64 0) w' (by decide)
  unfold cfC at hn hno
  replace hn := Lib.hid hn
  replace hno := Lib.hid hno
  go_enter Tryz.func4, Tryz.ntmps4
  go_wp2_with fail
  go_fit hn.out
  rintro e w1 ⟨c, bm, D0, rfl, h1⟩
  replace h1 := Lib.hid h1
  clear hn
  go_wp2_with fail
  refine (hno.out _).mono ?_
  rintro e w2 ⟨rfl, f2⟩
  have hc := hear_cv w c bm D0 kC0 (.trigger 1 7 0) (mTrigger 1 7 0) w2 (h1.out.frN f2) rfl (apD_no (fun _ q => by cases q)) (by decide) (by decide)
  unfold mTrigger at hc
  replace hc := Lib.hid hc
  clear h1 f2 hno
  go_wp2_with fail
  go_fit hc.out
  rintro e w3 ⟨u1, pn, D1, rfl, ho, hpn, h3, hD1, f3⟩
  rw [kh1] at ho h3
  obtain ⟨u1a, u1c, rfl⟩ := CoV.out ho (kl1 pn)
  have hc2 := hear_cv w c bm D1 (kC1 pn 0) (.trigger 0 7 0) (mTrigger 0 7 0) w3 h3 rfl (apD_no (fun _ q => by cases q)) (show (1 : Int) < 1073741824 by decide) (show (0 : Int) ≤ 0 ∧ (0 : Int) < 1000000000 by decide)
  unfold mTrigger at hc2
  replace hc2 := Lib.hid hc2
  clear hc ho hpn h3 hD1 f3
  go_wp2_with fail
  go_fit hc2.out
  rintro e w4 ⟨u2, q2, D2, rfl, ho, hpn, h4, hD2, f4⟩
  rw [kh2] at ho h4
  obtain rfl := ho
  have hc3 := hear_cv w c bm D2 (kC1 pn 0) (.trigger 0 8 0) (mTrigger 0 8 0) w4 h4 rfl (apD_no (fun _ q => by cases q)) (show (1 : Int) < 1073741824 by decide) (show (0 : Int) ≤ 0 ∧ (0 : Int) < 1000000000 by decide)
  unfold mTrigger at hc3
  replace hc3 := Lib.hid hc3
  clear hc2 hpn h4 hD2 f4
  go_wp2_with fail
  go_fit hc3.out
  rintro e w5 ⟨u3, q3, D3, rfl, ho, hpn, h5, hD3, f5⟩
  rw [kh3] at ho h5
  obtain rfl := ho
  have ht := tick_cv h5
  replace ht := Lib.hid ht
  replace h5 := Lib.hid h5
  clear hc3 hpn hD3 f5
  go_wp2_with fail
  go_fit ht.out
  rintro e w6 ⟨u4, P, rfl, hP, o4, _, f6⟩
  have o4 : w6.ownsRow w5.heap.size 76 2 u4 1 (zgC (tickG (kC1 pn 1).Q P)) := by
    have e1 : (tickG (kC1 pn 1).Q P).length = 1 := tick_1 (e := kE1 pn) hP (kl1 pn)
    rw [e1] at o4; exact o4
  obtain ⟨u4a, u4c, rfl⟩ := ownsRow_slice o4
  have h6 := h5.out.frN f6
  have hc4 := hear_cv w c bm D3 (kC1 pn 1) (.pinned kP) (mPinned 1 7 1 0 (.slice none 0 0) false) w6 h6 ⟨_, rfl, RdI.none _⟩ (apD_no (fun p q => by injection q with q; subst q; rfl)) (show (1 : Int) < 1073741824 by decide) (show (0 : Int) ≤ 1 ∧ (1 : Int) < 1000000000 by decide)
  unfold mPinned at hc4
  replace hc4 := Lib.hid hc4
  clear ht hP o4 f6 h6 h5
  go_wp2_with fail
  go_fit hc4.out
  rintro e w7 ⟨u5, q5, D4, rfl, ho, hpn, h7, hD4, f7⟩
  rw [kh4] at ho h7
  obtain ⟨u5a, u5c, rfl⟩ := CoV.out ho (kl2 pn)
  have hc5 := hear_cv w c bm D4 (kC2 pn) (.stored 7 1) (mStored 7 1) w7 h7 rfl (apD_no (fun _ q => by cases q)) (show (1 : Int) < 1073741824 by decide) (show (0 : Int) ≤ 1 ∧ (1 : Int) < 1000000000 by decide)
  unfold mStored at hc5
  replace hc5 := Lib.hid hc5
  clear hc4 ho hpn h7 hD4 f7
  go_wp2_with fail
  go_fit hc5.out
  rintro e w8 ⟨u6, q6, D5, rfl, ho, hpn, h8, hD5, f8⟩
  rw [kh5] at ho h8
  have hof := of_cv h8 7 (by rfl)
  have hph := phase_cv h8 (e := kE3 pn) (List.mem_singleton.2 rfl)
  rw [ka3] at hof
  rw [kp3] at hph
  have hof2 : Calls Tryz.prog 17 #[.pointer (some ⟨c, 0, none⟩), .int .i64 7] w8 fun e w' => e = .returned (.pointer (some ⟨pn, 0, none⟩)) ∧ w' = w8 := hof
  have hph2 : Calls Tryz.prog 18 #[.pointer (some ⟨pn, 0, none⟩)] w8 fun e w' => e = .returned (.int .i64 3) ∧ w' = w8 := hph
  have hc6 := hear_cv w c bm D5 (kC3 pn) (.unpinned 1 7 1) (mUnpinned 1 7 1) w8 h8 rfl (apD_no (fun _ q => by cases q)) (show (1 : Int) < 1073741824 by decide) (show (0 : Int) ≤ 1 ∧ (1 : Int) < 1000000000 by decide)
  unfold mUnpinned at hc6
  replace hc6 := Lib.hid hc6
  replace hof2 := Lib.hid hof2
  replace hph2 := Lib.hid hph2
  clear hc5 ho hpn h8 hD5 f8 hof hph
  go_wp2_with fail
  go_fit hof2.out
  rintro e w9 ⟨rfl, hw9⟩
  obtain rfl := hw9.symm
  clear hw9
  go_wp2_with fail
  go_fit hph2.out
  rintro e w10 ⟨rfl, hw10⟩
  obtain rfl := hw10.symm
  clear hw10
  go_wp2_with fail
  go_fit hc6.out
  rintro e w11 ⟨u7, q7, D6, rfl, ho, hpn, h11, hD6, f11⟩
  rw [kh6] at ho h11
  have hf := h11.fr0
  have hcR := refused_cv h11
  have hcJ := jobs_cv h11
  have hcL := last_cv h11
  have hcO := of_cv h11 7 (by rfl)
  rw [ka4] at hcO
  unfold ptJ at hcO
  replace hcR : Calls Tryz.prog 16 #[.pointer (some ⟨c, 0, none⟩)] w11 fun e w' => e = .returned (.int .i64 1) ∧ w' = w11 := hcR
  replace hcJ : Calls Tryz.prog 14 #[.pointer (some ⟨c, 0, none⟩)] w11 fun e w' => e = .returned (.int .i64 0) ∧ w' = w11 := hcJ
  replace hcL : Calls Tryz.prog 15 #[.pointer (some ⟨c, 0, none⟩)] w11 fun e w' => e = .returned (.int .i64 1) ∧ w' = w11 := hcL
  replace hcO : Calls Tryz.prog 17 #[.pointer (some ⟨c, 0, none⟩), .int .i64 7] w11 fun e w' => e = .returned (.pointer none) ∧ w' = w11 := hcO
  replace hcR := Lib.hid hcR
  replace hcJ := Lib.hid hcJ
  replace hcL := Lib.hid hcL
  replace hcO := Lib.hid hcO
  replace hf := Lib.hid hf
  clear hc6 ho hpn h11 hD6 f11 hof2 hph2
  repeat' (first
    | (go_at_call 16; refine hcR.out.mono ?_; rintro e wx ⟨rfl, hwx⟩; obtain rfl := hwx.symm; clear hwx)
    | (go_at_call 14; refine hcJ.out.mono ?_; rintro e wx ⟨rfl, hwx⟩; obtain rfl := hwx.symm; clear hwx)
    | (go_at_call 15; refine hcL.out.mono ?_; rintro e wx ⟨rfl, hwx⟩; obtain rfl := hwx.symm; clear hwx)
    | (go_at_call 17; refine hcO.out.mono ?_; rintro e wx ⟨rfl, hwx⟩; obtain rfl := hwx.symm; clear hwx)
    | (go_ret; exact ⟨rfl, hf.out⟩; done)
    | go_wp2_with fail)
end Go.Proofs.YtidcoddefebdpaaGreat
end
