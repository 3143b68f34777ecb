/-
  The coordinator by its numbers, and where it lies: what only reads; New.
-/
import Derived.Test.YtidcoddefebdpaaCoordL
import Derived.Test.YtidcoddefebdpaaCoordSort
import Derived.Test.YtidcoddefebdpaaJobOutsM
set_option linter.unusedVariables false
set_option linter.unusedSimpArgs false
set_option maxRecDepth 100000
set_option maxRecDepth 100000
namespace Go.Proofs.Ytidcoddefebdpaa
open Go.RowKit Go Go.Maps Go.Lib

def JE.kv (e : JE) : Int × NJ := (e.j.tr, (e.n, some e.p))
/-- it lies so: U are the blocks of the rows that jobs were told -/
structure Co (w : World) (c bm : Nat) (U : Nat → Prop) (C : CS) : Prop where
  blk : Blk w c 62 [.int .i64 C.ag, .int .i64 C.mo, .map (some bm), .int .i64 C.la, .int .i64 C.rf]
  mp : Mp Try.prog 3 klI mkN w bm C.Q.length (C.Q.map JE.kv)
  jobs : ∀ e ∈ C.Q, JG w e.p U e.j e.X
  nu : ¬ U c ∧ ¬ U bm ∧ ∀ e ∈ C.Q, ¬ U e.p
  ap : c ≠ bm ∧ ∀ e ∈ C.Q, e.p ≠ c ∧ e.p ≠ bm
  ul : ∀ g, U g → g < w.heap.size
  wf : C.wf
/-- the blocks that a call may write -/
def coS (c bm : Nat) (C : CS) (g : Nat) : Prop := g = c ∨ g = bm ∨ ∃ e ∈ C.Q, g = e.p
theorem Co.fr {w w' : World} {c bm : Nat} {U S : Nat → Prop} {C : CS} (h : Co w c bm U C) (f : Fr S w w') (hS : ∀ g, coS c bm C g ∨ U g → ¬ S g) : Co w' c bm U C :=
  ⟨f.blk h.blk (hS _ (Or.inl (Or.inl rfl))), h.mp.fr f (hS _ (Or.inl (Or.inr (Or.inl rfl)))), fun e he => (h.jobs e he).fr f (hS _ (Or.inl (Or.inr (Or.inr ⟨e, he, rfl⟩)))) (fun g hg => hS g (Or.inr hg)), h.nu, h.ap, fun g hg => Nat.lt_of_lt_of_le (h.ul g hg) f.size, h.wf⟩
theorem Co.frN {w w' : World} {c bm : Nat} {U : Nat → Prop} {C : CS} (h : Co w c bm U C) (f : Fr noB w w') : Co w' c bm U C := h.fr f (fun _ _ q => q)
theorem Co.lt {w : World} {c bm : Nat} {U : Nat → Prop} {C : CS} (h : Co w c bm U C) : ∀ g, coS c bm C g ∨ U g → g < w.heap.size := by
  rintro g ((rfl | rfl | ⟨e, he, rfl⟩) | hg)
  · exact h.blk.lt
  · exact h.mp.lt
  · exact (h.jobs e he).lt
  · exact h.ul g hg
theorem at_look (C : CS) (t : Int) : look (C.Q.map JE.kv) t = (C.at t).map fun e => (e.n, some e.p) := by
  unfold CS.at look
  induction C.Q with
  | nil => rfl
  | cons e r ih =>
    rw [List.map_cons, List.find?_cons, List.find?_cons]
    show Option.map _ (match decide (e.j.tr = t) with | true => some e.kv | false => _) = _
    by_cases h : e.j.tr = t
    · simp [h, JE.kv]
    · simp only [h, decide_false]
      exact ih
theorem keyIJ : KeyLit Try.prog 3 kvI klI okI := keyLit_int Try.underlying3
theorem at_unique {C : CS} (h : C.wf) {e : JE} (he : e ∈ C.Q) : C.at e.j.tr = some e := by
  cases hq : C.at e.j.tr with
  | none => exact absurd rfl (at_none hq e he)
  | some x =>
    obtain ⟨h1, h2⟩ := at_some hq
    rw [tr_inj h h1 he h2]
def ptJ (o : Option JE) : Value := .pointer (pJ (o.map (·.p)))
theorem fieldN (n : Int) (p : Option Addr) (w : World) : (Instr.field 64 (.agg #[.int .i64 n, .pointer p]) 1).run Try.prog w = .ok (.pointer p) w := by kernel_rfl
set_option maxHeartbeats 1000000 in
theorem of_co (c bm : Nat) (U : Nat → Prop) (C : CS) (t : Int) (w : World) (h : Co w c bm U C) (ht : okI t) : Calls Try.prog 9 #[.pointer (some ⟨c, 0, none⟩), .int .i64 t] w fun e w' => e = .returned (ptJ (C.at t)) ∧ w' = w := by
  have c2 : w.cell? ⟨c, 2, none⟩ = some (.map (some bm)) := h.blk.cell 2
  have hlk := h.mp.run_look keyIJ Try.underlying60 (zeroN w) mkN_inj t ht
  rw [at_look] at hlk
  have hr : ∃ n, ((Option.map (fun e : JE => (e.n, some e.p)) (C.at t)).getD (0, none) : NJ) = (n, (C.at t).map (·.p)) := by
    cases C.at t with
    | none => exact ⟨0, rfl⟩
    | some e => exact ⟨e.n, rfl⟩
  obtain ⟨n, hn⟩ := hr
  rw [hn] at hlk
  unfold mkN kvI at hlk
  dsimp only at hlk
  unfold ptJ
  have hf := fieldN n (pJ ((C.at t).map (·.p))) w
  generalize pJ ((C.at t).map (·.p)) = pp at *
  clear hn
  replace h := Lib.hid h
  go_enter Try.func9, Try.ntmps9
  go_wp2_with fail
  go_ret
  exact ⟨rfl, rfl⟩
set_option maxHeartbeats 1000000 in
theorem jobs_co (c bm : Nat) (U : Nat → Prop) (C : CS) (w : World) (h : Co w c bm U C) : Calls Try.prog 8 #[.pointer (some ⟨c, 0, none⟩)] w fun e w' => e = .returned (.int .i64 C.Q.length) ∧ w' = w := by
  have c2 : w.cell? ⟨c, 2, none⟩ = some (.map (some bm)) := h.blk.cell 2
  have hlen := h.mp.run_len Try.underlying60
  rw [List.length_map] at hlen
  generalize C.Q.length = n at *
  replace h := ()
  go_enter Try.func8, Try.ntmps8
  go_wp2_with fail
  go_ret
  exact ⟨rfl, rfl⟩
set_option maxHeartbeats 1000000 in
theorem last_co (c bm : Nat) (U : Nat → Prop) (C : CS) (w : World) (h : Co w c bm U C) : Calls Try.prog 7 #[.pointer (some ⟨c, 0, none⟩)] w fun e w' => e = .returned (.int .i64 C.la) ∧ w' = w := by
  have c2 : w.cell? ⟨c, 3, none⟩ = some (.int .i64 C.la) := h.blk.cell 3
  clear h
  go_enter Try.func7, Try.ntmps7
  go_wp2_with fail
  go_ret
  exact ⟨rfl, rfl⟩
set_option maxHeartbeats 1000000 in
theorem refused_co (c bm : Nat) (U : Nat → Prop) (C : CS) (w : World) (h : Co w c bm U C) : Calls Try.prog 15 #[.pointer (some ⟨c, 0, none⟩)] w fun e w' => e = .returned (.int .i64 C.rf) ∧ w' = w := by
  have c2 : w.cell? ⟨c, 4, none⟩ = some (.int .i64 C.rf) := h.blk.cell 4
  clear h
  go_enter Try.func15, Try.ntmps15
  go_wp2_with fail
  go_ret
  exact ⟨rfl, rfl⟩
/-! ### New -/
def cfC (ag jobs : Int) (b l sd bu ra : Value) : List Value := [.int .i64 ag, b, l, .int .i64 jobs, sd, bu, ra]
def CS.new (ag jobs : Int) : CS := ⟨ag, jobs, 0, 0, []⟩
def mayCo (ag jobs : Int) : Bool := (decide (1 ≤ ag) && decide (ag ≤ 4)) && (decide (1 ≤ jobs) && decide (jobs ≤ 8))
theorem new_wf {ag jobs : Int} (h : mayCo ag jobs = true) : (CS.new ag jobs).wf := by
  unfold mayCo at h
  simp only [Bool.and_eq_true, decide_eq_true_eq] at h
  exact ⟨h.1.1, h.1.2, h.2.1, h.2.2, by show ((0 : Nat) : Int) ≤ jobs; omega, by simp [CS.new], by simp [CS.new], by simp [CS.new], fun e he => (by cases he), fun e he => (by cases he), Int.le_refl _⟩
set_option maxHeartbeats 2000000 in
theorem new_co (ag jobs : Int) (b l sd bu ra : Value) (w : World) (h : mayCo ag jobs = true) :
    Calls Try.prog 6 #[.agg (cfC ag jobs b l sd bu ra).toArray] w fun e w' => ∃ c bm, e = .returned (.tuple #[.pointer (some ⟨c, 0, none⟩), .int .i64 0]) ∧ w.heap.size ≤ c ∧ w.heap.size ≤ bm ∧ Co w' c bm noB (CS.new ag jobs) ∧ Fr noB w w' := by
  have hwf := new_wf h
  unfold mayCo at h
  simp only [Bool.and_eq_true, decide_eq_true_eq] at h
  obtain ⟨⟨h1, h2⟩, h3, h4⟩ := h
  have d1 : decide (ag < 1) = false := by simp; omega
  have d2 : decide (4 < ag) = false := by simp; omega
  have d3 : decide (jobs < 1) = false := by simp; omega
  have d4 : decide (8 < jobs) = false := by simp; omega
  obtain ⟨B, hB⟩ : ∃ B, w.heap.size = B := ⟨_, rfl⟩
  unfold cfC
  have fA : Fr noB w (w.alloc (.cells #[.int .i64 ag, b, l, .int .i64 jobs, sd, bu, ra] 32)) := (Fr.refl _ _).alloc _
  have bA := Blk.new w 32 [.int .i64 ag, b, l, .int .i64 jobs, sd, bu, ra]
  have hsA : (w.alloc (.cells #[.int .i64 ag, b, l, .int .i64 jobs, sd, bu, ra] 32)).heap.size = B + 1 := by rw [size_alloc, hB]
  rw [hB] at bA
  have a0 : (w.alloc (.cells #[.int .i64 ag, b, l, .int .i64 jobs, sd, bu, ra] 32)).cell? ⟨B, 0, none⟩ = some (.int .i64 ag) := bA.cell 0
  have a3 : (w.alloc (.cells #[.int .i64 ag, b, l, .int .i64 jobs, sd, bu, ra] 32)).cell? ⟨B, 3, none⟩ = some (.int .i64 jobs) := bA.cell 3
  clear h1 h2 h3 h4 bA
  go_enter Try.func6, Try.ntmps6
  go_upto_region 1 with fail
  try rw [hB]
  generalize hw1 : (w.alloc (.cells #[.int .i64 ag, b, l, .int .i64 jobs, sd, bu, ra] 32)) = w1 at *
  have f2 : Fr noB w1 (w1.alloc (.map #[] 0)) := (Fr.refl _ _).alloc _
  have m2 : Mp Try.prog 3 klI mkN (w1.alloc (.map #[] 0)) (B + 1) 0 ([] : List (Int × NJ)) := by have := Mp.made (P := Try.prog) (K := 3) (kl := klI) (mk := mkN) w1; rwa [hsA] at this
  have hs2 : (w1.alloc (.map #[] 0)).heap.size = B + 2 := by rw [size_alloc, hsA]
  have f3 : Fr noB (w1.alloc (.map #[] 0)) ((w1.alloc (.map #[] 0)).alloc (.cells #[.int .i64 ag, .int .i64 jobs, .map (some (B + 1)), .int .i64 0, .int .i64 0] 62)) := (Fr.refl _ _).alloc _
  have b3 := Blk.new (w1.alloc (.map #[] 0)) 62 [.int .i64 ag, .int .i64 jobs, .map (some (B + 1)), .int .i64 0, .int .i64 0]
  rw [hs2] at b3
  have m3 := m2.fr f3 (fun q => q)
  have fz := (fA.seqN f2).seqN f3
  have hco : Co ((w1.alloc (.map #[] 0)).alloc (.cells #[.int .i64 ag, .int .i64 jobs, .map (some (B + 1)), .int .i64 0, .int .i64 0] 62)) (B + 2) (B + 1) noB (CS.new ag jobs) :=
    ⟨b3, m3, fun e he => (by cases he), ⟨fun q => q, fun q => q, fun e he => (by cases he)⟩, ⟨by omega, fun e he => (by cases he)⟩, fun g hg => hg.elim, hwf⟩
  have hmm := @run_makeMap Try.prog
  replace hco := Lib.hid hco
  replace fz := Lib.hid fz
  replace hwf := Lib.hid hwf
  replace hB := Lib.hid hB
  replace hs2 := Lib.hid hs2
  clear b3 m2 m3 f2 f3 fA hw1
  go_wp2_with fail
  try rw [hsA]
  go_ret2
  refine ⟨B + 2, B + 1, ?_, by have := hB.out; omega, by have := hB.out; omega, ?_, ?_⟩
  · rfl
  · exact hco.out
  · exact fz.out
set_option maxHeartbeats 2000000 in
theorem new_co_no (ag jobs : Int) (b l sd bu ra : Value) (w : World) (h : mayCo ag jobs = false) :
    Calls Try.prog 6 #[.agg (cfC ag jobs b l sd bu ra).toArray] w fun e w' => e = .returned (.tuple #[.pointer none, .int .i64 1]) ∧ Fr noB w w' := by
  unfold cfC
  have fA : Fr noB w (w.alloc (.cells #[.int .i64 ag, b, l, .int .i64 jobs, sd, bu, ra] 32)) := (Fr.refl _ _).alloc _
  have bA := Blk.new w 32 [.int .i64 ag, b, l, .int .i64 jobs, sd, bu, ra]
  obtain ⟨B, hB⟩ : ∃ B, w.heap.size = B := ⟨_, rfl⟩
  rw [hB] at bA
  have a0 : (w.alloc (.cells #[.int .i64 ag, b, l, .int .i64 jobs, sd, bu, ra] 32)).cell? ⟨B, 0, none⟩ = some (.int .i64 ag) := bA.cell 0
  have a3 : (w.alloc (.cells #[.int .i64 ag, b, l, .int .i64 jobs, sd, bu, ra] 32)).cell? ⟨B, 3, none⟩ = some (.int .i64 jobs) := bA.cell 3
  replace fA := Lib.hid fA
  clear bA
  by_cases h1 : 1 ≤ ag
  · have d1 : decide (ag < 1) = false := by simp; omega
    by_cases h2 : ag ≤ 4
    · have d2 : decide (4 < ag) = false := by simp; omega
      by_cases h3 : 1 ≤ jobs
      · have d3 : decide (jobs < 1) = false := by simp; omega
        have h4 : ¬ jobs ≤ 8 := fun q => by unfold mayCo at h; simp [h1, h2, h3, q] at h
        have d4 : decide (8 < jobs) = true := by simp; omega
        clear h h1 h2 h3 h4
        go_enter Try.func6, Try.ntmps6
        go_upto_region 1 with fail
        try rw [hB]
        generalize (w.alloc (.cells #[.int .i64 ag, b, l, .int .i64 jobs, sd, bu, ra] 32)) = w1 at *
        go_wp2_with fail
        go_ret2
        exact ⟨rfl, fA.out⟩
      · have d3 : decide (jobs < 1) = true := by simp; omega
        clear h h1 h2 h3
        go_enter Try.func6, Try.ntmps6
        go_upto_region 1 with fail
        try rw [hB]
        generalize (w.alloc (.cells #[.int .i64 ag, b, l, .int .i64 jobs, sd, bu, ra] 32)) = w1 at *
        go_wp2_with fail
        go_ret2
        exact ⟨rfl, fA.out⟩
    · have d2 : decide (4 < ag) = true := by simp; omega
      clear h h1 h2
      go_enter Try.func6, Try.ntmps6
      go_upto_region 1 with fail
      try rw [hB]
      generalize (w.alloc (.cells #[.int .i64 ag, b, l, .int .i64 jobs, sd, bu, ra] 32)) = w1 at *
      go_wp2_with fail
      go_ret2
      exact ⟨rfl, fA.out⟩
  · have d1 : decide (ag < 1) = true := by simp; omega
    clear h h1
    go_enter Try.func6, Try.ntmps6
    go_upto_region 1 with fail
    try rw [hB]
    generalize (w.alloc (.cells #[.int .i64 ag, b, l, .int .i64 jobs, sd, bu, ra] 32)) = w1 at *
    go_wp2_with fail
    go_ret2
    exact ⟨rfl, fA.out⟩
end Go.Proofs.Ytidcoddefebdpaa
