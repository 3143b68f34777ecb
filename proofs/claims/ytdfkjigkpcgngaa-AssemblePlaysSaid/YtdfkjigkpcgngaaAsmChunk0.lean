/-
  New; what a chunk makes of what came.
-/
import Derived.Test.YtdfkjigkpcgngaaAsmClone
import Derived.Deep.DeepCutAuto
import Derived.BigQuiet
set_option linter.unusedVariables false
set_option linter.unusedSimpArgs false
set_option maxRecDepth 100000
set_option maxRecDepth 100000
namespace Go.Proofs.Ytdfkjigkpcgngaa
open Go.RowKit Go Go.Maps Go.Lib

theorem KI' : KeyLit Try.prog 3 kvI klI okI := keyLit_int Try.underlying3
theorem anew_any (t j : Int) (w : World) : Calls Try.prog 8 #[.int .i64 t, .int .i64 j] w fun e w' => ∃ p bm, e = .returned (.pointer (some ⟨p, 0, none⟩)) ∧ w.heap.size ≤ p ∧ w.heap.size ≤ bm ∧ AsmP w' p bm p (fun g => g = p ∨ g = bm) ⟨t, j, none, []⟩ ∧ Fr noB w w' := by
  have hmm := @run_makeMap Try.prog
  have hM := Mp.made (P := Try.prog) (K := 3) (kl := klI) (mk := mkC) w
  have f1 : Fr noB w (w.alloc (.map #[] 0)) := (Fr.refl _ _).alloc _
  have f2 : Fr noB (w.alloc (.map #[] 0)) ((w.alloc (.map #[] 0)).alloc (.cells #[.int .i64 t, .int .i64 j, .pointer none, .map (some w.heap.size)] 76)) := (Fr.refl _ _).alloc _
  have b2 := Blk.new (w.alloc (.map #[] 0)) 76 [.int .i64 t, .int .i64 j, .pointer none, .map (some w.heap.size)]
  have hs : (w.alloc (.map #[] 0)).heap.size = w.heap.size + 1 := by simp
  have hs2 : ((w.alloc (.map #[] 0)).alloc (.cells #[.int .i64 t, .int .i64 j, .pointer none, .map (some w.heap.size)] 76)).heap.size = w.heap.size + 1 + 1 := by simp
  rw [hs] at b2
  replace hM := hM.fr f2 (fun q => q)
  replace hM := Lib.hid hM
  replace b2 := Lib.hid b2
  replace hs2 := Lib.hid hs2
  have f12 := Lib.hid (f1.seqN f2)
  clear f1 f2 hs
  go_enter Try.func8, Try.ntmps8
  go_wp2_with fail
  go_ret
  refine ⟨w.heap.size + 1, w.heap.size, rfl, by omega, by omega, ⟨b2.out, fun c ps e => (by cases e), hM.out, fun o ho => (by cases ho), by simp, Or.inl rfl, Or.inr rfl, ⟨by omega, by omega, Or.inl rfl⟩, fun g hg => ?_⟩, f12.out⟩
  rw [hs2.out]
  rcases hg with rfl | rfl <;> omega
/-- all that came, by agents -/
def AP.C (A : AP) : List (Int × Int × List (Int × List Sp)) := A.O.map fun o => (o.a, o.t, enS o.E)
/-- a chunk comes -/
def chunkC (C : List (Int × Int × List (Int × List Sp))) (a i n : Int) (sp : List Sp) : Bool × List (Int × Int × List (Int × List Sp)) :=
  match look C a with
  | none => (true, (a, n, [(i, sp)]) :: C)
  | some (t, L) => if (look L i).isSome = true ∨ n ≠ t then (false, C) else (true, C.map fun c => if c.1 = a then (c.1, c.2.1, (i, sp) :: c.2.2) else c)
theorem c_look (A : AP) (a : Int) : look A.C a = (A.at a).map fun o => (o.t, enS o.E) := by
  unfold AP.at AP.C look
  induction A.O with
  | nil => rfl
  | cons o r ih =>
    rw [List.map_cons, List.find?_cons, List.find?_cons]
    show Option.map _ (match decide (o.a = a) with | true => some (o.a, o.t, enS o.E) | false => _) = _
    by_cases h : o.a = a
    · simp [h]
    · simp only [h, decide_false]
      exact ih
theorem without_none {α κ : Type} [DecidableEq κ] {L : List (κ × α)} {k : κ} (h : look L k = none) : without L k = L := by
  unfold without
  exact List.filter_eq_self.2 fun p hp => by simpa using look_none h p hp
theorem chunk_in {a t j i n : Int} {sp : List Sp} (h : chunkB a t j i n sp = true) : 0 ≤ a ∧ a ≤ 3 ∧ 1 ≤ n ∧ n ≤ 500 ∧ 0 ≤ i ∧ i < n ∧ sp.length ≤ 2 := by
  unfold chunkB inB at h
  simp only [Bool.and_eq_true, decide_eq_true_eq] at h
  omega
end Go.Proofs.Ytdfkjigkpcgngaa
