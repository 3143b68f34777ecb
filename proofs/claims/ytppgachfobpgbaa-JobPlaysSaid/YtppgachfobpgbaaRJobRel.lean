/-
  The program's job and the reference's are alike; messages keep that (all but a Pinned): plain mathematics.
-/
import Derived.Test.YtppgachfobpgbaaRJob3
import Derived.Test.YtppgachfobpgbaaJobState
set_option linter.unusedVariables false
set_option linter.unusedSimpArgs false
set_option maxRecDepth 100000
namespace Go.Proofs.Ytppgachfobpgbaa
open Go.RowKit Go Go.Lib

/-- how far an agent's visit is, as the reference counts it -/
def stN (v : Vis) : Int := if v.v then (if v.p then 2 else 1) else 0
/-- both jobs are alike -/
structure JRel (j : JS) (q : RJ) : Prop where
  id : q.id = j.id
  tr : q.tr = j.tr
  cl : q.cl = j.cl
  ph : q.ph = j.ph
  ke : q.ke = j.st
  n : q.S.length = j.ag
  nf : q.F.length = j.ag
  st : ∀ k, k < j.ag → q.S.getD k 0 = stN (j.at k)
  fr : ∀ k, k < j.ag → q.F.getD k false = (j.at k).f
  p1 : 1 ≤ j.ph
  no : ∀ k, j.ag ≤ k → k < 4 → (j.at k).v = false
theorem JRel.sto {j : JS} {q : RJ} (h : JRel j q) : JRel j.sto q.go8 := by
  unfold JS.sto RJ.go8
  rw [h.ph]
  split
  · exact ⟨h.id, h.tr, h.cl, rfl, rfl, h.n, h.nf, h.st, h.fr, (by decide : (1 : Int) ≤ 3), h.no⟩
  · exact h
theorem JRel.vis {j : JS} {q : RJ} (h : JRel j q) {a : Int} (h0 : 0 ≤ a) (h4 : a < 4) : q.vis a = (j.at a.toNat).v := by
  obtain ⟨k, rfl⟩ : ∃ k : Nat, a = k := ⟨a.toNat, by omega⟩
  have hk : ((k : Int)).toNat = k := by omega
  unfold RJ.vis
  rw [h.n, hk]
  by_cases hlt : k < j.ag
  · rw [h.st k hlt]
    unfold stN
    cases (j.at k).v <;> cases (j.at k).p <;> simp [hlt]
  · rw [h.no k (by omega) (by omega)]
    simp [hlt]
theorem JRel.gon {j : JS} {q : RJ} (h : JRel j q) {a : Int} (h0 : 0 ≤ a) (h4 : a < 4) : JRel (j.gon a.toNat) (q.go4 a) := by
  unfold JS.gon RJ.go4
  rw [h.ph, h.vis h0 h4]
  have := h.p1
  by_cases hv : (j.at a.toNat).v = true ∧ (j.ph = 1 ∨ j.ph = 2)
  · rw [if_pos hv, if_pos ⟨by omega, hv.1⟩]
    exact ⟨h.id, h.tr, h.cl, rfl, h.ke, h.n, h.nf, h.st, h.fr, (by decide : (1 : Int) ≤ 3), h.no⟩
  · rw [if_neg hv, if_neg (fun e => hv ⟨e.2, by omega⟩)]
    exact h
end Go.Proofs.Ytppgachfobpgbaa
