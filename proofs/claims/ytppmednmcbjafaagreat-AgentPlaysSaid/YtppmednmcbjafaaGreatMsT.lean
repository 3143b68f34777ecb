/-
  Messages, plainly: what may be, their texts; the values that stand for them.
-/
import Derived.Test.YtppmednmcbjafaaGreatMsg
import Derived.Test.YtppmednmcbjafaaGreatSpanS1
set_option linter.unusedVariables false
set_option linter.unusedSimpArgs false
set_option maxRecDepth 100000
set_option maxRecDepth 100000
namespace Go.Proofs.YtppmednmcbjafaaGreat
open Go.RowKit Go Go.Lib

/-- a Pinned's fields -/
structure Pn where
  a : Int
  t : Int
  j : Int
  n : Int
  cr : List Int
  lo : Bool
inductive Ms
  | trigger (a t c : Int)
  | pin (t j : Int)
  | pinned (p : Pn)
  | gone (a t j : Int)
  | collect (t j : Int)
  | chunk (a t j i n : Int) (sp : List Sp)
  | manifest (t j c : Int) (ps : List Pn)
  | stored (t j : Int)
  | unpin (t j : Int)
  | unpinned (a t j : Int)
def Ms.k : Ms → Int
  | .trigger .. => 1
  | .pin .. => 2
  | .pinned .. => 3
  | .gone .. => 4
  | .collect .. => 5
  | .chunk .. => 6
  | .manifest .. => 7
  | .stored .. => 8
  | .unpin .. => 9
  | .unpinned .. => 10
def pnB (p : Pn) : Bool := pinB p.a p.t p.j p.n p.cr
def spsB (t : Int) (sp : List Sp) : Bool := sp.all fun s => rightS s && s.t == t
def chunkB (a t j i n : Int) (sp : List Sp) : Bool := inB 0 3 a && (inB 1 65535 t && (inB 1 1073741824 j && (decide (1 ≤ n) && (decide (n ≤ 500) && (decide (0 ≤ i) && (decide (i < n) && (decide (sp.length ≤ 2) && spsB t sp)))))))
def manF (t j : Int) : Int → List Pn → Bool
  | _, [] => true
  | last, p :: r => pnB p && (p.t == t && (p.j == j && (decide (last < p.a) && manF t j p.a r)))
def manB (t j c : Int) (ps : List Pn) : Bool := inB 1 65535 t && (inB 1 1073741824 j && (inB 0 3 c && (decide (0 < ps.length) && manF t j (-1) ps)))
def Ms.ok : Ms → Bool
  | .trigger a t c => bTrigger a t c
  | .pin t j => bPin t j
  | .pinned p => pnB p
  | .gone a t j => bGone a t j
  | .collect t j => bCollect t j
  | .chunk a t j i n sp => chunkB a t j i n sp
  | .manifest t j c ps => manB t j c ps
  | .stored t j => bStored t j
  | .unpin t j => bUnpin t j
  | .unpinned a t j => bUnpinned a t j
def boolI (b : Bool) : Int := if b then 1 else 0
/-! ### values -/
def pnC (p : Pn) (u : Value) : List Value := [.int .i64 p.a, .int .i64 p.t, .int .i64 p.j, .int .i64 p.n, u, .bool p.lo]
/-- a slice of parts that can be read -/
def RdPs (w : World) (v : Value) (ps : List Pn) : Prop := ∃ a c, v = .slice a ps.length c ∧ ps.length ≤ c ∧ ps.length ≤ 9223372036854775807 ∧ ∀ i p, ps[i]? = some p → ∃ g o ua uc, a = some ⟨g, o, none⟩ ∧ (∀ q x, (pnC p (.slice ua p.cr.length uc))[q]? = some x → w.cell? ⟨g, o + (i * 6 + q), none⟩ = some x) ∧ RdI w (.slice ua p.cr.length uc) p.cr
def MsW (w : World) (v : Value) : Ms → Prop
  | .trigger a t c => v = mTrigger a t c
  | .pin t j => v = mPin t j
  | .pinned p => ∃ u, v = mPinned p.a p.t p.j p.n u p.lo ∧ RdI w u p.cr
  | .gone a t j => v = mGone a t j
  | .collect t j => v = mCollect t j
  | .chunk a t j i n sp => ∃ u, v = mChunk a t j i n u ∧ RdSp w u sp
  | .manifest t j c ps => ∃ u, v = mManifest t j c u ∧ RdPs w u ps
  | .stored t j => v = mStored t j
  | .unpin t j => v = mUnpin t j
  | .unpinned a t j => v = mUnpinned a t j
theorem RdI.frN {w w' : World} {v : Value} {xs : List Int} (h : RdI w v xs) (hf : Fr noB w w') : RdI w' v xs := h.fr hf (fun _ _ _ _ _ q => q)
theorem RdI.frH {w w' : World} {v : Value} {xs : List Int} (h : RdI w v xs) (hf : Fr (hiB w.heap.size) w w') : RdI w' v xs := by
  obtain ⟨a, c, rfl, h1, h2, h3⟩ := h
  refine ⟨a, c, rfl, h1, h2, fun i hi => ?_⟩
  obtain ⟨g, o, e, h4⟩ := h3 i hi
  exact ⟨g, o, e, hf.cell h4 (by have := lt_of_cell h4; unfold hiB; omega)⟩
theorem RdSp.frH {w w' : World} {v : Value} {L : List Sp} (h : RdSp w v L) (hf : Fr (hiB w.heap.size) w w') : RdSp w' v L := by
  obtain ⟨a, c, rfl, hl, hc, hn, h1⟩ := h
  refine ⟨a, c, rfl, hl, hc, hn, fun i s hi => ?_⟩
  obtain ⟨g, o, rfl, c0, c1, c2⟩ := h1 i s hi
  have : ¬ hiB w.heap.size g := by have := lt_of_cell c0; unfold hiB; omega
  exact ⟨g, o, rfl, hf.cell c0 this, hf.cell c1 this, hf.cell c2 this⟩
theorem RdPs.frH {w w' : World} {v : Value} {ps : List Pn} (h : RdPs w v ps) (hf : Fr (hiB w.heap.size) w w') : RdPs w' v ps := by
  obtain ⟨a, c, rfl, hl, hc, h1⟩ := h
  refine ⟨a, c, rfl, hl, hc, fun i p hi => ?_⟩
  obtain ⟨g, o, ua, uc, e, h2, h3⟩ := h1 i p hi
  exact ⟨g, o, ua, uc, e, fun q x hq => hf.cell (h2 q x hq) (by have := lt_of_cell (h2 q x hq); unfold hiB; omega), h3.frH hf⟩
theorem Fr.toH {B : Nat} {w w' : World} (h : Fr noB w w') : Fr (hiB B) w w' := h.mono (fun _ _ q => False.elim q)
theorem MsW.frH {w w' : World} {v : Value} {m : Ms} (h : MsW w v m) (hf : Fr (hiB w.heap.size) w w') : MsW w' v m := by
  cases m with
  | pinned p => obtain ⟨u, e, h1⟩ := h; exact ⟨u, e, h1.frH hf⟩
  | chunk => obtain ⟨u, e, h1⟩ := h; exact ⟨u, e, h1.frH hf⟩
  | manifest => obtain ⟨u, e, h1⟩ := h; exact ⟨u, e, h1.frH hf⟩
  | _ => exact h
theorem MsW.frN {w w' : World} {v : Value} {m : Ms} (h : MsW w v m) (hf : Fr noB w w') : MsW w' v m := h.frH hf.toH
end Go.Proofs.YtppmednmcbjafaaGreat
