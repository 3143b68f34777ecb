/-
  Like, and the reference's Print, of any message.
-/
import Derived.Test.YtdfkjigkpcgngaaLikeManB
set_option linter.unusedVariables false
set_option linter.unusedSimpArgs false
set_option maxRecDepth 100000
namespace Go.Proofs.Ytdfkjigkpcgngaa
open Go.RowKit Go Go.Lib

/-- the value v is the reference's message m -/
def RfW (w : World) (v : Value) : Ms → Prop
  | .trigger a t c => v = mrV { k := 1, a := a, t := t, c := c }
  | .pin t j => v = mrV { k := 2, t := t, j := j }
  | .pinned p => ∃ ua uc, v = mrV { k := 3, pa := p.a, pt := p.t, pj := p.j, pc := p.n, ua := ua, un := p.cr.length, uc := uc, lo := p.lo } ∧ RdI w (.slice ua p.cr.length uc) p.cr
  | .gone a t j => v = mrV { k := 4, a := a, t := t, j := j }
  | .collect t j => v = mrV { k := 5, t := t, j := j }
  | .chunk a t j i n sp => ∃ sa sc, v = mrV { k := 6, a := a, t := t, j := j, i := i, n := n, sa := sa, sn := sp.length, sc := sc } ∧ RdSp w (.slice sa sp.length sc) sp
  | .manifest t j c ps => ∃ qa qc, v = mrV { k := 7, t := t, j := j, c := c, qa := qa, qn := ps.length, qc := qc } ∧ RdPs w (.slice qa ps.length qc) ps
  | .stored t j => v = mrV { k := 8, t := t, j := j }
  | .unpin t j => v = mrV { k := 9, t := t, j := j }
  | .unpinned a t j => v = mrV { k := 10, a := a, t := t, j := j }
theorem RfW.frN {w w' : World} {v : Value} {m : Ms} (h : RfW w v m) (hf : Fr noB w w') : RfW w' v m := by
  cases m with
  | pinned p => obtain ⟨a, c, e, h1⟩ := h; exact ⟨a, c, e, h1.frN hf⟩
  | chunk => obtain ⟨a, c, e, h1⟩ := h; exact ⟨a, c, e, h1.frN hf⟩
  | manifest => obtain ⟨a, c, e, h1⟩ := h; exact ⟨a, c, e, h1.frH hf.toH⟩
  | _ => exact h
def Ms.few : Ms → Prop
  | .manifest _ _ _ ps => ps.length ≤ 100
  | _ => True
theorem like_ms (v : Value) (m : Ms) (w : World) (h : MsW w v m) (hl : m.few) : Calls Try.prog 12 #[v] w fun e w' => ∃ u, e = .returned u ∧ RfW w' u m ∧ Fr noB w w' := by
  cases m with
  | trigger a t c => obtain rfl := h; exact (like_Trigger a t c w).mono fun e w' ⟨h1, f⟩ => ⟨_, h1, rfl, f⟩
  | pin t j => obtain rfl := h; exact (like_Pin t j w).mono fun e w' ⟨h1, f⟩ => ⟨_, h1, rfl, f⟩
  | pinned p =>
    obtain ⟨u, rfl, h1⟩ := h
    have h0 := h1
    obtain ⟨ua, uc, rfl, _⟩ := h1
    exact (like_Pinned p.a p.t p.j p.n ua _ uc p.lo w).mono fun e w' ⟨h2, f⟩ => ⟨_, h2, ⟨ua, uc, rfl, h0.frN f⟩, f⟩
  | gone a t j => obtain rfl := h; exact (like_Gone a t j w).mono fun e w' ⟨h1, f⟩ => ⟨_, h1, rfl, f⟩
  | collect t j => obtain rfl := h; exact (like_Collect t j w).mono fun e w' ⟨h1, f⟩ => ⟨_, h1, rfl, f⟩
  | chunk a t j i n sp =>
    obtain ⟨u, rfl, h1⟩ := h
    have h0 := h1
    obtain ⟨sa, sc, rfl, _⟩ := h1
    exact (like_Chunk a t j i n sa _ sc w).mono fun e w' ⟨h2, f⟩ => ⟨_, h2, ⟨sa, sc, rfl, h0.frN f⟩, f⟩
  | manifest t j c ps =>
    obtain ⟨u, rfl, h1⟩ := h
    refine (like_Manifest t j c u ps w h1 hl).mono ?_
    rintro e w' ⟨qa, qc, rfl, h2, f⟩
    exact ⟨_, rfl, ⟨qa, qc, rfl, h2⟩, f⟩
  | stored t j => obtain rfl := h; exact (like_Stored t j w).mono fun e w' ⟨h1, f⟩ => ⟨_, h1, rfl, f⟩
  | unpin t j => obtain rfl := h; exact (like_Unpin t j w).mono fun e w' ⟨h1, f⟩ => ⟨_, h1, rfl, f⟩
  | unpinned a t j => obtain rfl := h; exact (like_Unpinned a t j w).mono fun e w' ⟨h1, f⟩ => ⟨_, h1, rfl, f⟩
end Go.Proofs.Ytdfkjigkpcgngaa
