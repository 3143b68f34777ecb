/-
  The reference's Right of any message.
-/
import Derived.Deep.DeepCutAuto
import Derived.BigQuiet
import Derived.Deep.QuietTactic
import Derived.Deep.LoopGhost
import Derived.Test.YtdfkjigkpcgngaaRefRight
import Derived.Test.YtdfkjigkpcgngaaRefRight2B
import Derived.Test.YtdfkjigkpcgngaaRefRight3B
import Derived.Test.YtdfkjigkpcgngaaMsLikeB
set_option linter.unusedVariables false
set_option linter.unusedSimpArgs false
set_option maxRecDepth 100000
namespace Go.Proofs.Ytdfkjigkpcgngaa
open Go.RowKit Go Go.Lib

theorem and3a (x y z : Bool) : (y && (x && z)) = (x && (y && z)) := by cases x <;> cases y <;> rfl
theorem and3b (x y z : Bool) : (y && (z && x)) = (x && (y && z)) := by cases x <;> cases y <;> cases z <;> rfl
theorem rr_ms (v : Value) (m : Ms) (w : World) (h : RfW w v m) : Calls Try.prog 26 #[v] w fun e w' => e = .returned (.bool m.ok) ∧ Fr noB w w' := by
  cases m with
  | trigger a t c => obtain rfl := h; exact (rr_1 a t c w).mono fun e w' ⟨h1, f⟩ => ⟨h1.trans (ret_b (and3a _ _ _)), f⟩
  | pin t j => obtain rfl := h; exact rr_2 t j w
  | pinned p => obtain ⟨ua, uc, rfl, h1⟩ := h; exact rr_3 p.a p.t p.j p.n ua _ uc p.lo p.cr w h1
  | gone a t j => obtain rfl := h; exact (rr_4 a t j w).mono fun e w' ⟨h1, f⟩ => ⟨h1.trans (ret_b (and3b _ _ _)), f⟩
  | collect t j => obtain rfl := h; exact rr_5 t j w
  | chunk a t j i n sp => obtain ⟨sa, sc, rfl, h1⟩ := h; exact rr_Chunk a t j i n sp sa _ sc w h1
  | manifest t j c ps => obtain ⟨qa, qc, rfl, h1⟩ := h; exact rr_Manifest t j c ps qa _ qc w h1
  | stored t j => obtain rfl := h; exact rr_8 t j w
  | unpin t j => obtain rfl := h; exact rr_9 t j w
  | unpinned a t j => obtain rfl := h; exact (rr_10 a t j w).mono fun e w' ⟨h1, f⟩ => ⟨h1.trans (ret_b (and3b _ _ _)), f⟩
end Go.Proofs.Ytdfkjigkpcgngaa
