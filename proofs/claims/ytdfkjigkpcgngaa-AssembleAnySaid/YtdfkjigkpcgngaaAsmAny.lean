/-
  Spans in chunks and their manifest, in any order: for the law's own arguments.
-/
import Derived.Test.YtdfkjigkpcgngaaAsmAnyW
import Derived.Test.YtdfkjigkpcgngaaAsmMsg
set_option linter.unusedVariables false
set_option linter.unusedSimpArgs false
set_option maxRecDepth 100000
namespace Go.Proofs.Ytdfkjigkpcgngaa
open Go.ChangeShapes Go.WideShapes Go.ChangeAt Go.RowKit Go Go.Maps Go.Lib

def IsRw (w : World) (cs : List Value) (L : List Sp) : Prop := ∃ u, cs = [u] ∧ RdSp w u L
theorem rw_open {H : Type} {enc : TypeId × Value → H} {w : World} {base : Nat} {held : Bool} (n : Nat) (cs : List Value) (y : DataW H × List MemPlace) (hl : cs.length = 1)
    (h : DataW.trod enc Try.prog w base (fun _ => true) held n 32 cs = some y) : ∃ L, IsRw w cs L := by
  obtain ⟨u, rfl⟩ : ∃ u, cs = [u] := by
    match cs, hl with
    | [u], _ => exact ⟨u, rfl⟩
  obtain ⟨L, hL⟩ := sprow_open n u y h
  exact ⟨L, u, rfl, hL⟩
theorem u8_open {H : Type} {enc : TypeId × Value → H} {w : World} {base : Nat} {held : Bool} (n : Nat) (cs : List Value) (y : DataW H × List MemPlace) (hl : cs.length = 1)
    (h : DataW.trod enc Try.prog w base (fun _ => true) held n 5 cs = some y) : ∃ x, IsI .u8 cs x := by
  obtain ⟨q, hq, _, hw⟩ := DataW.trod_int Try.underlying5 h
  exact ⟨q, hq, hw⟩
theorem asmAny_cs (v : Value) (R : List (List Sp)) (u : Value) (xs : List Int) (w : World) (hv : SlR w v 1 (IsRw w) R) (hu : SlR w u 1 (IsI .u8) xs) :
    Calls Try.prog 4 #[v, u] w fun e w' => e = .returned (.bool true) ∧ Fr noB w w' := by
  obtain ⟨a, c, rfl, ⟨h1, _⟩, h2, h3⟩ := hv
  obtain ⟨b, d, rfl, ⟨k1, _⟩, k2, k3⟩ := hu
  unfold maxLen at k2
  refine anyW _ R b d xs w ⟨a, c, rfl, h1, h2, fun i l hi => ?_⟩ (fun i hi => ?_) k1 (by omega)
  · obtain ⟨g, o, cs, e, _, ⟨u, rfl, hu⟩, hc⟩ := h3 i l hi
    have := hc 0 u rfl
    rw [Nat.mul_one, Nat.add_zero] at this
    exact ⟨g, o, u, e, this, hu⟩
  · have hx : xs[i]? = some (xs.getD i 0) := by rw [List.getD_eq_getElem?_getD, List.getElem?_eq_getElem hi]; rfl
    obtain ⟨g, o, cs, e, _, ⟨rfl, hw⟩, hc⟩ := k3 i _ hx
    have := hc 0 _ rfl
    rw [Nat.mul_one, Nat.add_zero] at this
    simp only [Lit.wf, IntKind.min, IntKind.max, IntKind.signed, IntKind.bits, Bool.and_eq_true, decide_eq_true_eq] at hw
    exact ⟨g, o, e, this, by simpa using hw.1, by simpa using hw.2⟩
end Go.Proofs.Ytdfkjigkpcgngaa
