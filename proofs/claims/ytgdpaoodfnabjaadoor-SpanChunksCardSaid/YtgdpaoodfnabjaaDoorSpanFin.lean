/-
  Stage 5's laws over arguments as they come in.
-/
import Derived.Test.YtgdpaoodfnabjaaDoorSpanPrints
import Derived.Test.YtgdpaoodfnabjaaDoorSpanChunks
import Derived.Test.YtgdpaoodfnabjaaDoorArgs
import Derived.OpenShut
import Derived.ShutString
import Derived.ChangeOld
set_option linter.unusedVariables false
set_option linter.unusedSimpArgs false
namespace Go.Proofs.YtgdpaoodfnabjaaDoor
open Go.ChangeShapes Go.WideShapes Go.ChangeAt Go.RowKit Go Go.Lib
def IsSp (cs : List Value) (m : Sp) : Prop := cs = spC m
theorem sp_open {H : Type} {enc : TypeId × Value → H} {w : World} {base : Nat} {held : Bool} (n : Nat) (cs : List Value) (y : DataW H × List MemPlace) (hl : cs.length = 3)
    (h : DataW.trod enc Tryd.prog w base (fun _ => true) held n 30 cs = some y) : ∃ m, IsSp cs m := by
  obtain ⟨a, ha, wa⟩ := fld_int (i := 0) (off := 0) Tryd.underlying30 h rfl (by kernel_rfl) (by omega) Tryd.underlying3
  obtain ⟨b, hb, wb⟩ := fld_int (i := 1) (off := 1) Tryd.underlying30 h rfl (by kernel_rfl) (by omega) Tryd.underlying3
  obtain ⟨c, hc, wc⟩ := fld_str (i := 2) (off := 2) Tryd.underlying30 h rfl (by kernel_rfl) (by omega) Tryd.underlying9
  exact ⟨⟨a, b, c⟩, by unfold IsSp spC; rw [list3 hl, ha, hb, hc]⟩
theorem RdSp.of_slr {w : World} {v : Value} {L : List Sp} (h : SlR w v 3 IsSp L) : RdSp w v L := by
  obtain ⟨a, c, rfl, ⟨h1, h2⟩, h3, h4⟩ := h
  refine ⟨a, c, rfl, h1, h3, h2, fun i s hi => ?_⟩
  obtain ⟨g, o, cs, rfl, hl, hcs, hc⟩ := h4 i s hi
  unfold IsSp at hcs
  subst hcs
  refine ⟨g, o, rfl, ?_, ?_, ?_⟩
  · exact hc 0 _ rfl
  · have := hc 1 _ rfl; rwa [← Nat.add_assoc] at this
  · have := hc 2 _ rfl; rwa [← Nat.add_assoc] at this
theorem span_rows (n tr : Int) (w : World) (hg : Gl w) (hn : (Lit.int .i64 n).wf = true) (ht : (Lit.int .i64 tr).wf = true) :
    Calls Tryd.prog 5 #[.int .i64 n, .int .i64 tr] w fun e w' => e = .returned (.bool true) ∧ Fr noB w w' := rows_any n tr w hn ht hg
theorem span_prints (v : Value) (xs : List Sp) (w : World) (hg : Gl w) (hv : SlR w v 3 IsSp xs) :
    Calls Tryd.prog 3 #[v] w fun e w' => e = .returned (.bool true) ∧ Fr noB w w' := prints_any v xs w (RdSp.of_slr hv) hg
theorem span_chunks (v : Value) (xs : List Sp) (tr : Int) (w : World) (hg : Gl w) (hv : SlR w v 3 IsSp xs) (ht : (Lit.int .i64 tr).wf = true) :
    Calls Tryd.prog 4 #[v, .int .i64 tr] w fun e w' => e = .returned (.bool true) ∧ Fr noB w w' := chunkslaw_any v xs tr w (RdSp.of_slr hv) hg
end Go.Proofs.YtgdpaoodfnabjaaDoor
