/-
  Stage 2's law WireNil.
-/
import Derived.Test.YtnfjnlaalfcabaaDoorWireAwake
import Derived.OpenShut
import Derived.ShutString
import Derived.ChangeOld
set_option linter.unusedVariables false
set_option linter.unusedSimpArgs false
set_option maxRecDepth 100000
namespace Go.Proofs.YtnfjnlaalfcabaaDoor
open Go.RowKit Go Go.Lib Go.ChangeShapes Go.WideShapes Go.ChangeAt

/-- a call of the law -/
structure OpW where
  k : Int
  n : Int
  lo : Int
  hi : Int
  s : ByteArray
def okI (n : Int) : Prop := (Lit.int .i64 n).wf = true
def IsOpW (cs : List Value) (m : OpW) : Prop := cs = [.int .i64 m.k, .int .i64 m.n, .int .i64 m.lo, .int .i64 m.hi, .string m.s] ∧ okI m.k ∧ okI m.n ∧ okI m.lo ∧ okI m.hi ∧ m.s.size ≤ maxLen
theorem list5 {α : Type} {cs : List α} (h : cs.length = 5) : cs = [cs[0], cs[1], cs[2], cs[3], cs[4]] := by
  match cs, h with
  | [a, b, c, d, e], _ => rfl
theorem opw_open {H : Type} {enc : TypeId × Value → H} {w : World} {base : Nat} {held : Bool} (n : Nat) (cs : List Value) (y : DataW H × List MemPlace) (hl : cs.length = 5)
    (h : DataW.trod enc Tryd.prog w base (fun _ => true) held n 29 cs = some y) : ∃ m, IsOpW cs m := by
  obtain ⟨a, ha, wa⟩ := fld_int (i := 0) (off := 0) Tryd.underlying29 h rfl (by kernel_rfl) (by omega) Tryd.underlying3
  obtain ⟨b, hb, wb⟩ := fld_int (i := 1) (off := 1) Tryd.underlying29 h rfl (by kernel_rfl) (by omega) Tryd.underlying3
  obtain ⟨c, hc, wc⟩ := fld_int (i := 2) (off := 2) Tryd.underlying29 h rfl (by kernel_rfl) (by omega) Tryd.underlying3
  obtain ⟨d, hd, wd⟩ := fld_int (i := 3) (off := 3) Tryd.underlying29 h rfl (by kernel_rfl) (by omega) Tryd.underlying3
  obtain ⟨e, he, we⟩ := fld_str (i := 4) (off := 4) Tryd.underlying29 h rfl (by kernel_rfl) (by omega) Tryd.underlying9
  exact ⟨⟨a, b, c, d, e⟩, by rw [list5 hl, ha, hb, hc, hd, he], wa, wb, wc, wd, we⟩

set_option maxHeartbeats 2000000 in
theorem nil_any (m : OpW) (w : World) (hg : Gl w) : Calls Tryd.prog 5 #[.agg #[.int .i64 m.k, .int .i64 m.n, .int .i64 m.lo, .int .i64 m.hi, .string m.s]] w fun e w' => e = .returned (.bool true) ∧ Fr noB w w' := by
  have fX := (Fr.refl noB w).alloc (.cells #[.int .i64 m.k, .int .i64 m.n, .int .i64 m.lo, .int .i64 m.hi, .string m.s] 29)
  have bX := Blk.new w 29 [.int .i64 m.k, .int .i64 m.n, .int .i64 m.lo, .int .i64 m.hi, .string m.s]
  obtain ⟨g, hgz⟩ : ∃ g, w.heap.size = g := ⟨_, rfl⟩
  rw [hgz] at bX
  go_enter Tryd.func5, Tryd.ntmps5
  go_wp2_with fail
  refine (wint_nil _ _).mono ?_
  rintro e w1 ⟨rfl, hw⟩
  obtain rfl := hw.symm
  have fY := fX.alloc (.cells #[.int .i64 m.n] 3)
  have bY := ((Fr.refl noB _).alloc (.cells #[.int .i64 m.n] 3)).keepN bX
  clear fX bX hw
  generalize ((w.alloc _).alloc _) = wy at *
  have c4 : wy.cell? ⟨g, 4, none⟩ = some (.string m.s) := bY.cell 4
  go_wp2_with fail
  refine (wtext_nil _ _).mono ?_
  rintro e w1 ⟨rfl, hw⟩
  obtain rfl := hw.symm
  have fZ := fY.alloc (.cells #[.string m.s] 9)
  have bZ := ((Fr.refl noB _).alloc (.cells #[.string m.s] 9)).keepN bY
  clear fY bY hw c4
  generalize wy.alloc _ = wz at *
  go_wp2_with fail
  refine (awake_any wz (hg.fr fZ)).mono ?_
  rintro e w1 ⟨rfl, f1⟩
  have b1 := f1.keepN bZ
  have fr := fZ.seqN f1
  have c2 : w1.cell? ⟨g, 2, none⟩ = some (.int .i64 m.lo) := b1.cell 2
  have c3 : w1.cell? ⟨g, 3, none⟩ = some (.int .i64 m.hi) := b1.cell 3
  clear bZ fZ f1 b1
  go_wp2_with fail
  refine (wstr_nil _).mono ?_
  rintro e w2 ⟨rfl, hw⟩
  obtain rfl := hw.symm
  clear hw
  have he : strB [] = ⟨#[]⟩ := rfl
  go_wp2_with fail
  refine (rint_nil _ _ _).mono ?_
  rintro e w2 ⟨rfl, hw⟩
  obtain rfl := hw.symm
  clear hw
  go_wp2_with fail
  refine (rtext_nil _ _).mono ?_
  rintro e w2 ⟨rfl, hw⟩
  obtain rfl := hw.symm
  clear hw
  go_wp2_with fail
  refine (rok_nil _).mono ?_
  rintro e w2 ⟨rfl, hw⟩
  obtain rfl := hw.symm
  clear hw
  go_wp2_with fail
  refine (rdone_nil _).mono ?_
  rintro e w2 ⟨rfl, hw⟩
  obtain rfl := hw.symm
  clear hw
  go_wp2_with fail
  go_ret
  exact ⟨rfl, fr⟩
theorem nil_cs (cs : Array Value) (m : OpW) (w : World) (hg : Gl w) (h : IsOpW cs.toList m) : Calls Tryd.prog 5 #[.agg cs] w fun e w' => e = .returned (.bool true) ∧ Fr noB w w' := by
  have hc : cs = #[.int .i64 m.k, .int .i64 m.n, .int .i64 m.lo, .int .i64 m.hi, .string m.s] := by rw [← Array.toList_inj]; exact h.1
  rw [hc]
  exact nil_any m w hg
end Go.Proofs.YtnfjnlaalfcabaaDoor
