/-
  What the law EvictNil walks.
-/
import Derived.Test.YtnecglghinpgmaaKeepAwake
set_option linter.unusedVariables false
set_option linter.unusedSimpArgs false
namespace Go.Proofs.Ytnecglghinpgmaa
open Go.RowKit Go Go.Maps Go.Lib

theorem ope_open {H : Type} {enc : TypeId × Value → H} {w : World} {base : Nat} {held : Bool} (n : Nat) (cs : List Value) (y : DataW H × List MemPlace) (hl : cs.length = 3)
    (h : DataW.trod enc Try.prog w base (fun _ => true) held n 33 cs = some y) : ∃ m, IsOpE cs m := by
  obtain ⟨a, ha, wa⟩ := fld_int (i := 0) (off := 0) Try.underlying33 h rfl (by kernel_rfl) (by omega) Try.underlying3
  obtain ⟨b, hb, wb⟩ := fld_int (i := 1) (off := 1) Try.underlying33 h rfl (by kernel_rfl) (by omega) Try.underlying3
  obtain ⟨c, hc, wc⟩ := fld_str (i := 2) (off := 2) Try.underlying33 h rfl (by kernel_rfl) (by omega) Try.underlying9
  exact ⟨⟨a, b, c⟩, by rw [list3 hl, ha, hb, hc], wa, wb, wc⟩
set_option maxHeartbeats 2000000 in
set_option maxRecDepth 10000 in
theorem nil_any (m : OpE) (w : World) : Calls Try.prog 6 #[.agg #[.int .i64 m.k, .int .i64 m.t, .string m.s]] w fun e w' => e = .returned (.bool true) ∧ Fr noB w w' := by
  have fX := (Fr.refl noB w).alloc (.cells #[.int .i64 m.k, .int .i64 m.t, .string m.s] 33)
  have bX := Blk.new w 33 [.int .i64 m.k, .int .i64 m.t, .string m.s]
  have hd := fun w' => dnil_any m w'
  generalize (if m.k = 1 then 9 else 0 : Int) = er at hd
  have hw := fun w' => kwrite_nil m.t m.s w'
  have ha := fun w' => awake_any w'
  have hp := fun w' => kpinned_nil m.t w'
  have hl := fun w' => klost_nil m.t w'
  have hs := fun w' => kspans_nil m.t w'
  have ht := fun w' => ktraces_nil w'
  have hu := fun w' => kused_nil w'
  have he := fun w' => kevicted_nil w'
  go_enter Try.func6, Try.ntmps6
  go_wp2_with fail
  refine (hd _).mono ?_
  rintro e w1 ⟨rfl, f1⟩
  have b1 := f1.blk bX (fun q => q)
  have g1 := fX.seqN f1
  have c1 : w1.cell? ⟨w.heap.size, 1, none⟩ = some (.int .i64 m.t) := b1.cell 1
  have c2 : w1.cell? ⟨w.heap.size, 2, none⟩ = some (.string m.s) := b1.cell 2
  clear hd fX bX f1
  replace b1 := Lib.hid b1
  go_wp2_with fail
  refine (hw _).mono ?_
  rintro e w2 ⟨rfl, f2⟩
  have fS := (Fr.refl noB w2).alloc (.cells #[.int .i64 0, .int .i64 0, .string (ByteArray.mk #[])] 35)
  have b2 := fS.blk (f2.blk b1.out (fun q => q)) (fun q => q)
  have g2 := (g1.seqN f2).seqN fS
  clear hw f2 fS g1 b1 c1 c2
  replace b2 := Lib.hid b2
  go_wp2_with fail
  refine (ha _).mono ?_
  rintro e w3 ⟨rfl, f3⟩
  have b3 := f3.blk b2.out (fun q => q)
  have g3 := g2.seqN f3
  have c1 : w3.cell? ⟨w.heap.size, 1, none⟩ = some (.int .i64 m.t) := b3.cell 1
  clear ha f3 b2 g2
  go_wp2_with fail
  refine (hp _).mono ?_
  rintro e w4 ⟨rfl, hw4⟩
  obtain rfl := hw4.symm
  clear hp hw4
  go_wp2_with fail
  refine (hl _).mono ?_
  rintro e w4 ⟨rfl, hw4⟩
  obtain rfl := hw4.symm
  clear hl hw4
  go_wp2_with fail
  refine (hs _).mono ?_
  rintro e w4 ⟨rfl, f4⟩
  have g4 := g3.seqN f4
  clear hs f4 g3 c1 b3
  go_wp2_with fail
  refine (ht _).mono ?_
  rintro e w5 ⟨rfl, f5⟩
  have g5 := g4.seqN f5
  clear ht f5 g4
  go_wp2_with fail
  refine (hu _).mono ?_
  rintro e w6 ⟨rfl, f6⟩
  have g6 := g5.seqN f6
  clear hu f6 g5
  go_wp2_with fail
  refine (he _).mono ?_
  rintro e w7 ⟨rfl, f7⟩
  have g7 := g6.seqN f7
  clear he f7 g6
  go_wp2_with fail
  go_ret
  exact ⟨rfl, g7⟩
theorem nil_cs (cs : Array Value) (m : OpE) (w : World) (h : IsOpE cs.toList m) : Calls Try.prog 6 #[.agg cs] w fun e w' => e = .returned (.bool true) ∧ Fr noB w w' := by
  have hc : cs = #[.int .i64 m.k, .int .i64 m.t, .string m.s] := by rw [← Array.toList_inj]; exact h.1
  rw [hc]
  exact nil_any m w
end Go.Proofs.Ytnecglghinpgmaa
