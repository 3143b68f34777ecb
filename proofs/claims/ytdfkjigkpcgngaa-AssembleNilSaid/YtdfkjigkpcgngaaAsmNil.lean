/-
  Of one that is none nothing comes.
-/
import Derived.Test.YtdfkjigkpcgngaaAsmMsg2
set_option linter.unusedVariables false
set_option linter.unusedSimpArgs false
set_option maxRecDepth 100000
namespace Go.Proofs.Ytdfkjigkpcgngaa
open Go.RowKit Go Go.Maps Go.Lib

theorem hear_nil (v : Value) (w : World) : Calls Try.prog 10 #[.pointer none, v] w fun e w' => e = .returned (.bool false) ∧ w' = w := by
  go_enter Try.func10, Try.ntmps10
  go_wp2_with fail
  go_ret
  exact ⟨rfl, rfl⟩
set_option maxHeartbeats 8000000 in
theorem nil_any (m : OpA) (w : World) (h : IsOpA w (opaC m) m) :
    Calls Try.prog 5 #[.agg (opaC m).toArray] w fun e w' => e = .returned (.bool true) ∧ Fr noB w w' := by
  obtain ⟨ob, hob⟩ : ∃ ob, w.heap.size = ob := ⟨_, rfl⟩
  have f1 : Fr noB w (w.alloc (.cells (opaC m).toArray 39)) := (Fr.refl _ _).alloc _
  have b1 := Blk.new w 39 (opaC m)
  have hs1 : (w.alloc (.cells (opaC m).toArray 39)).heap.size = ob + 1 := by rw [size_alloc, hob]
  rw [hob] at b1
  have hone : ∀ u ∈ opaC m, u.oneCell' = true := by
    intro u hu
    unfold opaC at hu
    simp only [List.mem_cons, List.not_mem_nil, or_false] at hu
    rcases hu with rfl | rfl | rfl | rfl | rfl | rfl | rfl | rfl | rfl <;> rfl
  have f2 : Fr noB (w.alloc (.cells (opaC m).toArray 39)) ((w.alloc (.cells (opaC m).toArray 39)).alloc (.cells (opaC m).toArray 39)) := (Fr.refl _ _).alloc _
  have b2 := Blk.new (w.alloc (.cells (opaC m).toArray 39)) 39 (opaC m)
  rw [hs1] at b2
  have hfew := fewOps_any _ [m] w _ (slra_one b2 h) (f1.seqN f2)
  have hrd : ∀ w', Fr noB w w' → Calls Try.prog 9 #[.agg (opaC m).toArray] w' (fun e w'' => ∃ v, e = .returned v ∧ MsO w'' v m.ms ∧ Fr noB w' w'') ∨ fewAB [m] = false := fun w' f => by
    cases hF : fewAB [m] with
    | false => exact Or.inr rfl
    | true =>
      left
      have h20 : m.xs.length ≤ 20 := by
        unfold fewAB okOpA at hF
        simp only [List.all_cons, List.all_nil, Bool.and_true, Bool.and_eq_true, decide_eq_true_eq] at hF
        exact hF.1.2.1
      exact messageA_any m w' (h.2.1.frN f) (h.2.2.1.frN f) h20
  have b12 := f2.blk b1 (fun q => q)
  have f12 := f1.seqN f2
  have y : ∀ w', Fr noB ((w.alloc (.cells (opaC m).toArray 39)).alloc (.cells (opaC m).toArray 39)) w' → w'.cell? ⟨ob, 0, none⟩ = some (.int .i64 m.k) ∧ w'.cell? ⟨ob, 1, none⟩ = some (.int .i64 m.a) ∧ w'.cell? ⟨ob, 2, none⟩ = some (.int .i64 m.t) ∧ w'.cell? ⟨ob, 3, none⟩ = some (.int .i64 m.j) ∧ w'.cell? ⟨ob, 4, none⟩ = some (.int .i64 m.i) ∧ w'.cell? ⟨ob, 5, none⟩ = some (.int .i64 m.n) ∧ w'.cell? ⟨ob, 6, none⟩ = some (.slice m.sa m.sp.length m.sc) ∧ w'.cell? ⟨ob, 7, none⟩ = some (.slice m.ua m.xs.length m.uc) ∧ w'.cell? ⟨ob, 8, none⟩ = some (.bool m.lo) := fun w' f => by
    have b := f.blk b12 (fun q => q)
    exact ⟨b.cell 0, b.cell 1, b.cell 2, b.cell 3, b.cell 4, b.cell 5, b.cell 6, b.cell 7, b.cell 8⟩
  have hrn := record_nil
  have hmn := missing_nil
  have haw := awake_any
  obtain ⟨F, hF⟩ : ∃ F, fewAB [m] = F := ⟨_, rfl⟩
  rw [hF] at hfew
  have hrd2 : Hid (F = true → ∀ w', Fr noB w w' → Calls Try.prog 9 #[.agg (opaC m).toArray] w' (fun e w'' => ∃ v, e = .returned v ∧ MsO w'' v m.ms ∧ Fr noB w' w'')) := Lib.hid fun hT w' f => (hrd w' f).resolve_right (fun q => by rw [hF, hT] at q; cases q)
  unfold opaC at hfew y f12 hrd2
  replace hfew := Lib.hid hfew
  replace hrn := Lib.hid hrn
  replace hmn := Lib.hid hmn
  replace haw := Lib.hid haw
  replace y := Lib.hid y
  replace f12 := Lib.hid f12
  clear hrd hF h b1 b2 b12 f1 f2 hs1 hone
  unfold opaC
  go_enter Try.func5, Try.ntmps5
  go_wp2_with fail
  go_fit hfew.out
  rintro e w1 ⟨rfl, f1⟩
  have g1 := f12.out.seqN f1
  have hy := fun w' f => y.out w' (f1.seqN f)
  replace hy := Lib.hid hy
  replace g1 := Lib.hid g1
  clear hfew y f1 f12
  cases F with
  | false =>
    go_wp2_with fail
    refine (haw.out _).mono ?_
    rintro e w2 ⟨rfl, f2⟩
    have g2 := Lib.hid (g1.out.seqN f2)
    clear f2
    go_wp2_with fail
    go_ret
    exact ⟨rfl, g2.out⟩
  | true =>
    have hms := hrd2.out rfl
    replace hms := Lib.hid hms
    clear hrd2
    go_wp2_with fail
    refine (hrn.out _).mono ?_
    rintro e w2 ⟨rfl, f2⟩
    unfold noRec
    have f3 := f2.alloc (.cells #[.int .i64 0, .int .i64 0, .int .i64 0, .bool false, .slice none 0 0] 50)
    replace f3 := Lib.hid f3
    clear f2
    go_wp2_with fail
    refine (haw.out _).mono ?_
    rintro e w4 ⟨rfl, f4⟩
    have g4 := f3.out.seqN f4
    obtain ⟨c0, c1, c2, c3, c4, c5, c6, c7, c8⟩ := hy.out w4 g4
    have hm := hms.out w4 (g1.out.seqN g4)
    replace hm := Lib.hid hm
    replace g4 := Lib.hid (g1.out.seqN g4)
    clear f4 f3 hms hy
    go_wp2_with fail
    go_fit hm.out
    rintro e w5 ⟨v, rfl, _, f5⟩
    have g5 := Lib.hid (g4.out.seqN f5)
    have hh := hear_nil v w5
    clear hm f5 c0 c1 c2 c3 c4 c5 c6 c7 c8
    go_wp2_with fail
    go_fit hh
    rintro e w6 ⟨rfl, hw6⟩
    obtain rfl := hw6.symm
    clear hh
    go_wp2_with fail
    refine (hmn.out _).mono ?_
    rintro e w7 ⟨rfl, hw7⟩
    obtain rfl := hw7.symm
    go_wp2_with fail
    go_ret
    exact ⟨rfl, g5.out⟩
theorem asmNil_cs (cs : Array Value) (m : OpA) (w : World) (h : IsOpA w cs.toList m) :
    Calls Try.prog 5 #[.agg cs] w fun e w' => e = .returned (.bool true) ∧ Fr noB w w' := by
  have hc : cs = (opaC m).toArray := by rw [← Array.toList_inj]; exact h.1
  have h' : IsOpA w (opaC m) m := ⟨rfl, h.2⟩
  rw [hc]
  exact nil_any m w h'
end Go.Proofs.Ytdfkjigkpcgngaa
