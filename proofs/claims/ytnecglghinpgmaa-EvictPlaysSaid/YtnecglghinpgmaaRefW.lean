/-
  The document's pool, by definition: what a write refuses.
-/
import Derived.Test.YtnecglghinpgmaaRefF
set_option linter.unusedVariables false
set_option linter.unusedSimpArgs false
namespace Go.Proofs.Ytnecglghinpgmaa
open Go.RowKit Go Go.Maps Go.Lib

set_option maxHeartbeats 1000000 in
set_option maxRecDepth 10000 in
theorem rpwrite_bad (g : Nat) (t : Int) (x : ByteArray) (w : World) (hb : mayB t x = false) :
    Calls Try.prog 35 #[.pointer (some ⟨g, 0, none⟩), .int .i64 t, .string x] w fun e w' => e = .returned (.tuple #[span0, .int .i64 1]) ∧ Fr noB w w' := by
  have fX := (Fr.refl noB w).alloc (.cells #[.int .i64 0, .int .i64 0, .string (ByteArray.mk #[])] 35)
  have bR := Blk.new w 35 [.int .i64 0, .int .i64 0, .string (ByteArray.mk #[])]
  have tR := Lib.hid (thereN (i := 0) (n := 3) bR (by simp))
  obtain ⟨b1, b2, b3, hd1, hd2, hd3, hor⟩ : ∃ b1 b2 b3, decide (t < 1) = b1 ∧ decide ((65535 : Int) < t) = b2 ∧ decide ((40 : Int) < (x.size : Int)) = b3 ∧ (b1 || (b2 || b3)) = true := by
    refine ⟨_, _, _, rfl, rfl, rfl, ?_⟩
    unfold mayB at hb
    simp only [Bool.and_eq_false_iff, decide_eq_false_iff_not, Bool.or_eq_true, decide_eq_true_eq] at hb ⊢
    omega
  have key : Calls Try.prog 35 #[.pointer (some ⟨g, 0, none⟩), .int .i64 t, .string x] w fun e w' => e = .returned (.tuple #[span0, .int .i64 1]) ∧ Fr noB w w' := by
    clear hb
    rcases b1 with _ | _ <;> rcases b2 with _ | _ <;> rcases b3 with _ | _ <;> first | (exact absurd hor (by decide)) | (
      clear hor
      go_enter Try.func35, Try.ntmps35
      go_wp2_with (first
        | (refine wpList_store_mid rfl 35 (.tmp 6) (.tmp 26) rfl w.heap.size 0 #[.int .i64 0, .int .i64 0, .string (ByteArray.mk #[])] rfl rfl tR.out size_span (one_span _ _ _) ?_; obtain ⟨w9, hw9, f9, h9⟩ := store3 (w.alloc (.cells #[.int .i64 0, .int .i64 0, .string (ByteArray.mk #[])] 35)) w.heap.size 0 (.int .i64 0) (.int .i64 0) (.string (ByteArray.mk #[])); rw [← hw9]; clear hw9; have h9 := h9 _ _ bR; have r0 : w9.cell? ⟨w.heap.size, 0, none⟩ = some (.int .i64 0) := h9.cell 0; have r1 : w9.cell? ⟨w.heap.size, 1, none⟩ = some (.int .i64 0) := h9.cell 1; have r2 : w9.cell? ⟨w.heap.size, 2, none⟩ = some (.string (ByteArray.mk #[])) := h9.cell 2)
        | fail)
      try simp only [Exit.inBlock, Exit.then]
      refine bodyPost_ret (by simp [results, Try.results35, go_sem, r0, r1, r2]; try rfl) rfl ?_
      exact ⟨rfl, fX.trans f9 (fun _ _ q => q) (fun _ hi q => by unfold onlyB at q; omega)⟩)
  exact key

theorem txt_at {P : TP} (hr : risT P) {j : Nat} {p : Int × List ByteArray} (hp : P[j]? = some p) : txt P p.1 = p.2 := txt_of_mem hr (show (p.1, p.2) ∈ P from List.mem_of_getElem? hp)
theorem txt_no {P : TP} {t : Int} (h : ∀ p ∈ P, p.1 ≠ t) : txt P t = [] := by
  by_cases e : txt P t = []
  · exact e
  · exact absurd rfl (h _ (txt_mem e))
/-- Of: a slice as long as the trace has texts -/
theorem rof_len (g B N : Nat) (P : TP) (vt vs : Value) (V : List Value) (t : Int) (w : World) (h : Rq w g B N P vt vs V) :
    Calls Try.prog 22 #[.pointer (some ⟨g, 0, none⟩), .int .i64 t] w fun e w' => (∃ a c, e = .returned (.slice a (txt P t).length c)) ∧ w' = w := by
  obtain ⟨r, hr⟩ := AtT.ex P t
  rcases hr with ⟨j, p, hj, hp, _⟩ | ⟨hn, _⟩
  · subst hp
    have hjl := (List.getElem?_eq_some_iff.1 hj).1
    have hv : V[j]? = some (V[j]'(by rw [h.rd.1]; exact hjl)) := List.getElem?_eq_getElem _
    refine (rof_at g B N P vt vs V j p _ w h hj hv).mono ?_
    rintro e w' ⟨rfl, hw⟩
    obtain ⟨a, c, e⟩ := (h.rd.2 j p _ hj hv).form
    rw [e, txt_at h.ris hj]
    exact ⟨⟨a, c, rfl⟩, hw⟩
  · refine (rof_no g B N P vt vs V t w h hn).mono ?_
    rintro e w' ⟨rfl, hw⟩
    rw [txt_no hn]
    exact ⟨⟨none, 0, rfl⟩, hw⟩
theorem txt_len48 {w : World} {g B N : Nat} {P : TP} {vt vs : Value} {V : List Value} (h : Rq w g B N P vt vs V) (t : Int) : (txt P t).length ≤ 48 := by
  by_cases e : txt P t = []
  · rw [e]; simp
  · exact h.xl (txt_mem e)

set_option maxHeartbeats 1000000 in
set_option maxRecDepth 10000 in
theorem rpwrite_full (g B N : Nat) (P : TP) (vt vs : Value) (V : List Value) (t : Int) (x : ByteArray) (w : World) (h : Rq w g B N P vt vs V) (hb : mayB t x = true) (hn : noRoom N P t) :
    Calls Try.prog 35 #[.pointer (some ⟨g, 0, none⟩), .int .i64 t, .string x] w fun e w' => e = .returned (.tuple #[span0, .int .i64 6]) ∧ Fr noB w w' := by
  have fX := (Fr.refl noB w).alloc (.cells #[.int .i64 0, .int .i64 0, .string (ByteArray.mk #[])] 35)
  have bR := Blk.new w 35 [.int .i64 0, .int .i64 0, .string (ByteArray.mk #[])]
  have tR := Lib.hid (thereN (i := 0) (n := 3) bR (by simp))
  have hm : 1 ≤ t ∧ t ≤ 65535 ∧ x.size ≤ 40 := by
    unfold mayB at hb; simp only [Bool.and_eq_true, decide_eq_true_eq] at hb; exact hb
  have d1 : decide (t < 1) = false := by simp; omega
  have d2 : decide ((65535 : Int) < t) = false := by simp; omega
  have d3 : decide ((40 : Int) < (x.size : Int)) = false := by simp; omega
  have h1 := h.frN fX
  have hof := rof_len g B N P vt vs V t _ h1
  have hfr := rfree_any g B N P vt vs V _ h1
  obtain ⟨hn1, hn2⟩ := hn
  rw [hn2, Nat.sub_self] at hfr
  have h48 := txt_len48 h t
  generalize (txt P t).length = L at *
  have d4 : (((L : Int) % 3) == 0) = true := by simp; omega
  clear hm hb h h1 hn2
  replace hn1 := Lib.hid hn1
  go_enter Try.func35, Try.ntmps35
  go_wp2_with fail
  refine hof.mono ?_
  rintro e w1 ⟨⟨a, c, rfl⟩, hw1⟩
  obtain rfl := hw1.symm
  clear hof hw1
  go_wp2_with fail
  refine hfr.mono ?_
  rintro e w1 ⟨rfl, hw1⟩
  obtain rfl := hw1.symm
  clear hfr hw1
  go_wp2_with (first
    | (refine wpList_store_mid rfl 35 (.tmp 6) (.tmp 39) rfl w.heap.size 0 #[.int .i64 0, .int .i64 0, .string (ByteArray.mk #[])] rfl rfl tR.out size_span (one_span _ _ _) ?_; obtain ⟨w9, hw9, f9, h9⟩ := store3 (w.alloc (.cells #[.int .i64 0, .int .i64 0, .string (ByteArray.mk #[])] 35)) w.heap.size 0 (.int .i64 0) (.int .i64 0) (.string (ByteArray.mk #[])); rw [← hw9]; clear hw9; have h9 := h9 _ _ bR; have r0 : w9.cell? ⟨w.heap.size, 0, none⟩ = some (.int .i64 0) := h9.cell 0; have r1 : w9.cell? ⟨w.heap.size, 1, none⟩ = some (.int .i64 0) := h9.cell 1; have r2 : w9.cell? ⟨w.heap.size, 2, none⟩ = some (.string (ByteArray.mk #[])) := h9.cell 2)
    | fail)
  try simp only [Exit.inBlock, Exit.then]
  refine bodyPost_ret (by simp [results, Try.results35, go_sem, r0, r1, r2]; try rfl) rfl ?_
  exact ⟨rfl, fX.trans f9 (fun _ _ q => q) (fun _ hi q => by unfold onlyB at q; omega)⟩
end Go.Proofs.Ytnecglghinpgmaa
