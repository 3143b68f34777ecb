/-
  span: Right, Row, Print; the reference's Right, Few, Same, Print.
-/
import Derived.Test.YtppmednmcbjafaaGreatSpanS
set_option linter.unusedVariables false
set_option linter.unusedSimpArgs false
set_option maxRecDepth 100000
namespace Go.Proofs.YtppmednmcbjafaaGreat
open Go.RowKit Go Go.Lib

theorem right_any (s : Sp) (w : World) : Calls Tryz.prog 105 #[.agg #[.int .i64 s.t, .int .i64 s.q, .string s.x]] w fun e w' => e = .returned (.bool (rightS s)) ∧ Fr noB w w' := by
  have key := right_iff s
  generalize rightS s = R at *
  have fX := (Fr.refl noB w).alloc (.cells #[.int .i64 s.t, .int .i64 s.q, .string s.x] 38)
  have fin : ∀ b, (b = true ↔ (1 ≤ s.t ∧ s.t ≤ 65535 ∧ 1 ≤ s.q ∧ s.q ≤ 2147483648 ∧ s.x.size ≤ 40)) → b = R := fun b h => by
    rw [Bool.eq_iff_iff, h, key]
  replace fin := Lib.hid fin
  clear key
  go_enter Tryz.func105, Tryz.ntmps105
  go_wp2
  all_goals go_ret
  all_goals exact ⟨ret_bool (fin.out _ (by simp; omega)), fX⟩
theorem rright_any (s : Sp) (w : World) : Calls Tryz.prog 99 #[.agg #[.int .i64 s.t, .int .i64 s.q, .string s.x]] w fun e w' => e = .returned (.bool (rightS s)) ∧ Fr noB w w' := by
  have key := right_iff s
  generalize rightS s = R at *
  have fX := (Fr.refl noB w).alloc (.cells #[.int .i64 s.t, .int .i64 s.q, .string s.x] 38)
  have fin : ∀ b, (b = true ↔ (1 ≤ s.t ∧ s.t ≤ 65535 ∧ 1 ≤ s.q ∧ s.q ≤ 2147483648 ∧ s.x.size ≤ 40)) → b = R := fun b h => by
    rw [Bool.eq_iff_iff, h, key]
  replace fin := Lib.hid fin
  clear key
  go_enter Tryz.func99, Tryz.ntmps99
  go_wp2
  all_goals go_ret
  all_goals exact ⟨ret_bool (fin.out _ (by simp; omega)), fX⟩

def fewS (L : List Sp) : Bool := L.all (fun s => decide (s.x.size ≤ 100)) && decide (L.length ≤ 100)
set_option maxHeartbeats 2000000 in
theorem same_any (v u : Value) (L : List Sp) (w : World) (hv : RdSp w v L) (hu : RdSp w u L) :
    Calls Tryz.prog 27 #[v, u] w fun e w' => e = .returned (.bool true) ∧ Fr noB w w' := by
  obtain ⟨a, c, rfl, hl, hl2, _, h1⟩ := hv
  obtain ⟨b, d, rfl, _, hd2, _, h2⟩ := hu
  unfold maxLen at hl2 hd2
  have hget : ∀ k, k < L.length → ∃ m, L[k]? = some m := fun k hk => ⟨L[k], List.getElem?_eq_getElem hk⟩
  generalize hn : L.length = n at *
  have hnb : n ≤ 9223372036854775807 := by omega
  replace hget := Lib.hid hget
  replace h1 := Lib.hid h1
  replace h2 := Lib.hid h2
  replace hn := Lib.hid hn
  go_enter Tryz.func27, Tryz.ntmps27
  go_wp2_with fail
  go_loopw [5] (fun i wr => ∃ k : Nat, k ≤ n ∧ i = .int .i64 k ∧ Fr noB w wr) (fun i _ => n - (RowKit.intOf i).toNat)
  case atStart => exact ⟨0, by omega, rfl, Fr.refl _ _⟩
  case round =>
    obtain ⟨k, hk, rfl, fr⟩ := hrel
    by_cases hlt : k < n
    · obtain ⟨s, hs⟩ := hget.out k hlt
      obtain ⟨g, o, rfl, c0, c1, c2⟩ := h1.out k s hs
      obtain ⟨g2, o2, rfl, e0, e1, e2⟩ := h2.out k s hs
      replace c0 := fr.cell c0 (fun q => q)
      replace c1 := fr.cell c1 (fun q => q)
      replace c2 := fr.cell c2 (fun q => q)
      replace e0 := fr.cell e0 (fun q => q)
      replace e1 := fr.cell e1 (fun q => q)
      replace e2 := fr.cell e2 (fun q => q)
      have hb0 : (0 : Int) ≤ k := by omega
      have hb1 : (k : Int) < n := by omega
      replace hs := Lib.hid hs
      go_wp2_with fail
      go_quiet (fail)
      go_wp2_with fail
      go_roundw
      case rel => exact ⟨k + 1, by omega, by go_num, fr.drewN _⟩
      case measure => simp [RowKit.intOf]; omega
    · obtain rfl : k = n := by omega
      go_wp2_with fail
      go_ret
      exact ⟨rfl, fr⟩
end Go.Proofs.YtppmednmcbjafaaGreat
