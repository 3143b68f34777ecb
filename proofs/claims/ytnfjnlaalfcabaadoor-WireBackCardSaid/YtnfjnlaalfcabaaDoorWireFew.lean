/-
  Stage 2's few.
-/
import Derived.Test.YtnfjnlaalfcabaaDoorWireNilL
set_option linter.unusedVariables false
set_option linter.unusedSimpArgs false
set_option maxRecDepth 100000
namespace Go.Proofs.YtnfjnlaalfcabaaDoor
open Go.RowKit Go Go.Lib

def okW (m : OpW) : Bool := decide (m.s.size ≤ 200) && decide (m.n ≤ 9007199254740992)
def fewW (xs : List OpW) : Bool := xs.all okW && decide (xs.length ≤ 60)

set_option maxHeartbeats 1000000 in
theorem few_any (v : Value) (xs : List OpW) (w : World) (hv : SlR w v 5 IsOpW xs) :
    Calls Tryd.prog 8 #[v] w fun e w' => e = .returned (.bool (fewW xs)) ∧ Fr noB w w' := by
  obtain ⟨a, c, rfl, hx1, hx2, hx3⟩ := hv
  unfold maxLen at hx2
  have hget : ∀ k, k < xs.length → ∃ m, xs[k]? = some m := fun k hk => ⟨xs[k], List.getElem?_eq_getElem hk⟩
  have hno : ∀ k m, xs[k]? = some m → okW m = false → fewW xs = false := fun k m h1 h2 => by
    unfold fewW
    have : xs.all okW = false := by
      rw [List.all_eq_false]
      exact ⟨m, List.mem_of_getElem? h1, by simp [h2]⟩
    rw [this]; rfl
  have hyes : (∀ (i : Nat) (m : OpW), i < xs.length → xs[i]? = some m → okW m = true) → fewW xs = decide (xs.length ≤ 60) := fun h => by
    unfold fewW
    have : xs.all okW = true := by
      rw [List.all_eq_true]
      intro m hm
      obtain ⟨i, hi, rfl⟩ := List.getElem_of_mem hm
      exact h i _ hi (List.getElem?_eq_getElem hi)
    rw [this]; rfl
  generalize hn : xs.length = n at *
  have hnb : n ≤ 9223372036854775807 := by omega
  replace hx3 := Lib.hid hx3
  replace hget := Lib.hid hget
  replace hn := Lib.hid hn
  replace hyes := Lib.hid hyes
  replace hno := Lib.hid hno
  obtain ⟨hx1, _⟩ := hx1
  generalize hF : fewW xs = F at *
  go_enter Tryd.func8, Tryd.ntmps8
  go_wp2_with fail
  go_loopw [7] (fun i wr => ∃ k : Nat, k ≤ n ∧ i = .int .i64 k ∧ Hid (∀ (i : Nat) (m : OpW), i < k → xs[i]? = some m → okW m = true) ∧ Fr noB w wr) (fun i _ => n - (RowKit.intOf i).toNat)
  case atStart => exact ⟨0, by omega, rfl, Lib.hid (fun i _ hi _ => by omega), Fr.refl _ _⟩
  case round =>
    obtain ⟨k, hk, rfl, hok, fr⟩ := hrel
    by_cases hlt : k < n
    · obtain ⟨m, hm⟩ := hget.out k hlt
      obtain ⟨g, o, cs, rfl, _, hR, hcell⟩ := hx3.out k m hm
      have c0 : wr.cell? ⟨g, o + k * 5, none⟩ = some (.int .i64 m.k) := fr.cell (hcell 0 (.int .i64 m.k) (by rw [hR.1]; rfl)) (fun q => q)
      have c1 : wr.cell? ⟨g, o + k * 5 + 1, none⟩ = some (.int .i64 m.n) := fr.cell (hcell 1 (.int .i64 m.n) (by rw [hR.1]; rfl)) (fun q => q)
      have c2 : wr.cell? ⟨g, o + k * 5 + 2, none⟩ = some (.int .i64 m.lo) := fr.cell (hcell 2 (.int .i64 m.lo) (by rw [hR.1]; rfl)) (fun q => q)
      have c3 : wr.cell? ⟨g, o + k * 5 + 3, none⟩ = some (.int .i64 m.hi) := fr.cell (hcell 3 (.int .i64 m.hi) (by rw [hR.1]; rfl)) (fun q => q)
      have c4 : wr.cell? ⟨g, o + k * 5 + 4, none⟩ = some (.string m.s) := fr.cell (hcell 4 (.string m.s) (by rw [hR.1]; rfl)) (fun q => q)
      have fX := fr.alloc (.cells #[.int .i64 m.k, .int .i64 m.n, .int .i64 m.lo, .int .i64 m.hi, .string m.s] 29)
      have hb0 : (0 : Int) ≤ k := by omega
      have hb1 : (k : Int) < n := by omega
      clear hcell hR
      by_cases hs : m.s.size ≤ 200
      · have hd : ¬ (m.s.size : Int) > 200 := by omega
        by_cases hN : m.n ≤ 9007199254740992
        · have hd2 : ¬ m.n > 9007199254740992 := by omega
          have hok1 : Hid (∀ (i : Nat) (m : OpW), i < k + 1 → xs[i]? = some m → okW m = true) := Lib.hid (fun i m' hi hmi => by
            rcases Nat.lt_or_ge i k with q | q
            · exact hok.out i m' q hmi
            · obtain rfl : i = k := by omega
              rw [hm] at hmi; cases hmi
              unfold okW; simp [hs, hN])
          replace hm := Lib.hid hm
          clear hs hN
          go_wp2_with fail
          go_roundw
          case rel => exact ⟨k + 1, by omega, by go_num, hok1, fX⟩
          case measure => simp [RowKit.intOf]; omega
        · have hd2 : m.n > 9007199254740992 := by omega
          have hf : F = false := by rw [hno.out k m hm (by unfold okW; simp [hN])]
          subst hf
          replace hm := Lib.hid hm
          clear hs hN
          go_wp2_with fail
          go_ret
          exact ⟨rfl, fX⟩
      · have hd : (m.s.size : Int) > 200 := by omega
        have hf : F = false := by rw [hno.out k m hm (by unfold okW; simp [hs])]
        subst hf
        replace hm := Lib.hid hm
        clear hs
        go_wp2_with fail
        go_ret
        exact ⟨rfl, fX⟩
    · obtain rfl : k = n := by omega
      have hf : F = decide ((k : Int) ≤ 60) := by
        rw [hyes.out (fun i m hi hm => hok.out i m hi hm)]
        simp; omega
      replace hf := Lib.hid hf
      go_wp2_with fail
      go_ret
      exact ⟨ret_bool (by rw [hf.out]), fr⟩
end Go.Proofs.YtnfjnlaalfcabaaDoor
