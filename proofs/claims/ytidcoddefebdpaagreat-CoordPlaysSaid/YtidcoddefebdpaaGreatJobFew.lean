/-
  May calls be played? and the message of a call.
-/
import Derived.Test.YtidcoddefebdpaaGreatJobMsg
import Derived.Test.YtidcoddefebdpaaGreatInts
set_option linter.unusedVariables false
set_option linter.unusedSimpArgs false
set_option maxRecDepth 100000
namespace Go.Proofs.YtidcoddefebdpaaGreat
open Go.RowKit Go Go.Lib

/-- a call: its numbers, the row of names (a slice's words), whether something was lost -/
structure OpJ where
  k : Int
  a : Int
  t : Int
  j : Int
  ua : Option Addr
  un : Nat
  uc : Nat
  lo : Bool
  xs : List Int
def opC (m : OpJ) : List Value := [.int .i64 m.k, .int .i64 m.a, .int .i64 m.t, .int .i64 m.j, .slice m.ua m.un m.uc, .bool m.lo]
def IsOpJ (w : World) (cs : List Value) (m : OpJ) : Prop := cs = opC m ∧ RdI w (.slice m.ua m.un m.uc) m.xs ∧ (Lit.int .i64 m.k).wf = true ∧ (Lit.int .i64 m.a).wf = true ∧ (Lit.int .i64 m.t).wf = true ∧ (Lit.int .i64 m.j).wf = true
def okOp (m : OpJ) : Bool := decide (m.un ≤ 20) && decide (m.a ≤ 1099511627776)
def fewB (xs : List OpJ) : Bool := xs.all okOp && decide (xs.length ≤ 200)
theorem fewB_no {xs : List OpJ} {k : Nat} {m : OpJ} (hk : xs[k]? = some m) (h : okOp m = false) : fewB xs = false := by
  unfold fewB
  rw [show xs.all okOp = false from by
    rw [Bool.eq_false_iff]
    intro q
    rw [List.all_eq_true] at q
    have := q m (List.mem_of_getElem? hk)
    rw [h] at this
    cases this]
  rfl
theorem fewB_yes {xs : List OpJ} (h : ∀ (i : Nat) (m : OpJ), xs[i]? = some m → okOp m = true) : fewB xs = decide (xs.length ≤ 200) := by
  unfold fewB
  rw [show xs.all okOp = true from by
    rw [List.all_eq_true]
    intro x hx
    obtain ⟨i, hi, rfl⟩ := List.getElem_of_mem hx
    exact h i _ (List.getElem?_eq_getElem hi)]
  rfl

set_option maxHeartbeats 2000000 in
set_option maxRecDepth 10000 in
theorem few_any (v : Value) (xs : List OpJ) (W w : World) (hv : SlR w v 6 (IsOpJ W) xs) :
    Calls Tryz.prog 5 #[v] w fun e w' => e = .returned (.bool (fewB xs)) ∧ Fr noB w w' := by
  obtain ⟨a, c, rfl, hx1, hx2, hx3⟩ := hv
  unfold maxLen at hx2
  have hyes := fewB_yes (xs := xs)
  have hno := fun k m => fewB_no (xs := xs) (k := k) (m := m)
  have hget : ∀ k, k < xs.length → ∃ m, xs[k]? = some m := fun k hk => ⟨xs[k], List.getElem?_eq_getElem hk⟩
  generalize hn : xs.length = n at *
  have hnb : n ≤ 9223372036854775807 := by omega
  replace hx3 := Lib.hid hx3
  replace hget := Lib.hid hget
  replace hn := Lib.hid hn
  replace hyes := Lib.hid hyes
  replace hno := Lib.hid hno
  obtain ⟨hx1, _⟩ := hx1
  generalize hF : fewB xs = F at *
  go_enter Tryz.func5, Tryz.ntmps5
  go_wp2_with fail
  go_loopw [7] (fun i wr => ∃ k : Nat, k ≤ n ∧ i = .int .i64 k ∧ Hid (∀ (i : Nat) (m : OpJ), i < k → xs[i]? = some m → okOp m = true) ∧ Fr noB w wr) (fun i _ => n - (RowKit.intOf i).toNat)
  case atStart => exact ⟨0, by omega, rfl, Lib.hid (fun i _ hi _ => by omega), Fr.refl _ _⟩
  case round =>
    obtain ⟨k, hk, rfl, hok, fr⟩ := hrel
    by_cases hlt : k < n
    · obtain ⟨m, hm⟩ := hget.out k hlt
      obtain ⟨g, o, cs, rfl, hcs, ⟨rfl, _⟩, hc⟩ := hx3.out k m hm
      have c0 := fr.cell (hc 0 _ rfl) (fun q => q)
      have c1 := fr.cell (hc 1 _ rfl) (fun q => q)
      have c2 := fr.cell (hc 2 _ rfl) (fun q => q)
      have c3 := fr.cell (hc 3 _ rfl) (fun q => q)
      have c4 := fr.cell (hc 4 _ rfl) (fun q => q)
      have c5 := fr.cell (hc 5 _ rfl) (fun q => q)
      rw [Nat.add_zero] at c0
      simp only [← Nat.add_assoc] at c1 c2 c3 c4 c5
      have fA := fr.alloc (.cells (opC m).toArray 38)
      unfold opC at fA
      by_cases h1 : m.un ≤ 20
      · by_cases h2 : m.a ≤ 1099511627776
        · have hok1 : Hid (okOp m = true) := Lib.hid (by unfold okOp; simp [h1, h2])
          replace hm := Lib.hid hm
          have hd1 : decide (20 < (m.un : Int)) = false := by simp; omega
          have hd2 : decide (1099511627776 < m.a) = false := by simp; omega
          clear hc h1 h2
          go_wp2_with fail
          go_roundw
          case rel => exact ⟨k + 1, by omega, by go_num, Lib.hid (fun i m' hi hm' => by
            rcases Nat.lt_or_ge i k with q | q
            · exact hok.out i m' q hm'
            · obtain rfl : i = k := by omega
              obtain rfl : m = m' := Option.some.inj (hm.out.symm.trans hm')
              exact hok1.out), fA⟩
          case measure => simp [RowKit.intOf]; omega
        · have hF0 : F = false := by exact hno.out k m hm (by unfold okOp; simp [h2])
          subst hF0
          replace hm := Lib.hid hm
          have hd1 : decide (20 < (m.un : Int)) = false := by simp; omega
          have hd2 : decide (1099511627776 < m.a) = true := by simp; omega
          clear hc h1 h2 hF
          go_wp2_with fail
          go_ret
          exact ⟨rfl, fA⟩
      · have hF0 : F = false := by exact hno.out k m hm (by unfold okOp; simp [h1])
        subst hF0
        replace hm := Lib.hid hm
        have hd1 : decide (20 < (m.un : Int)) = true := by simp; omega
        clear hc h1 hF
        go_wp2_with fail
        go_ret
        exact ⟨rfl, fA⟩
    · obtain rfl : k = n := by omega
      have hF0 : F = decide (k ≤ 200) := by exact hyes.out (fun i m hm => hok.out i m (by have := (List.getElem?_eq_some_iff.1 hm).1; rw [hn.out] at this; exact this) hm)
      by_cases h2 : k ≤ 200
      · have hd : F = true := by rw [hF0]; simpa using h2
        have hd2 : decide ((k : Int) ≤ 200) = true := by simp; omega
        subst hd
        clear hF hF0
        go_wp2_with fail
        go_ret
        exact ⟨rfl, fr⟩
      · have hd : F = false := by rw [hF0]; simpa using h2
        have hd2 : decide ((k : Int) ≤ 200) = false := by simp; omega
        subst hd
        clear hF hF0
        go_wp2_with fail
        go_ret
        exact ⟨rfl, fr⟩
end Go.Proofs.YtidcoddefebdpaaGreat
