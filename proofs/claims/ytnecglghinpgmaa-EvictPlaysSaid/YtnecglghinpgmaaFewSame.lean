/-
  May calls be played? Two rows of the same spans are the same.
-/
import Derived.Test.YtnecglghinpgmaaEvictNil
set_option linter.unusedVariables false
set_option linter.unusedSimpArgs false
namespace Go.Proofs.Ytnecglghinpgmaa
open Go.RowKit Go Go.Lib

def okE (m : OpE) : Bool := decide (m.s.size ≤ 100)
def fewE (xs : List OpE) : Bool := xs.all okE && decide (xs.length ≤ 200)
theorem fewE_no {xs : List OpE} {k : Nat} {m : OpE} (hk : xs[k]? = some m) (h : okE m = false) : fewE xs = false := by
  unfold fewE
  rw [show xs.all okE = false from by
    rw [Bool.eq_false_iff]
    intro q
    rw [List.all_eq_true] at q
    have := q m (List.mem_of_getElem? hk)
    rw [h] at this
    cases this]
  rfl
theorem fewE_yes {xs : List OpE} (h : ∀ (i : Nat) (m : OpE), xs[i]? = some m → okE m = true) : fewE xs = decide (xs.length ≤ 200) := by
  unfold fewE
  rw [show xs.all okE = true from by
    rw [List.all_eq_true]
    intro x hx
    obtain ⟨i, hi, rfl⟩ := List.getElem_of_mem hx
    exact h i _ (List.getElem?_eq_getElem hi)]
  rfl
def opEC (m : OpE) : List Value := [.int .i64 m.k, .int .i64 m.t, .string m.s]
set_option maxHeartbeats 2000000 in
set_option maxRecDepth 10000 in
theorem few_any (v : Value) (xs : List OpE) (w : World) (hv : SlR w v 3 IsOpE xs) :
    Calls Try.prog 9 #[v] w fun e w' => e = .returned (.bool (fewE xs)) ∧ Fr noB w w' := by
  obtain ⟨a, c, rfl, hx1, hx2, hx3⟩ := hv
  unfold maxLen at hx2
  have hyes := fewE_yes (xs := xs)
  have hno := fun k m => fewE_no (xs := xs) (k := k) (m := m)
  have hget : ∀ k, k < xs.length → ∃ m, xs[k]? = some m := fun k hk => ⟨xs[k], List.getElem?_eq_getElem hk⟩
  generalize hn : xs.length = n at *
  have hnb : n ≤ 9223372036854775807 := by omega
  replace hx3 := Lib.hid hx3
  replace hget := Lib.hid hget
  replace hn := Lib.hid hn
  replace hyes := Lib.hid hyes
  replace hno := Lib.hid hno
  obtain ⟨hx1, _⟩ := hx1
  generalize hF : fewE xs = F at *
  go_enter Try.func9, Try.ntmps9
  go_wp2_with fail
  go_loopw [7] (fun i wr => ∃ k : Nat, k ≤ n ∧ i = .int .i64 k ∧ Hid (∀ (i : Nat) (m : OpE), i < k → xs[i]? = some m → okE m = true) ∧ Fr noB w wr) (fun i _ => n - (RowKit.intOf i).toNat)
  case atStart => exact ⟨0, by omega, rfl, Lib.hid (fun i _ hi _ => by omega), Fr.refl _ _⟩
  case round =>
    obtain ⟨k, hk, rfl, hok, fr⟩ := hrel
    by_cases hlt : k < n
    · obtain ⟨m, hm⟩ := hget.out k hlt
      obtain ⟨g, o, cs, rfl, _, hR, hcell⟩ := hx3.out k m hm
      have c0 : wr.cell? ⟨g, o + k * 3, none⟩ = some (.int .i64 m.k) := fr.cell (hcell 0 (.int .i64 m.k) (by rw [hR.1]; rfl)) (fun q => q)
      have c1 : wr.cell? ⟨g, o + k * 3 + 1, none⟩ = some (.int .i64 m.t) := fr.cell (hcell 1 (.int .i64 m.t) (by rw [hR.1]; rfl)) (fun q => q)
      have c2 : wr.cell? ⟨g, o + k * 3 + 2, none⟩ = some (.string m.s) := fr.cell (hcell 2 (.string m.s) (by rw [hR.1]; rfl)) (fun q => q)
      have fX := fr.alloc (.cells #[.int .i64 m.k, .int .i64 m.t, .string m.s] 33)
      have hb0 : (0 : Int) ≤ k := by omega
      have hb1 : (k : Int) < n := by omega
      clear hcell hR
      by_cases hs : m.s.size ≤ 100
      · have hd : decide ((100 : Int) < (m.s.size : Int)) = false := by simp; omega
        have hok1 : Hid (∀ (i : Nat) (m : OpE), i < k + 1 → xs[i]? = some m → okE m = true) := Lib.hid (fun i m' hi hmi => by
          rcases Nat.lt_or_ge i k with q | q
          · exact hok.out i m' q hmi
          · obtain rfl : i = k := by omega
            rw [hm] at hmi; cases hmi
            unfold okE; simpa using hs)
        replace hm := Lib.hid hm
        replace hs := Lib.hid hs
        go_wp2_with fail
        go_roundw
        case rel => exact ⟨k + 1, by omega, by go_num, hok1, fX⟩
        case measure => simp [RowKit.intOf]; omega
      · have hd : decide ((100 : Int) < (m.s.size : Int)) = true := by simp; omega
        have hF0 : F = false := hno.out k m hm (by unfold okE; simpa using hs)
        replace hm := Lib.hid hm
        replace hs := Lib.hid hs
        subst hF0
        go_wp2_with fail
        go_ret
        exact ⟨rfl, fX⟩
    · obtain rfl : k = n := by omega
      have hF1 : F = decide (k ≤ 200) := hyes.out (fun i m hm => hok.out i m (by
        have := (List.getElem?_eq_some_iff.1 hm).1
        have := hn.out
        omega) hm)
      subst hF1
      go_wp2_with fail
      go_ret
      refine ⟨?_, fr⟩
      congr 2
      first | (simp; done) | (by_cases q : k ≤ 200 <;> simp [q] <;> omega) | rfl

/-- a slice of spans that can be read -/
def RdSp (w : World) (v : Value) (L : List Sp) : Prop := ∃ a c, v = .slice a L.length c ∧ L.length ≤ 1000000 ∧ ∀ i s, L[i]? = some s → ∃ g o, a = some ⟨g, o, none⟩ ∧ w.cell? ⟨g, o + i * 3, none⟩ = some (.int .i64 s.t) ∧ w.cell? ⟨g, o + i * 3 + 1, none⟩ = some (.int .i64 s.q) ∧ w.cell? ⟨g, o + i * 3 + 2, none⟩ = some (.string s.x)
theorem RdSp.of_own {w : World} {B n : Nat} {v : Value} {L : List Sp} (h : w.ownsRow B 35 3 v n (L.flatMap spC)) (hl : L.length ≤ 1000000) (hn : L.length = n) : RdSp w v L := by
  subst hn
  rcases h.2 with ⟨rfl, h1⟩ | ⟨g, cap, cur, rfl, hb, hg, hnc, hcm, hcs, htake⟩
  · exact ⟨none, 0, by rw [h1], hl, fun i s hi => by
      rw [List.eq_nil_of_length_eq_zero h1] at hi; simp at hi⟩
  · refine ⟨_, cap, rfl, hl, fun i s hi => ⟨g, 0, rfl, ?_⟩⟩
    have key : ∀ j, j < 3 → w.cell? ⟨g, 0 + i * 3 + j, none⟩ = (spC s)[j]? := fun j hj => by
      have h1 := flat_get spC 3 spC_len L i j s hi hj
      have h2 : j < (spC s).length := hj
      rw [List.getElem?_eq_getElem h2] at h1
      have := h.cells (g := g) rfl (i * 3 + j) _ h1
      rw [Addr.add_mid] at this
      rw [Nat.add_assoc, this, List.getElem?_eq_getElem h2]
    exact ⟨key 0 (by omega), key 1 (by omega), key 2 (by omega)⟩
theorem RdSp.fr {w w' : World} {v : Value} {L : List Sp} {S : Nat → Prop} (h : RdSp w v L) (hf : Fr S w w') (hS : ∀ g o n c, v = .slice (some ⟨g, o, none⟩) n c → ¬ S g) : RdSp w' v L := by
  obtain ⟨a, c, rfl, hl, h1⟩ := h
  refine ⟨a, c, rfl, hl, fun i s hi => ?_⟩
  obtain ⟨g, o, rfl, c0, c1, c2⟩ := h1 i s hi
  have := hS g o _ _ rfl
  exact ⟨g, o, rfl, hf.cell c0 this, hf.cell c1 this, hf.cell c2 this⟩
set_option maxHeartbeats 2000000 in
set_option maxRecDepth 10000 in
theorem same_any (v u : Value) (L : List Sp) (w : World) (hv : RdSp w v L) (hu : RdSp w u L) :
    Calls Try.prog 20 #[v, u] w fun e w' => e = .returned (.bool true) ∧ Fr noB w w' := by
  obtain ⟨a, c, rfl, hl, h1⟩ := hv
  obtain ⟨b, d, rfl, _, h2⟩ := hu
  have hget : ∀ k, k < L.length → ∃ m, L[k]? = some m := fun k hk => ⟨L[k], List.getElem?_eq_getElem hk⟩
  generalize hn : L.length = n at *
  replace hget := Lib.hid hget
  replace h1 := Lib.hid h1
  replace h2 := Lib.hid h2
  replace hn := Lib.hid hn
  go_enter Try.func20, Try.ntmps20
  go_wp2_with fail
  go_loopw [5] (fun i wr => ∃ k : Nat, k ≤ n ∧ i = .int .i64 k ∧ Fr noB w wr) (fun i _ => n - (RowKit.intOf i).toNat)
  case atStart => exact ⟨0, by omega, rfl, Fr.refl _ _⟩
  case round =>
    obtain ⟨k, hk, rfl, fr⟩ := hrel
    by_cases hlt : k < n
    · obtain ⟨s, hs⟩ := hget.out k hlt
      obtain ⟨g, o, rfl, c0, c1, c2⟩ := h1.out k s hs
      obtain ⟨g2, o2, rfl, e0, e1, e2⟩ := h2.out k s hs
      replace c0 := fr.cell c0 (fun q => q)
      replace c1 := fr.cell c1 (fun q => q)
      replace c2 := fr.cell c2 (fun q => q)
      replace e0 := fr.cell e0 (fun q => q)
      replace e1 := fr.cell e1 (fun q => q)
      replace e2 := fr.cell e2 (fun q => q)
      have hb0 : (0 : Int) ≤ k := by omega
      have hb1 : (k : Int) < n := by omega
      replace hs := Lib.hid hs
      go_wp2_with fail
      go_quiet (fail)
      go_wp2_with fail
      go_roundw
      case rel => exact ⟨k + 1, by omega, by go_num, fr.drewN _⟩
      case measure => simp [RowKit.intOf]; omega
    · obtain rfl : k = n := by omega
      go_wp2_with fail
      go_ret
      exact ⟨rfl, fr⟩
end Go.Proofs.Ytnecglghinpgmaa
