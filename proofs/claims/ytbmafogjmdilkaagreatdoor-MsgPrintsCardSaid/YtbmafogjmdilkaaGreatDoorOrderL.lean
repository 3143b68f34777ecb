/-
  Plain mathematics: the order of texts, rune by rune; whether a text may be a name.
-/
import Derived.Test.YtbmafogjmdilkaaGreatDoorRunesL
import Derived.Lib.Bytealg
set_option linter.unusedVariables false
set_option linter.unusedSimpArgs false
set_option maxRecDepth 100000
namespace Go.Proofs.YtbmafogjmdilkaaGreatDoor
open Go Go.Lib

/-- runes and widths -/
def rws (l : List UInt8) : List (Nat × Nat) := (chunks l).map dec
theorem rws_nil : rws [] = [] := rfl
theorem rws_cons (l : List UInt8) (h : l ≠ []) : rws l = dec l :: rws (l.drop (dec l).2) := by
  unfold rws
  rw [chunks_cons l h, List.map_cons, dec_chunk l h]

def ordR : List (Nat × Nat) → List (Nat × Nat) → Int
  | [], [] => 0
  | [], _ :: _ => -1
  | _ :: _, [] => 1
  | p :: x, q :: y => if p.1 < q.1 then -1 else if q.1 < p.1 then 1 else if p.2 < q.2 then -1 else if q.2 < p.2 then 1 else ordR x y

theorem ordR_tri : ∀ x y, ordR x y = -1 ∨ ordR x y = 0 ∨ ordR x y = 1
  | [], [] => by simp [ordR]
  | [], _ :: _ => by simp [ordR]
  | _ :: _, [] => by simp [ordR]
  | p :: x, q :: y => by
    have := ordR_tri x y
    unfold ordR
    repeat' split
    all_goals omega
theorem ordR_anti : ∀ x y, ordR x y = - ordR y x
  | [], [] => by simp [ordR]
  | [], _ :: _ => by simp [ordR]
  | _ :: _, [] => by simp [ordR]
  | p :: x, q :: y => by
    have := ordR_anti x y
    unfold ordR
    repeat' split
    all_goals omega
theorem ordR_zero : ∀ x y, ordR x y = 0 → x = y
  | [], [] => by simp
  | [], _ :: _ => by simp [ordR]
  | _ :: _, [] => by simp [ordR]
  | p :: x, q :: y => by
    intro h
    have ih := ordR_zero x y
    unfold ordR at h
    repeat' split at h
    all_goals try omega
    rw [ih h]
    congr 1
    exact Prod.ext (by omega) (by omega)
theorem ordR_self : ∀ x, ordR x x = 0
  | [] => rfl
  | p :: x => by
    unfold ordR
    simp [ordR_self x]
theorem ordR_trans : ∀ x y z, ordR x y ≤ 0 → ordR y z ≤ 0 → ordR x z ≤ 0
  | [], y, z => by cases z <;> simp [ordR]
  | p :: x, [], z => by simp [ordR]
  | p :: x, q :: y, [] => by simp [ordR]
  | p :: x, q :: y, r :: z => by
    have ih := ordR_trans x y z
    intro h1 h2
    unfold ordR at h1 h2 ⊢
    repeat' split at h1
    all_goals (repeat' split at h2)
    all_goals (repeat' split)
    all_goals omega

theorem cmpB_self : ∀ x, compareBytes x x = 0
  | [] => rfl
  | a :: x => by
    unfold compareBytes
    simp [cmpB_self x]
theorem lt_nat (a b : UInt8) : (a < b) = (a.toNat < b.toNat) := by rw [UInt8.lt_iff_toNat_lt]
theorem cmpB_tri : ∀ x y, compareBytes x y = -1 ∨ compareBytes x y = 0 ∨ compareBytes x y = 1
  | [], [] => by simp [compareBytes]
  | [], _ :: _ => by simp [compareBytes]
  | _ :: _, [] => by simp [compareBytes]
  | p :: x, q :: y => by
    have := cmpB_tri x y
    unfold compareBytes
    repeat' split
    all_goals omega
theorem cmpB_anti : ∀ x y, compareBytes x y = - compareBytes y x
  | [], [] => by simp [compareBytes]
  | [], _ :: _ => by simp [compareBytes]
  | _ :: _, [] => by simp [compareBytes]
  | p :: x, q :: y => by
    have := cmpB_anti x y
    unfold compareBytes
    simp only [UInt8.lt_iff_toNat_lt]
    repeat' split
    all_goals omega
theorem cmpB_zero : ∀ x y, compareBytes x y = 0 → x = y
  | [], [] => by simp
  | [], _ :: _ => by simp [compareBytes]
  | _ :: _, [] => by simp [compareBytes]
  | p :: x, q :: y => by
    intro h
    have ih := cmpB_zero x y
    unfold compareBytes at h
    simp only [UInt8.lt_iff_toNat_lt] at h
    repeat' split at h
    all_goals try omega
    rw [ih h]
    congr 1
    exact UInt8.toNat_inj.1 (by omega)
theorem cmpB_trans : ∀ x y z, compareBytes x y ≤ 0 → compareBytes y z ≤ 0 → compareBytes x z ≤ 0
  | [], y, z => by cases z <;> simp [compareBytes]
  | p :: x, [], z => by simp [compareBytes]
  | p :: x, q :: y, [] => by simp [compareBytes]
  | p :: x, q :: y, r :: z => by
    have ih := cmpB_trans x y z
    intro h1 h2
    unfold compareBytes at h1 h2 ⊢
    simp only [UInt8.lt_iff_toNat_lt] at h1 h2 ⊢
    repeat' split at h1
    all_goals (repeat' split at h2)
    all_goals (repeat' split)
    all_goals omega

/-- which text comes first -/
def ordL (a b : List UInt8) : Int := if ordR (rws a) (rws b) = 0 then compareBytes a b else ordR (rws a) (rws b)
theorem ordL_tri (a b : List UInt8) : ordL a b = -1 ∨ ordL a b = 0 ∨ ordL a b = 1 := by
  unfold ordL
  split
  · exact cmpB_tri a b
  · exact ordR_tri _ _
theorem ordL_anti (a b : List UInt8) : ordL a b = - ordL b a := by
  have h1 := ordR_anti (rws a) (rws b)
  have h2 := cmpB_anti a b
  unfold ordL
  repeat' split
  all_goals omega
theorem ordL_zero (a b : List UInt8) : ordL a b = 0 ↔ a = b := by
  constructor
  · intro h
    unfold ordL at h
    split at h
    · exact cmpB_zero a b h
    · omega
  · rintro rfl
    unfold ordL
    rw [ordR_self, cmpB_self]; rfl
theorem ordL_trans (a b c : List UInt8) (h1 : ordL a b ≤ 0) (h2 : ordL b c ≤ 0) : ordL a c ≤ 0 := by
  have t1 := ordR_trans (rws a) (rws b) (rws c)
  have t2 := cmpB_trans a b c
  have a1 := ordR_anti (rws b) (rws a)
  have a2 := ordR_anti (rws b) (rws c)
  have e : ordR (rws a) (rws c) = 0 → ordR (rws b) (rws c) = - ordR (rws a) (rws b) := fun h => by
    rw [← ordR_zero _ _ h]; exact a1
  unfold ordL at *
  split at h1
  · split at h2
    · split
      · exact t2 h1 h2
      · exact t1 (by omega) (by omega)
    · split
      · rename_i h3 h4 h5; have := e h5; omega
      · exact t1 (by omega) (by omega)
  · split at h2
    · split
      · rename_i h3 h4 h5; have := e h5; omega
      · exact t1 (by omega) (by omega)
    · split
      · rename_i h3 h4 h5; have := e h5; omega
      · exact t1 (by omega) (by omega)
theorem ordR_take : ∀ (x : List (Nat × Nat)) (k : Nat), ordR (x.take k) x ≤ 0
  | [], k => by simp [ordR]
  | p :: x, 0 => by simp [ordR]
  | p :: x, k + 1 => by
    rw [List.take_succ_cons]
    unfold ordR
    simp [ordR_take x k]
theorem ordL_cut (a : List UInt8) (k : Nat) : ordL (cutL a k) a ≤ 0 := by
  have h1 : rws (cutL a k) = (rws a).take k := by
    unfold rws cutL
    rw [chunks_take, List.map_take]
  have h2 := ordR_take (rws a) k
  unfold ordL
  rw [h1]
  split
  · rename_i h0
    have h3 := ordR_zero _ _ h0
    have h4 : cutL a k = a := by
      unfold cutL
      have h5 : (chunks a).length ≤ k ∨ k < (chunks a).length := by omega
      rcases h5 with h5 | h5
      · rw [List.take_of_length_le h5, chunks_flat]
      · have := congrArg List.length h3
        rw [List.length_take] at this
        unfold rws at this
        rw [List.length_map] at this
        omega
    rw [h4, cmpB_self]
    exact Int.le_refl _
  · exact h2

/-- may it be a name? -/
def inNm (r : Nat) : Bool := (decide (97 ≤ r) && decide (r ≤ 122)) || (decide (65 ≤ r) && decide (r ≤ 90)) || (decide (48 ≤ r) && decide (r ≤ 57)) || r == 45 || (decide (192 ≤ r) && decide (r ≤ 591))
def rightL (l : List UInt8) : Bool := decide (1 ≤ (chunks l).length) && decide ((chunks l).length ≤ 16) && (rws l).all fun p => inNm p.1
theorem inNm_ok (l : List UInt8) (h : inNm (dec l).1 = true) : okD l = true := by
  cases ho : okD l with
  | true => rfl
  | false =>
    rw [(okD_false l).1 ho] at h
    exact absurd h (by decide)
end Go.Proofs.YtbmafogjmdilkaaGreatDoor
