/-
  slices.IndexFunc and slices.DeleteFunc with the keeper's closure, at a row of the call's own.
-/
import Derived.Test.YtppmednmcbjafaaGreatKeep2
import Derived.Lib.SliceRun
import Derived.BigFrame
set_option linter.unusedVariables false
set_option linter.unusedSimpArgs false
set_option maxRecDepth 100000
namespace Go.Proofs.YtppmednmcbjafaaGreat
open Go.RowKit Go Go.Maps Go.Lib

theorem own_set {w : World} {B g n c i : Nat} {e : TypeId} {xs : List Value} (h : w.ownsRow B e 1 (.slice (some ⟨g, 0, none⟩) n c) n xs) (v : Value) : (w.setCell ⟨g, i, none⟩ v).ownsRow B e 1 (.slice (some ⟨g, 0, none⟩) n c) n (xs.set i v) := by
  refine ⟨by rw [List.length_set]; exact h.1, ?_⟩
  rcases h.2 with ⟨h1, _⟩ | ⟨g', cap, cur, h1, hb, hg, hn, hm, hs, ht⟩
  · cases h1
  · cases h1
    refine Or.inr ⟨g, c, cur.setIfInBounds i v, rfl, hb, ?_, hn, hm, by simpa using hs, ?_⟩
    · simp [World.setCell, Array.getElem?_modify, hg]
    · rw [Array.toList_setIfInBounds, List.take_set, ht]
theorem own_cut {w : World} {B g n c m : Nat} {e : TypeId} {xs : List Value} (h : w.ownsRow B e 1 (.slice (some ⟨g, 0, none⟩) n c) n xs) (hm : m ≤ n) : w.ownsRow B e 1 (.slice (some ⟨g, 0, none⟩) m c) m (xs.take m) := by
  have hl := h.1
  refine ⟨by rw [List.length_take]; omega, ?_⟩
  rcases h.2 with ⟨h1, _⟩ | ⟨g', cap, cur, h1, hb, hg, hn, hm2, hs, ht⟩
  · cases h1
  · cases h1
    refine Or.inr ⟨g, c, cur, rfl, hb, hg, by omega, hm2, hs, ?_⟩
    rw [← ht, List.take_take]
    congr 1
    omega
theorem own_past {w : World} {B g n c i : Nat} {e : TypeId} {xs : List Value} (h : w.ownsRow B e 1 (.slice (some ⟨g, 0, none⟩) n c) n xs) (hi : n ≤ i) (v : Value) : (w.setCell ⟨g, i, none⟩ v).ownsRow B e 1 (.slice (some ⟨g, 0, none⟩) n c) n xs := by
  have := own_set (i := i) h v
  rwa [List.set_eq_of_length_le (by have := h.1; omega)] at this
theorem own_pasts {B g n c : Nat} {e : TypeId} {xs : List Value} : ∀ (vs : List Value) (i : Nat) (w : World), w.ownsRow B e 1 (.slice (some ⟨g, 0, none⟩) n c) n xs → n ≤ i → (w.setCells g i vs).ownsRow B e 1 (.slice (some ⟨g, 0, none⟩) n c) n xs
  | [], i, w, h, hi => h
  | v :: r, i, w, h, hi => by
    rw [World.setCells]
    exact own_pasts r (i + 1) _ (own_past h hi v) (by omega)
theorem own_cellI {w : World} {B g n c i : Nat} {e : TypeId} {Z : List Int} (h : w.ownsRow B e 1 (.slice (some ⟨g, 0, none⟩) n c) n (rowV Z)) (hi : i < n) : w.cell? ⟨g, i, none⟩ = some (.int .i64 (Z.getD i 0)) ∧ w.frozen? ⟨g, i, none⟩ = false := by
  have hl : Z.length = n := by simpa [rowV] using h.1
  have h1 := h.cells (g := g) rfl i (.int .i64 (Z.getD i 0)) (by simp [rowV, List.getD, hl, hi])
  rw [Addr.add_mid, Nat.zero_add] at h1
  refine ⟨h1, ?_⟩
  rcases h.2 with ⟨h1, _⟩ | ⟨g', cap, cur, h1, hb, hg, hn, hm2, hs, ht⟩
  · cases h1
  · cases h1
    simp [World.frozen?, hg]

/-- what the closure tells, in whatever world in which nothing but block g has turned -/
def Tells (w : World) (g : Nat) (cb : Value) (p : Int → Bool) (X : List Int) : Prop :=
  ∀ x ∈ X, ∀ w', Fr (onlyB g) w w' → Calls Tryz.prog 107 #[.int .i64 x, cb] w' fun e w'' => e = .returned (.bool (p x)) ∧ Fr noB w' w''

theorem indexf_nil (c : Nat) (cb : Value) (w : World) : Calls Tryz.prog 140 #[.slice none 0 c, .func (.func 107) #[] #[cb]] w fun e w' => e = .returned (.int .i64 (-1)) ∧ w' = w := by
  go_enter Tryz.func140, Tryz.ntmps140
  go_wp2
  refine wp_loop_rounds 1 ?_
  rw [rounds_succ]
  go_wp2
  go_ret
  exact ⟨rfl, rfl⟩
theorem delf_nil (c : Nat) (cb : Value) (w : World) : Calls Tryz.prog 108 #[.slice none 0 c, .func (.func 107) #[] #[cb]] w fun e w' => e = .returned (.slice none 0 c) ∧ w' = w := by
  have hi := indexf_nil c cb w
  go_enter Tryz.func108, Tryz.ntmps108
  go_wp2_with fail
  refine hi.mono ?_
  rintro e w1 ⟨rfl, hw1⟩
  obtain rfl := hw1.symm
  clear hi hw1
  go_wp2_with fail
  go_ret
  exact ⟨rfl, rfl⟩

set_option maxHeartbeats 1000000 in
theorem indexf_any (B g c n : Nat) (X : List Int) (cb : Value) (p : Int → Bool) (w : World) (h : w.ownsRow B 3 1 (.slice (some ⟨g, 0, none⟩) n c) n (rowV X)) (hn : n ≤ 1000) (ht : Tells w g cb p X) :
    Calls Tryz.prog 140 #[.slice (some ⟨g, 0, none⟩) n c, .func (.func 107) #[] #[cb]] w fun e w' => ∃ r : Int, e = .returned (.int .i64 r) ∧ ((r = -1 ∧ ∀ x ∈ X, p x = false) ∨ ∃ i : Nat, i < n ∧ r = i ∧ p (X.getD i 0) = true ∧ ∀ x ∈ X.take i, p x = false) ∧ Fr noB w w' := by
  have hl : X.length = n := by simpa [rowV] using h.1
  have hcell : ∀ i, i < n → ∀ w', Fr noB w w' → w'.cell? ⟨g, i, none⟩ = some (.int .i64 (X.getD i 0)) := fun i hi w' f => f.cell (own_cellI h hi).1 (fun q => q)
  replace hcell := Lib.hid hcell
  have ht2 : Hid (∀ i, i < n → ∀ w', Fr noB w w' → Calls Tryz.prog 107 #[.int .i64 (X.getD i 0), cb] w' fun e w'' => e = .returned (.bool (p (X.getD i 0))) ∧ Fr noB w' w'') := Lib.hid (fun i hi w' f => ht _ (by simp [List.getD, hl, hi]) w' (f.mono (fun _ _ q => False.elim q)))
  have hstep : ∀ i, i < n → (∀ x ∈ X.take i, p x = false) → p (X.getD i 0) = false → ∀ x ∈ X.take (i + 1), p x = false := by
    intro i hi h1 h2 x hx
    rw [List.take_succ_eq_append_getElem (by omega)] at hx
    rcases List.mem_append.1 hx with q | q
    · exact h1 x q
    · simp at q; subst q
      simpa [List.getD, hl, hi] using h2
  replace hstep := Lib.hid hstep
  replace hl := Lib.hid hl
  clear h ht
  go_enter Tryz.func140, Tryz.ntmps140
  go_wp2_with fail
  go_loopg [8] n (fun gk i wr => ∃ k : Nat, k + gk = n ∧ i = .int .i64 k ∧ Hid (∀ x ∈ X.take k, p x = false) ∧ Fr noB w wr)
  case atStart => exact ⟨0, by omega, rfl, Lib.hid (by simp), Fr.refl _ _⟩
  case round =>
    obtain ⟨k, hk, rfl, hno, fr⟩ := hrel
    by_cases hkn : k < n
    · have c0 := hcell.out k hkn _ fr
      have hcl := ht2.out k hkn _ fr
      have hst := hstep.out k hkn hno.out
      have hb0 : (0 : Int) ≤ k := by omega
      have hb1 : (k : Int) < n := by omega
      generalize hx : X.getD k 0 = x at *
      replace hx := Lib.hid hx
      cases hp : p x with
      | true =>
        rw [hp] at hcl
        replace hp := Lib.hid hp
        clear hst
        go_wp2_with fail
        refine hcl.mono ?_
        rintro e w1 ⟨rfl, f1⟩
        have fr1 := fr.seqN f1
        clear hcl f1 c0
        go_wp2_with fail
        go_ret
        exact ⟨_, rfl, Or.inr ⟨k, hkn, rfl, by rw [hx.out]; exact hp.out, hno.out⟩, fr1⟩
      | false =>
        rw [hp] at hcl
        have hst := Lib.hid (hst hp)
        replace hp := Lib.hid hp
        go_wp2_with fail
        refine hcl.mono ?_
        rintro e w1 ⟨rfl, f1⟩
        have fr1 := fr.seqN f1
        clear hcl f1 c0
        go_wp2_with fail
        go_roundg (n - k - 1)
        case rel => exact ⟨k + 1, by omega, by go_num, hst, fr1⟩
        case measure => omega
    · obtain rfl : k = n := by omega
      have hno := hno.out
      rw [List.take_of_length_le (by rw [hl.out]; exact Nat.le_refl _)] at hno
      replace hno := Lib.hid hno
      go_wp2_with fail
      go_ret
      exact ⟨_, rfl, Or.inl ⟨rfl, hno.out⟩, fr⟩

/-- The first i elements are those of the first j that stay; from j on the row is as it was. -/
structure DelI (X Z : List Int) (p : Int → Bool) (i j : Nat) : Prop where
  len : Z.length = X.length
  lt : i < j
  le : j ≤ X.length
  cnt : ((X.take j).filter fun x => !p x).length = i
  low : Z.take i = (X.take j).filter fun x => !p x
  high : ∀ q, j ≤ q → Z.getD q 0 = X.getD q 0
theorem DelI.start {X : List Int} {p : Int → Bool} {i : Nat} (hi : i < X.length) (hp : p (X.getD i 0) = true) (hno : ∀ x ∈ X.take i, p x = false) : DelI X X p i (i + 1) := by
  have h1 : (X.take (i + 1)).filter (fun x => !p x) = X.take i := by
    rw [List.take_succ_eq_append_getElem hi, List.filter_append]
    have h2 : (X.take i).filter (fun x => !p x) = X.take i := List.filter_eq_self.2 (fun x hx => by rw [hno x hx]; rfl)
    have h3 : p X[i] = true := by simpa [List.getD, hi] using hp
    rw [h2]
    simp [h3]
  exact ⟨rfl, by omega, by omega, by rw [h1, List.length_take]; omega, by rw [h1], fun q _ => rfl⟩
theorem DelI.skip {X Z : List Int} {p : Int → Bool} {i j : Nat} (h : DelI X Z p i j) (hj : j < X.length) (hp : p (X.getD j 0) = true) : DelI X Z p i (j + 1) := by
  have h3 : p X[j] = true := by simpa [List.getD, hj] using hp
  have h1 : (X.take (j + 1)).filter (fun x => !p x) = (X.take j).filter (fun x => !p x) := by
    rw [List.take_succ_eq_append_getElem hj, List.filter_append]
    simp [h3]
  exact ⟨h.len, by have := h.lt; omega, by omega, by rw [h1]; exact h.cnt, by rw [h1]; exact h.low, fun q hq => h.high q (by omega)⟩
theorem DelI.keep {X Z : List Int} {p : Int → Bool} {i j : Nat} (h : DelI X Z p i j) (hj : j < X.length) (hp : p (X.getD j 0) = false) : DelI X (Z.set i (X.getD j 0)) p (i + 1) (j + 1) := by
  have h3 : p X[j] = false := by simpa [List.getD, hj] using hp
  have hlt := h.lt
  have hiz : i < Z.length := by rw [h.len]; omega
  have h1 : (X.take (j + 1)).filter (fun x => !p x) = (X.take j).filter (fun x => !p x) ++ [X.getD j 0] := by
    rw [List.take_succ_eq_append_getElem hj, List.filter_append]
    simp [h3, List.getD, hj]
  refine ⟨by rw [List.length_set]; exact h.len, by omega, by omega, by rw [h1, List.length_append, h.cnt]; rfl, ?_, fun q hq => ?_⟩
  · rw [h1, ← h.low, List.take_succ_eq_append_getElem (by rw [List.length_set]; exact hiz), List.take_set_of_le (Nat.le_refl _)]
    simp
  · have := h.high q (by omega)
    rw [← this]
    simp [List.getD, List.getElem?_set, show ¬ i = q by omega]
end Go.Proofs.YtppmednmcbjafaaGreat
