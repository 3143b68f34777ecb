/-
  Rows of ints that are read, and spoorref06.SameInts of two.
-/
import Derived.Test.YtppmednmcbjafaaGreatAppend
set_option linter.unusedVariables false
set_option linter.unusedSimpArgs false
set_option maxRecDepth 100000
namespace Go.Proofs.YtppmednmcbjafaaGreat
open Go.RowKit Go Go.Lib

/-- a slice of ints that can be read -/
def RdI (w : World) (v : Value) (xs : List Int) : Prop :=
  ∃ a c, v = .slice a xs.length c ∧ xs.length ≤ 9223372036854775807 ∧ (xs.length ≤ c) ∧ ∀ i, i < xs.length → ∃ g o, a = some ⟨g, o, none⟩ ∧ w.cell? ⟨g, o + i, none⟩ = some (.int .i64 (xs.getD i 0))
theorem RdI.drewN {w : World} {v : Value} {xs : List Int} (h : RdI w v xs) (q : Nat) : RdI (w.drewN q) v xs := h
theorem RdI.of_own {w : World} {B n : Nat} {e : TypeId} {v : Value} {xs : List Int} (h : w.ownsRow B e 1 v n (xs.map (Value.int .i64))) : RdI w v xs := by
  have hl : xs.length = n := by simpa using h.1
  rcases h.2 with ⟨rfl, h1⟩ | ⟨g, cap, cur, rfl, h1, h2, h3, h4, h5⟩
  · subst h1
    have : xs = [] := List.eq_nil_of_length_eq_zero hl
    subst this
    exact ⟨none, 0, rfl, by simp, by simp, fun i hi => by simp at hi⟩
  · subst hl
    unfold maxLen at h4
    refine ⟨_, cap, rfl, by omega, h3, fun i hi => ⟨g, 0, rfl, ?_⟩⟩
    have := h.cells (g := g) rfl i (.int .i64 (xs.getD i 0)) (by simp [List.getD, hi])
    rwa [Addr.add_lit] at this
theorem RdI.fr {w w' : World} {v : Value} {xs : List Int} {S : Nat → Prop} (h : RdI w v xs) (hf : Fr S w w') (hS : ∀ g o n c, v = .slice (some ⟨g, o, none⟩) n c → ¬ S g) : RdI w' v xs := by
  obtain ⟨a, c, rfl, h1, h2, h3⟩ := h
  refine ⟨a, c, rfl, h1, h2, fun i hi => ?_⟩
  obtain ⟨g, o, rfl, h4⟩ := h3 i hi
  exact ⟨g, o, rfl, hf.cell h4 (hS _ _ _ _ rfl)⟩

set_option maxHeartbeats 400000 in
theorem sameInts_any (v u : Value) (xs ys : List Int) (w : World) (hv : RdI w v xs) (hu : RdI w u ys) :
    Calls Tryz.prog 19 #[v, u] w fun e w' => e = .returned (.bool (decide (xs = ys))) ∧ ∃ q, w' = w.drewN q := by
  obtain ⟨a, c, rfl, h1, h2, h3⟩ := hv
  obtain ⟨b, d, rfl, k1, k2, k3⟩ := hu
  by_cases hl : xs.length = ys.length
  · generalize hn : ys.length = n at *
    rw [hl] at h1 h2 h3 ⊢
    replace hn := Lib.hid hn
    replace hl := Lib.hid hl
    replace h3 := Lib.hid h3
    replace k3 := Lib.hid k3
    go_enter Tryz.func19, Tryz.ntmps19
    go_wp2_with fail
    go_loopw [5] (fun i wr => ∃ k : Nat, k ≤ n ∧ i = .int .i64 k ∧ Hid (xs.take k = ys.take k) ∧ ∃ q, wr = w.drewN q) (fun i _ => n - (RowKit.intOf i).toNat)
    case atStart => exact ⟨0, by omega, rfl, Lib.hid (by simp), 0, rfl⟩
    case round =>
      obtain ⟨k, hk, rfl, hkt, q, rfl⟩ := hrel
      by_cases hlt : k < n
      · obtain ⟨g, o, rfl, e1⟩ := h3.out k hlt
        obtain ⟨g2, o2, rfl, e2⟩ := k3.out k hlt
        have hx1 : xs.take (k + 1) = xs.take k ++ [xs.getD k 0] := by
          have : k < xs.length := by have := hl.out; omega
          rw [List.take_succ_eq_append_getElem this]; simp [List.getD, this]
        have hy1 : ys.take (k + 1) = ys.take k ++ [ys.getD k 0] := by
          have : k < ys.length := by have := hn.out; omega
          rw [List.take_succ_eq_append_getElem this]; simp [List.getD, this]
        generalize xs.getD k 0 = x at *
        generalize ys.getD k 0 = y at *
        replace hx1 := Lib.hid hx1
        replace hy1 := Lib.hid hy1
        replace e1 : (w.drewN q).cell? ⟨g, o + k, none⟩ = some (.int .i64 x) := e1
        replace e2 : (w.drewN q).cell? ⟨g2, o2 + k, none⟩ = some (.int .i64 y) := e2
        generalize hw : w.drewN q = wd at *
        replace hw := Lib.hid hw
        by_cases hxy : x = y
        · subst hxy
          go_wp2_with fail
          go_quiet (fail)
          go_wp2_with fail
          go_roundw
          case rel => exact ⟨k + 1, by omega, by go_num, Lib.hid (by rw [hx1.out, hy1.out, hkt.out]), _, by rw [← hw.out, World.drewN_drewN]⟩
          case measure => simp [RowKit.intOf]; omega
        · have hb : (x != y) = true := by simpa using hxy
          have hne : decide (xs = ys) = false := by
            simp only [decide_eq_false_iff_not]
            intro he
            subst he
            have h5 := hx1.out
            rw [hy1.out] at h5
            simp at h5
            exact hxy h5.symm
          replace hne := Lib.hid hne
          go_wp2_with fail
          go_quiet (fail)
          go_wp2_with fail
          go_ret
          exact ⟨by first | (rw [hne.out]; done) | (rw [hne.out]; rfl), _, by rw [← hw.out, World.drewN_drewN]⟩
      · obtain rfl : k = n := by omega
        have he : decide (xs = ys) = true := by
          have h5 := hkt.out
          rw [List.take_of_length_le (by have := hl.out; omega), List.take_of_length_le (by have := hn.out; omega)] at h5
          simpa using h5
        replace he := Lib.hid he
        go_wp2_with fail
        go_ret
        exact ⟨by first | (rw [he.out]; done) | (rw [he.out]; rfl), q, rfl⟩
  · have hd : ((xs.length : Int) != (ys.length : Int)) = true := by simp; omega
    have hne : decide (xs = ys) = false := by
      simp only [decide_eq_false_iff_not]
      intro he; exact hl (by rw [he])
    rw [hne]
    generalize xs.length = n at *
    generalize ys.length = m at *
    clear h3 k3
    go_enter Tryz.func19, Tryz.ntmps19
    go_wp2_with fail
    go_ret
    exact ⟨rfl, 0, rfl⟩
end Go.Proofs.YtppmednmcbjafaaGreat
