import Derived.Test.YtppmednmcbjafaaGreatBase
set_option linter.unusedVariables false
set_option linter.unusedSimpArgs false
set_option maxRecDepth 100000
namespace Go.Proofs.YtppmednmcbjafaaGreat
open Go.RowKit

/-- A bucket's block: four numbers. -/
def bk (a b c d : Int) : List Value := [.int .i64 a, .int .i64 b, .int .i64 c, .int .i64 d]

theorem new_any (b r : Int) (w : World) (h : 0 ≤ b ∧ b ≤ 1000 ∧ 0 ≤ r ∧ r ≤ 1000) :
    Calls Tryz.prog 43 #[.int .i64 b, .int .i64 r] w fun e w' => e = .returned (.tuple #[.pointer (some ⟨w.heap.size, 0, none⟩), .int .i64 0]) ∧ w' = w.alloc (.cells (bk b r b 0).toArray 158) := by
  obtain ⟨h1, h2, h3, h4⟩ := h
  go_enter Tryz.func43, Tryz.ntmps43
  go_wp2
  go_ret2
  exact ⟨rfl, rfl⟩

theorem new_no (b r : Int) (w : World) (h : b < 0 ∨ 1000 < b ∨ r < 0 ∨ 1000 < r) :
    Calls Tryz.prog 43 #[.int .i64 b, .int .i64 r] w fun e w' => e = .returned (.tuple #[.pointer none, .int .i64 1]) ∧ w' = w := by
  by_cases h1 : b < 0
  · go_enter Tryz.func43, Tryz.ntmps43
    go_wp2
    go_ret2
    exact ⟨rfl, rfl⟩
  by_cases h2 : 1000 < b
  · go_enter Tryz.func43, Tryz.ntmps43
    go_wp2
    go_ret2
    exact ⟨rfl, rfl⟩
  by_cases h3 : r < 0
  · go_enter Tryz.func43, Tryz.ntmps43
    go_wp2
    go_ret2
    exact ⟨rfl, rfl⟩
  have h4 : 1000 < r := by omega
  clear h
  go_enter Tryz.func43, Tryz.ntmps43
  go_wp2
  go_ret2
  exact ⟨rfl, rfl⟩

theorem take_nil (w : World) : Calls Tryz.prog 53 #[.pointer none] w fun e w' => e = .returned (.bool false) ∧ w' = w := by
  go_enter Tryz.func53, Tryz.ntmps53
  go_wp2
  go_ret
  exact ⟨rfl, rfl⟩

theorem take_no (g : Nat) (a b d : Int) (w : World) (hb : Blk w g 158 (bk a b 0 d)) :
    Calls Tryz.prog 53 #[.pointer (some ⟨g, 0, none⟩)] w fun e w' => e = .returned (.bool false) ∧ w' = w := by
  have c2 : w.cell? ⟨g, 2, none⟩ = some (.int .i64 0) := hb.cell 2
  clear hb
  go_enter Tryz.func53, Tryz.ntmps53
  go_wp2
  go_ret
  exact ⟨rfl, rfl⟩

theorem take_yes (g : Nat) (a b c d : Int) (w : World) (hb : Blk w g 158 (bk a b c d)) (hc : 1 ≤ c ∧ c ≤ 1000) (hd : 0 ≤ d ∧ d ≤ 1000000) :
    Calls Tryz.prog 53 #[.pointer (some ⟨g, 0, none⟩)] w fun e w' => e = .returned (.bool true) ∧ Blk w' g 158 (bk a b (c - 1) (d + 1)) ∧ Fr (onlyB g) w w' := by
  have c2 : w.cell? ⟨g, 2, none⟩ = some (.int .i64 c) := hb.cell 2
  have c3 : w.cell? ⟨g, 3, none⟩ = some (.int .i64 d) := hb.cell 3
  have f2 := hb.frozen 2
  have f3 := hb.frozen 3
  obtain ⟨h1, h2⟩ := hc
  obtain ⟨h3, h4⟩ := hd
  go_enter Tryz.func53, Tryz.ntmps53
  go_wp2
  go_ret
  exact ⟨rfl, (hb.set 2 _).set 3 _, ((Fr.refl (onlyB g) w).store (onlyB_self g)).store (onlyB_self g)⟩

theorem tick_nil (w : World) : Calls Tryz.prog 55 #[.pointer none] w fun e w' => e = .returned (.tuple #[]) ∧ w' = w := by
  go_enter Tryz.func55, Tryz.ntmps55
  go_wp2
  go_end0
  exact ⟨rfl, rfl⟩
theorem tick_any (g : Nat) (a b c d : Int) (w : World) (hb : Blk w g 158 (bk a b c d)) (hc : 0 ≤ c ∧ c ≤ 1000) (hr : 0 ≤ b ∧ b ≤ 1000) (ha : 0 ≤ a ∧ a ≤ 1000) :
    Calls Tryz.prog 55 #[.pointer (some ⟨g, 0, none⟩)] w fun e w' => e = .returned (.tuple #[]) ∧ Blk w' g 158 (bk a b (min (c + b) a) d) ∧ Fr (onlyB g) w w' := by
  have c0 : w.cell? ⟨g, 0, none⟩ = some (.int .i64 a) := hb.cell 0
  have c1 : w.cell? ⟨g, 1, none⟩ = some (.int .i64 b) := hb.cell 1
  have c2 : w.cell? ⟨g, 2, none⟩ = some (.int .i64 c) := hb.cell 2
  have f2 := hb.frozen 2
  obtain ⟨h1, h2⟩ := hc
  obtain ⟨h3, h4⟩ := hr
  obtain ⟨h5, h6⟩ := ha
  go_enter Tryz.func55, Tryz.ntmps55
  go_wp2
  go_region
  all_goals go_end0
  all_goals
    have hm : (if a < c + b then a else c + b) = min (c + b) a := by omega
    rw [hm]
    exact ⟨rfl, hb.set 2 _, ((Fr.refl (onlyB g) w).store (onlyB_self g)).drew⟩

/-! ### the document's own bucket -/
theorem rnew_any (b r : Int) (w : World) (h : 0 ≤ b ∧ b ≤ 1000 ∧ 0 ≤ r ∧ r ≤ 1000) :
    Calls Tryz.prog 44 #[.int .i64 b, .int .i64 r] w fun e w' => e = .returned (.tuple #[.pointer (some ⟨w.heap.size, 0, none⟩), .bool true]) ∧ w' = w.alloc (.cells (bk b r b 0).toArray 160) := by
  obtain ⟨h1, h2, h3, h4⟩ := h
  go_enter Tryz.func44, Tryz.ntmps44
  go_wp2
  go_ret2
  exact ⟨rfl, rfl⟩

theorem rnew_no (b r : Int) (w : World) (h : b < 0 ∨ 1000 < b ∨ r < 0 ∨ 1000 < r) :
    Calls Tryz.prog 44 #[.int .i64 b, .int .i64 r] w fun e w' => e = .returned (.tuple #[.pointer none, .bool false]) ∧ w' = w := by
  by_cases h1 : b < 0
  · go_enter Tryz.func44, Tryz.ntmps44
    go_wp2
    go_ret2
    exact ⟨rfl, rfl⟩
  by_cases h2 : 1000 < b
  · go_enter Tryz.func44, Tryz.ntmps44
    go_wp2
    go_ret2
    exact ⟨rfl, rfl⟩
  by_cases h3 : r < 0
  · go_enter Tryz.func44, Tryz.ntmps44
    go_wp2
    go_ret2
    exact ⟨rfl, rfl⟩
  have h4 : 1000 < r := by omega
  clear h
  go_enter Tryz.func44, Tryz.ntmps44
  go_wp2
  go_ret2
  exact ⟨rfl, rfl⟩

theorem rtake_no (g : Nat) (a b d : Int) (w : World) (hb : Blk w g 160 (bk a b 0 d)) :
    Calls Tryz.prog 54 #[.pointer (some ⟨g, 0, none⟩)] w fun e w' => e = .returned (.bool false) ∧ w' = w := by
  have c2 : w.cell? ⟨g, 2, none⟩ = some (.int .i64 0) := hb.cell 2
  go_enter Tryz.func54, Tryz.ntmps54
  go_wp2
  go_ret
  exact ⟨rfl, rfl⟩

theorem rtake_yes (g : Nat) (a b c d : Int) (w : World) (hb : Blk w g 160 (bk a b c d)) (hc : 1 ≤ c ∧ c ≤ 1000) (hd : 0 ≤ d ∧ d ≤ 1000000) :
    Calls Tryz.prog 54 #[.pointer (some ⟨g, 0, none⟩)] w fun e w' => e = .returned (.bool true) ∧ Blk w' g 160 (bk a b (c - 1) (d + 1)) ∧ Fr (onlyB g) w w' := by
  have c2 : w.cell? ⟨g, 2, none⟩ = some (.int .i64 c) := hb.cell 2
  have c3 : w.cell? ⟨g, 3, none⟩ = some (.int .i64 d) := hb.cell 3
  have f2 := hb.frozen 2
  have f3 := hb.frozen 3
  obtain ⟨h1, h2⟩ := hc
  obtain ⟨h3, h4⟩ := hd
  go_enter Tryz.func54, Tryz.ntmps54
  go_wp2
  go_ret
  exact ⟨rfl, (hb.set 2 _).set 3 _, ((Fr.refl (onlyB g) w).store (onlyB_self g)).store (onlyB_self g)⟩

theorem rtick_any (g : Nat) (a b c d : Int) (w : World) (hb : Blk w g 160 (bk a b c d)) (hc : 0 ≤ c ∧ c ≤ 1000) (hr : 0 ≤ b ∧ b ≤ 1000) (ha : 0 ≤ a ∧ a ≤ 1000) :
    Calls Tryz.prog 58 #[.pointer (some ⟨g, 0, none⟩)] w fun e w' => e = .returned (.tuple #[]) ∧ Blk w' g 160 (bk a b (min (c + b) a) d) ∧ Fr (onlyB g) w w' := by
  have c0 : w.cell? ⟨g, 0, none⟩ = some (.int .i64 a) := hb.cell 0
  have c1 : w.cell? ⟨g, 1, none⟩ = some (.int .i64 b) := hb.cell 1
  have c2 : w.cell? ⟨g, 2, none⟩ = some (.int .i64 c) := hb.cell 2
  have f2 := hb.frozen 2
  obtain ⟨h1, h2⟩ := hc
  obtain ⟨h3, h4⟩ := hr
  obtain ⟨h5, h6⟩ := ha
  by_cases h : a < c + b
  · go_enter Tryz.func58, Tryz.ntmps58
    go_wp2
    go_region
    all_goals go_wp2
    all_goals go_region
    all_goals go_wp2
    all_goals go_end0
    all_goals
      have hm : min (c + b) a = a := by omega
      rw [hm]
      exact ⟨rfl, (hb.set 2 _).set 2 _, ((((Fr.refl (onlyB g) w).store (onlyB_self g)).store (onlyB_self g)).drew).drew⟩
  · go_enter Tryz.func58, Tryz.ntmps58
    go_wp2
    go_region
    all_goals go_wp2
    all_goals go_region
    all_goals go_wp2
    all_goals go_end0
    all_goals
      have hm : min (c + b) a = c + b := by omega
      rw [hm]
      exact ⟨rfl, hb.set 2 _, ((Fr.refl (onlyB g) w).store (onlyB_self g)).drew.drew⟩

end Go.Proofs.YtppmednmcbjafaaGreat
