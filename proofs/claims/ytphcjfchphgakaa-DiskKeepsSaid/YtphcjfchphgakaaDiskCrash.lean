import Derived.Test.YtphcjfchphgakaaDisk
set_option linter.unusedVariables false
set_option linter.unusedSimpArgs false
namespace Go.Proofs.Ytphcjfchphgakaa
open Go.RowKit Go Go.Lib

/-- how many of the loose bytes a crash leaves -/
def crN (k : Int) (loose : Nat) : Nat := (wrap64 ((IntKind.u64.wrap k).tmod ((loose : Int) + 1))).toNat
theorem crN_spec (k : Int) (loose : Nat) (h : loose ≤ 65536) : wrap64 ((IntKind.u64.wrap k).tmod ((loose : Int) + 1)) = crN k loose ∧ crN k loose ≤ loose := by
  obtain ⟨q, hq, h0, h1⟩ := umod k (loose + 1) (by omega) (by omega)
  unfold crN
  rw [hq]
  omega

theorem dcrash_nil (n : Int) (w : World) : Calls Try.prog 11 #[.pointer none, .int .i64 n] w fun e w' => e = .returned (.tuple #[]) ∧ w' = w := by
  go_enter Try.func11, Try.ntmps11
  go_wp2
  go_end0
  exact ⟨rfl, rfl⟩

set_option maxHeartbeats 400000 in
theorem dcrash_any (g B : Nat) (bs : List UInt8) (kept : Nat) (k : Int) (w : World) (h : Dk w g B bs kept) (hk : -9223372036854775808 ≤ k ∧ k ≤ 9223372036854775807) :
    Calls Try.prog 11 #[.pointer (some ⟨g, 0, none⟩), .int .i64 k] w fun e w' => e = .returned (.tuple #[]) ∧ Dk w' g B (bs.take (kept + crN k (bs.length - kept))) (kept + crN k (bs.length - kept)) ∧ Fr (touched w g) w w' := by
  have hD := h
  obtain ⟨a, c, hb, ho, hgB, hBw, hkp, hl⟩ := h
  clear ho
  generalize hn : bs.length = n at *
  obtain ⟨L, hL⟩ : ∃ L, n - kept = L := ⟨_, rfl⟩
  obtain ⟨hc1, hc2⟩ := crN_spec k L (by omega)
  rw [hL]
  have c0 : w.cell? ⟨g, 0, none⟩ = some (.slice a n c) := hb.cell 0
  have c1 : w.cell? ⟨g, 1, none⟩ = some (.int .i64 kept) := hb.cell 1
  have e1 : (n : Int) - kept = L := by omega
  clear hb
  replace hL := Lib.hid hL
  generalize hq : crN k L = q at *
  replace hn := Lib.hid hn
  replace hq := Lib.hid hq
  have hLb : (L : Int) ≤ 65536 := by omega
  have hqb : (q : Int) ≤ L := by omega
  obtain ⟨hk0, hk1⟩ := hk
  go_enter Try.func11, Try.ntmps11
  go_wp2_with fail
  go_quiet (fail)
  go_wp2_with fail
  have w1 : IntKind.i64.wrap ((L : Int) + 1) = (L : Int) + 1 := IntWalk.i64_in _ (by omega)
  have w2 : IntKind.u64.wrap ((L : Int) + 1) = (L : Int) + 1 := by rw [IntKind.wrap_u64]; omega
  have w3 : IntKind.i64.wrap ((IntKind.u64.wrap k).tmod ((L : Int) + 1)) = q := by rw [← hc1]; rw [IntKind.wrap_i64]; unfold wrap64; rfl
  have w4 : IntKind.i64.wrap ((kept : Int) + (q : Int)) = (kept : Int) + (q : Int) := IntWalk.i64_in _ (by omega)
  have w5 : ¬ ((L : Int) + 1 = 0) := by omega
  go_region_with (go_at_call 13; refine (dcut_any g B bs kept _ _ ?_ ?_).mono ?_; exact hD; omega; rintro e w1 ⟨rfl, d1, f1⟩)
  all_goals
    have hcut : cutN ((kept : Int) + (q : Int)) bs.length = kept + q := by rw [hn.out]; unfold cutN; omega
    rw [hcut] at d1
    go_end0
    exact ⟨rfl, d1, ((Fr.refl (touched w g) w).drewN _).trans f1 (fun _ _ h => h) (fun _ _ h => h)⟩
end Go.Proofs.Ytphcjfchphgakaa
