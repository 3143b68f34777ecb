import Derived.Test.YtphcjfchphgakaaDiskCrash
set_option linter.unusedVariables false
set_option linter.unusedSimpArgs false
namespace Go.Proofs.Ytphcjfchphgakaa
open Go.RowKit Go Go.Lib

/-- the document's own disk -/
def Rk (w : World) (g : Nat) (bs : List UInt8) (kept : Nat) : Prop :=
  ∃ s : ByteArray, s.data.toList = bs ∧ Blk w g 28 [.string s, .int .i64 kept] ∧ kept ≤ bs.length ∧ bs.length ≤ 65536

theorem size_list (s : ByteArray) : s.size = s.data.toList.length := rfl
theorem extract_list (s : ByteArray) (m : Nat) : (s.extract 0 m).data.toList = s.data.toList.take m := by
  rw [ByteArray.data_extract, Array.toList_extract]
  simp

theorem rappend_full (g : Nat) (bs : List UInt8) (kept : Nat) (s : ByteArray) (w : World) (h : Rk w g bs kept) (hs : s.size ≤ 2000) (hf : 65536 < bs.length + s.size) :
    Calls Try.prog 9 #[.pointer (some ⟨g, 0, none⟩), .string s] w fun e w' => e = .returned (.int .i64 6) ∧ w' = w := by
  obtain ⟨t, ht, hb, hk, hl⟩ := h
  have hz : t.size = bs.length := by rw [size_list, ht]
  generalize bs.length = n at *
  subst hz
  have c0 : w.cell? ⟨g, 0, none⟩ = some (.string t) := hb.cell 0
  go_enter Try.func9, Try.ntmps9
  go_wp2
  go_ret
  exact ⟨rfl, rfl⟩

theorem rappend_any (g : Nat) (bs : List UInt8) (kept : Nat) (s : ByteArray) (w : World) (h : Rk w g bs kept) (hf : bs.length + s.size ≤ 65536) :
    Calls Try.prog 9 #[.pointer (some ⟨g, 0, none⟩), .string s] w fun e w' => e = .returned (.int .i64 0) ∧ Rk w' g (bs ++ s.data.toList) kept ∧ Fr (onlyB g) w w' := by
  obtain ⟨t, ht, hb, hk, hl⟩ := h
  subst ht
  rw [← size_list] at hf hk hl
  have c0 : w.cell? ⟨g, 0, none⟩ = some (.string t) := hb.cell 0
  have f0 := hb.frozen 0
  go_enter Try.func9, Try.ntmps9
  go_wp2
  go_ret
  refine ⟨rfl, ⟨t ++ s, by simp, hb.set 0 _, ?_, ?_⟩, (Fr.refl (onlyB g) w).store (onlyB_self g)⟩
  · rw [List.length_append, ← size_list, ← size_list]; omega
  · rw [List.length_append, ← size_list, ← size_list]; omega

set_option maxHeartbeats 400000 in
theorem rcut_any (g : Nat) (bs : List UInt8) (kept : Nat) (k : Int) (w : World) (h : Rk w g bs kept) (hk : -9223372036854775808 ≤ k ∧ k ≤ 9223372036854775807) :
    Calls Try.prog 14 #[.pointer (some ⟨g, 0, none⟩), .int .i64 k] w fun e w' => e = .returned (.tuple #[]) ∧ Rk w' g (bs.take (cutN k bs.length)) (cutN k bs.length) ∧ Fr (onlyB g) w w' := by
  obtain ⟨t, ht, hb, hkp, hl⟩ := h
  subst ht
  rw [← size_list] at hkp hl ⊢
  have hm : cutN k t.size = min (max k 0) (t.size : Int) := by unfold cutN; omega
  have hmn := cutN_le k t.size
  have hle : ∀ m, m ≤ t.size → (t.extract 0 m).size = m := fun m h => by rw [size_list, extract_list, List.length_take, ← size_list]; omega
  generalize cutN k t.size = m at *
  have c0 : w.cell? ⟨g, 0, none⟩ = some (.string t) := hb.cell 0
  have c1 : w.cell? ⟨g, 1, none⟩ = some (.int .i64 kept) := hb.cell 1
  have f0 := hb.frozen 0
  have f1 := hb.frozen 1
  obtain ⟨hk0, hk1⟩ := hk
  replace hm := Lib.hid hm
  replace hle := Lib.hid hle
  have fin : ∀ w', w' = ((w.setCell ⟨g, 0, none⟩ (.string (t.extract 0 m))).setCell ⟨g, 1, none⟩ (.int .i64 m)).drew → Rk w' g (t.data.toList.take m) m ∧ Fr (onlyB g) w w' := fun w' hw => by
    subst hw
    refine ⟨⟨t.extract 0 m, extract_list t m, ((hb.set 0 _).set 1 _).drew, ?_, ?_⟩, (((Fr.refl (onlyB g) w).store (onlyB_self g)).store (onlyB_self g)).drew⟩
    · rw [List.length_take, ← size_list]; omega
    · rw [List.length_take, ← size_list]; omega
  replace fin := Lib.hid fin
  by_cases hk2 : k < 0
  · obtain rfl : m = 0 := by have := hm.out; omega
    have hx : ¬ (t.size : Int) < 0 := by omega
    have hz := hle.out _ hmn
    go_enter Try.func14, Try.ntmps14
    go_wp2
    go_region
    go_wp2
    go_end0
    exact ⟨rfl, fin.out _ (by first | rfl | simp)⟩
  · by_cases hk3 : k < t.size
    · obtain rfl : k = m := by have := hm.out; omega
      have hz := hle.out _ hmn
      go_enter Try.func14, Try.ntmps14
      go_wp2
      go_region
      go_wp2
      go_end0
      exact ⟨rfl, fin.out _ (by first | rfl | simp)⟩
    · obtain rfl : m = t.size := by have := hm.out; omega
      by_cases hk4 : (t.size : Int) < k
      · have hx : ¬ k < 0 := by omega
        have hz := hle.out _ hmn
        go_enter Try.func14, Try.ntmps14
        go_wp2
        go_region
        go_wp2
        go_end0
        exact ⟨rfl, fin.out _ (by first | rfl | simp)⟩
      · obtain rfl : k = t.size := by omega
        have hz := hle.out _ hmn
        go_enter Try.func14, Try.ntmps14
        go_wp2
        go_region
        go_wp2
        go_end0
        exact ⟨rfl, fin.out _ (by first | rfl | simp)⟩

set_option maxHeartbeats 1000000 in
theorem rcrash_any (g : Nat) (bs : List UInt8) (kept : Nat) (k : Int) (w : World) (h : Rk w g bs kept) (hk : -9223372036854775808 ≤ k ∧ k ≤ 9223372036854775807) :
    Calls Try.prog 12 #[.pointer (some ⟨g, 0, none⟩), .int .i64 k] w fun e w' => e = .returned (.tuple #[]) ∧ Rk w' g (bs.take (kept + crN k (bs.length - kept))) (kept + crN k (bs.length - kept)) ∧ Fr (onlyB g) w w' := by
  obtain ⟨t, ht, hb, hkp, hl⟩ := h
  subst ht
  rw [← size_list] at hkp hl ⊢
  obtain ⟨L, hL⟩ : ∃ L, t.size - kept = L := ⟨_, rfl⟩
  obtain ⟨hc1, hc2⟩ := crN_spec k L (by omega)
  rw [hL]
  have c0 : w.cell? ⟨g, 0, none⟩ = some (.string t) := hb.cell 0
  have c1 : w.cell? ⟨g, 1, none⟩ = some (.int .i64 kept) := hb.cell 1
  have f0 := hb.frozen 0
  have f1 := hb.frozen 1
  have e1 : (t.size : Int) - kept = L := by omega
  generalize crN k L = q at *
  have hLb : (L : Int) ≤ 65536 := by omega
  have hqb : (q : Int) ≤ L := by omega
  have hkq : kept + q ≤ t.size := by omega
  have hz : (t.extract 0 (kept + q)).size = kept + q := by rw [size_list, extract_list, List.length_take, ← size_list]; omega
  have fin : ∀ w' n, w' = ((w.setCell ⟨g, 0, none⟩ (.string (t.extract 0 (kept + q)))).setCell ⟨g, 1, none⟩ (.int .i64 ((kept : Int) + (q : Int)))).drewN n → Rk w' g (t.data.toList.take (kept + q)) (kept + q) ∧ Fr (onlyB g) w w' := fun w' n hw => by
    subst hw
    refine ⟨⟨t.extract 0 (kept + q), extract_list t _, ((hb.set 0 _).set 1 _).drewN _, ?_, ?_⟩, (((Fr.refl (onlyB g) w).store (onlyB_self g)).store (onlyB_self g)).drewN _⟩
    · rw [List.length_take, ← size_list]; omega
    · rw [List.length_take, ← size_list]; omega
  replace fin := Lib.hid fin
  replace hL := Lib.hid hL
  obtain ⟨hk0, hk1⟩ := hk
  go_enter Try.func12, Try.ntmps12
  go_wp2_with fail
  go_quiet (fail)
  go_wp2_with fail
  have w1 : IntKind.i64.wrap ((L : Int) + 1) = (L : Int) + 1 := IntWalk.i64_in _ (by omega)
  have w2 : IntKind.u64.wrap ((L : Int) + 1) = (L : Int) + 1 := by rw [IntKind.wrap_u64]; omega
  have w3 : IntKind.i64.wrap ((IntKind.u64.wrap k).tmod ((L : Int) + 1)) = q := by rw [← hc1]; rw [IntKind.wrap_i64]; unfold wrap64; rfl
  have w4 : IntKind.i64.wrap ((kept : Int) + (q : Int)) = (kept : Int) + (q : Int) := IntWalk.i64_in _ (by omega)
  have w5 : ¬ ((L : Int) + 1 = 0) := by omega
  go_region
  go_wp2
  go_end0
  exact ⟨rfl, fin.out _ _ (by first | rfl | simp)⟩
end Go.Proofs.Ytphcjfchphgakaa
