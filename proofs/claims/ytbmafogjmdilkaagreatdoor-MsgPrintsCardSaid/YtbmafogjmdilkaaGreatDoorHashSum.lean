import Derived.Test.YtbmafogjmdilkaaGreatDoorBase
import Derived.Test.YtbmafogjmdilkaaGreatDoorBytes
set_option linter.unusedVariables false
set_option linter.unusedSimpArgs false
set_option maxRecDepth 100000
namespace Go.Proofs.YtbmafogjmdilkaaGreatDoor
open Go.RowKit

/-- one step of the sum -/
def stepH (y : Int) (c : Nat) : Int := IntKind.u64.wrap (bits BinOp.xor IntKind.u64 y (IntKind.u64.wrap (c : Int)) * 1099511628211)
def sumL (l : List UInt8) : Int := l.foldl (fun y c => stepH y c.toNat) 14695981039346656037

theorem sumL_snoc (l : List UInt8) (c : UInt8) : sumL (l ++ [c]) = stepH (sumL l) c.toNat := by simp [sumL]
theorem take_snoc (s : ByteArray) (k : Nat) (h : k < s.size) : s.data.toList.take (k + 1) = s.data.toList.take k ++ [s[k]] := by
  rw [List.take_succ_eq_append_getElem (by simpa using h)]; rfl
theorem stepH_bd (y : Int) (c : Nat) : 0 ≤ stepH y c ∧ stepH y c ≤ 18446744073709551615 := by
  unfold stepH
  rw [IntKind.wrap_u64]
  omega
theorem sumL_bd (l : List UInt8) : 0 ≤ sumL l ∧ sumL l ≤ 18446744073709551615 := by
  rcases List.eq_nil_or_concat l with rfl | ⟨l', c, rfl⟩
  · simp [sumL]
  · rw [List.concat_eq_append, sumL_snoc]; exact stepH_bd _ _

theorem ret_int {k : IntKind} {a b : Int} (h : a = b) : Ending.returned (.int k a) = .returned (.int k b) := by rw [h]

set_option maxHeartbeats 400000 in
theorem sum_any (s : ByteArray) (w : World) (hs : s.size ≤ maxLen) :
    Calls Tryz.prog 42 #[.string s] w fun e w' => e = .returned (.int .u64 (sumL s.data.toList)) ∧ w' = w := by
  unfold maxLen at hs
  go_enter Tryz.func42, Tryz.ntmps42
  go_wp2
  go_loop [3, 7] (fun x i => ∃ k : Nat, k ≤ s.size ∧ i = .int .i64 k ∧ x = .int .u64 (sumL (s.data.toList.take k))) (fun _ i => s.size - (intOf i).toNat)
  case atStart => exact ⟨0, Nat.zero_le _, rfl, rfl⟩
  case round =>
    obtain ⟨k, hk, rfl, rfl⟩ := hrel
    by_cases hlt : k < s.size
    · have hsn := sumL_snoc (s.data.toList.take k) s[k]
      rw [← take_snoc s k hlt] at hsn
      replace hsn := Lib.hid hsn
      generalize hY : sumL (s.data.toList.take k) = y at *
      replace hY := Lib.hid hY
      go_wp2
      go_round
      case rel => exact ⟨k + 1, by omega, by go_num, by rw [hsn.out]; rfl⟩
      case measure => simp [intOf]; omega
    · go_wp2
      go_ret
      exact ⟨ret_int (by rw [List.take_of_length_le (by simp; omega)]), rfl⟩

set_option maxHeartbeats 400000 in
theorem rsum_any (s : ByteArray) (w : World) (hs : s.size ≤ maxLen) :
    Calls Tryz.prog 63 #[.string s] w fun e w' => e = .returned (.int .u64 (sumL s.data.toList)) ∧ w' = w := by
  unfold maxLen at hs
  go_enter Tryz.func63, Tryz.ntmps63
  go_wp2
  go_loop [3, 4] (fun x i => ∃ k : Nat, k ≤ s.size ∧ i = .int .i64 k ∧ x = .int .u64 (sumL (s.data.toList.take k))) (fun _ i => s.size - (intOf i).toNat)
  case atStart => exact ⟨0, Nat.zero_le _, rfl, rfl⟩
  case round =>
    obtain ⟨k, hk, rfl, rfl⟩ := hrel
    by_cases hlt : k < s.size
    · have hsn := sumL_snoc (s.data.toList.take k) s[k]
      rw [← take_snoc s k hlt] at hsn
      replace hsn := Lib.hid hsn
      generalize hY : sumL (s.data.toList.take k) = y at *
      replace hY := Lib.hid hY
      go_wp2
      go_round
      case rel => exact ⟨k + 1, by omega, by go_num, by rw [hsn.out]; rfl⟩
      case measure => simp [intOf]; omega
    · go_wp2
      go_ret
      exact ⟨ret_int (by rw [List.take_of_length_le (by simp; omega)]), rfl⟩

def checkL (l : List UInt8) : Int := bits BinOp.xor IntKind.u32 (sumL l / 4294967296) (sumL l % 4294967296)
theorem check_any (s : ByteArray) (w : World) (hs : s.size ≤ maxLen) :
    Calls Tryz.prog 18 #[.string s] w fun e w' => e = .returned (.int .u32 (checkL s.data.toList)) ∧ w' = w := by
  have hb := sumL_bd s.data.toList
  obtain ⟨hb0, hb1⟩ := hb
  replace hs := Lib.hid hs
  go_enter Tryz.func18, Tryz.ntmps18
  go_wp2_with fail
  refine (sum_any s w hs.out).mono ?_
  rintro e w1 ⟨rfl, hw1⟩
  obtain rfl := hw1.symm
  go_wp2
  go_ret
  exact ⟨rfl, rfl⟩
theorem rcheck_any (s : ByteArray) (w : World) (hs : s.size ≤ maxLen) :
    Calls Tryz.prog 39 #[.string s] w fun e w' => e = .returned (.int .u32 (checkL s.data.toList)) ∧ w' = w := by
  have hb := sumL_bd s.data.toList
  obtain ⟨hb0, hb1⟩ := hb
  replace hs := Lib.hid hs
  go_enter Tryz.func39, Tryz.ntmps39
  go_wp2_with fail
  refine (rsum_any s w hs.out).mono ?_
  rintro e w1 ⟨rfl, hw1⟩
  obtain rfl := hw1.symm
  go_wp2
  go_ret
  exact ⟨rfl, rfl⟩

/-- the first so many bytes of a priority's text -/
def seedBs (seed : Int) (k : Nat) : List UInt8 := (List.range k).map fun i => byteU (seed / 2 ^ (56 - 8 * i))
def traceBs (trace : Int) (k : Nat) : List UInt8 := (List.range k).map fun i => byteU (trace / 2 ^ (24 - 8 * i))
def prioL (seed trace : Int) : List UInt8 := seedBs seed 8 ++ traceBs trace 4
def prio (seed trace : Int) : Int := sumL (prioL seed trace)
theorem seedBs_snoc (seed : Int) (k : Nat) : seedBs seed (k + 1) = seedBs seed k ++ [byteU (seed / 2 ^ (56 - 8 * k))] := by simp [seedBs, List.range_succ]
theorem traceBs_snoc (trace : Int) (k : Nat) : traceBs trace (k + 1) = traceBs trace k ++ [byteU (trace / 2 ^ (24 - 8 * k))] := by simp [traceBs, List.range_succ]

end Go.Proofs.YtbmafogjmdilkaaGreatDoor
