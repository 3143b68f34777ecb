import Derived.Test.YtppmednmcbjafaaGreatBase
import Derived.Test.YtppmednmcbjafaaGreatBytes
set_option linter.unusedVariables false
set_option linter.unusedSimpArgs false
set_option maxRecDepth 100000
namespace Go.Proofs.YtppmednmcbjafaaGreat
open Go.RowKit

/-- one step of the sum -/
def stepH (y : Int) (c : Nat) : Int := IntKind.u64.wrap (bits BinOp.xor IntKind.u64 y (IntKind.u64.wrap (c : Int)) * 1099511628211)
def sumL (l : List UInt8) : Int := l.foldl (fun y c => stepH y c.toNat) 14695981039346656037

theorem sumL_snoc (l : List UInt8) (c : UInt8) : sumL (l ++ [c]) = stepH (sumL l) c.toNat := by simp [sumL]
theorem take_snoc (s : ByteArray) (k : Nat) (h : k < s.size) : s.data.toList.take (k + 1) = s.data.toList.take k ++ [s[k]] := by
  rw [List.take_succ_eq_append_getElem (by simpa using h)]; rfl
theorem stepH_bd (y : Int) (c : Nat) : 0 ≤ stepH y c ∧ stepH y c ≤ 18446744073709551615 := by
  unfold stepH
  rw [IntKind.wrap_u64]
  omega
theorem sumL_bd (l : List UInt8) : 0 ≤ sumL l ∧ sumL l ≤ 18446744073709551615 := by
  rcases List.eq_nil_or_concat l with rfl | ⟨l', c, rfl⟩
  · simp [sumL]
  · rw [List.concat_eq_append, sumL_snoc]; exact stepH_bd _ _

theorem ret_int {k : IntKind} {a b : Int} (h : a = b) : Ending.returned (.int k a) = .returned (.int k b) := by rw [h]

set_option maxHeartbeats 400000 in
set_option maxRecDepth 10000 in
theorem sum_any (s : ByteArray) (w : World) (hs : s.size ≤ maxLen) :
    Calls Tryz.prog 176 #[.string s] w fun e w' => e = .returned (.int .u64 (sumL s.data.toList)) ∧ w' = w := by
  unfold maxLen at hs
  go_enter Tryz.func176, Tryz.ntmps176
  go_wp2
  go_loop [3, 7] (fun x i => ∃ k : Nat, k ≤ s.size ∧ i = .int .i64 k ∧ x = .int .u64 (sumL (s.data.toList.take k))) (fun _ i => s.size - (intOf i).toNat)
  case atStart => exact ⟨0, Nat.zero_le _, rfl, rfl⟩
  case round =>
    obtain ⟨k, hk, rfl, rfl⟩ := hrel
    by_cases hlt : k < s.size
    · have hsn := sumL_snoc (s.data.toList.take k) s[k]
      rw [← take_snoc s k hlt] at hsn
      replace hsn := Lib.hid hsn
      generalize hY : sumL (s.data.toList.take k) = y at *
      replace hY := Lib.hid hY
      go_wp2
      go_round
      case rel => exact ⟨k + 1, by omega, by go_num, by rw [hsn.out]; rfl⟩
      case measure => simp [intOf]; omega
    · go_wp2
      go_ret
      exact ⟨ret_int (by rw [List.take_of_length_le (by simp; omega)]), rfl⟩

set_option maxHeartbeats 400000 in
set_option maxRecDepth 10000 in
theorem rsum_any (s : ByteArray) (w : World) (hs : s.size ≤ maxLen) :
    Calls Tryz.prog 143 #[.string s] w fun e w' => e = .returned (.int .u64 (sumL s.data.toList)) ∧ w' = w := by
  unfold maxLen at hs
  go_enter Tryz.func143, Tryz.ntmps143
  go_wp2
  go_loop [3, 4] (fun x i => ∃ k : Nat, k ≤ s.size ∧ i = .int .i64 k ∧ x = .int .u64 (sumL (s.data.toList.take k))) (fun _ i => s.size - (intOf i).toNat)
  case atStart => exact ⟨0, Nat.zero_le _, rfl, rfl⟩
  case round =>
    obtain ⟨k, hk, rfl, rfl⟩ := hrel
    by_cases hlt : k < s.size
    · have hsn := sumL_snoc (s.data.toList.take k) s[k]
      rw [← take_snoc s k hlt] at hsn
      replace hsn := Lib.hid hsn
      generalize hY : sumL (s.data.toList.take k) = y at *
      replace hY := Lib.hid hY
      go_wp2
      go_round
      case rel => exact ⟨k + 1, by omega, by go_num, by rw [hsn.out]; rfl⟩
      case measure => simp [intOf]; omega
    · go_wp2
      go_ret
      exact ⟨ret_int (by rw [List.take_of_length_le (by simp; omega)]), rfl⟩

def checkL (l : List UInt8) : Int := bits BinOp.xor IntKind.u32 (sumL l / 4294967296) (sumL l % 4294967296)
/-- the first so many bytes of a priority's text -/
def seedBs (seed : Int) (k : Nat) : List UInt8 := (List.range k).map fun i => byteU (seed / 2 ^ (56 - 8 * i))
def traceBs (trace : Int) (k : Nat) : List UInt8 := (List.range k).map fun i => byteU (trace / 2 ^ (24 - 8 * i))
def prioL (seed trace : Int) : List UInt8 := seedBs seed 8 ++ traceBs trace 4
def prio (seed trace : Int) : Int := sumL (prioL seed trace)
theorem seedBs_snoc (seed : Int) (k : Nat) : seedBs seed (k + 1) = seedBs seed k ++ [byteU (seed / 2 ^ (56 - 8 * k))] := by simp [seedBs, List.range_succ]
theorem traceBs_snoc (trace : Int) (k : Nat) : traceBs trace (k + 1) = traceBs trace k ++ [byteU (trace / 2 ^ (24 - 8 * k))] := by simp [traceBs, List.range_succ]

set_option maxHeartbeats 400000 in
set_option maxRecDepth 10000 in
theorem prio_any (seed trace : Int) (w : World) (hs : 0 ≤ seed ∧ seed ≤ 18446744073709551615) (ht : -9223372036854775808 ≤ trace ∧ trace ≤ 9223372036854775807) :
    Calls Tryz.prog 160 #[.int .u64 seed, .int .i64 trace] w fun e w' => e = .returned (.int .u64 (prio seed trace)) ∧ Fr noB w w' := by
  obtain ⟨i0, hi, hz0, hz1, hz2⟩ := info_parts Tryz.infoByte
  obtain ⟨hs0, hs1⟩ := hs
  obtain ⟨ht0, ht1⟩ := ht
  go_enter Tryz.func160, Tryz.ntmps160
  go_wp2
  go_loopw [5, 6] (fun v i wr => ∃ k : Nat, k ≤ 8 ∧ i = .int .i64 (56 - 8 * k) ∧ wr.ownsRow w.heap.size 5 1 v k ((seedBs seed k).map cellB) ∧ Fr noB w wr) (fun v i wr => (intOf i + 8).toNat)
  case atStart => exact ⟨0, by omega, by simp, World.ownsRow_nil _ _ _ _, Fr.refl _ _⟩
  case round =>
    obtain ⟨k, hk, rfl, ho, hf⟩ := hrel
    by_cases hlt : k < 8
    · have hz := hf.size
      go_wp2_with (first
          | (at_builtin; refine wpList_append_at _ rfl (.tmp 12) (.tmp 17) 216 rfl w.heap.size 5 i0 (.int .u8 0) 1 1 Tryz.underlying216 hi hz0 hz1 hz2 rfl (by decide) _ _ _ rfl (ho.alloc _) ⟨_, 0, none⟩ 1 1 [_] rfl rfl (cell_new _ _ _) (one_int _ _) ?_ ?_ ?_ ?_)
          | fail)
      · unfold maxLen; omega
      · omega
      · simp; omega
      intro v' w1 o1 gr1 _
      rw [← cellB_byteU] at o1
      have f1 := (hf.alloc (Obj.cells #[_] 5)).grown gr1 (fun g h q => by have := (ho.lt g h).1; omega)
      have o2 : w1.ownsRow w.heap.size 5 1 v' (k + 1) ((seedBs seed (k + 1)).map cellB) := by rw [seedBs_snoc]; simpa using o1
      clear o1 gr1 ho hf
      go_wp2_with fail
      go_roundw
      case rel => exact ⟨k + 1, by omega, by first | rfl | (congr 1; omega), o2, f1⟩
      case measure => simp [intOf]; omega
    · have hq : (56 : Int) - 8 * (k : Int) = -8 := by omega
      rw [hq]
      clear hq
      obtain rfl : k = 8 := by omega
      go_wp2_with fail
      obtain ⟨wo, hwo⟩ : ∃ wo : World, wo = wr := ⟨_, rfl⟩
      subst hwo
      go_loopw [5, 7] (fun v i wr => ∃ k : Nat, k ≤ 4 ∧ i = .int .i64 (24 - 8 * k) ∧ wr.ownsRow w.heap.size 5 1 v (8 + k) ((seedBs seed 8 ++ traceBs trace k).map cellB) ∧ Fr noB w wr) (fun v i wr => (intOf i + 8).toNat)
      case atStart => exact ⟨0, by omega, by simp, by simpa [traceBs] using ho, hf⟩
      case round =>
        clear ho hf
        obtain ⟨k, hk, rfl, ho, hf⟩ := hrel
        have hz := hf.size
        by_cases hlt : k < 4
        · go_wp2_with (first
              | (at_builtin; refine wpList_append_at _ rfl (.tmp 23) (.tmp 28) 216 rfl w.heap.size 5 i0 (.int .u8 0) 1 1 Tryz.underlying216 hi hz0 hz1 hz2 rfl (by decide) _ _ _ rfl (ho.alloc _) ⟨_, 0, none⟩ 1 1 [_] rfl rfl (cell_new _ _ _) (one_int _ _) ?_ ?_ ?_ ?_)
              | fail)
          · unfold maxLen; omega
          · omega
          · simp; omega
          intro v' w1 o1 gr1 _
          rw [← cellB_byteU] at o1
          have f1 := (hf.alloc (Obj.cells #[_] 5)).grown gr1 (fun g h q => by have := (ho.lt g h).1; omega)
          have o2 : w1.ownsRow w.heap.size 5 1 v' (8 + (k + 1)) ((seedBs seed 8 ++ traceBs trace (k + 1)).map cellB) := by rw [traceBs_snoc]; simpa [Nat.add_assoc] using o1
          clear o1 gr1 ho hf
          go_wp2_with fail
          go_roundw
          case rel => exact ⟨k + 1, by omega, by first | rfl | (congr 1; omega), o2, f1⟩
          case measure => simp [intOf]; omega
        · have hq : (24 : Int) - 8 * (k : Int) = -8 := by omega
          rw [hq]
          clear hq
          obtain rfl : k = 4 := by omega
          have hcv := string_of_row (P := Tryz.prog) 216 9 5 Tryz.underlying216 Tryz.underlying5 Tryz.underlying9 ho
          have hsz : (strB (seedBs seed 8 ++ traceBs trace 4)).size ≤ maxLen := by rw [strB_size]; simp [seedBs, traceBs]; unfold maxLen; omega
          replace hsz := Lib.hid hsz
          go_wp2_with fail
          refine (sum_any _ _ hsz.out).mono ?_
          rintro e w2 ⟨rfl, hw2⟩
          obtain rfl := hw2.symm
          go_wp2
          go_ret
          exact ⟨rfl, hf⟩
end Go.Proofs.YtppmednmcbjafaaGreat
