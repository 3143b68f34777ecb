import Derived.Test.YtdoeiehikbdoaaaHashAwake
set_option linter.unusedVariables false
set_option linter.unusedSimpArgs false
namespace Go.Proofs.Ytdoeiehikbdoaaa
open Go.RowKit

theorem conv_one (w : World) (g : Nat) (x : Int) (h : w.cell? ⟨g, 0, none⟩ = some (.int .u8 x)) (hx : 0 ≤ x ∧ x ≤ 255) :
    (convert 33 9 (.slice (some ⟨g, 0, none⟩) 1 1)).run Try.prog w = .ok (.string (strB [byteU x])) w := by
  rw [run_convert_bytes_arg w 33 5 Try.underlying33 Try.underlying5 g 0 1 1 [x] rfl (fun i hi => by obtain rfl : i = 0 := (by omega); exact h) 9 Try.underlying9]
  have : UInt8.ofNat x.toNat = byteU x := by unfold byteU; rw [Int.emod_eq_of_lt hx.1 (by omega)]
  simp [strOfNums, strB, this]

def sumS (s : ByteArray) : Int := sumL s.data.toList
theorem sum_s (s : ByteArray) (w : World) (hs : s.size ≤ maxLen) :
    Calls Try.prog 10 #[.string s] w fun e w' => e = .returned (.int .u64 (sumS s)) ∧ w' = w := sum_any s w hs

theorem xor_lt (x y : Nat) (hx : x < 18446744073709551616) (hy : y < 18446744073709551616) : x ^^^ y < 18446744073709551616 := Nat.xor_lt_two_pow (n := 64) (by omega) (by omega)
theorem mul_inj (u v : Nat) (hu : u < 18446744073709551616) (hv : v < 18446744073709551616) (h : u * 1099511628211 % 18446744073709551616 = v * 1099511628211 % 18446744073709551616) : u = v := by
  have key : ∀ z : Nat, z < 18446744073709551616 → z * 1099511628211 % 18446744073709551616 * 14886173955864302971 % 18446744073709551616 = z := fun z hz => by
    rw [Nat.mod_mul_mod, Nat.mul_assoc, show 1099511628211 * 14886173955864302971 = 18446744073709551616 * 887285111055 + 1 from rfl, Nat.mul_add, Nat.mul_left_comm, Nat.mul_one, Nat.mul_add_mod]
    exact Nat.mod_eq_of_lt hz
  rw [← key u hu, ← key v hv, h]
theorem stepH_eq (S c : Nat) (hS : S < 18446744073709551616) (hc : c < 256) : stepH (S : Int) c = (((S ^^^ c) * 1099511628211 % 18446744073709551616 : Nat) : Int) := by
  have hx := xor_lt S c hS (by omega)
  unfold stepH
  rw [show IntKind.u64.wrap (c : Int) = (c : Int) by rw [IntKind.wrap_u64]; omega, bits_xor_u64_nat S c hS (by omega), IntKind.wrap_u64]
  omega
theorem stepH_inj (S c d : Nat) (hS : S < 18446744073709551616) (hc : c < 256) (hd : d < 256) (h : stepH (S : Int) c = stepH (S : Int) d) : c = d := by
  rw [stepH_eq S c hS hc, stepH_eq S d hS hd] at h
  have h1 := mul_inj _ _ (xor_lt S c hS (by omega)) (xor_lt S d hS (by omega)) (Int.ofNat.inj h)
  have h2 : S ^^^ (S ^^^ c) = S ^^^ (S ^^^ d) := by rw [h1]
  rwa [← Nat.xor_assoc, ← Nat.xor_assoc, Nat.xor_self, Nat.zero_xor, Nat.zero_xor] at h2

set_option maxHeartbeats 8000000 in
theorem goes_any (s : ByteArray) (a b : Int) (w : World) (hs : s.size ≤ maxLen) (ha : (Lit.int .u8 a).wf = true) (hb : (Lit.int .u8 b).wf = true) :
    Calls Try.prog 5 #[.string s, .int .u8 a, .int .u8 b] w fun e w' => e = .returned (.bool true) ∧ Fr noB w w' := by
  have ha := wf_u8 ha
  have hb := wf_u8 hb
  obtain ⟨ha0, ha1⟩ := ha
  obtain ⟨hb0, hb1⟩ := hb
  replace hs := Lib.hid hs
  go_enter Try.func5, Try.ntmps5
  go_wp2_with fail
  refine (awake_any w).mono ?_
  rintro e w1 ⟨rfl, f1⟩
  by_cases hl1 : 2000 < s.size
  · go_wp2_with fail
    refine (awake_any w1).mono ?_
    rintro e w2 ⟨rfl, f2⟩
    go_wp2
    go_ret
    exact ⟨rfl, f1.seqN f2⟩
  have cva := fun (w' : World) (g : Nat) (h : w'.cell? ⟨g, 0, none⟩ = some (.int .u8 a)) => conv_one w' g a h ⟨ha0, ha1⟩
  have cvb := fun (w' : World) (g : Nat) (h : w'.cell? ⟨g, 0, none⟩ = some (.int .u8 b)) => conv_one w' g b h ⟨hb0, hb1⟩
  have hsz : ∀ c : UInt8, (s ++ strB [c]).size ≤ maxLen := fun c => by
    have : (s ++ strB [c]).size = s.size + 1 := by simp [strB, ByteArray.size_append]; rfl
    rw [this]; unfold maxLen; omega
  replace hsz := Lib.hid hsz
  have hSb : 0 ≤ sumS s ∧ sumS s ≤ 18446744073709551615 := sumL_bd s.data.toList
  have ca : ∀ x : Int, 0 ≤ x → x ≤ 255 → sumS (s ++ strB [byteU x]) = stepH (sumS s) x.toNat := fun x h0 h1 => by
    have e : (s ++ strB [byteU x]).data.toList = s.data.toList ++ [byteU x] := by simp [strB]
    unfold sumS
    rw [e, sumL_snoc]
    congr 1
    have := byteU_val x
    omega
  obtain ⟨S, hS, hSr⟩ : ∃ S : Nat, sumS s = S ∧ S < 18446744073709551616 := ⟨(sumS s).toNat, by omega, by omega⟩
  have hA := ca a ha0 ha1
  have hB := ca b hb0 hb1
  rw [hS] at hA hB
  have hXY : (stepH (S : Int) a.toNat == stepH (S : Int) b.toNat) = (a == b) := by
    rw [Bool.eq_iff_iff, beq_iff_eq, beq_iff_eq]
    constructor
    · intro h
      have := stepH_inj S _ _ hSr (by omega) (by omega) h
      omega
    · rintro rfl; rfl
  have hXS : stepH (S : Int) a.toNat = IntKind.u64.wrap (bits BinOp.xor IntKind.u64 (S : Int) a * 1099511628211) := by
    unfold stepH
    rw [show ((a.toNat : Nat) : Int) = a by omega, show IntKind.u64.wrap a = a by rw [IntKind.wrap_u64]; omega]
  have hXb := stepH_bd (S : Int) a.toNat
  have hYb := stepH_bd (S : Int) b.toNat
  clear ca hSb
  generalize hX : stepH (S : Int) a.toNat = X at *
  generalize hY : stepH (S : Int) b.toNat = Y at *
  replace hXY := Lib.hid hXY
  replace hXS := Lib.hid hXS
  replace hX := Lib.hid hX
  replace hY := Lib.hid hY
  obtain ⟨hX0, hX1⟩ := hXb
  obtain ⟨hY0, hY1⟩ := hYb
  have za : (strB [byteU a]).size = 1 := rfl
  have zb : (strB [byteU b]).size = 1 := rfl
  go_wp2_with fail
  go_region_with (go_at_call 10; refine (sum_s _ _ (hsz.out _)).mono ?_; rintro e w2 ⟨rfl, hw2⟩; obtain rfl := hw2.symm)
  all_goals
    have hS0 : (0 : Int) ≤ S := by omega
    have hS1 : (S : Int) ≤ 18446744073709551615 := by omega
    by_cases hab : a = b
    · have hab2 : (a == b) = true := by simpa using hab
      have hXY2 : (X == Y) = true := by rw [hXY.out]; exact hab2
      replace hab := Lib.hid hab
      go_wp2_with fail
      refine (sum_s _ _ hs.out).mono ?_
      rintro e w3 ⟨rfl, hw3⟩
      obtain rfl := hw3.symm
      have hT : (X == IntKind.u64.wrap (bits BinOp.xor IntKind.u64 (S : Int) a * 1099511628211)) = true := by rw [hXS.out]; simp
      go_wp2
      go_ret
      exact ⟨by first | rfl | simp, by repeat (first | exact f1 | apply Fr.drew | apply Fr.alloc)⟩
    · have hab2 : (a == b) = false := by simpa using hab
      have hXY2 : (X == Y) = false := by rw [hXY.out]; exact hab2
      replace hab := Lib.hid hab
      go_wp2_with fail
      refine (sum_s _ _ hs.out).mono ?_
      rintro e w3 ⟨rfl, hw3⟩
      obtain rfl := hw3.symm
      have hT : (X == IntKind.u64.wrap (bits BinOp.xor IntKind.u64 (S : Int) a * 1099511628211)) = true := by rw [hXS.out]; simp
      go_wp2
      go_ret
      exact ⟨by first | rfl | simp, by repeat (first | exact f1 | apply Fr.drew | apply Fr.alloc)⟩
end Go.Proofs.Ytdoeiehikbdoaaa
