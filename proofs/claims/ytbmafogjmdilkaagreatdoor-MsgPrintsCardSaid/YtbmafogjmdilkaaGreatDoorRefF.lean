/-
  The reference's First: a text's first rune, by UTF-8's own rules, is the model's.
-/
import Derived.Test.YtbmafogjmdilkaaGreatDoorRefR
set_option linter.unusedVariables false
set_option linter.unusedSimpArgs false
set_option maxRecDepth 100000
namespace Go.Proofs.YtbmafogjmdilkaaGreatDoor
open Go.RowKit Go

theorem decR (l : List UInt8) : dec l = Go.Lib.decodeN l.length (l.getD 0 0).toNat (l.getD 1 0).toNat (l.getD 2 0).toNat (l.getD 3 0).toNat := rfl
theorem contB_iff (l : List UInt8) (i : Nat) : contB l i = true ↔ i < l.length ∧ (l.getD i 0).toNat / 64 = 2 := by
  unfold contB
  have := (l.getD i 0).toNat_lt
  simp only [Bool.and_eq_true, decide_eq_true_eq]
  omega
theorem contB_no (l : List UInt8) (i : Nat) : contB l i = false ↔ ¬ (i < l.length ∧ (l.getD i 0).toNat / 64 = 2) := by
  rw [← contB_iff]
  simp
theorem dec_one {l : List UInt8} (h : (l.getD 0 0).toNat < 128) : dec l = ((l.getD 0 0).toNat, 1) := by
  rw [decR]; unfold Go.Lib.decodeN; rw [if_pos h]
theorem dec_two {l : List UInt8} (h0 : 194 ≤ (l.getD 0 0).toNat) (h1 : (l.getD 0 0).toNat < 224) (c : contB l 1 = true) : dec l = (((l.getD 0 0).toNat - 192) * 64 + (l.getD 1 0).toNat - 128, 2) := by
  have c1 := (contB_iff l 1).1 c
  rw [decR]; unfold Go.Lib.decodeN
  rw [if_neg (by omega), if_pos ⟨by omega, c1⟩, if_pos (by omega)]
  apply Prod.ext
  · simp only; omega
  · rfl
def r3 (l : List UInt8) : Nat := ((l.getD 0 0).toNat - 224) * 4096 + ((l.getD 1 0).toNat - 128) * 64 + (l.getD 2 0).toNat - 128
theorem dec_three {l : List UInt8} (h0 : 224 ≤ (l.getD 0 0).toNat) (h1 : (l.getD 0 0).toNat < 240) (c : contB l 1 = true) (d : contB l 2 = true) :
    dec l = if 2048 ≤ r3 l ∧ (r3 l < 55296 ∨ 57344 ≤ r3 l) then (r3 l, 3) else (65533, 1) := by
  have c1 := (contB_iff l 1).1 c
  have c2 := (contB_iff l 2).1 d
  have hr : (l.getD 0 0).toNat % 16 * 4096 + (l.getD 1 0).toNat % 64 * 64 + (l.getD 2 0).toNat % 64 = r3 l := by unfold r3; omega
  rw [decR]; unfold Go.Lib.decodeN
  rw [if_neg (by omega), if_neg (by omega), if_pos ⟨by omega, c1, c2⟩, hr]
  have hb : r3 l ≤ 65535 := by unfold r3; omega
  by_cases h : 2048 ≤ r3 l ∧ (r3 l < 55296 ∨ 57344 ≤ r3 l)
  · rw [if_pos h, if_pos (by omega)]
  · rw [if_neg h, if_neg (by omega)]
def r4 (l : List UInt8) : Nat := ((l.getD 0 0).toNat - 240) * 262144 + ((l.getD 1 0).toNat - 128) * 4096 + ((l.getD 2 0).toNat - 128) * 64 + (l.getD 3 0).toNat - 128
theorem dec_four {l : List UInt8} (h0 : 240 ≤ (l.getD 0 0).toNat) (h1 : (l.getD 0 0).toNat < 245) (c : contB l 1 = true) (d : contB l 2 = true) (e : contB l 3 = true) :
    dec l = if 65536 ≤ r4 l ∧ r4 l ≤ 1114111 then (r4 l, 4) else (65533, 1) := by
  have c1 := (contB_iff l 1).1 c
  have c2 := (contB_iff l 2).1 d
  have c3 := (contB_iff l 3).1 e
  have hr : (l.getD 0 0).toNat % 8 * 262144 + (l.getD 1 0).toNat % 64 * 4096 + (l.getD 2 0).toNat % 64 * 64 + (l.getD 3 0).toNat % 64 = r4 l := by unfold r4; omega
  rw [decR]; unfold Go.Lib.decodeN
  rw [if_neg (by omega), if_neg (by omega), if_neg (by omega), if_pos ⟨by omega, c1, c2, c3⟩, hr]
  by_cases h : 65536 ≤ r4 l ∧ r4 l ≤ 1114111
  · rw [if_pos h, if_pos (by omega)]
  · rw [if_neg h, if_neg (by omega)]
theorem dec_no {l : List UInt8} (h : 128 ≤ (l.getD 0 0).toNat) (h2 : ¬ (194 ≤ (l.getD 0 0).toNat ∧ (l.getD 0 0).toNat < 224 ∧ contB l 1 = true)) (h3 : ¬ (224 ≤ (l.getD 0 0).toNat ∧ (l.getD 0 0).toNat < 240 ∧ contB l 1 = true ∧ contB l 2 = true))
    (h4 : ¬ (240 ≤ (l.getD 0 0).toNat ∧ (l.getD 0 0).toNat < 245 ∧ contB l 1 = true ∧ contB l 2 = true ∧ contB l 3 = true)) : dec l = (65533, 1) := by
  rw [contB_iff, contB_iff, contB_iff] at h4
  rw [contB_iff, contB_iff] at h3
  rw [contB_iff] at h2
  rw [decR]; unfold Go.Lib.decodeN
  rw [if_neg (by omega)]
  have hb := (l.getD 0 0).toNat_lt
  have hb1 := (l.getD 1 0).toNat_lt
  have hb2 := (l.getD 2 0).toNat_lt
  have hb3 := (l.getD 3 0).toNat_lt
  generalize (l.getD 0 0).toNat = a at *
  generalize (l.getD 1 0).toNat = b at *
  generalize (l.getD 2 0).toNat = c at *
  generalize (l.getD 3 0).toNat = d at *
  repeat' split
  all_goals first | rfl | (exfalso; omega)

/-- what First hands back -/
def firstV (l : List UInt8) : Value := .agg #[.int .i64 ((dec l).1 : Nat), .int .i64 ((dec l).2 : Nat), .bool (okD l)]
theorem firstV_bad {l : List UInt8} (h : dec l = (65533, 1)) : firstV l = .agg #[.int .i64 65533, .int .i64 1, .bool false] := by
  unfold firstV; rw [(okD_false l).2 h, h]; rfl
theorem firstV_ok {l : List UInt8} {r k : Nat} (h : dec l = (r, k)) (hk : ¬ (r = 65533 ∧ k = 1)) : firstV l = .agg #[.int .i64 r, .int .i64 k, .bool true] := by
  unfold firstV; rw [(okD_iff l).2 (by rw [h]; exact hk), h]
theorem at_get (s : ByteArray) (i : Nat) (h : i < s.size) : s.data.toList.getD i 0 = s[i] := by
  simp [List.getD, size_len, h]
  rfl

set_option maxRecDepth 100000 in
set_option maxHeartbeats 1000000 in
theorem first_ascii (s : ByteArray) (w : World) (hs : s.size ≤ 1000000) (hz0 : 0 < s.size) (x0 : UInt8) (hx0 : s[0] = x0) (b0 : (x0.toNat : Int) < 128) (hv : Hid (firstV s.data.toList = .agg #[.int .i64 (x0.toNat : Int), .int .i64 1, .bool true])) :
    Calls Tryz.prog 74 #[.string s] w fun e w' => e = .returned (firstV s.data.toList) ∧ Fr noB w w' := by
  have hb0 := x0.toNat_lt
  go_enter Tryz.func74, Tryz.ntmps74
  go_wp2_with fail
  refine bodyPost_ret (v := .agg #[.int .i64 (x0.toNat : Int), .int .i64 1, .bool true]) (by simp [results, Tryz.results74, go_sem]) rfl ⟨by rw [hv.out], by repeat (first | exact Fr.refl _ _ | refine Fr.alloc ?_ _ | refine Fr.drew ?_ | refine Fr.drewN ?_ _ | refine Fr.storeNew ?_ (Nat.le_refl _))⟩

set_option maxRecDepth 100000 in
set_option maxHeartbeats 1000000 in
theorem first_two (s : ByteArray) (w : World) (hs : s.size ≤ 1000000) (hz0 : 0 < s.size) (hz1 : 1 < s.size) (x0 : UInt8) (hx0 : s[0] = x0) (x1 : UInt8) (hx1 : s[1] = x1) (b0 : 194 ≤ (x0.toNat : Int)) (b1 : (x0.toNat : Int) < 224) (b2 : 128 ≤ (x1.toNat : Int)) (b3 : (x1.toNat : Int) < 192) (c1 : contB s.data.toList 1 = true) (hv : Hid (firstV s.data.toList = .agg #[.int .i64 (((x0.toNat : Int) - 192) * 64 + (x1.toNat : Int) - 128), .int .i64 2, .bool true])) :
    Calls Tryz.prog 74 #[.string s] w fun e w' => e = .returned (firstV s.data.toList) ∧ Fr noB w w' := by
  have hb0 := x0.toNat_lt
  have hb1 := x1.toNat_lt
  go_enter Tryz.func74, Tryz.ntmps74
  go_wp2_with fail
  refine (cont_any s 1 _ (by omega) (by unfold maxLen; omega)).mono ?_
  rintro e w' ⟨rfl, hw'⟩
  obtain rfl := hw'.symm
  go_wp2_with fail
  refine bodyPost_ret (v := .agg #[.int .i64 (((x0.toNat : Int) - 192) * 64 + (x1.toNat : Int) - 128), .int .i64 2, .bool true]) (by simp [results, Tryz.results74, go_sem]) rfl ⟨by rw [hv.out], by repeat (first | exact Fr.refl _ _ | refine Fr.alloc ?_ _ | refine Fr.drew ?_ | refine Fr.drewN ?_ _ | refine Fr.storeNew ?_ (Nat.le_refl _))⟩

set_option maxRecDepth 100000 in
set_option maxHeartbeats 1000000 in
theorem first_threeL (s : ByteArray) (w : World) (hs : s.size ≤ 1000000) (hz0 : 0 < s.size) (hz1 : 1 < s.size) (hz2 : 2 < s.size) (x0 : UInt8) (hx0 : s[0] = x0) (x1 : UInt8) (hx1 : s[1] = x1) (x2 : UInt8) (hx2 : s[2] = x2) (b0 : 224 ≤ (x0.toNat : Int)) (b1 : (x0.toNat : Int) < 240) (b2 : 128 ≤ (x1.toNat : Int)) (b3 : (x1.toNat : Int) < 192) (b4 : 128 ≤ (x2.toNat : Int)) (b5 : (x2.toNat : Int) < 192) (b6 : 2048 ≤ ((x0.toNat : Int) - 224) * 4096 + ((x1.toNat : Int) - 128) * 64 + (x2.toNat : Int) - 128) (b7 : ((x0.toNat : Int) - 224) * 4096 + ((x1.toNat : Int) - 128) * 64 + (x2.toNat : Int) - 128 < 55296) (c1 : contB s.data.toList 1 = true) (c2 : contB s.data.toList 2 = true) (hv : Hid (firstV s.data.toList = .agg #[.int .i64 (((x0.toNat : Int) - 224) * 4096 + ((x1.toNat : Int) - 128) * 64 + (x2.toNat : Int) - 128), .int .i64 3, .bool true])) :
    Calls Tryz.prog 74 #[.string s] w fun e w' => e = .returned (firstV s.data.toList) ∧ Fr noB w w' := by
  have hb0 := x0.toNat_lt
  have hb1 := x1.toNat_lt
  have hb2 := x2.toNat_lt
  go_enter Tryz.func74, Tryz.ntmps74
  go_wp2_with fail
  refine (cont_any s 1 _ (by omega) (by unfold maxLen; omega)).mono ?_
  rintro e w' ⟨rfl, hw'⟩
  obtain rfl := hw'.symm
  go_wp2_with fail
  refine (cont_any s 2 _ (by omega) (by unfold maxLen; omega)).mono ?_
  rintro e w' ⟨rfl, hw'⟩
  obtain rfl := hw'.symm
  go_wp2_with fail
  go_region
  all_goals (
    go_wp2_with fail
    refine bodyPost_ret (v := .agg #[.int .i64 (((x0.toNat : Int) - 224) * 4096 + ((x1.toNat : Int) - 128) * 64 + (x2.toNat : Int) - 128), .int .i64 3, .bool true]) (by simp [results, Tryz.results74, go_sem]) rfl ⟨by rw [hv.out], by repeat (first | exact Fr.refl _ _ | refine Fr.alloc ?_ _ | refine Fr.drew ?_ | refine Fr.drewN ?_ _ | refine Fr.storeNew ?_ (Nat.le_refl _))⟩)

set_option maxRecDepth 100000 in
set_option maxHeartbeats 1000000 in
theorem first_threeH (s : ByteArray) (w : World) (hs : s.size ≤ 1000000) (hz0 : 0 < s.size) (hz1 : 1 < s.size) (hz2 : 2 < s.size) (x0 : UInt8) (hx0 : s[0] = x0) (x1 : UInt8) (hx1 : s[1] = x1) (x2 : UInt8) (hx2 : s[2] = x2) (b0 : 224 ≤ (x0.toNat : Int)) (b1 : (x0.toNat : Int) < 240) (b2 : 128 ≤ (x1.toNat : Int)) (b3 : (x1.toNat : Int) < 192) (b4 : 128 ≤ (x2.toNat : Int)) (b5 : (x2.toNat : Int) < 192) (b6 : 57344 ≤ ((x0.toNat : Int) - 224) * 4096 + ((x1.toNat : Int) - 128) * 64 + (x2.toNat : Int) - 128) (c1 : contB s.data.toList 1 = true) (c2 : contB s.data.toList 2 = true) (hv : Hid (firstV s.data.toList = .agg #[.int .i64 (((x0.toNat : Int) - 224) * 4096 + ((x1.toNat : Int) - 128) * 64 + (x2.toNat : Int) - 128), .int .i64 3, .bool true])) :
    Calls Tryz.prog 74 #[.string s] w fun e w' => e = .returned (firstV s.data.toList) ∧ Fr noB w w' := by
  have hb0 := x0.toNat_lt
  have hb1 := x1.toNat_lt
  have hb2 := x2.toNat_lt
  go_enter Tryz.func74, Tryz.ntmps74
  go_wp2_with fail
  refine (cont_any s 1 _ (by omega) (by unfold maxLen; omega)).mono ?_
  rintro e w' ⟨rfl, hw'⟩
  obtain rfl := hw'.symm
  go_wp2_with fail
  refine (cont_any s 2 _ (by omega) (by unfold maxLen; omega)).mono ?_
  rintro e w' ⟨rfl, hw'⟩
  obtain rfl := hw'.symm
  go_wp2_with fail
  go_region
  all_goals (
    go_wp2_with fail
    refine bodyPost_ret (v := .agg #[.int .i64 (((x0.toNat : Int) - 224) * 4096 + ((x1.toNat : Int) - 128) * 64 + (x2.toNat : Int) - 128), .int .i64 3, .bool true]) (by simp [results, Tryz.results74, go_sem]) rfl ⟨by rw [hv.out], by repeat (first | exact Fr.refl _ _ | refine Fr.alloc ?_ _ | refine Fr.drew ?_ | refine Fr.drewN ?_ _ | refine Fr.storeNew ?_ (Nat.le_refl _))⟩)

set_option maxRecDepth 100000 in
set_option maxHeartbeats 1000000 in
theorem first_threeS (s : ByteArray) (w : World) (hs : s.size ≤ 1000000) (hz0 : 0 < s.size) (hz1 : 1 < s.size) (hz2 : 2 < s.size) (x0 : UInt8) (hx0 : s[0] = x0) (x1 : UInt8) (hx1 : s[1] = x1) (x2 : UInt8) (hx2 : s[2] = x2) (b0 : 224 ≤ (x0.toNat : Int)) (b1 : (x0.toNat : Int) < 240) (b2 : 128 ≤ (x1.toNat : Int)) (b3 : (x1.toNat : Int) < 192) (b4 : 128 ≤ (x2.toNat : Int)) (b5 : (x2.toNat : Int) < 192) (b6 : ((x0.toNat : Int) - 224) * 4096 + ((x1.toNat : Int) - 128) * 64 + (x2.toNat : Int) - 128 < 2048) (c1 : contB s.data.toList 1 = true) (c2 : contB s.data.toList 2 = true) (hv : Hid (firstV s.data.toList = .agg #[.int .i64 65533, .int .i64 1, .bool false])) :
    Calls Tryz.prog 74 #[.string s] w fun e w' => e = .returned (firstV s.data.toList) ∧ Fr noB w w' := by
  have hb0 := x0.toNat_lt
  have hb1 := x1.toNat_lt
  have hb2 := x2.toNat_lt
  go_enter Tryz.func74, Tryz.ntmps74
  go_wp2_with fail
  refine (cont_any s 1 _ (by omega) (by unfold maxLen; omega)).mono ?_
  rintro e w' ⟨rfl, hw'⟩
  obtain rfl := hw'.symm
  go_wp2_with fail
  refine (cont_any s 2 _ (by omega) (by unfold maxLen; omega)).mono ?_
  rintro e w' ⟨rfl, hw'⟩
  obtain rfl := hw'.symm
  go_wp2_with fail
  go_region
  all_goals (
    go_wp2_with fail
    refine bodyPost_ret (v := .agg #[.int .i64 65533, .int .i64 1, .bool false]) (by simp [results, Tryz.results74, go_sem]) rfl ⟨by rw [hv.out], by repeat (first | exact Fr.refl _ _ | refine Fr.alloc ?_ _ | refine Fr.drew ?_ | refine Fr.drewN ?_ _ | refine Fr.storeNew ?_ (Nat.le_refl _))⟩)

set_option maxRecDepth 100000 in
set_option maxHeartbeats 1000000 in
theorem first_threeU (s : ByteArray) (w : World) (hs : s.size ≤ 1000000) (hz0 : 0 < s.size) (hz1 : 1 < s.size) (hz2 : 2 < s.size) (x0 : UInt8) (hx0 : s[0] = x0) (x1 : UInt8) (hx1 : s[1] = x1) (x2 : UInt8) (hx2 : s[2] = x2) (b0 : 224 ≤ (x0.toNat : Int)) (b1 : (x0.toNat : Int) < 240) (b2 : 128 ≤ (x1.toNat : Int)) (b3 : (x1.toNat : Int) < 192) (b4 : 128 ≤ (x2.toNat : Int)) (b5 : (x2.toNat : Int) < 192) (b6 : 55296 ≤ ((x0.toNat : Int) - 224) * 4096 + ((x1.toNat : Int) - 128) * 64 + (x2.toNat : Int) - 128) (b7 : ((x0.toNat : Int) - 224) * 4096 + ((x1.toNat : Int) - 128) * 64 + (x2.toNat : Int) - 128 < 57344) (c1 : contB s.data.toList 1 = true) (c2 : contB s.data.toList 2 = true) (hv : Hid (firstV s.data.toList = .agg #[.int .i64 65533, .int .i64 1, .bool false])) :
    Calls Tryz.prog 74 #[.string s] w fun e w' => e = .returned (firstV s.data.toList) ∧ Fr noB w w' := by
  have hb0 := x0.toNat_lt
  have hb1 := x1.toNat_lt
  have hb2 := x2.toNat_lt
  go_enter Tryz.func74, Tryz.ntmps74
  go_wp2_with fail
  refine (cont_any s 1 _ (by omega) (by unfold maxLen; omega)).mono ?_
  rintro e w' ⟨rfl, hw'⟩
  obtain rfl := hw'.symm
  go_wp2_with fail
  refine (cont_any s 2 _ (by omega) (by unfold maxLen; omega)).mono ?_
  rintro e w' ⟨rfl, hw'⟩
  obtain rfl := hw'.symm
  go_wp2_with fail
  go_region
  all_goals (
    go_wp2_with fail
    refine bodyPost_ret (v := .agg #[.int .i64 65533, .int .i64 1, .bool false]) (by simp [results, Tryz.results74, go_sem]) rfl ⟨by rw [hv.out], by repeat (first | exact Fr.refl _ _ | refine Fr.alloc ?_ _ | refine Fr.drew ?_ | refine Fr.drewN ?_ _ | refine Fr.storeNew ?_ (Nat.le_refl _))⟩)

set_option maxRecDepth 100000 in
set_option maxHeartbeats 4000000 in
theorem first_fourO (s : ByteArray) (w : World) (hs : s.size ≤ 1000000) (hz0 : 0 < s.size) (hz1 : 1 < s.size) (hz2 : 2 < s.size) (hz3 : 3 < s.size) (x0 : UInt8) (hx0 : s[0] = x0) (x1 : UInt8) (hx1 : s[1] = x1) (x2 : UInt8) (hx2 : s[2] = x2) (x3 : UInt8) (hx3 : s[3] = x3) (R : Int) (hR : Hid (((x0.toNat : Int) - 240) * 262144 + ((x1.toNat : Int) - 128) * 4096 + ((x2.toNat : Int) - 128) * 64 + (x3.toNat : Int) - 128 = R)) (b0 : 240 ≤ (x0.toNat : Int)) (b1 : (x0.toNat : Int) < 245) (b2 : 128 ≤ (x1.toNat : Int)) (b3 : (x1.toNat : Int) < 192) (b4 : 128 ≤ (x2.toNat : Int)) (b5 : (x2.toNat : Int) < 192) (b6 : 128 ≤ (x3.toNat : Int)) (b7 : (x3.toNat : Int) < 192) (b8 : 65536 ≤ R) (b9 : R ≤ 1114111) (c1 : contB s.data.toList 1 = true) (c2 : contB s.data.toList 2 = true) (c3 : contB s.data.toList 3 = true) (hv : Hid (firstV s.data.toList = .agg #[.int .i64 R, .int .i64 4, .bool true])) :
    Calls Tryz.prog 74 #[.string s] w fun e w' => e = .returned (firstV s.data.toList) ∧ Fr noB w w' := by
  have hb0 := x0.toNat_lt
  have hb1 := x1.toNat_lt
  have hb2 := x2.toNat_lt
  have hb3 := x3.toNat_lt
  replace b2 := Lib.hid b2
  replace b3 := Lib.hid b3
  replace b4 := Lib.hid b4
  replace b5 := Lib.hid b5
  replace b6 := Lib.hid b6
  replace b7 := Lib.hid b7
  replace b8 := Lib.hid b8
  replace b9 := Lib.hid b9
  replace hb1 := Lib.hid hb1
  replace hb2 := Lib.hid hb2
  replace hb3 := Lib.hid hb3
  go_enter Tryz.func74, Tryz.ntmps74
  go_wp2_with fail
  refine (cont_any s 1 _ (by omega) (by unfold maxLen; omega)).mono ?_
  rintro e w' ⟨rfl, hw'⟩
  obtain rfl := hw'.symm
  go_wp2_with fail
  refine (cont_any s 2 _ (by omega) (by unfold maxLen; omega)).mono ?_
  rintro e w' ⟨rfl, hw'⟩
  obtain rfl := hw'.symm
  go_wp2_with fail
  refine (cont_any s 3 _ (by omega) (by unfold maxLen; omega)).mono ?_
  rintro e w' ⟨rfl, hw'⟩
  obtain rfl := hw'.symm
  go_wp2_with fail
  replace b2 := b2.out
  replace b3 := b3.out
  replace b4 := b4.out
  replace b5 := b5.out
  replace b6 := b6.out
  replace b7 := b7.out
  replace b8 := b8.out
  replace b9 := b9.out
  obtain ⟨a1, ea1⟩ : ∃ z : Int, z = (x0.toNat : Int) - 240 := ⟨_, rfl⟩
  obtain ⟨a2, ea2⟩ : ∃ z : Int, z = a1 * 262144 := ⟨_, rfl⟩
  obtain ⟨a3, ea3⟩ : ∃ z : Int, z = (x1.toNat : Int) - 128 := ⟨_, rfl⟩
  obtain ⟨a4, ea4⟩ : ∃ z : Int, z = a3 * 4096 := ⟨_, rfl⟩
  obtain ⟨a5, ea5⟩ : ∃ z : Int, z = a2 + a4 := ⟨_, rfl⟩
  obtain ⟨a6, ea6⟩ : ∃ z : Int, z = (x2.toNat : Int) - 128 := ⟨_, rfl⟩
  obtain ⟨a7, ea7⟩ : ∃ z : Int, z = a6 * 64 := ⟨_, rfl⟩
  obtain ⟨a8, ea8⟩ : ∃ z : Int, z = a5 + a7 := ⟨_, rfl⟩
  obtain ⟨a9, ea9⟩ : ∃ z : Int, z = a8 + (x3.toNat : Int) := ⟨_, rfl⟩
  obtain ⟨a10, ea10⟩ : ∃ z : Int, z = a9 - 128 := ⟨_, rfl⟩
  have hRa := hR.out
  obtain rfl : a10 = R := by omega
  clear hRa
  have qs : (IntKind.i64.wrap ((x0.toNat : Int) - 240) = a1 ∧ wrap64 ((x0.toNat : Int) - 240) = a1) ∧ (IntKind.i64.wrap (a1 * 262144) = a2 ∧ wrap64 (a1 * 262144) = a2) ∧ (IntKind.i64.wrap ((x1.toNat : Int) - 128) = a3 ∧ wrap64 ((x1.toNat : Int) - 128) = a3) ∧ (IntKind.i64.wrap (a3 * 4096) = a4 ∧ wrap64 (a3 * 4096) = a4) ∧ (IntKind.i64.wrap (a2 + a4) = a5 ∧ wrap64 (a2 + a4) = a5) ∧ (IntKind.i64.wrap ((x2.toNat : Int) - 128) = a6 ∧ wrap64 ((x2.toNat : Int) - 128) = a6) ∧ (IntKind.i64.wrap (a6 * 64) = a7 ∧ wrap64 (a6 * 64) = a7) ∧ (IntKind.i64.wrap (a5 + a7) = a8 ∧ wrap64 (a5 + a7) = a8) ∧ (IntKind.i64.wrap (a8 + (x3.toNat : Int)) = a9 ∧ wrap64 (a8 + (x3.toNat : Int)) = a9) ∧ (IntKind.i64.wrap (a9 - 128) = a10 ∧ wrap64 (a9 - 128) = a10) :=
    ⟨⟨(IntWalk.i64_in _ (by omega)).trans (by omega), (IntWalk.wrap64_in _ (by omega)).trans (by omega)⟩, ⟨(IntWalk.i64_in _ (by omega)).trans (by omega), (IntWalk.wrap64_in _ (by omega)).trans (by omega)⟩, ⟨(IntWalk.i64_in _ (by omega)).trans (by omega), (IntWalk.wrap64_in _ (by omega)).trans (by omega)⟩, ⟨(IntWalk.i64_in _ (by omega)).trans (by omega), (IntWalk.wrap64_in _ (by omega)).trans (by omega)⟩, ⟨(IntWalk.i64_in _ (by omega)).trans (by omega), (IntWalk.wrap64_in _ (by omega)).trans (by omega)⟩, ⟨(IntWalk.i64_in _ (by omega)).trans (by omega), (IntWalk.wrap64_in _ (by omega)).trans (by omega)⟩, ⟨(IntWalk.i64_in _ (by omega)).trans (by omega), (IntWalk.wrap64_in _ (by omega)).trans (by omega)⟩, ⟨(IntWalk.i64_in _ (by omega)).trans (by omega), (IntWalk.wrap64_in _ (by omega)).trans (by omega)⟩, ⟨(IntWalk.i64_in _ (by omega)).trans (by omega), (IntWalk.wrap64_in _ (by omega)).trans (by omega)⟩, ⟨(IntWalk.i64_in _ (by omega)).trans (by omega), (IntWalk.wrap64_in _ (by omega)).trans (by omega)⟩⟩
  obtain ⟨⟨q0, p0⟩, ⟨q1, p1⟩, ⟨q2, p2⟩, ⟨q3, p3⟩, ⟨q4, p4⟩, ⟨q5, p5⟩, ⟨q6, p6⟩, ⟨q7, p7⟩, ⟨q8, p8⟩, ⟨q9, p9⟩⟩ := qs
  clear ea1 ea2 ea3 ea4 ea5 ea6 ea7 ea8 ea9 ea10
  go_quiet (fail)
  clear q0 p0 q1 p1 q2 p2 q3 p3 q4 p4 q5 p5 q6 p6 q7 p7 q8 p8 q9 p9
  go_wp2_with fail
  refine bodyPost_ret (v := .agg #[.int .i64 a10, .int .i64 4, .bool true]) (by simp [results, Tryz.results74, go_sem]) rfl ⟨by rw [hv.out], by repeat (first | exact Fr.refl _ _ | refine Fr.alloc ?_ _ | refine Fr.drew ?_ | refine Fr.drewN ?_ _ | refine Fr.storeNew ?_ (Nat.le_refl _))⟩

set_option maxRecDepth 100000 in
set_option maxHeartbeats 4000000 in
theorem first_fourS (s : ByteArray) (w : World) (hs : s.size ≤ 1000000) (hz0 : 0 < s.size) (hz1 : 1 < s.size) (hz2 : 2 < s.size) (hz3 : 3 < s.size) (x0 : UInt8) (hx0 : s[0] = x0) (x1 : UInt8) (hx1 : s[1] = x1) (x2 : UInt8) (hx2 : s[2] = x2) (x3 : UInt8) (hx3 : s[3] = x3) (R : Int) (hR : Hid (((x0.toNat : Int) - 240) * 262144 + ((x1.toNat : Int) - 128) * 4096 + ((x2.toNat : Int) - 128) * 64 + (x3.toNat : Int) - 128 = R)) (b0 : 240 ≤ (x0.toNat : Int)) (b1 : (x0.toNat : Int) < 245) (b2 : 128 ≤ (x1.toNat : Int)) (b3 : (x1.toNat : Int) < 192) (b4 : 128 ≤ (x2.toNat : Int)) (b5 : (x2.toNat : Int) < 192) (b6 : 128 ≤ (x3.toNat : Int)) (b7 : (x3.toNat : Int) < 192) (b8 : R < 65536) (c1 : contB s.data.toList 1 = true) (c2 : contB s.data.toList 2 = true) (c3 : contB s.data.toList 3 = true) (hv : Hid (firstV s.data.toList = .agg #[.int .i64 65533, .int .i64 1, .bool false])) :
    Calls Tryz.prog 74 #[.string s] w fun e w' => e = .returned (firstV s.data.toList) ∧ Fr noB w w' := by
  have hb0 := x0.toNat_lt
  have hb1 := x1.toNat_lt
  have hb2 := x2.toNat_lt
  have hb3 := x3.toNat_lt
  replace b2 := Lib.hid b2
  replace b3 := Lib.hid b3
  replace b4 := Lib.hid b4
  replace b5 := Lib.hid b5
  replace b6 := Lib.hid b6
  replace b7 := Lib.hid b7
  replace b8 := Lib.hid b8
  replace hb1 := Lib.hid hb1
  replace hb2 := Lib.hid hb2
  replace hb3 := Lib.hid hb3
  go_enter Tryz.func74, Tryz.ntmps74
  go_wp2_with fail
  refine (cont_any s 1 _ (by omega) (by unfold maxLen; omega)).mono ?_
  rintro e w' ⟨rfl, hw'⟩
  obtain rfl := hw'.symm
  go_wp2_with fail
  refine (cont_any s 2 _ (by omega) (by unfold maxLen; omega)).mono ?_
  rintro e w' ⟨rfl, hw'⟩
  obtain rfl := hw'.symm
  go_wp2_with fail
  refine (cont_any s 3 _ (by omega) (by unfold maxLen; omega)).mono ?_
  rintro e w' ⟨rfl, hw'⟩
  obtain rfl := hw'.symm
  go_wp2_with fail
  replace b2 := b2.out
  replace b3 := b3.out
  replace b4 := b4.out
  replace b5 := b5.out
  replace b6 := b6.out
  replace b7 := b7.out
  replace b8 := b8.out
  obtain ⟨a1, ea1⟩ : ∃ z : Int, z = (x0.toNat : Int) - 240 := ⟨_, rfl⟩
  obtain ⟨a2, ea2⟩ : ∃ z : Int, z = a1 * 262144 := ⟨_, rfl⟩
  obtain ⟨a3, ea3⟩ : ∃ z : Int, z = (x1.toNat : Int) - 128 := ⟨_, rfl⟩
  obtain ⟨a4, ea4⟩ : ∃ z : Int, z = a3 * 4096 := ⟨_, rfl⟩
  obtain ⟨a5, ea5⟩ : ∃ z : Int, z = a2 + a4 := ⟨_, rfl⟩
  obtain ⟨a6, ea6⟩ : ∃ z : Int, z = (x2.toNat : Int) - 128 := ⟨_, rfl⟩
  obtain ⟨a7, ea7⟩ : ∃ z : Int, z = a6 * 64 := ⟨_, rfl⟩
  obtain ⟨a8, ea8⟩ : ∃ z : Int, z = a5 + a7 := ⟨_, rfl⟩
  obtain ⟨a9, ea9⟩ : ∃ z : Int, z = a8 + (x3.toNat : Int) := ⟨_, rfl⟩
  obtain ⟨a10, ea10⟩ : ∃ z : Int, z = a9 - 128 := ⟨_, rfl⟩
  have hRa := hR.out
  obtain rfl : a10 = R := by omega
  clear hRa
  have qs : (IntKind.i64.wrap ((x0.toNat : Int) - 240) = a1 ∧ wrap64 ((x0.toNat : Int) - 240) = a1) ∧ (IntKind.i64.wrap (a1 * 262144) = a2 ∧ wrap64 (a1 * 262144) = a2) ∧ (IntKind.i64.wrap ((x1.toNat : Int) - 128) = a3 ∧ wrap64 ((x1.toNat : Int) - 128) = a3) ∧ (IntKind.i64.wrap (a3 * 4096) = a4 ∧ wrap64 (a3 * 4096) = a4) ∧ (IntKind.i64.wrap (a2 + a4) = a5 ∧ wrap64 (a2 + a4) = a5) ∧ (IntKind.i64.wrap ((x2.toNat : Int) - 128) = a6 ∧ wrap64 ((x2.toNat : Int) - 128) = a6) ∧ (IntKind.i64.wrap (a6 * 64) = a7 ∧ wrap64 (a6 * 64) = a7) ∧ (IntKind.i64.wrap (a5 + a7) = a8 ∧ wrap64 (a5 + a7) = a8) ∧ (IntKind.i64.wrap (a8 + (x3.toNat : Int)) = a9 ∧ wrap64 (a8 + (x3.toNat : Int)) = a9) ∧ (IntKind.i64.wrap (a9 - 128) = a10 ∧ wrap64 (a9 - 128) = a10) :=
    ⟨⟨(IntWalk.i64_in _ (by omega)).trans (by omega), (IntWalk.wrap64_in _ (by omega)).trans (by omega)⟩, ⟨(IntWalk.i64_in _ (by omega)).trans (by omega), (IntWalk.wrap64_in _ (by omega)).trans (by omega)⟩, ⟨(IntWalk.i64_in _ (by omega)).trans (by omega), (IntWalk.wrap64_in _ (by omega)).trans (by omega)⟩, ⟨(IntWalk.i64_in _ (by omega)).trans (by omega), (IntWalk.wrap64_in _ (by omega)).trans (by omega)⟩, ⟨(IntWalk.i64_in _ (by omega)).trans (by omega), (IntWalk.wrap64_in _ (by omega)).trans (by omega)⟩, ⟨(IntWalk.i64_in _ (by omega)).trans (by omega), (IntWalk.wrap64_in _ (by omega)).trans (by omega)⟩, ⟨(IntWalk.i64_in _ (by omega)).trans (by omega), (IntWalk.wrap64_in _ (by omega)).trans (by omega)⟩, ⟨(IntWalk.i64_in _ (by omega)).trans (by omega), (IntWalk.wrap64_in _ (by omega)).trans (by omega)⟩, ⟨(IntWalk.i64_in _ (by omega)).trans (by omega), (IntWalk.wrap64_in _ (by omega)).trans (by omega)⟩, ⟨(IntWalk.i64_in _ (by omega)).trans (by omega), (IntWalk.wrap64_in _ (by omega)).trans (by omega)⟩⟩
  obtain ⟨⟨q0, p0⟩, ⟨q1, p1⟩, ⟨q2, p2⟩, ⟨q3, p3⟩, ⟨q4, p4⟩, ⟨q5, p5⟩, ⟨q6, p6⟩, ⟨q7, p7⟩, ⟨q8, p8⟩, ⟨q9, p9⟩⟩ := qs
  clear ea1 ea2 ea3 ea4 ea5 ea6 ea7 ea8 ea9 ea10
  go_quiet (fail)
  clear q0 p0 q1 p1 q2 p2 q3 p3 q4 p4 q5 p5 q6 p6 q7 p7 q8 p8 q9 p9
  go_wp2_with fail
  refine bodyPost_ret (v := .agg #[.int .i64 65533, .int .i64 1, .bool false]) (by simp [results, Tryz.results74, go_sem]) rfl ⟨by rw [hv.out], by repeat (first | exact Fr.refl _ _ | refine Fr.alloc ?_ _ | refine Fr.drew ?_ | refine Fr.drewN ?_ _ | refine Fr.storeNew ?_ (Nat.le_refl _))⟩

set_option maxRecDepth 100000 in
set_option maxHeartbeats 4000000 in
theorem first_fourB (s : ByteArray) (w : World) (hs : s.size ≤ 1000000) (hz0 : 0 < s.size) (hz1 : 1 < s.size) (hz2 : 2 < s.size) (hz3 : 3 < s.size) (x0 : UInt8) (hx0 : s[0] = x0) (x1 : UInt8) (hx1 : s[1] = x1) (x2 : UInt8) (hx2 : s[2] = x2) (x3 : UInt8) (hx3 : s[3] = x3) (R : Int) (hR : Hid (((x0.toNat : Int) - 240) * 262144 + ((x1.toNat : Int) - 128) * 4096 + ((x2.toNat : Int) - 128) * 64 + (x3.toNat : Int) - 128 = R)) (b0 : 240 ≤ (x0.toNat : Int)) (b1 : (x0.toNat : Int) < 245) (b2 : 128 ≤ (x1.toNat : Int)) (b3 : (x1.toNat : Int) < 192) (b4 : 128 ≤ (x2.toNat : Int)) (b5 : (x2.toNat : Int) < 192) (b6 : 128 ≤ (x3.toNat : Int)) (b7 : (x3.toNat : Int) < 192) (b8 : 1114111 < R) (c1 : contB s.data.toList 1 = true) (c2 : contB s.data.toList 2 = true) (c3 : contB s.data.toList 3 = true) (hv : Hid (firstV s.data.toList = .agg #[.int .i64 65533, .int .i64 1, .bool false])) :
    Calls Tryz.prog 74 #[.string s] w fun e w' => e = .returned (firstV s.data.toList) ∧ Fr noB w w' := by
  have hb0 := x0.toNat_lt
  have hb1 := x1.toNat_lt
  have hb2 := x2.toNat_lt
  have hb3 := x3.toNat_lt
  replace b2 := Lib.hid b2
  replace b3 := Lib.hid b3
  replace b4 := Lib.hid b4
  replace b5 := Lib.hid b5
  replace b6 := Lib.hid b6
  replace b7 := Lib.hid b7
  replace b8 := Lib.hid b8
  replace hb1 := Lib.hid hb1
  replace hb2 := Lib.hid hb2
  replace hb3 := Lib.hid hb3
  go_enter Tryz.func74, Tryz.ntmps74
  go_wp2_with fail
  refine (cont_any s 1 _ (by omega) (by unfold maxLen; omega)).mono ?_
  rintro e w' ⟨rfl, hw'⟩
  obtain rfl := hw'.symm
  go_wp2_with fail
  refine (cont_any s 2 _ (by omega) (by unfold maxLen; omega)).mono ?_
  rintro e w' ⟨rfl, hw'⟩
  obtain rfl := hw'.symm
  go_wp2_with fail
  refine (cont_any s 3 _ (by omega) (by unfold maxLen; omega)).mono ?_
  rintro e w' ⟨rfl, hw'⟩
  obtain rfl := hw'.symm
  go_wp2_with fail
  replace b2 := b2.out
  replace b3 := b3.out
  replace b4 := b4.out
  replace b5 := b5.out
  replace b6 := b6.out
  replace b7 := b7.out
  replace b8 := b8.out
  obtain ⟨a1, ea1⟩ : ∃ z : Int, z = (x0.toNat : Int) - 240 := ⟨_, rfl⟩
  obtain ⟨a2, ea2⟩ : ∃ z : Int, z = a1 * 262144 := ⟨_, rfl⟩
  obtain ⟨a3, ea3⟩ : ∃ z : Int, z = (x1.toNat : Int) - 128 := ⟨_, rfl⟩
  obtain ⟨a4, ea4⟩ : ∃ z : Int, z = a3 * 4096 := ⟨_, rfl⟩
  obtain ⟨a5, ea5⟩ : ∃ z : Int, z = a2 + a4 := ⟨_, rfl⟩
  obtain ⟨a6, ea6⟩ : ∃ z : Int, z = (x2.toNat : Int) - 128 := ⟨_, rfl⟩
  obtain ⟨a7, ea7⟩ : ∃ z : Int, z = a6 * 64 := ⟨_, rfl⟩
  obtain ⟨a8, ea8⟩ : ∃ z : Int, z = a5 + a7 := ⟨_, rfl⟩
  obtain ⟨a9, ea9⟩ : ∃ z : Int, z = a8 + (x3.toNat : Int) := ⟨_, rfl⟩
  obtain ⟨a10, ea10⟩ : ∃ z : Int, z = a9 - 128 := ⟨_, rfl⟩
  have hRa := hR.out
  obtain rfl : a10 = R := by omega
  clear hRa
  have qs : (IntKind.i64.wrap ((x0.toNat : Int) - 240) = a1 ∧ wrap64 ((x0.toNat : Int) - 240) = a1) ∧ (IntKind.i64.wrap (a1 * 262144) = a2 ∧ wrap64 (a1 * 262144) = a2) ∧ (IntKind.i64.wrap ((x1.toNat : Int) - 128) = a3 ∧ wrap64 ((x1.toNat : Int) - 128) = a3) ∧ (IntKind.i64.wrap (a3 * 4096) = a4 ∧ wrap64 (a3 * 4096) = a4) ∧ (IntKind.i64.wrap (a2 + a4) = a5 ∧ wrap64 (a2 + a4) = a5) ∧ (IntKind.i64.wrap ((x2.toNat : Int) - 128) = a6 ∧ wrap64 ((x2.toNat : Int) - 128) = a6) ∧ (IntKind.i64.wrap (a6 * 64) = a7 ∧ wrap64 (a6 * 64) = a7) ∧ (IntKind.i64.wrap (a5 + a7) = a8 ∧ wrap64 (a5 + a7) = a8) ∧ (IntKind.i64.wrap (a8 + (x3.toNat : Int)) = a9 ∧ wrap64 (a8 + (x3.toNat : Int)) = a9) ∧ (IntKind.i64.wrap (a9 - 128) = a10 ∧ wrap64 (a9 - 128) = a10) :=
    ⟨⟨(IntWalk.i64_in _ (by omega)).trans (by omega), (IntWalk.wrap64_in _ (by omega)).trans (by omega)⟩, ⟨(IntWalk.i64_in _ (by omega)).trans (by omega), (IntWalk.wrap64_in _ (by omega)).trans (by omega)⟩, ⟨(IntWalk.i64_in _ (by omega)).trans (by omega), (IntWalk.wrap64_in _ (by omega)).trans (by omega)⟩, ⟨(IntWalk.i64_in _ (by omega)).trans (by omega), (IntWalk.wrap64_in _ (by omega)).trans (by omega)⟩, ⟨(IntWalk.i64_in _ (by omega)).trans (by omega), (IntWalk.wrap64_in _ (by omega)).trans (by omega)⟩, ⟨(IntWalk.i64_in _ (by omega)).trans (by omega), (IntWalk.wrap64_in _ (by omega)).trans (by omega)⟩, ⟨(IntWalk.i64_in _ (by omega)).trans (by omega), (IntWalk.wrap64_in _ (by omega)).trans (by omega)⟩, ⟨(IntWalk.i64_in _ (by omega)).trans (by omega), (IntWalk.wrap64_in _ (by omega)).trans (by omega)⟩, ⟨(IntWalk.i64_in _ (by omega)).trans (by omega), (IntWalk.wrap64_in _ (by omega)).trans (by omega)⟩, ⟨(IntWalk.i64_in _ (by omega)).trans (by omega), (IntWalk.wrap64_in _ (by omega)).trans (by omega)⟩⟩
  obtain ⟨⟨q0, p0⟩, ⟨q1, p1⟩, ⟨q2, p2⟩, ⟨q3, p3⟩, ⟨q4, p4⟩, ⟨q5, p5⟩, ⟨q6, p6⟩, ⟨q7, p7⟩, ⟨q8, p8⟩, ⟨q9, p9⟩⟩ := qs
  clear ea1 ea2 ea3 ea4 ea5 ea6 ea7 ea8 ea9 ea10
  go_quiet (fail)
  clear q0 p0 q1 p1 q2 p2 q3 p3 q4 p4 q5 p5 q6 p6 q7 p7 q8 p8 q9 p9
  go_wp2_with fail
  refine bodyPost_ret (v := .agg #[.int .i64 65533, .int .i64 1, .bool false]) (by simp [results, Tryz.results74, go_sem]) rfl ⟨by rw [hv.out], by repeat (first | exact Fr.refl _ _ | refine Fr.alloc ?_ _ | refine Fr.drew ?_ | refine Fr.drewN ?_ _ | refine Fr.storeNew ?_ (Nat.le_refl _))⟩

set_option maxRecDepth 100000 in
set_option maxHeartbeats 1000000 in
theorem first_n1 (s : ByteArray) (w : World) (hs : s.size ≤ 1000000) (hz0 : 0 < s.size) (x0 : UInt8) (hx0 : s[0] = x0) (b0 : 128 ≤ (x0.toNat : Int)) (b1 : (x0.toNat : Int) < 194) (hv : Hid (firstV s.data.toList = .agg #[.int .i64 65533, .int .i64 1, .bool false])) :
    Calls Tryz.prog 74 #[.string s] w fun e w' => e = .returned (firstV s.data.toList) ∧ Fr noB w w' := by
  have hb0 := x0.toNat_lt
  go_enter Tryz.func74, Tryz.ntmps74
  go_wp2_with fail
  refine bodyPost_ret (v := .agg #[.int .i64 65533, .int .i64 1, .bool false]) (by simp [results, Tryz.results74, go_sem]) rfl ⟨by rw [hv.out], by repeat (first | exact Fr.refl _ _ | refine Fr.alloc ?_ _ | refine Fr.drew ?_ | refine Fr.drewN ?_ _ | refine Fr.storeNew ?_ (Nat.le_refl _))⟩

set_option maxRecDepth 100000 in
set_option maxHeartbeats 1000000 in
theorem first_n2 (s : ByteArray) (w : World) (hs : s.size ≤ 1000000) (hz0 : 0 < s.size) (x0 : UInt8) (hx0 : s[0] = x0) (b0 : 194 ≤ (x0.toNat : Int)) (b1 : (x0.toNat : Int) < 224) (c1 : contB s.data.toList 1 = false) (hv : Hid (firstV s.data.toList = .agg #[.int .i64 65533, .int .i64 1, .bool false])) :
    Calls Tryz.prog 74 #[.string s] w fun e w' => e = .returned (firstV s.data.toList) ∧ Fr noB w w' := by
  have hb0 := x0.toNat_lt
  go_enter Tryz.func74, Tryz.ntmps74
  go_wp2_with fail
  refine (cont_any s 1 _ (by omega) (by unfold maxLen; omega)).mono ?_
  rintro e w' ⟨rfl, hw'⟩
  obtain rfl := hw'.symm
  go_wp2_with fail
  refine bodyPost_ret (v := .agg #[.int .i64 65533, .int .i64 1, .bool false]) (by simp [results, Tryz.results74, go_sem]) rfl ⟨by rw [hv.out], by repeat (first | exact Fr.refl _ _ | refine Fr.alloc ?_ _ | refine Fr.drew ?_ | refine Fr.drewN ?_ _ | refine Fr.storeNew ?_ (Nat.le_refl _))⟩

set_option maxRecDepth 100000 in
set_option maxHeartbeats 1000000 in
theorem first_n3 (s : ByteArray) (w : World) (hs : s.size ≤ 1000000) (hz0 : 0 < s.size) (x0 : UInt8) (hx0 : s[0] = x0) (b0 : 224 ≤ (x0.toNat : Int)) (b1 : (x0.toNat : Int) < 240) (c1 : contB s.data.toList 1 = false) (hv : Hid (firstV s.data.toList = .agg #[.int .i64 65533, .int .i64 1, .bool false])) :
    Calls Tryz.prog 74 #[.string s] w fun e w' => e = .returned (firstV s.data.toList) ∧ Fr noB w w' := by
  have hb0 := x0.toNat_lt
  go_enter Tryz.func74, Tryz.ntmps74
  go_wp2_with fail
  refine (cont_any s 1 _ (by omega) (by unfold maxLen; omega)).mono ?_
  rintro e w' ⟨rfl, hw'⟩
  obtain rfl := hw'.symm
  go_wp2_with fail
  refine bodyPost_ret (v := .agg #[.int .i64 65533, .int .i64 1, .bool false]) (by simp [results, Tryz.results74, go_sem]) rfl ⟨by rw [hv.out], by repeat (first | exact Fr.refl _ _ | refine Fr.alloc ?_ _ | refine Fr.drew ?_ | refine Fr.drewN ?_ _ | refine Fr.storeNew ?_ (Nat.le_refl _))⟩

set_option maxRecDepth 100000 in
set_option maxHeartbeats 1000000 in
theorem first_n4 (s : ByteArray) (w : World) (hs : s.size ≤ 1000000) (hz0 : 0 < s.size) (x0 : UInt8) (hx0 : s[0] = x0) (b0 : 224 ≤ (x0.toNat : Int)) (b1 : (x0.toNat : Int) < 240) (c1 : contB s.data.toList 1 = true) (c2 : contB s.data.toList 2 = false) (hv : Hid (firstV s.data.toList = .agg #[.int .i64 65533, .int .i64 1, .bool false])) :
    Calls Tryz.prog 74 #[.string s] w fun e w' => e = .returned (firstV s.data.toList) ∧ Fr noB w w' := by
  have hb0 := x0.toNat_lt
  go_enter Tryz.func74, Tryz.ntmps74
  go_wp2_with fail
  refine (cont_any s 1 _ (by omega) (by unfold maxLen; omega)).mono ?_
  rintro e w' ⟨rfl, hw'⟩
  obtain rfl := hw'.symm
  go_wp2_with fail
  refine (cont_any s 2 _ (by omega) (by unfold maxLen; omega)).mono ?_
  rintro e w' ⟨rfl, hw'⟩
  obtain rfl := hw'.symm
  go_wp2_with fail
  refine bodyPost_ret (v := .agg #[.int .i64 65533, .int .i64 1, .bool false]) (by simp [results, Tryz.results74, go_sem]) rfl ⟨by rw [hv.out], by repeat (first | exact Fr.refl _ _ | refine Fr.alloc ?_ _ | refine Fr.drew ?_ | refine Fr.drewN ?_ _ | refine Fr.storeNew ?_ (Nat.le_refl _))⟩

set_option maxRecDepth 100000 in
set_option maxHeartbeats 1000000 in
theorem first_n5 (s : ByteArray) (w : World) (hs : s.size ≤ 1000000) (hz0 : 0 < s.size) (x0 : UInt8) (hx0 : s[0] = x0) (b0 : 240 ≤ (x0.toNat : Int)) (b1 : (x0.toNat : Int) < 245) (c1 : contB s.data.toList 1 = false) (hv : Hid (firstV s.data.toList = .agg #[.int .i64 65533, .int .i64 1, .bool false])) :
    Calls Tryz.prog 74 #[.string s] w fun e w' => e = .returned (firstV s.data.toList) ∧ Fr noB w w' := by
  have hb0 := x0.toNat_lt
  go_enter Tryz.func74, Tryz.ntmps74
  go_wp2_with fail
  refine (cont_any s 1 _ (by omega) (by unfold maxLen; omega)).mono ?_
  rintro e w' ⟨rfl, hw'⟩
  obtain rfl := hw'.symm
  go_wp2_with fail
  refine bodyPost_ret (v := .agg #[.int .i64 65533, .int .i64 1, .bool false]) (by simp [results, Tryz.results74, go_sem]) rfl ⟨by rw [hv.out], by repeat (first | exact Fr.refl _ _ | refine Fr.alloc ?_ _ | refine Fr.drew ?_ | refine Fr.drewN ?_ _ | refine Fr.storeNew ?_ (Nat.le_refl _))⟩

set_option maxRecDepth 100000 in
set_option maxHeartbeats 1000000 in
theorem first_n6 (s : ByteArray) (w : World) (hs : s.size ≤ 1000000) (hz0 : 0 < s.size) (x0 : UInt8) (hx0 : s[0] = x0) (b0 : 240 ≤ (x0.toNat : Int)) (b1 : (x0.toNat : Int) < 245) (c1 : contB s.data.toList 1 = true) (c2 : contB s.data.toList 2 = false) (hv : Hid (firstV s.data.toList = .agg #[.int .i64 65533, .int .i64 1, .bool false])) :
    Calls Tryz.prog 74 #[.string s] w fun e w' => e = .returned (firstV s.data.toList) ∧ Fr noB w w' := by
  have hb0 := x0.toNat_lt
  go_enter Tryz.func74, Tryz.ntmps74
  go_wp2_with fail
  refine (cont_any s 1 _ (by omega) (by unfold maxLen; omega)).mono ?_
  rintro e w' ⟨rfl, hw'⟩
  obtain rfl := hw'.symm
  go_wp2_with fail
  refine (cont_any s 2 _ (by omega) (by unfold maxLen; omega)).mono ?_
  rintro e w' ⟨rfl, hw'⟩
  obtain rfl := hw'.symm
  go_wp2_with fail
  refine bodyPost_ret (v := .agg #[.int .i64 65533, .int .i64 1, .bool false]) (by simp [results, Tryz.results74, go_sem]) rfl ⟨by rw [hv.out], by repeat (first | exact Fr.refl _ _ | refine Fr.alloc ?_ _ | refine Fr.drew ?_ | refine Fr.drewN ?_ _ | refine Fr.storeNew ?_ (Nat.le_refl _))⟩

set_option maxRecDepth 100000 in
set_option maxHeartbeats 1000000 in
theorem first_n7 (s : ByteArray) (w : World) (hs : s.size ≤ 1000000) (hz0 : 0 < s.size) (x0 : UInt8) (hx0 : s[0] = x0) (b0 : 240 ≤ (x0.toNat : Int)) (b1 : (x0.toNat : Int) < 245) (c1 : contB s.data.toList 1 = true) (c2 : contB s.data.toList 2 = true) (c3 : contB s.data.toList 3 = false) (hv : Hid (firstV s.data.toList = .agg #[.int .i64 65533, .int .i64 1, .bool false])) :
    Calls Tryz.prog 74 #[.string s] w fun e w' => e = .returned (firstV s.data.toList) ∧ Fr noB w w' := by
  have hb0 := x0.toNat_lt
  go_enter Tryz.func74, Tryz.ntmps74
  go_wp2_with fail
  refine (cont_any s 1 _ (by omega) (by unfold maxLen; omega)).mono ?_
  rintro e w' ⟨rfl, hw'⟩
  obtain rfl := hw'.symm
  go_wp2_with fail
  refine (cont_any s 2 _ (by omega) (by unfold maxLen; omega)).mono ?_
  rintro e w' ⟨rfl, hw'⟩
  obtain rfl := hw'.symm
  go_wp2_with fail
  refine (cont_any s 3 _ (by omega) (by unfold maxLen; omega)).mono ?_
  rintro e w' ⟨rfl, hw'⟩
  obtain rfl := hw'.symm
  go_wp2_with fail
  refine bodyPost_ret (v := .agg #[.int .i64 65533, .int .i64 1, .bool false]) (by simp [results, Tryz.results74, go_sem]) rfl ⟨by rw [hv.out], by repeat (first | exact Fr.refl _ _ | refine Fr.alloc ?_ _ | refine Fr.drew ?_ | refine Fr.drewN ?_ _ | refine Fr.storeNew ?_ (Nat.le_refl _))⟩

set_option maxRecDepth 100000 in
set_option maxHeartbeats 1000000 in
theorem first_n8 (s : ByteArray) (w : World) (hs : s.size ≤ 1000000) (hz0 : 0 < s.size) (x0 : UInt8) (hx0 : s[0] = x0) (b0 : 245 ≤ (x0.toNat : Int)) (hv : Hid (firstV s.data.toList = .agg #[.int .i64 65533, .int .i64 1, .bool false])) :
    Calls Tryz.prog 74 #[.string s] w fun e w' => e = .returned (firstV s.data.toList) ∧ Fr noB w w' := by
  have hb0 := x0.toNat_lt
  go_enter Tryz.func74, Tryz.ntmps74
  go_wp2_with fail
  refine bodyPost_ret (v := .agg #[.int .i64 65533, .int .i64 1, .bool false]) (by simp [results, Tryz.results74, go_sem]) rfl ⟨by rw [hv.out], by repeat (first | exact Fr.refl _ _ | refine Fr.alloc ?_ _ | refine Fr.drew ?_ | refine Fr.drewN ?_ _ | refine Fr.storeNew ?_ (Nat.le_refl _))⟩

set_option maxRecDepth 100000 in
theorem first_any (s : ByteArray) (w : World) (hs : s.size ≤ 1000000) (hne : s.data.toList ≠ []) :
    Calls Tryz.prog 74 #[.string s] w fun e w' => e = .returned (firstV s.data.toList) ∧ Fr noB w w' := by
  have hz : 0 < s.size := List.length_pos_iff.2 hne
  have g0 := at_get s 0 hz
  have hb0 := (s[0]).toNat_lt
  by_cases a1 : (s[0]).toNat < 128
  · exact first_ascii s w hs hz s[0] rfl (by omega) (Lib.hid (by rw [← g0]; exact firstV_ok (dec_one (by rw [g0]; exact a1)) (by rw [g0]; omega)))
  have no : dec s.data.toList = (65533, 1) → firstV s.data.toList = .agg #[.int .i64 65533, .int .i64 1, .bool false] := firstV_bad
  by_cases a2 : (s[0]).toNat < 194
  · exact first_n1 s w hs hz s[0] rfl (by omega) (by omega) (Lib.hid (no (dec_no (by rw [g0]; omega) (by rw [g0]; omega) (by rw [g0]; omega) (by rw [g0]; omega))))
  by_cases a3 : (s[0]).toNat < 224
  · cases c1 : contB s.data.toList 1 with
    | false => exact first_n2 s w hs hz s[0] rfl (by omega) (by omega) c1 (Lib.hid (no (dec_no (by rw [g0]; omega) (by rw [c1]; simp) (by rw [g0]; omega) (by rw [g0]; omega))))
    | true =>
      obtain ⟨z1, k1⟩ := (contB_iff _ 1).1 c1
      rw [size_len] at z1
      have g1 := at_get s 1 z1
      rw [g1] at k1
      have hd := dec_two (by rw [g0]; omega) (by rw [g0]; omega) c1
      rw [g0, g1] at hd
      exact first_two s w hs hz z1 s[0] rfl s[1] rfl (by omega) (by omega) (by omega) (by omega) c1 (Lib.hid (by rw [firstV_ok hd (by omega)]; exact congrArg (fun z : Int => Value.agg #[.int .i64 z, .int .i64 2, .bool true]) (by omega)))
  by_cases a4 : (s[0]).toNat < 240
  · cases c1 : contB s.data.toList 1 with
    | false => exact first_n3 s w hs hz s[0] rfl (by omega) (by omega) c1 (Lib.hid (no (dec_no (by rw [g0]; omega) (by rw [c1]; simp) (by rw [c1]; simp) (by rw [g0]; omega))))
    | true =>
      cases c2 : contB s.data.toList 2 with
      | false => exact first_n4 s w hs hz s[0] rfl (by omega) (by omega) c1 c2 (Lib.hid (no (dec_no (by rw [g0]; omega) (by rw [g0]; omega) (by rw [c2]; simp) (by rw [g0]; omega))))
      | true =>
        obtain ⟨z1, k1⟩ := (contB_iff _ 1).1 c1
        obtain ⟨z2, k2⟩ := (contB_iff _ 2).1 c2
        rw [size_len] at z1 z2
        have g1 := at_get s 1 z1
        have g2 := at_get s 2 z2
        rw [g1] at k1
        rw [g2] at k2
        have hd := dec_three (by rw [g0]; omega) (by rw [g0]; omega) c1 c2
        have hr : r3 s.data.toList = ((s[0]).toNat - 224) * 4096 + ((s[1]).toNat - 128) * 64 + (s[2]).toNat - 128 := by unfold r3; rw [g0, g1, g2]
        by_cases q1 : 2048 ≤ r3 s.data.toList
        · by_cases q2 : r3 s.data.toList < 55296
          · rw [if_pos (by omega)] at hd
            exact first_threeL s w hs hz z1 z2 s[0] rfl s[1] rfl s[2] rfl (by omega) (by omega) (by omega) (by omega) (by omega) (by omega) (by omega) (by omega) c1 c2 (Lib.hid (by rw [firstV_ok hd (by omega), hr]; exact congrArg (fun z : Int => Value.agg #[.int .i64 z, .int .i64 3, .bool true]) (by omega)))
          · by_cases q3 : 57344 ≤ r3 s.data.toList
            · rw [if_pos (by omega)] at hd
              exact first_threeH s w hs hz z1 z2 s[0] rfl s[1] rfl s[2] rfl (by omega) (by omega) (by omega) (by omega) (by omega) (by omega) (by omega) c1 c2 (Lib.hid (by rw [firstV_ok hd (by omega), hr]; exact congrArg (fun z : Int => Value.agg #[.int .i64 z, .int .i64 3, .bool true]) (by omega)))
            · rw [if_neg (by omega)] at hd
              exact first_threeU s w hs hz z1 z2 s[0] rfl s[1] rfl s[2] rfl (by omega) (by omega) (by omega) (by omega) (by omega) (by omega) (by omega) (by omega) c1 c2 (Lib.hid (no hd))
        · rw [if_neg (by omega)] at hd
          exact first_threeS s w hs hz z1 z2 s[0] rfl s[1] rfl s[2] rfl (by omega) (by omega) (by omega) (by omega) (by omega) (by omega) (by omega) c1 c2 (Lib.hid (no hd))
  by_cases a5 : (s[0]).toNat < 245
  · cases c1 : contB s.data.toList 1 with
    | false => exact first_n5 s w hs hz s[0] rfl (by omega) (by omega) c1 (Lib.hid (no (dec_no (by rw [g0]; omega) (by rw [c1]; simp) (by rw [c1]; simp) (by rw [c1]; simp))))
    | true =>
      cases c2 : contB s.data.toList 2 with
      | false => exact first_n6 s w hs hz s[0] rfl (by omega) (by omega) c1 c2 (Lib.hid (no (dec_no (by rw [g0]; omega) (by rw [g0]; omega) (by rw [c2]; simp) (by rw [c2]; simp))))
      | true =>
        cases c3 : contB s.data.toList 3 with
        | false => exact first_n7 s w hs hz s[0] rfl (by omega) (by omega) c1 c2 c3 (Lib.hid (no (dec_no (by rw [g0]; omega) (by rw [g0]; omega) (by rw [g0]; omega) (by rw [c3]; simp))))
        | true =>
          obtain ⟨z1, k1⟩ := (contB_iff _ 1).1 c1
          obtain ⟨z2, k2⟩ := (contB_iff _ 2).1 c2
          obtain ⟨z3, k3⟩ := (contB_iff _ 3).1 c3
          rw [size_len] at z1 z2 z3
          have g1 := at_get s 1 z1
          have g2 := at_get s 2 z2
          have g3 := at_get s 3 z3
          rw [g1] at k1
          rw [g2] at k2
          rw [g3] at k3
          have hd := dec_four (by rw [g0]; omega) (by rw [g0]; omega) c1 c2 c3
          have hr : r4 s.data.toList = ((s[0]).toNat - 240) * 262144 + ((s[1]).toNat - 128) * 4096 + ((s[2]).toNat - 128) * 64 + (s[3]).toNat - 128 := by unfold r4; rw [g0, g1, g2, g3]
          by_cases q1 : 65536 ≤ r4 s.data.toList
          · by_cases q2 : r4 s.data.toList ≤ 1114111
            · rw [if_pos (by omega)] at hd
              exact first_fourO s w hs hz z1 z2 z3 s[0] rfl s[1] rfl s[2] rfl s[3] rfl _ (Lib.hid rfl) (by omega) (by omega) (by omega) (by omega) (by omega) (by omega) (by omega) (by omega) (by omega) (by omega) c1 c2 c3 (Lib.hid (by rw [firstV_ok hd (by omega), hr]; exact congrArg (fun z : Int => Value.agg #[.int .i64 z, .int .i64 4, .bool true]) (by omega)))
            · rw [if_neg (by omega)] at hd
              exact first_fourB s w hs hz z1 z2 z3 s[0] rfl s[1] rfl s[2] rfl s[3] rfl _ (Lib.hid rfl) (by omega) (by omega) (by omega) (by omega) (by omega) (by omega) (by omega) (by omega) (by omega) c1 c2 c3 (Lib.hid (no hd))
          · rw [if_neg (by omega)] at hd
            exact first_fourS s w hs hz z1 z2 z3 s[0] rfl s[1] rfl s[2] rfl s[3] rfl _ (Lib.hid rfl) (by omega) (by omega) (by omega) (by omega) (by omega) (by omega) (by omega) (by omega) (by omega) c1 c2 c3 (Lib.hid (no hd))
  · exact first_n8 s w hs hz s[0] rfl (by omega) (Lib.hid (no (dec_no (by rw [g0]; omega) (by rw [g0]; omega) (by rw [g0]; omega) (by rw [g0]; omega))))
end Go.Proofs.YtbmafogjmdilkaaGreatDoor
