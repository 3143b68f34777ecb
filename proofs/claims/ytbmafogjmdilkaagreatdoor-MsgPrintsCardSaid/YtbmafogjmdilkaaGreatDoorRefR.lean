/-
  The reference's cont, First, hex, digit, Encode.
-/
import Derived.Test.YtbmafogjmdilkaaGreatDoorNameC
set_option linter.unusedVariables false
set_option linter.unusedSimpArgs false
set_option maxRecDepth 100000
namespace Go.Proofs.YtbmafogjmdilkaaGreatDoor
open Go.RowKit Go

/-- a byte that goes on -/
def contB (l : List UInt8) (i : Nat) : Bool := decide (i < l.length) && (decide (128 ≤ (l.getD i 0).toNat) && decide ((l.getD i 0).toNat < 192))
set_option maxRecDepth 100000 in
theorem cont_any (s : ByteArray) (i : Nat) (w : World) (hi : i < 100) (hs : s.size ≤ maxLen) :
    Calls Tryz.prog 82 #[.string s, .int .i64 i] w fun e w' => e = .returned (.bool (contB s.data.toList i)) ∧ w' = w := by
  unfold maxLen at hs
  by_cases h : i < s.size
  · have hg : s.data.toList.getD i 0 = s[i] := by
      simp [List.getD, size_len, h]
      rfl
    have hc : contB s.data.toList i = (decide (128 ≤ s[i].toNat) && decide (s[i].toNat < 192)) := by
      unfold contB; rw [hg, size_len]; simp [h]
    generalize hx : s[i] = b at *
    have hb := b.toNat_lt
    by_cases h1 : 128 ≤ b.toNat
    · by_cases h2 : b.toNat < 192
      · replace hc := Lib.hid (hc.trans (show _ = true by simp [h1, h2]))
        clear hg
        go_enter Tryz.func82, Tryz.ntmps82
        go_wp2
        go_ret
        exact ⟨ret_bool (by rw [hc.out]; simp; omega), rfl⟩
      · replace hc := Lib.hid (hc.trans (show _ = false by simp [h1, h2]))
        have h2' : ¬ (b.toNat : Int) < 192 := by omega
        clear hg
        go_enter Tryz.func82, Tryz.ntmps82
        go_wp2
        go_ret
        exact ⟨ret_bool (by rw [hc.out]), rfl⟩
    · replace hc := Lib.hid (hc.trans (show _ = false by simp [h1]))
      have h1' : ¬ (128 : Int) ≤ b.toNat := by omega
      clear hg
      go_enter Tryz.func82, Tryz.ntmps82
      go_wp2
      go_ret
      exact ⟨ret_bool (by rw [hc.out]), rfl⟩
  · have hc : contB s.data.toList i = false := by unfold contB; rw [size_len]; simp [h]
    replace hc := Lib.hid hc
    have h1' : ¬ (i : Int) < s.size := by omega
    go_enter Tryz.func82, Tryz.ntmps82
    go_wp2
    go_ret
    exact ⟨ret_bool (by rw [hc.out]), rfl⟩

/-- a digit read, -1: none -/
def digI (b : UInt8) : Int := match unhex b with | some d => (d : Int) | none => -1
/-- the reference's digits -/
def digsR : ByteArray := ⟨#[48, 49, 50, 51, 52, 53, 54, 55, 56, 57, 97, 98, 99, 100, 101, 102]⟩
theorem digsR_ext (d : Nat) (h : d < 16) : digsR.extract d (d + 1) = strB [hexD d] := by
  have h16 : d = 0 ∨ d = 1 ∨ d = 2 ∨ d = 3 ∨ d = 4 ∨ d = 5 ∨ d = 6 ∨ d = 7 ∨ d = 8 ∨ d = 9 ∨ d = 10 ∨ d = 11 ∨ d = 12 ∨ d = 13 ∨ d = 14 ∨ d = 15 := by omega
  rcases h16 with rfl | rfl | rfl | rfl | rfl | rfl | rfl | rfl | rfl | rfl | rfl | rfl | rfl | rfl | rfl | rfl <;> (apply ByteArray.ext; decide +kernel)

theorem slice_digs (m : Nat) (h : m < 16) : ∀ w : World, (Instr.slice 9 (.string digsR) (some (.int .i64 (m : Int))) (some (.int .i64 ((m : Int) + 1))) none).run Tryz.prog w = .ok (.string (strB [hexD m])) w := by
  intro w
  rw [run_slice_string w 9 digsR .i64 .i64 m ((m : Int) + 1) Tryz.underlying9 (by omega) (by omega) (by show (m : Int) + 1 ≤ 16; omega)]
  rw [show ((m : Int) + 1).toNat = m + 1 by omega, Int.toNat_natCast, digsR_ext m h]

set_option maxRecDepth 100000 in
set_option maxHeartbeats 400000 in
theorem rhex_nat (n : Nat) : n ≤ 1114111 → ∀ (w : World), Calls Tryz.prog 75 #[.int .i64 n] w fun e w' => e = .returned (.string (strB (hexL n))) ∧ ∃ k, w' = w.drewN k := by
  induction n using Nat.strongRecOn with
  | ind n ih =>
    intro hn w
    by_cases hs : n < 16
    · have hx := digsR_ext n hs
      rw [← hexL_small n hs] at hx
      unfold digsR at hx
      replace hx := Lib.hid hx
      clear ih
      go_enter Tryz.func75, Tryz.ntmps75
      go_wp2
      go_ret
      exact ⟨ret_str (by rw [hx.out]), 0, rfl⟩
    · have hmod : (n : Int).tmod 16 = ((n % 16 : Nat) : Int) := by rw [Int.tmod_eq_emod_of_nonneg (by omega)]; omega
      have hdiv : (n : Int).tdiv 16 = ((n / 16 : Nat) : Int) := by rw [Int.tdiv_eq_ediv_of_nonneg (by omega)]; omega
      have hih := ih (n / 16) (by omega) (by omega)
      have hx := slice_digs (n % 16) (by omega)
      unfold digsR at hx
      have hst := hexL_step n (by omega) (by omega)
      have hm0 : n % 16 < 16 := Nat.mod_lt _ (by omega)
      have hn16 : 16 ≤ n := by omega
      generalize hm : n % 16 = m at *
      generalize hd : n / 16 = d at *
      have qs : IntKind.i64.wrap (d : Int) = d ∧ wrap64 (d : Int) = d ∧ IntKind.i64.wrap (m : Int) = m ∧ wrap64 (m : Int) = m ∧ wrap64 ((m : Int) + 1) = (m : Int) + 1 ∧ IntKind.i64.wrap ((m : Int) + 1) = (m : Int) + 1 ∧ (m : Int) + 1 ≤ 16 ∧ ((m : Int) + 1).toNat = m + 1 :=
        ⟨IntWalk.i64_in _ (by omega), IntWalk.wrap64_in _ (by omega), IntWalk.i64_in _ (by omega), IntWalk.wrap64_in _ (by omega), IntWalk.wrap64_in _ (by omega), IntWalk.i64_in _ (by omega), by omega, by omega⟩
      have hl9 := hexL_len d
      have hcat : (strB (hexL d)).size + (strB [hexD m]).size ≤ 9223372036854775807 := by rw [strB_size, strB_size, List.length_singleton]; omega
      obtain ⟨q1, q2, q3, q4, q5, q8, q6, q7⟩ := qs
      replace hst := Lib.hid hst
      replace hm := Lib.hid hm
      replace hd := Lib.hid hd
      replace hih := Lib.hid hih
      clear ih hs
      go_enter Tryz.func75, Tryz.ntmps75
      go_wp2_with fail
      go_quiet ((go_at_call 75; exact Calls.quiet_of (hih.out _)))
      clear q1 q2 q3 q4 q5 q8 hmod hdiv
      go_wp2_with fail
      go_ret
      exact ⟨ret_str (by rw [hst.out, strB_append]), _, rfl⟩

theorem conv_new (w : World) (vs : List Value) (l : List UInt8) (hv : vs = l.map cellB) (hl : l.length ≤ 1000) :
    (convert 73 9 (.slice (some ⟨w.heap.size, 0, none⟩) vs.length vs.length)).run Tryz.prog (w.alloc (.cells vs.toArray 5)) = .ok (.string (strB l)) (w.alloc (.cells vs.toArray 5)) := by
  refine string_of_row (P := Tryz.prog) 73 9 5 Tryz.underlying73 Tryz.underlying5 Tryz.underlying9 (base := w.heap.size) (n := vs.length) ?_
  rw [← hv]
  exact own_new w 5 vs 1 vs.length (by omega) (by rw [hv, List.length_map]; unfold maxLen; omega)

set_option maxRecDepth 100000 in
set_option maxHeartbeats 1000000 in
theorem renc_any (n : Nat) (w : World) (hn : n ≤ 1114111) :
    Calls Tryz.prog 43 #[.int .i64 n] w fun e w' => e = .returned (.string (strB (encL n))) ∧ Fr noB w w' := by
  by_cases h1 : n < 128
  · have he : encL n = [UInt8.ofNat n] := by unfold encL; rw [if_pos h1]
    have hcv := conv_new w [.int .u8 (n : Int)] (encL n) (by rw [he]; simp [cellB]; omega) (by rw [he]; simp)
    simp only [List.length_cons, List.length_nil] at hcv
    replace he := Lib.hid he
    go_enter Tryz.func43, Tryz.ntmps43
    go_wp2
    go_ret
    exact ⟨rfl, (Fr.refl noB w).alloc _⟩
  by_cases h2 : n < 2048
  · have he : encL n = [UInt8.ofNat (192 + n / 64), UInt8.ofNat (128 + n % 64)] := by unfold encL; rw [if_neg h1, if_pos h2]
    have hcv := conv_new w [.int .u8 (192 + (n : Int) / 64), .int .u8 (128 + (n : Int) % 64)] (encL n) (by rw [he]; simp [cellB]; omega) (by rw [he]; simp)
    simp only [List.length_cons, List.length_nil] at hcv
    replace he := Lib.hid he
    go_enter Tryz.func43, Tryz.ntmps43
    go_wp2
    go_ret
    exact ⟨rfl, (Fr.refl noB w).alloc _⟩
  by_cases h3 : n < 65536
  · have he : encL n = [UInt8.ofNat (224 + n / 4096), UInt8.ofNat (128 + n / 64 % 64), UInt8.ofNat (128 + n % 64)] := by unfold encL; rw [if_neg h1, if_neg h2, if_pos h3]
    have hcv := conv_new w [.int .u8 (224 + (n : Int) / 4096), .int .u8 (128 + (n : Int) / 64 % 64), .int .u8 (128 + (n : Int) % 64)] (encL n) (by rw [he]; simp [cellB]; omega) (by rw [he]; simp)
    simp only [List.length_cons, List.length_nil] at hcv
    replace he := Lib.hid he
    have i1 : ¬ (n : Int) < 128 := by omega
    have i2 : ¬ (n : Int) < 2048 := by omega
    have i3 : (n : Int) < 65536 := by omega
    clear h1 h2 h3 hn
    go_enter Tryz.func43, Tryz.ntmps43
    go_wp2
    go_ret
    exact ⟨rfl, (Fr.refl noB w).alloc _⟩
  · have he : encL n = [UInt8.ofNat (240 + n / 262144), UInt8.ofNat (128 + n / 4096 % 64), UInt8.ofNat (128 + n / 64 % 64), UInt8.ofNat (128 + n % 64)] := by unfold encL; rw [if_neg h1, if_neg h2, if_neg h3]
    have hcv := conv_new w [.int .u8 (240 + (n : Int) / 262144), .int .u8 (128 + (n : Int) / 4096 % 64), .int .u8 (128 + (n : Int) / 64 % 64), .int .u8 (128 + (n : Int) % 64)] (encL n) (by rw [he]; simp [cellB]; omega) (by rw [he]; simp)
    simp only [List.length_cons, List.length_nil] at hcv
    replace he := Lib.hid he
    have i1 : ¬ (n : Int) < 128 := by omega
    have i2 : ¬ (n : Int) < 2048 := by omega
    have i3 : ¬ (n : Int) < 65536 := by omega
    have i4 : (n : Int) ≤ 1114111 := by omega
    clear h1 h2 h3 hn
    go_enter Tryz.func43, Tryz.ntmps43
    go_wp2
    go_ret
    exact ⟨rfl, (Fr.refl noB w).alloc _⟩
end Go.Proofs.YtbmafogjmdilkaaGreatDoor
