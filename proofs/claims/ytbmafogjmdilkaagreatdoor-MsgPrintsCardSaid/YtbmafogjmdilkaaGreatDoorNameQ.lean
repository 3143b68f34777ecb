/-
  strconv.AppendInt at base 16, name.digit, name.Quote.
-/
import Derived.Test.YtbmafogjmdilkaaGreatDoorNameC
import Derived.Shelf.Small.Bits
import Derived.Outline
import Derived.Deep.DeepMust
import Derived.Laws.BitsAllLaws
set_option linter.unusedVariables false
set_option linter.unusedSimpArgs false
set_option maxRecDepth 100000
namespace Go.Proofs.YtbmafogjmdilkaaGreatDoor
open Go.RowKit Go

/-- the block that a row lies in -/
def rowB (v : Value) : Nat → Prop := fun k => v.ownBlock = some k

theorem digit_any (n : Nat) (w : World) (hn : n < 16) :
    Calls Tryz.prog 78 #[.int .u8 n] w fun e w' => e = .returned (.int .u8 (hexD n).toNat) ∧ w' = w := by
  have hh := hexD_nat n hn
  by_cases h : n < 10
  · rw [if_pos h] at hh
    replace hh := Lib.hid hh
    go_enter Tryz.func78, Tryz.ntmps78
    go_wp2
    go_ret
    exact ⟨ret_int' (by rw [hh.out]; omega), rfl⟩
  · rw [if_neg h] at hh
    replace hh := Lib.hid hh
    go_enter Tryz.func78, Tryz.ntmps78
    go_wp2
    go_ret
    exact ⟨ret_int' (by rw [hh.out]; omega), rfl⟩

theorem pow2_16 (w : World) : Calls Tryz.prog 100 #[.int .i64 16] w fun e w' => e = .returned (.bool true) ∧ w' = w := by
  go_enter Tryz.func100, Tryz.ntmps100
  go_wp2
  go_ret
  exact ⟨ret_bool (by decide), rfl⟩

theorem tz64_16 (w : World) (hg : Gl w) : Calls Tryz.prog 110 #[.int .u64 16] w fun e w' => e = .returned (.int .i64 4) ∧ w' = w := by
  have h := hg.tz
  have hv : IntKind.u64.wrap (bits BinOp.and IntKind.u64 16 (IntKind.u64.wrap (-16)) * 285870213051353865) / 288230376151711744 = 15 := by decide +kernel
  go_enter Tryz.func110, Tryz.ntmps110
  go_wp2
  go_ret
  exact ⟨rfl, rfl⟩
theorem tz_16 (w : World) (hg : Gl w) : Calls Tryz.prog 101 #[.int .u64 16] w fun e w' => e = .returned (.int .i64 4) ∧ w' = w := by
  go_enter Tryz.func101, Tryz.ntmps101
  go_wp2_with fail
  refine (tz64_16 w hg).mono ?_
  rintro e w1 ⟨rfl, hw1⟩
  obtain rfl := hw1.symm
  go_wp2
  go_ret
  exact ⟨rfl, rfl⟩

/-- the digits' string of the library -/
def digs : ByteArray := ⟨#[48, 49, 50, 51, 52, 53, 54, 55, 56, 57, 97, 98, 99, 100, 101, 102, 103, 104, 105, 106, 107, 108, 109, 110, 111, 112, 113, 114, 115, 116, 117, 118, 119, 120, 121, 122]⟩

theorem digs_get (d : Nat) (h : d < 16) (h2 : d < digs.size) : digs[d] = hexD d := by
  have h16 : d = 0 ∨ d = 1 ∨ d = 2 ∨ d = 3 ∨ d = 4 ∨ d = 5 ∨ d = 6 ∨ d = 7 ∨ d = 8 ∨ d = 9 ∨ d = 10 ∨ d = 11 ∨ d = 12 ∨ d = 13 ∨ d = 14 ∨ d = 15 := by omega
  rcases h16 with rfl | rfl | rfl | rfl | rfl | rfl | rfl | rfl | rfl | rfl | rfl | rfl | rfl | rfl | rfl | rfl <;> rfl
theorem and15 (u : Nat) (h : u ≤ 1114111) : bits BinOp.and IntKind.u64 (u : Int) 15 = ((u % 16 : Nat) : Int) := by
  have h1 := u64_and_nat u 15 (by omega) (by omega)
  rw [show (u &&& 15) = u % 16 from Nat.and_two_pow_sub_one_eq_mod u 4] at h1
  exact h1

theorem slice65 (g i : Nat) (h : i < 65) : ∀ w : World, (Instr.sliceAt 149 (.pointer (some ⟨g, 0, none⟩)) (some (.int .i64 (i : Int))) none none).run Tryz.prog w = .ok (.slice (some ⟨g, i, none⟩) (65 - i) (65 - i)) w := by
  intro w
  have ea : Tryz.prog.arrayLen 149 = 65 := by kernel_rfl
  have ez : ∀ w, (sizeOf (Tryz.prog.elem 149)).run Tryz.prog w = .ok 1 w := fun w => by kernel_rfl
  rw [run_sliceAt_array_l w 149 ⟨g, 0, none⟩ Tryz.underlying149 .i64 i (by omega) (by rw [ea]; omega), ez, ea]
  simp only [Result.andThen, slicedAt, Int.toNat_natCast]
  rw [if_neg (by omega)]
  simp [Addr.add]
  omega

set_option maxHeartbeats 2000000 in
theorem fb_16 (B n u0 : Nat) (hu0 : u0 ≤ 1114111) (sv : Value) (xs : List Value) (w : World) (hg : Gl w) (hown : w.ownsRow B 5 1 sv n xs) (hBw : B ≤ w.heap.size) (hlim : n + 65 ≤ 140737488355328) :
    Calls Tryz.prog 93 #[sv, .int .u64 u0, .int .i64 16, .bool false, .bool true] w fun e w' =>
      ∃ v', e = .returned (.tuple #[v', .string ByteArray.empty]) ∧ w'.ownsRow B 5 1 v' (n + (hexL u0).length) (xs ++ (hexL u0).map cellB) ∧ Fr (rowB sv) w w' := by
  obtain ⟨i0, hi, hz0, hz1, hz2⟩ := info_parts Tryz.infoByte
  go_enter Tryz.func93, Tryz.ntmps93
  go_wp2_with fail
  refine (pow2_16 _).mono ?_
  rintro e w1 ⟨rfl, hw1⟩
  obtain rfl := hw1.symm
  go_wp2_with fail
  refine (tz_16 _ (hg.fr ((Fr.refl noB w).alloc _))).mono ?_
  rintro e w1 ⟨rfl, hw1⟩
  obtain rfl := hw1.symm
  go_wp2_with fail
  have hzc : Tryz.zeroCells149.toList.length = 65 := by kernel_rfl
  go_loopw [1, 13] (fun vu vi wr => ∃ (u j : Nat) (cs : List Value) , vu = .int .u64 u ∧ vi = .int .i64 j ∧ Blk wr w.heap.size 149 cs ∧ cs.length = 65 ∧ j ≤ 65 ∧ u ≤ u0 ∧ (hexL u0).map cellB = (hexL u).map cellB ++ cs.drop j ∧ Fr noB w wr) (fun vu _ _ => (intOf vu).toNat)
  case atStart => exact ⟨u0, 65, Tryz.zeroCells149.toList, rfl, rfl, Blk.new _ _ _, by kernel_rfl, Nat.le_refl _, Nat.le_refl _, by rw [List.drop_of_length_le (by rw [hzc]; omega)]; simp, (Fr.refl noB w).alloc _⟩
  case round =>
    obtain ⟨u, j, cs, rfl, rfl, hb, hcl, hj, hu, hh, fr⟩ := hrel
    have hlen := congrArg List.length hh
    have l0 := hexL_len u0
    have l1 := hexL_len u
    rw [List.length_append, List.length_map, List.length_map, List.length_drop, hcl] at hlen
    have hj1 : 57 ≤ j := by omega
    have hfz : wr.frozen? ⟨w.heap.size, j - 1, none⟩ = false := hb.frozen _
    have hcj : wr.cell? ⟨w.heap.size, j - 1, none⟩ = some (cs.getD (j - 1) (.int .u8 0)) := by
      rw [hb.cell, List.getD, List.getElem?_eq_getElem (by omega)]; rfl
    obtain ⟨i, rfl⟩ : ∃ i, j = i + 1 := ⟨j - 1, by omega⟩
    rw [Nat.add_sub_cancel] at hfz hcj
    have hdi : ∀ b : Nat, b < 16 → (cs.set i (.int .u8 ((hexD b).toNat : Int))).drop i = cellB (hexD b) :: cs.drop (i + 1) := by
      intro b hb
      rw [List.drop_eq_getElem_cons (by rw [List.length_set]; omega), List.getElem_set_self, List.drop_set_of_lt (by omega)]
      rfl
    by_cases h16 : 16 ≤ u
    · have hand := and15 u (by omega)
      replace hlen := Lib.hid hlen
      replace hh := Lib.hid hh
      go_wp2_with fail
      go_roundw
      case rel =>
        refine ⟨u / 16, i, cs.set i (.int .u8 ((hexD (u % 16)).toNat : Int)), by go_num, rfl, ?_, by rw [List.length_set]; exact hcl, by omega, by omega, ?_, fr.storeNew (Nat.le_refl _)⟩
        · have hq := hb.set i (.int .u8 ((hexD (u % 16)).toNat : Int))
          rw [← digs_get (u % 16) (by omega) (show u % 16 < 36 by omega)] at hq
          rw [← digs_get (u % 16) (by omega) (show u % 16 < 36 by omega)]
          exact hq
        · rw [hh.out, hdi _ (by omega), hexL_step u h16 (by omega)]
          simp
      case measure => simp [intOf]; omega
    · have hq := hb.set i (.int .u8 ((hexD u).toNat : Int))
      have hx : (hexL u0).map cellB = (cs.set i (.int .u8 ((hexD u).toNat : Int))).drop i := by
        rw [hh, hdi u (by omega), hexL_small u (by omega)]
        rfl
      have hl : (cs.set i (.int .u8 ((hexD u).toNat : Int))).length = 65 := by rw [List.length_set]; exact hcl
      have hl0 : (hexL u0).length = 65 - i := by
        have := congrArg List.length hx
        rw [List.length_map, List.length_drop, hl] at this
        exact this
      have fr2 : Fr noB w (wr.setCell ⟨w.heap.size, i, none⟩ (.int .u8 ((hexD u).toNat : Int))) := fr.storeNew (Nat.le_refl _)
      have ho2 := ownsRow_fr hown fr2 (fun q _ h => h)
      rw [← digs_get u (by omega) (show u < 36 by omega)] at hq ho2 fr2 hx
      unfold digs at hq ho2 fr2 hx
      replace hlen := Lib.hid hlen
      replace hh := Lib.hid hh
      replace hcl := Lib.hid hcl
      replace hl := Lib.hid hl
      replace hl0 := Lib.hid hl0
      replace hx := Lib.hid hx
      have hsl := slice65 w.heap.size i (by omega)
      clear hdi
      go_wp2_with (first
        | (at_builtin; go_must (refine wpList_append_at _ rfl (.tmp 95) (.tmp 97) 73 rfl B 5 i0 (.int .u8 0) 1 1 Tryz.underlying73 hi hz0 hz1 hz2 rfl (by decide) sv n xs rfl ho2 ⟨w.heap.size, i, none⟩ (65 - i) (65 - i) ((hexL u0).map cellB) rfl ?_ ?_ ?_ ?_ ?_ ?_ ?_))
        | fail)
      · rw [List.length_map, hl0.out]; omega
      · intro q x hq2
        rw [hx.out, List.getElem?_drop] at hq2
        have hc := hq.cell (i + q)
        rw [hq2] at hc
        rw [add_none]
        exact hc
      · intro x hx2
        obtain ⟨b, _, rfl⟩ := List.mem_map.1 hx2
        exact one_byte b _ (by simp)
      · unfold maxLen; omega
      · omega
      · have := fr2.size; omega
      intro v' w2 o2 gr2 _
      have f3 : Fr (rowB sv) w w2 := (fr2.mono (fun _ _ h => h.elim)).grown gr2 (fun k hk _ => hk)
      rw [← hl0.out] at o2
      clear hq ho2 fr2 hx gr2
      go_wp2_with fail
      go_ret2
      exact ⟨v', rfl, o2, f3⟩

theorem appendUint_16 (B n u0 : Nat) (hu0 : u0 ≤ 1114111) (sv : Value) (xs : List Value) (w : World) (hg : Gl w) (hown : w.ownsRow B 5 1 sv n xs) (hBw : B ≤ w.heap.size) (hlim : n + 65 ≤ 140737488355328) :
    Calls Tryz.prog 87 #[sv, .int .u64 u0, .int .i64 16] w fun e w' =>
      ∃ v', e = .returned v' ∧ w'.ownsRow B 5 1 v' (n + (hexL u0).length) (xs ++ (hexL u0).map cellB) ∧ Fr (rowB sv) w w' := by
  go_enter Tryz.func87, Tryz.ntmps87
  go_wp2_with fail
  refine (fb_16 B n u0 hu0 sv xs w hg hown hBw hlim).mono ?_
  rintro e w1 ⟨v', rfl, o1, f1⟩
  go_wp2_with fail
  go_ret
  exact ⟨v', rfl, o1, f1⟩
theorem iappendInt_16 (B n u0 : Nat) (hu0 : u0 ≤ 1114111) (sv : Value) (xs : List Value) (w : World) (hg : Gl w) (hown : w.ownsRow B 5 1 sv n xs) (hBw : B ≤ w.heap.size) (hlim : n + 65 ≤ 140737488355328) :
    Calls Tryz.prog 84 #[sv, .int .i64 u0, .int .i64 16] w fun e w' =>
      ∃ v', e = .returned v' ∧ w'.ownsRow B 5 1 v' (n + (hexL u0).length) (xs ++ (hexL u0).map cellB) ∧ Fr (rowB sv) w w' := by
  go_enter Tryz.func84, Tryz.ntmps84
  go_wp2_with fail
  refine (appendUint_16 B n u0 hu0 sv xs w hg hown hBw hlim).mono ?_
  rintro e w1 ⟨v', rfl, o1, f1⟩
  go_wp2_with fail
  go_ret
  exact ⟨v', rfl, o1, f1⟩
theorem appendInt_16 (B n u0 : Nat) (hu0 : u0 ≤ 1114111) (sv : Value) (xs : List Value) (w : World) (hg : Gl w) (hown : w.ownsRow B 5 1 sv n xs) (hBw : B ≤ w.heap.size) (hlim : n + 65 ≤ 140737488355328) :
    Calls Tryz.prog 79 #[sv, .int .i64 u0, .int .i64 16] w fun e w' =>
      ∃ v', e = .returned v' ∧ w'.ownsRow B 5 1 v' (n + (hexL u0).length) (xs ++ (hexL u0).map cellB) ∧ Fr (rowB sv) w w' := by
  go_enter Tryz.func79, Tryz.ntmps79
  go_wp2_with fail
  refine (iappendInt_16 B n u0 hu0 sv xs w hg hown hBw hlim).mono ?_
  rintro e w1 ⟨v', rfl, o1, f1⟩
  go_wp2_with fail
  go_ret
  exact ⟨v', rfl, o1, f1⟩
end Go.Proofs.YtbmafogjmdilkaaGreatDoor
