/-
  name.Count, Cut, Valid, Right, by the text's pieces.
  strconv.AppendInt at base 16, name.digit, name.Quote.
-/
import Derived.Test.YtdmhnoffejjpnaaGreatDoorZAC
import Derived.Test.YtdmhnoffejjpnaaGreatDoorShelf
import Derived.LoopTactic
import Derived.Shelf.Small.Bits
import Derived.Outline
import Derived.Deep.DeepMust
import Derived.Laws.BitsAllLaws
section
set_option linter.unusedVariables false
set_option linter.unusedSimpArgs false
set_option maxRecDepth 100000
namespace Go.Proofs.YtdmhnoffejjpnaaGreatDoor
open Go.RowKit Go

theorem size_len (s : ByteArray) : s.data.toList.length = s.size := rfl
theorem chunks_le (s : ByteArray) : (chunks s.data.toList).length ≤ s.size := chunks_len _

set_option maxHeartbeats 1000000 in
theorem count_any (s : ByteArray) (w : World) (hs : s.size ≤ maxLen) :
    Calls Tryz.prog 122 #[.string s] w fun e w' => e = .returned (.int .i64 (chunks s.data.toList).length) ∧ Fr noB w w' := by
  have hcl := chunks_le s
  unfold maxLen at hs
  go_enter Tryz.func122, Tryz.ntmps122
  go_wp2
  go_loopw [3] (fun n wr => ∃ (pos k : Nat), ItAt wr w.heap.size s pos ∧ Fr noB w wr ∧ n = .int .i64 k ∧ k + (chunks (s.data.toList.drop pos)).length = (chunks s.data.toList).length) (fun _ wr => s.size - wr.iterPos w.heap.size)
  case atStart => exact ⟨0, 0, it_new w s, (Fr.refl noB w).alloc _, rfl, by simp⟩
  case round =>
    obtain ⟨pos, k, it, fr, rfl, hk⟩ := hrel
    by_cases hp : pos < s.size
    · obtain ⟨w2, hnx, it2, f2, hz2⟩ := next_it (P := Tryz.prog) it hp
      have hd := dec_in hp
      have h1 := dec_pos (s.data.toList.drop pos)
      have hk2 : k + 1 + (chunks (s.data.toList.drop (pos + (dec (s.data.toList.drop pos)).2))).length = (chunks s.data.toList).length := by
        rw [chunks_cons _ (drop_lt hp), List.drop_drop, List.length_cons] at hk
        omega
      have hkb : k < s.size := by omega
      have hi1 := it.ipos
      have hi2 := it2.ipos
      replace hz2 := Lib.hid hz2
      replace hk := Lib.hid hk
      replace hk2 := Lib.hid hk2
      replace hi1 := Lib.hid hi1
      replace hi2 := Lib.hid hi2
      go_wp2
      go_roundw
      case rel => exact ⟨_, k + 1, it2, fr.seqB f2 (fun q => absurd q (Nat.lt_irrefl _)), by go_num, hk2.out⟩
      case measure => rw [hi1.out, hi2.out]; omega
    · have hnx := next_end (P := Tryz.prog) it hp
      rw [drop_end hp] at hk
      have hk' : k = (chunks s.data.toList).length := by simpa [chunks_nil] using hk
      replace hk' := Lib.hid hk'
      clear hk
      go_wp2
      go_ret
      exact ⟨ret_int' (by rw [hk'.out]), fr⟩

theorem fffd_iff (l : List UInt8) (h : l ≠ []) (hr : (dec l).1 = 65533) : Go.Lib.hasPrefix l [239, 191, 189] = okD l := by
  unfold Go.Lib.hasPrefix
  cases hok : okD l with
  | true =>
    have hc := enc_dec (l.take (dec l).2) (by intro e; have := congrArg List.length e; have h1 := dec_pos l; have h2 := dec_le l h; simp only [List.length_take, List.length_nil] at this; omega)
      (by have h2 := dec_le l h; rw [dec_chunk l h, List.length_take]; omega) (by rw [okD_chunk l h]; exact hok)
    rw [dec_chunk l h, hr] at hc
    rw [List.isPrefixOf_iff_prefix]
    exact ⟨l.drop (dec l).2, by rw [show ([239, 191, 189] : List UInt8) = encL 65533 by rfl, hc, List.take_append_drop]⟩
  | false =>
    cases hp : List.isPrefixOf [239, 191, 189] l with
    | false => rfl
    | true =>
      rw [List.isPrefixOf_iff_prefix] at hp
      obtain ⟨m, rfl⟩ := hp
      have h1 := dec_ext [239, 191, 189] m (by simp) (by decide)
      have h2 := (okD_false _).1 hok
      rw [h1] at h2
      exact absurd h2 (by decide)

theorem strB_lit (s : ByteArray) (l : List UInt8) (h : s.data = l.toArray) : s.data.toList = l := by rw [h]

theorem broken_any (s : ByteArray) (w : World) (h : s.data.toList ≠ []) :
    Calls Tryz.prog 149 #[.string s, .int .i32 (dec s.data.toList).1] w fun e w' => e = .returned (.bool !okD s.data.toList) ∧ w' = w := by
  have hf := fffd_iff s.data.toList h
  by_cases hr : (dec s.data.toList).1 = 65533
  · have hf2 := hf hr
    have hd : ((dec s.data.toList).1 : Int) = 65533 := by omega
    rw [hd]
    clear hf hd
    replace hr := Lib.hid hr
    replace hf2 := Lib.hid hf2
    replace h := Lib.hid h
    go_enter Tryz.func149, Tryz.ntmps149
    go_wp2_with fail
    refine (Tryz.strings_HasPrefix _ _ _).mono ?_
    rintro e w1 ⟨rfl, hw1⟩
    obtain rfl := hw1.symm
    go_wp2_with fail
    go_ret
    exact ⟨ret_bool (by rw [hf2.out]), rfl⟩
  · have hok : okD s.data.toList = true := (okD_iff _).2 (fun q => hr q.1)
    have hd : (((dec s.data.toList).1 : Int) == 65533) = false := by simp; omega
    clear hf
    replace hr := Lib.hid hr
    replace hok := Lib.hid hok
    replace h := Lib.hid h
    generalize hx : (dec s.data.toList).1 = x at *
    replace hx := Lib.hid hx
    go_enter Tryz.func149, Tryz.ntmps149
    go_wp2_with fail
    go_ret
    exact ⟨ret_bool (by rw [hok.out]; rfl), rfl⟩

theorem tail_eq (s : ByteArray) (pos : Nat) : (s.extract pos s.size).data.toList = s.data.toList.drop pos := by
  rw [Go.Lib.extract_data]
  rw [List.take_of_length_le (by rw [List.length_drop, size_len]; omega)]

/-- the first n runes' bytes, for whatever n -/
def cutI (l : List UInt8) (n : Int) : List UInt8 := cutL l n.toNat
theorem cut_step (l : List UInt8) (n : Nat) (h : l ≠ []) : cutL l (n + 1) = l.take (dec l).2 ++ cutL (l.drop (dec l).2) n := by
  unfold cutL
  rw [chunks_cons l h, List.take_succ_cons, List.flatten_cons]
theorem cut_zero (l : List UInt8) : cutL l 0 = [] := by simp [cutL]

set_option maxHeartbeats 1000000 in
theorem cut_any (s : ByteArray) (n : Int) (w : World) (hs : s.size ≤ maxLen) (hn : n ≤ 9223372036854775807) :
    Calls Tryz.prog 120 #[.string s, .int .i64 n] w fun e w' => e = .returned (.string (strB (cutI s.data.toList n))) ∧ Fr noB w w' := by
  unfold maxLen at hs
  by_cases h0 : n < 1
  · have hc : cutI s.data.toList n = [] := by unfold cutI; rw [show n.toNat = 0 by omega, cut_zero]
    replace hc := Lib.hid hc
    go_enter Tryz.func120, Tryz.ntmps120
    go_wp2
    go_ret
    exact ⟨ret_str (by rw [hc.out]; rfl), Fr.refl _ _⟩
  · go_enter Tryz.func120, Tryz.ntmps120
    go_wp2
    go_loopw [1, 5] (fun vn vi wr => ∃ (pos k : Nat), ItAt wr w.heap.size s pos ∧ Fr noB w wr ∧ pos ≤ s.size ∧ (k : Int) ≤ n ∧ vn = .int .i64 k ∧ cutI s.data.toList n = s.data.toList.take pos ++ cutL (s.data.toList.drop pos) k) (fun _ _ wr => s.size - wr.iterPos w.heap.size)
    case atStart => exact ⟨0, n.toNat, it_new w s, (Fr.refl noB w).alloc _, Nat.zero_le _, by omega, by congr 1; omega, by simp [cutI]⟩
    case round =>
      obtain ⟨pos, k, it, fr, hps, hkn, rfl, hk⟩ := hrel
      by_cases hp : pos < s.size
      · obtain ⟨w2, hnx, it2, f2, hz2⟩ := next_it (P := Tryz.prog) it hp
        have hd := dec_in hp
        have h1 := dec_pos (s.data.toList.drop pos)
        have hi1 := it.ipos
        have hi2 := it2.ipos
        have hne := drop_lt hp
        have fr2 := fr.seqB f2 (fun q => absurd q (Nat.lt_irrefl _))
        by_cases hk0 : k = 0
        · subst hk0
          rw [cut_zero, List.append_nil] at hk
          replace hz2 := Lib.hid hz2
          replace hk := Lib.hid hk
          replace hi1 := Lib.hid hi1
          replace hi2 := Lib.hid hi2
          replace hne := Lib.hid hne
          go_wp2
          go_ret
          exact ⟨ret_str (by rw [hk.out, ext_eq, List.drop_zero]), fr2⟩
        · obtain ⟨j, rfl⟩ : ∃ j, k = j + 1 := ⟨k - 1, by omega⟩
          have hk2 : cutI s.data.toList n = s.data.toList.take (pos + (dec (s.data.toList.drop pos)).2) ++ cutL (s.data.toList.drop (pos + (dec (s.data.toList.drop pos)).2)) j := by
            rw [hk, cut_step _ _ hne, ← List.append_assoc, List.drop_drop, List.take_add]
          have hb : (((j + 1 : Nat) : Int) == 0) = false := by simp; omega
          replace hz2 := Lib.hid hz2
          replace hk := Lib.hid hk
          replace hk2 := Lib.hid hk2
          replace hi1 := Lib.hid hi1
          replace hi2 := Lib.hid hi2
          replace hne := Lib.hid hne
          go_wp2
          go_roundw
          case rel => exact ⟨_, j, it2, fr2, hd, by omega, by go_num, hk2.out⟩
          case measure => rw [hi1.out, hi2.out]; omega
      · have hnx := next_end (P := Tryz.prog) it hp
        rw [drop_end hp] at hk
        have hk2 : cutI s.data.toList n = s.data.toList := by
          rw [hk, List.take_of_length_le (by rw [size_len]; omega)]
          simp [cutL, chunks_nil]
        replace hk := Lib.hid hk
        replace hk2 := Lib.hid hk2
        go_wp2
        go_ret
        exact ⟨ret_str (by rw [hk2.out, strB_of]), fr⟩

end Go.Proofs.YtdmhnoffejjpnaaGreatDoor
end

section
set_option linter.unusedVariables false
set_option linter.unusedSimpArgs false
set_option maxRecDepth 100000
namespace Go.Proofs.YtdmhnoffejjpnaaGreatDoor
open Go.RowKit Go

/-- the block that a row lies in -/
def rowB (v : Value) : Nat → Prop := fun k => v.ownBlock = some k

theorem digit_any (n : Nat) (w : World) (hn : n < 16) :
    Calls Tryz.prog 150 #[.int .u8 n] w fun e w' => e = .returned (.int .u8 (hexD n).toNat) ∧ w' = w := by
  have hh := hexD_nat n hn
  by_cases h : n < 10
  · rw [if_pos h] at hh
    replace hh := Lib.hid hh
    go_enter Tryz.func150, Tryz.ntmps150
    go_wp2
    go_ret
    exact ⟨ret_int' (by rw [hh.out]; omega), rfl⟩
  · rw [if_neg h] at hh
    replace hh := Lib.hid hh
    go_enter Tryz.func150, Tryz.ntmps150
    go_wp2
    go_ret
    exact ⟨ret_int' (by rw [hh.out]; omega), rfl⟩

theorem pow2_16 (w : World) : Calls Tryz.prog 179 #[.int .i64 16] w fun e w' => e = .returned (.bool true) ∧ w' = w := by
  go_enter Tryz.func179, Tryz.ntmps179
  go_wp2
  go_ret
  exact ⟨ret_bool (by decide), rfl⟩

theorem tz64_16 (w : World) (hg : Gl w) : Calls Tryz.prog 183 #[.int .u64 16] w fun e w' => e = .returned (.int .i64 4) ∧ w' = w := by
  have h := hg.tz
  have hv : IntKind.u64.wrap (bits BinOp.and IntKind.u64 16 (IntKind.u64.wrap (-16)) * 285870213051353865) / 288230376151711744 = 15 := by decide +kernel
  go_enter Tryz.func183, Tryz.ntmps183
  go_wp2
  go_ret
  exact ⟨rfl, rfl⟩
theorem tz_16 (w : World) (hg : Gl w) : Calls Tryz.prog 180 #[.int .u64 16] w fun e w' => e = .returned (.int .i64 4) ∧ w' = w := by
  go_enter Tryz.func180, Tryz.ntmps180
  go_wp2_with fail
  refine (tz64_16 w hg).mono ?_
  rintro e w1 ⟨rfl, hw1⟩
  obtain rfl := hw1.symm
  go_wp2
  go_ret
  exact ⟨rfl, rfl⟩

/-- the digits' string of the library -/
def digs : ByteArray := ⟨#[48, 49, 50, 51, 52, 53, 54, 55, 56, 57, 97, 98, 99, 100, 101, 102, 103, 104, 105, 106, 107, 108, 109, 110, 111, 112, 113, 114, 115, 116, 117, 118, 119, 120, 121, 122]⟩

theorem digs_get (d : Nat) (h : d < 16) (h2 : d < digs.size) : digs[d] = hexD d := by
  have h16 : d = 0 ∨ d = 1 ∨ d = 2 ∨ d = 3 ∨ d = 4 ∨ d = 5 ∨ d = 6 ∨ d = 7 ∨ d = 8 ∨ d = 9 ∨ d = 10 ∨ d = 11 ∨ d = 12 ∨ d = 13 ∨ d = 14 ∨ d = 15 := by omega
  rcases h16 with rfl | rfl | rfl | rfl | rfl | rfl | rfl | rfl | rfl | rfl | rfl | rfl | rfl | rfl | rfl | rfl <;> rfl
theorem and15 (u : Nat) (h : u ≤ 1114111) : bits BinOp.and IntKind.u64 (u : Int) 15 = ((u % 16 : Nat) : Int) := by
  have h1 := u64_and_nat u 15 (by omega) (by omega)
  rw [show (u &&& 15) = u % 16 from Nat.and_two_pow_sub_one_eq_mod u 4] at h1
  exact h1

theorem slice65 (g i : Nat) (h : i < 65) : ∀ w : World, (Instr.sliceAt 248 (.pointer (some ⟨g, 0, none⟩)) (some (.int .i64 (i : Int))) none none).run Tryz.prog w = .ok (.slice (some ⟨g, i, none⟩) (65 - i) (65 - i)) w := by
  intro w
  have ea : Tryz.prog.arrayLen 248 = 65 := by kernel_rfl
  have ez : ∀ w, (sizeOf (Tryz.prog.elem 248)).run Tryz.prog w = .ok 1 w := fun w => by kernel_rfl
  rw [run_sliceAt_array_l w 248 ⟨g, 0, none⟩ Tryz.underlying248 .i64 i (by omega) (by rw [ea]; omega), ez, ea]
  simp only [Result.andThen, slicedAt, Int.toNat_natCast]
  rw [if_neg (by omega)]
  simp [Addr.add]
  omega

set_option maxHeartbeats 2000000 in
theorem fb_16 (B n u0 : Nat) (hu0 : u0 ≤ 1114111) (sv : Value) (xs : List Value) (w : World) (hg : Gl w) (hown : w.ownsRow B 5 1 sv n xs) (hBw : B ≤ w.heap.size) (hlim : n + 65 ≤ 140737488355328) :
    Calls Tryz.prog 174 #[sv, .int .u64 u0, .int .i64 16, .bool false, .bool true] w fun e w' =>
      ∃ v', e = .returned (.tuple #[v', .string ByteArray.empty]) ∧ w'.ownsRow B 5 1 v' (n + (hexL u0).length) (xs ++ (hexL u0).map cellB) ∧ Fr (rowB sv) w w' := by
  obtain ⟨i0, hi, hz0, hz1, hz2⟩ := info_parts Tryz.infoByte
  go_enter Tryz.func174, Tryz.ntmps174
  go_wp2_with fail
  refine (pow2_16 _).mono ?_
  rintro e w1 ⟨rfl, hw1⟩
  obtain rfl := hw1.symm
  go_wp2_with fail
  refine (tz_16 _ (hg.fr ((Fr.refl noB w).alloc _))).mono ?_
  rintro e w1 ⟨rfl, hw1⟩
  obtain rfl := hw1.symm
  go_wp2_with fail
  have hzc : Tryz.zeroCells248.toList.length = 65 := by kernel_rfl
  go_loopw [1, 13] (fun vu vi wr => ∃ (u j : Nat) (cs : List Value) , vu = .int .u64 u ∧ vi = .int .i64 j ∧ Blk wr w.heap.size 248 cs ∧ cs.length = 65 ∧ j ≤ 65 ∧ u ≤ u0 ∧ (hexL u0).map cellB = (hexL u).map cellB ++ cs.drop j ∧ Fr noB w wr) (fun vu _ _ => (intOf vu).toNat)
  case atStart => exact ⟨u0, 65, Tryz.zeroCells248.toList, rfl, rfl, Blk.new _ _ _, by kernel_rfl, Nat.le_refl _, Nat.le_refl _, by rw [List.drop_of_length_le (by rw [hzc]; omega)]; simp, (Fr.refl noB w).alloc _⟩
  case round =>
    obtain ⟨u, j, cs, rfl, rfl, hb, hcl, hj, hu, hh, fr⟩ := hrel
    have hlen := congrArg List.length hh
    have l0 := hexL_len u0
    have l1 := hexL_len u
    rw [List.length_append, List.length_map, List.length_map, List.length_drop, hcl] at hlen
    have hj1 : 57 ≤ j := by omega
    have hfz : wr.frozen? ⟨w.heap.size, j - 1, none⟩ = false := hb.frozen _
    have hcj : wr.cell? ⟨w.heap.size, j - 1, none⟩ = some (cs.getD (j - 1) (.int .u8 0)) := by
      rw [hb.cell, List.getD, List.getElem?_eq_getElem (by omega)]; rfl
    obtain ⟨i, rfl⟩ : ∃ i, j = i + 1 := ⟨j - 1, by omega⟩
    rw [Nat.add_sub_cancel] at hfz hcj
    have hdi : ∀ b : Nat, b < 16 → (cs.set i (.int .u8 ((hexD b).toNat : Int))).drop i = cellB (hexD b) :: cs.drop (i + 1) := by
      intro b hb
      rw [List.drop_eq_getElem_cons (by rw [List.length_set]; omega), List.getElem_set_self, List.drop_set_of_lt (by omega)]
      rfl
    by_cases h16 : 16 ≤ u
    · have hand := and15 u (by omega)
      replace hlen := Lib.hid hlen
      replace hh := Lib.hid hh
      go_wp2_with fail
      go_roundw
      case rel =>
        refine ⟨u / 16, i, cs.set i (.int .u8 ((hexD (u % 16)).toNat : Int)), by go_num, rfl, ?_, by rw [List.length_set]; exact hcl, by omega, by omega, ?_, fr.storeNew (Nat.le_refl _)⟩
        · have hq := hb.set i (.int .u8 ((hexD (u % 16)).toNat : Int))
          rw [← digs_get (u % 16) (by omega) (show u % 16 < 36 by omega)] at hq
          rw [← digs_get (u % 16) (by omega) (show u % 16 < 36 by omega)]
          exact hq
        · rw [hh.out, hdi _ (by omega), hexL_step u h16 (by omega)]
          simp
      case measure => simp [intOf]; omega
    · have hq := hb.set i (.int .u8 ((hexD u).toNat : Int))
      have hx : (hexL u0).map cellB = (cs.set i (.int .u8 ((hexD u).toNat : Int))).drop i := by
        rw [hh, hdi u (by omega), hexL_small u (by omega)]
        rfl
      have hl : (cs.set i (.int .u8 ((hexD u).toNat : Int))).length = 65 := by rw [List.length_set]; exact hcl
      have hl0 : (hexL u0).length = 65 - i := by
        have := congrArg List.length hx
        rw [List.length_map, List.length_drop, hl] at this
        exact this
      have fr2 : Fr noB w (wr.setCell ⟨w.heap.size, i, none⟩ (.int .u8 ((hexD u).toNat : Int))) := fr.storeNew (Nat.le_refl _)
      have ho2 := ownsRow_fr hown fr2 (fun q _ h => h)
      rw [← digs_get u (by omega) (show u < 36 by omega)] at hq ho2 fr2 hx
      unfold digs at hq ho2 fr2 hx
      replace hlen := Lib.hid hlen
      replace hh := Lib.hid hh
      replace hcl := Lib.hid hcl
      replace hl := Lib.hid hl
      replace hl0 := Lib.hid hl0
      replace hx := Lib.hid hx
      have hsl := slice65 w.heap.size i (by omega)
      clear hdi
      go_wp2_with (first
        | (at_builtin; go_must (refine wpList_append_at _ rfl (.tmp 95) (.tmp 97) 119 rfl B 5 i0 (.int .u8 0) 1 1 Tryz.underlying119 hi hz0 hz1 hz2 rfl (by decide) sv n xs rfl ho2 ⟨w.heap.size, i, none⟩ (65 - i) (65 - i) ((hexL u0).map cellB) rfl ?_ ?_ ?_ ?_ ?_ ?_ ?_))
        | fail)
      · rw [List.length_map, hl0.out]; omega
      · intro q x hq2
        rw [hx.out, List.getElem?_drop] at hq2
        have hc := hq.cell (i + q)
        rw [hq2] at hc
        rw [add_none]
        exact hc
      · intro x hx2
        obtain ⟨b, _, rfl⟩ := List.mem_map.1 hx2
        exact one_byte b _ (by simp)
      · unfold maxLen; omega
      · omega
      · have := fr2.size; omega
      intro v' w2 o2 gr2 _
      have f3 : Fr (rowB sv) w w2 := (fr2.mono (fun _ _ h => h.elim)).grown gr2 (fun k hk _ => hk)
      rw [← hl0.out] at o2
      clear hq ho2 fr2 hx gr2
      go_wp2_with fail
      go_ret2
      exact ⟨v', rfl, o2, f3⟩

theorem appendUint_16 (B n u0 : Nat) (hu0 : u0 ≤ 1114111) (sv : Value) (xs : List Value) (w : World) (hg : Gl w) (hown : w.ownsRow B 5 1 sv n xs) (hBw : B ≤ w.heap.size) (hlim : n + 65 ≤ 140737488355328) :
    Calls Tryz.prog 167 #[sv, .int .u64 u0, .int .i64 16] w fun e w' =>
      ∃ v', e = .returned v' ∧ w'.ownsRow B 5 1 v' (n + (hexL u0).length) (xs ++ (hexL u0).map cellB) ∧ Fr (rowB sv) w w' := by
  go_enter Tryz.func167, Tryz.ntmps167
  go_wp2_with fail
  refine (fb_16 B n u0 hu0 sv xs w hg hown hBw hlim).mono ?_
  rintro e w1 ⟨v', rfl, o1, f1⟩
  go_wp2_with fail
  go_ret
  exact ⟨v', rfl, o1, f1⟩
theorem iappendInt_16 (B n u0 : Nat) (hu0 : u0 ≤ 1114111) (sv : Value) (xs : List Value) (w : World) (hg : Gl w) (hown : w.ownsRow B 5 1 sv n xs) (hBw : B ≤ w.heap.size) (hlim : n + 65 ≤ 140737488355328) :
    Calls Tryz.prog 159 #[sv, .int .i64 u0, .int .i64 16] w fun e w' =>
      ∃ v', e = .returned v' ∧ w'.ownsRow B 5 1 v' (n + (hexL u0).length) (xs ++ (hexL u0).map cellB) ∧ Fr (rowB sv) w w' := by
  go_enter Tryz.func159, Tryz.ntmps159
  go_wp2_with fail
  refine (appendUint_16 B n u0 hu0 sv xs w hg hown hBw hlim).mono ?_
  rintro e w1 ⟨v', rfl, o1, f1⟩
  go_wp2_with fail
  go_ret
  exact ⟨v', rfl, o1, f1⟩
theorem appendInt_16 (B n u0 : Nat) (hu0 : u0 ≤ 1114111) (sv : Value) (xs : List Value) (w : World) (hg : Gl w) (hown : w.ownsRow B 5 1 sv n xs) (hBw : B ≤ w.heap.size) (hlim : n + 65 ≤ 140737488355328) :
    Calls Tryz.prog 151 #[sv, .int .i64 u0, .int .i64 16] w fun e w' =>
      ∃ v', e = .returned v' ∧ w'.ownsRow B 5 1 v' (n + (hexL u0).length) (xs ++ (hexL u0).map cellB) ∧ Fr (rowB sv) w w' := by
  go_enter Tryz.func151, Tryz.ntmps151
  go_wp2_with fail
  refine (iappendInt_16 B n u0 hu0 sv xs w hg hown hBw hlim).mono ?_
  rintro e w1 ⟨v', rfl, o1, f1⟩
  go_wp2_with fail
  go_ret
  exact ⟨v', rfl, o1, f1⟩
end Go.Proofs.YtdmhnoffejjpnaaGreatDoor
end
