/-
  name.Count, Cut, Valid, Right, by the text's pieces.
-/
import Derived.Test.YtbmafogjmdilkaaGreatDoorIter
import Derived.Test.YtbmafogjmdilkaaGreatDoorShelf
import Derived.LoopTactic
set_option linter.unusedVariables false
set_option linter.unusedSimpArgs false
set_option maxRecDepth 100000
namespace Go.Proofs.YtbmafogjmdilkaaGreatDoor
open Go.RowKit Go

theorem size_len (s : ByteArray) : s.data.toList.length = s.size := rfl
theorem chunks_le (s : ByteArray) : (chunks s.data.toList).length ≤ s.size := chunks_len _

set_option maxHeartbeats 1000000 in
theorem count_any (s : ByteArray) (w : World) (hs : s.size ≤ maxLen) :
    Calls Tryz.prog 70 #[.string s] w fun e w' => e = .returned (.int .i64 (chunks s.data.toList).length) ∧ Fr noB w w' := by
  have hcl := chunks_le s
  unfold maxLen at hs
  go_enter Tryz.func70, Tryz.ntmps70
  go_wp2
  go_loopw [3] (fun n wr => ∃ (pos k : Nat), ItAt wr w.heap.size s pos ∧ Fr noB w wr ∧ n = .int .i64 k ∧ k + (chunks (s.data.toList.drop pos)).length = (chunks s.data.toList).length) (fun _ wr => s.size - wr.iterPos w.heap.size)
  case atStart => exact ⟨0, 0, it_new w s, (Fr.refl noB w).alloc _, rfl, by simp⟩
  case round =>
    obtain ⟨pos, k, it, fr, rfl, hk⟩ := hrel
    by_cases hp : pos < s.size
    · obtain ⟨w2, hnx, it2, f2, hz2⟩ := next_it (P := Tryz.prog) it hp
      have hd := dec_in hp
      have h1 := dec_pos (s.data.toList.drop pos)
      have hk2 : k + 1 + (chunks (s.data.toList.drop (pos + (dec (s.data.toList.drop pos)).2))).length = (chunks s.data.toList).length := by
        rw [chunks_cons _ (drop_lt hp), List.drop_drop, List.length_cons] at hk
        omega
      have hkb : k < s.size := by omega
      have hi1 := it.ipos
      have hi2 := it2.ipos
      replace hz2 := Lib.hid hz2
      replace hk := Lib.hid hk
      replace hk2 := Lib.hid hk2
      replace hi1 := Lib.hid hi1
      replace hi2 := Lib.hid hi2
      go_wp2
      go_roundw
      case rel => exact ⟨_, k + 1, it2, fr.seqB f2 (fun q => absurd q (Nat.lt_irrefl _)), by go_num, hk2.out⟩
      case measure => rw [hi1.out, hi2.out]; omega
    · have hnx := next_end (P := Tryz.prog) it hp
      rw [drop_end hp] at hk
      have hk' : k = (chunks s.data.toList).length := by simpa [chunks_nil] using hk
      replace hk' := Lib.hid hk'
      clear hk
      go_wp2
      go_ret
      exact ⟨ret_int' (by rw [hk'.out]), fr⟩

theorem fffd_iff (l : List UInt8) (h : l ≠ []) (hr : (dec l).1 = 65533) : Go.Lib.hasPrefix l [239, 191, 189] = okD l := by
  unfold Go.Lib.hasPrefix
  cases hok : okD l with
  | true =>
    have hc := enc_dec (l.take (dec l).2) (by intro e; have := congrArg List.length e; have h1 := dec_pos l; have h2 := dec_le l h; simp only [List.length_take, List.length_nil] at this; omega)
      (by have h2 := dec_le l h; rw [dec_chunk l h, List.length_take]; omega) (by rw [okD_chunk l h]; exact hok)
    rw [dec_chunk l h, hr] at hc
    rw [List.isPrefixOf_iff_prefix]
    exact ⟨l.drop (dec l).2, by rw [show ([239, 191, 189] : List UInt8) = encL 65533 by rfl, hc, List.take_append_drop]⟩
  | false =>
    cases hp : List.isPrefixOf [239, 191, 189] l with
    | false => rfl
    | true =>
      rw [List.isPrefixOf_iff_prefix] at hp
      obtain ⟨m, rfl⟩ := hp
      have h1 := dec_ext [239, 191, 189] m (by simp) (by decide)
      have h2 := (okD_false _).1 hok
      rw [h1] at h2
      exact absurd h2 (by decide)

theorem strB_lit (s : ByteArray) (l : List UInt8) (h : s.data = l.toArray) : s.data.toList = l := by rw [h]

theorem broken_any (s : ByteArray) (w : World) (h : s.data.toList ≠ []) :
    Calls Tryz.prog 77 #[.string s, .int .i32 (dec s.data.toList).1] w fun e w' => e = .returned (.bool !okD s.data.toList) ∧ w' = w := by
  have hf := fffd_iff s.data.toList h
  by_cases hr : (dec s.data.toList).1 = 65533
  · have hf2 := hf hr
    have hd : ((dec s.data.toList).1 : Int) = 65533 := by omega
    rw [hd]
    clear hf hd
    replace hr := Lib.hid hr
    replace hf2 := Lib.hid hf2
    replace h := Lib.hid h
    go_enter Tryz.func77, Tryz.ntmps77
    go_wp2_with fail
    refine (Tryz.strings_HasPrefix _ _ _).mono ?_
    rintro e w1 ⟨rfl, hw1⟩
    obtain rfl := hw1.symm
    go_wp2_with fail
    go_ret
    exact ⟨ret_bool (by rw [hf2.out]), rfl⟩
  · have hok : okD s.data.toList = true := (okD_iff _).2 (fun q => hr q.1)
    have hd : (((dec s.data.toList).1 : Int) == 65533) = false := by simp; omega
    clear hf
    replace hr := Lib.hid hr
    replace hok := Lib.hid hok
    replace h := Lib.hid h
    generalize hx : (dec s.data.toList).1 = x at *
    replace hx := Lib.hid hx
    go_enter Tryz.func77, Tryz.ntmps77
    go_wp2_with fail
    go_ret
    exact ⟨ret_bool (by rw [hok.out]; rfl), rfl⟩

theorem tail_eq (s : ByteArray) (pos : Nat) : (s.extract pos s.size).data.toList = s.data.toList.drop pos := by
  rw [Go.Lib.extract_data]
  rw [List.take_of_length_le (by rw [List.length_drop, size_len]; omega)]

/-- the first n runes' bytes, for whatever n -/
def cutI (l : List UInt8) (n : Int) : List UInt8 := cutL l n.toNat
theorem cut_step (l : List UInt8) (n : Nat) (h : l ≠ []) : cutL l (n + 1) = l.take (dec l).2 ++ cutL (l.drop (dec l).2) n := by
  unfold cutL
  rw [chunks_cons l h, List.take_succ_cons, List.flatten_cons]
theorem cut_zero (l : List UInt8) : cutL l 0 = [] := by simp [cutL]

set_option maxHeartbeats 1000000 in
theorem cut_any (s : ByteArray) (n : Int) (w : World) (hs : s.size ≤ maxLen) (hn : n ≤ 9223372036854775807) :
    Calls Tryz.prog 80 #[.string s, .int .i64 n] w fun e w' => e = .returned (.string (strB (cutI s.data.toList n))) ∧ Fr noB w w' := by
  unfold maxLen at hs
  by_cases h0 : n < 1
  · have hc : cutI s.data.toList n = [] := by unfold cutI; rw [show n.toNat = 0 by omega, cut_zero]
    replace hc := Lib.hid hc
    go_enter Tryz.func80, Tryz.ntmps80
    go_wp2
    go_ret
    exact ⟨ret_str (by rw [hc.out]; rfl), Fr.refl _ _⟩
  · go_enter Tryz.func80, Tryz.ntmps80
    go_wp2
    go_loopw [1, 5] (fun vn vi wr => ∃ (pos k : Nat), ItAt wr w.heap.size s pos ∧ Fr noB w wr ∧ pos ≤ s.size ∧ (k : Int) ≤ n ∧ vn = .int .i64 k ∧ cutI s.data.toList n = s.data.toList.take pos ++ cutL (s.data.toList.drop pos) k) (fun _ _ wr => s.size - wr.iterPos w.heap.size)
    case atStart => exact ⟨0, n.toNat, it_new w s, (Fr.refl noB w).alloc _, Nat.zero_le _, by omega, by congr 1; omega, by simp [cutI]⟩
    case round =>
      obtain ⟨pos, k, it, fr, hps, hkn, rfl, hk⟩ := hrel
      by_cases hp : pos < s.size
      · obtain ⟨w2, hnx, it2, f2, hz2⟩ := next_it (P := Tryz.prog) it hp
        have hd := dec_in hp
        have h1 := dec_pos (s.data.toList.drop pos)
        have hi1 := it.ipos
        have hi2 := it2.ipos
        have hne := drop_lt hp
        have fr2 := fr.seqB f2 (fun q => absurd q (Nat.lt_irrefl _))
        by_cases hk0 : k = 0
        · subst hk0
          rw [cut_zero, List.append_nil] at hk
          replace hz2 := Lib.hid hz2
          replace hk := Lib.hid hk
          replace hi1 := Lib.hid hi1
          replace hi2 := Lib.hid hi2
          replace hne := Lib.hid hne
          go_wp2
          go_ret
          exact ⟨ret_str (by rw [hk.out, ext_eq, List.drop_zero]), fr2⟩
        · obtain ⟨j, rfl⟩ : ∃ j, k = j + 1 := ⟨k - 1, by omega⟩
          have hk2 : cutI s.data.toList n = s.data.toList.take (pos + (dec (s.data.toList.drop pos)).2) ++ cutL (s.data.toList.drop (pos + (dec (s.data.toList.drop pos)).2)) j := by
            rw [hk, cut_step _ _ hne, ← List.append_assoc, List.drop_drop, List.take_add]
          have hb : (((j + 1 : Nat) : Int) == 0) = false := by simp; omega
          replace hz2 := Lib.hid hz2
          replace hk := Lib.hid hk
          replace hk2 := Lib.hid hk2
          replace hi1 := Lib.hid hi1
          replace hi2 := Lib.hid hi2
          replace hne := Lib.hid hne
          go_wp2
          go_roundw
          case rel => exact ⟨_, j, it2, fr2, hd, by omega, by go_num, hk2.out⟩
          case measure => rw [hi1.out, hi2.out]; omega
      · have hnx := next_end (P := Tryz.prog) it hp
        rw [drop_end hp] at hk
        have hk2 : cutI s.data.toList n = s.data.toList := by
          rw [hk, List.take_of_length_le (by rw [size_len]; omega)]
          simp [cutL, chunks_nil]
        replace hk := Lib.hid hk
        replace hk2 := Lib.hid hk2
        go_wp2
        go_ret
        exact ⟨ret_str (by rw [hk2.out, strB_of]), fr⟩

end Go.Proofs.YtbmafogjmdilkaaGreatDoor
