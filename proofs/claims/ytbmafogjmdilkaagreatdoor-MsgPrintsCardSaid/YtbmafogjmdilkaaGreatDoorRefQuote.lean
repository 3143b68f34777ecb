/-
  The reference's Quote.
-/
import Derived.Test.YtbmafogjmdilkaaGreatDoorRefF
import Derived.Test.YtbmafogjmdilkaaGreatDoorQuote
set_option linter.unusedVariables false
set_option linter.unusedSimpArgs false
set_option maxRecDepth 100000
namespace Go.Proofs.YtbmafogjmdilkaaGreatDoor
open Go.RowKit Go

theorem hex_int (x : Int) (w : World) (h0 : 0 ≤ x) (h1 : x ≤ 1114111) : Calls Tryz.prog 75 #[.int .i64 x] w fun e w' => e = .returned (.string (strB (hexL x.toNat))) ∧ Fr noB w w' := by
  have := rhex_nat x.toNat (by omega) w
  rw [show ((x.toNat : Nat) : Int) = x by omega] at this
  exact this.mono fun e w' ⟨h, k, hk⟩ => ⟨h, by rw [hk]; exact (Fr.refl noB w).drewN k⟩

set_option maxRecDepth 100000 in
set_option maxHeartbeats 4000000 in
theorem rquote_any (s : ByteArray) (w : World) (hs : s.size ≤ 1000000) :
    Calls Tryz.prog 61 #[.string s] w fun e w' => e = .returned (.string (strB (quoteL s.data.toList))) ∧ Fr noB w w' := by
  have hql := quote_len s.data.toList
  rw [size_len] at hql
  go_enter Tryz.func61, Tryz.ntmps61
  go_wp2_with fail
  go_loopw [0, 3, 4, 5] (fun vs v _ _ wr => ∃ (r : ByteArray) (o : List UInt8), vs = .string r ∧ v = .string (strB o) ∧ Fr noB w wr ∧ r.size ≤ s.size ∧ quoteL s.data.toList = o ++ quoteL r.data.toList) (fun vs _ _ _ _ => match vs with | .string r => r.size | _ => 0)
  case atStart => exact ⟨s, [], rfl, rfl, Fr.refl _ _, Nat.le_refl _, rfl⟩
  case round =>
    obtain ⟨r, o, rfl, rfl, fr, hrs, hk⟩ := hrel
    by_cases h0 : r.size = 0
    · have hr : r.data.toList = [] := List.eq_nil_of_length_eq_zero h0
      rw [hr, quote_nil, List.append_nil] at hk
      have h0' : ¬ (0 : Int) < r.size := by omega
      replace hr := Lib.hid hr
      replace hk := Lib.hid hk
      go_wp2_with fail
      go_ret
      exact ⟨ret_str (by rw [hk.out]), fr⟩
    · have hne : r.data.toList ≠ [] := fun e => h0 (by have := congrArg List.length e; rw [size_len] at this; exact this)
      have hol : o.length ≤ 12 * s.size := by
        have := congrArg List.length hk
        rw [List.length_append] at this
        omega
      have hf := first_any r wr (by omega) hne
      have h1 := dec_pos r.data.toList
      have h2 := dec_le _ hne
      have hrl := dec_rune r.data.toList
      rw [size_len] at h2
      rw [quote_cons _ hne] at hk
      unfold firstV at hf
      have hl : (r.extract (dec r.data.toList).2 r.size).data.toList = r.data.toList.drop (dec r.data.toList).2 := tail_eq r _
      have hz : (r.extract (dec r.data.toList).2 r.size).size = r.size - (dec r.data.toList).2 := by rw [← size_len, hl, List.length_drop, size_len]
      have hpre : r.extract 0 (dec r.data.toList).2 = strB (r.data.toList.take (dec r.data.toList).2) := by rw [ext_eq, List.drop_zero]
      have hcne : r.data.toList.take (dec r.data.toList).2 ≠ [] := by
        intro e
        have := congrArg List.length e
        simp only [List.length_take, List.length_nil, size_len] at this
        omega
      have hcw : (dec (r.data.toList.take (dec r.data.toList).2)).2 = (r.data.toList.take (dec r.data.toList).2).length := by
        rw [dec_chunk _ hne, List.length_take, size_len]; omega
      have hdc := dec_chunk _ hne
      have hokc := okD_chunk _ hne
      have hcl : (r.data.toList.take (dec r.data.toList).2).length ≤ 4 := by
        have := dec_w4 r.data.toList
        rw [List.length_take]; omega
      have hz0 : 0 < r.size := by omega
      have hb0 : (r.data.toList.take (dec r.data.toList).2).getD 0 0 = r[0] := by
        have h3 := at_get r 0 hz0
        rw [← h3]
        simp only [List.getD]
        rw [List.getElem?_take, if_pos (by omega)]
      generalize hc : r.data.toList.take (dec r.data.toList).2 = c at *
      generalize hR : (dec r.data.toList).1 = R at *
      generalize hW : (dec r.data.toList).2 = W at *
      generalize hO : okD r.data.toList = O at *
      have hk2 : quoteL s.data.toList = (o ++ qC c) ++ quoteL (r.extract W r.size).data.toList := by rw [hk, hl, List.append_assoc]
      have hz2 : (r.extract W r.size).size ≤ s.size := by rw [hz]; omega
      have hz3 : (r.extract W r.size).size < r.size := by rw [hz]; omega
      have hso : (strB o).size = o.length := rfl
      have hso2 : (strB o).size ≤ 12000000 := by rw [hso]; omega
      replace hc := Lib.hid hc
      replace hR := Lib.hid hR
      replace hW := Lib.hid hW
      replace hO := Lib.hid hO
      replace hk := Lib.hid hk
      replace hk2 := Lib.hid hk2
      replace hz2 := Lib.hid hz2
      replace hz3 := Lib.hid hz3
      replace hl := Lib.hid hl
      replace hz := Lib.hid hz
      replace hne := Lib.hid hne
      replace hf := Lib.hid hf
      replace hcne := Lib.hid hcne
      replace hcw := Lib.hid hcw
      replace hso := Lib.hid hso
      have h0' : (0 : Int) < r.size := by omega
      cases O with
      | false =>
        obtain ⟨b, hcb, hb128⟩ := bad_one c ⟨hcne.out, hcw.out⟩ hokc
        subst hcb
        have hq := qC_bad b hokc
        have hbs : r[0] = b := by rw [← hb0]; rfl
        have hblt := b.toNat_lt
        have x1 : (strB (hexL (b.toNat / 16))).size ≤ 9 := (hexL_len _).2
        have x2 : (strB (hexL (b.toNat % 16))).size ≤ 9 := (hexL_len _).2
        have hcat : strB o ++ (ByteArray.mk #[92, 120] ++ strB (hexL (b.toNat / 16)) ++ strB (hexL (b.toNat % 16))) = strB (o ++ qC [b]) := by
          rw [hq, hexL_small _ (by omega), hexL_small _ (by omega), show ByteArray.mk #[92, 120] = strB [92, 120] from rfl, strB_append, strB_append, strB_append]
          rfl
        replace hcat := Lib.hid hcat
        replace hq := Lib.hid hq
        replace hokc := Lib.hid hokc
        replace hdc := Lib.hid hdc
        replace hb0 := Lib.hid hb0
        replace hpre := Lib.hid hpre
        go_wp2_with fail
        refine hf.out.mono ?_
        rintro e w2 ⟨rfl, f2⟩
        have fr2 := fr.seqN f2
        clear hf
        have hbk := Blk.new w2 122 [.int .i64 (R : Nat), .int .i64 (W : Nat), .bool false]
        go_wp2_with fail
        refine (hex_int _ _ (by omega) (by omega)).mono ?_
        rintro e w3 ⟨rfl, f3⟩
        have fr3 := (fr2.alloc _).seqN f3
        have hbk3 := f3.keepN hbk
        clear hbk
        go_wp2_with fail
        refine (hex_int _ _ (by omega) (by omega)).mono ?_
        rintro e w4 ⟨rfl, f4⟩
        have fr4 := fr3.seqN f4
        have hbk4 := f4.keepN hbk3
        have c1 : w4.cell? ⟨w2.heap.size, 1, none⟩ = some (.int .i64 (W : Nat)) := hbk4.cell 1
        clear hbk3 hbk4 f3 f4 fr2
        go_wp2_with fail
        go_roundw
        case rel => exact ⟨_, o ++ qC [b], rfl, by rw [← hcat.out]; first | rfl | skip, fr4, hz2.out, hk2.out⟩
        case measure => simp only; exact hz3.out
      | true =>
        have hcr : (dec c).1 = R := by rw [hdc]; exact hR.out
        by_cases h92 : R = 92
        · subst h92
          have hq := qC_slash c hokc hcr
          have hcat : strB o ++ ByteArray.mk #[92, 92] = strB (o ++ qC c) := by
            rw [hq, show ByteArray.mk #[92, 92] = strB [92, 92] from rfl, strB_append]
          replace hcat := Lib.hid hcat
          replace hq := Lib.hid hq
          replace hokc := Lib.hid hokc
          replace hdc := Lib.hid hdc
          replace hb0 := Lib.hid hb0
          replace hpre := Lib.hid hpre
          replace hcr := Lib.hid hcr
          go_wp2_with fail
          refine hf.out.mono ?_
          rintro e w2 ⟨rfl, f2⟩
          have fr2 := fr.seqN f2
          clear hf
          go_wp2_with fail
          go_roundw
          case rel => exact ⟨_, o ++ qC c, rfl, by rw [← hcat.out], fr2.alloc _, hz2.out, hk2.out⟩
          case measure => simp only; exact hz3.out
        · have b92 : ((R : Int) == 92) = false := by simp; omega
          by_cases hpr : printR R = true
          · have hq := qC_plain c hokc (by rw [hcr]; exact h92) (by rw [hcr]; exact hpr)
            have hcat : strB o ++ strB c = strB (o ++ qC c) := by rw [hq, strB_append]
            have hsc : (strB c).size ≤ 4 := hcl
            have hrb : (32 ≤ R ∧ R ≤ 126) ∨ (161 ≤ R ∧ R ≤ 591) := by
              unfold printR at hpr
              simpa using hpr
            replace hcat := Lib.hid hcat
            replace hq := Lib.hid hq
            replace hokc := Lib.hid hokc
            replace hdc := Lib.hid hdc
            replace hb0 := Lib.hid hb0
            replace hcr := Lib.hid hcr
            replace hpr := Lib.hid hpr
            rcases hrb with ⟨ha, hb⟩ | ⟨ha, hb⟩
            · go_wp2_with fail
              refine hf.out.mono ?_
              rintro e w2 ⟨rfl, f2⟩
              have fr2 := fr.seqN f2
              clear hf
              go_wp2_with fail
              go_roundw
              case rel => exact ⟨_, o ++ qC c, rfl, by rw [← hcat.out], fr2.alloc _, hz2.out, hk2.out⟩
              case measure => simp only; exact hz3.out
            · have hg126 : ¬ (R : Int) ≤ 126 := by omega
              go_wp2_with fail
              refine hf.out.mono ?_
              rintro e w2 ⟨rfl, f2⟩
              have fr2 := fr.seqN f2
              clear hf
              go_wp2_with fail
              go_roundw
              case rel => exact ⟨_, o ++ qC c, rfl, by rw [← hcat.out], fr2.alloc _, hz2.out, hk2.out⟩
              case measure => simp only; exact hz3.out
          · have hq := qC_num c hokc (by rw [hcr]; exact h92) (by rw [hcr]; exact hpr)
            rw [hcr] at hq
            have hcat : strB o ++ (ByteArray.mk #[92, 117] ++ strB (hexL R) ++ ByteArray.mk #[46]) = strB (o ++ qC c) := by
              rw [hq, show ByteArray.mk #[92, 117] = strB [92, 117] from rfl, show ByteArray.mk #[46] = strB [46] from rfl, strB_append, strB_append, strB_append]
            have hrb : R < 32 ∨ (126 < R ∧ R < 161) ∨ 591 < R := by
              unfold printR at hpr
              simp at hpr
              omega
            have x1 : (strB (hexL R)).size ≤ 9 := (hexL_len _).2
            replace hcat := Lib.hid hcat
            replace hq := Lib.hid hq
            replace hokc := Lib.hid hokc
            replace hdc := Lib.hid hdc
            replace hb0 := Lib.hid hb0
            replace hcr := Lib.hid hcr
            replace hpr := Lib.hid hpr
            replace hpre := Lib.hid hpre
            rcases hrb with ha | ⟨ha, hb⟩ | ha
            · have n1 : ¬ (32 : Int) ≤ R := by omega
              have n2 : ¬ (161 : Int) ≤ R := by omega
              go_wp2_with fail
              refine hf.out.mono ?_
              rintro e w2 ⟨rfl, f2⟩
              have fr2 := fr.seqN f2
              clear hf
              have hbk := Blk.new w2 122 [.int .i64 (R : Nat), .int .i64 (W : Nat), .bool true]
              go_wp2_with fail
              refine (hex_int _ _ (by omega) (by omega)).mono ?_
              rintro e w3 ⟨rfl, f3⟩
              have fr3 := (fr2.alloc _).seqN f3
              have hbk3 := f3.keepN hbk
              have c1 : w3.cell? ⟨w2.heap.size, 1, none⟩ = some (.int .i64 (W : Nat)) := hbk3.cell 1
              clear hbk hbk3 f3 fr2
              go_wp2_with fail
              go_roundw
              case rel => exact ⟨_, o ++ qC c, rfl, by rw [← hcat.out]; first | rfl | skip, fr3, hz2.out, hk2.out⟩
              case measure => simp only; exact hz3.out
            · have n1 : ¬ (R : Int) ≤ 126 := by omega
              have n2 : ¬ (161 : Int) ≤ R := by omega
              have n3 : 32 ≤ R := by omega
              go_wp2_with fail
              refine hf.out.mono ?_
              rintro e w2 ⟨rfl, f2⟩
              have fr2 := fr.seqN f2
              clear hf
              have hbk := Blk.new w2 122 [.int .i64 (R : Nat), .int .i64 (W : Nat), .bool true]
              go_wp2_with fail
              refine (hex_int _ _ (by omega) (by omega)).mono ?_
              rintro e w3 ⟨rfl, f3⟩
              have fr3 := (fr2.alloc _).seqN f3
              have hbk3 := f3.keepN hbk
              have c1 : w3.cell? ⟨w2.heap.size, 1, none⟩ = some (.int .i64 (W : Nat)) := hbk3.cell 1
              clear hbk hbk3 f3 fr2
              go_wp2_with fail
              go_roundw
              case rel => exact ⟨_, o ++ qC c, rfl, by rw [← hcat.out]; first | rfl | skip, fr3, hz2.out, hk2.out⟩
              case measure => simp only; exact hz3.out
            · have n1 : ¬ (R : Int) ≤ 126 := by omega
              have n2 : ¬ (R : Int) ≤ 591 := by omega
              have n3 : 32 ≤ R := by omega
              have n4 : 161 ≤ R := by omega
              go_wp2_with fail
              refine hf.out.mono ?_
              rintro e w2 ⟨rfl, f2⟩
              have fr2 := fr.seqN f2
              clear hf
              have hbk := Blk.new w2 122 [.int .i64 (R : Nat), .int .i64 (W : Nat), .bool true]
              go_wp2_with fail
              refine (hex_int _ _ (by omega) (by omega)).mono ?_
              rintro e w3 ⟨rfl, f3⟩
              have fr3 := (fr2.alloc _).seqN f3
              have hbk3 := f3.keepN hbk
              have c1 : w3.cell? ⟨w2.heap.size, 1, none⟩ = some (.int .i64 (W : Nat)) := hbk3.cell 1
              clear hbk hbk3 f3 fr2
              go_wp2_with fail
              go_roundw
              case rel => exact ⟨_, o ++ qC c, rfl, by rw [← hcat.out]; first | rfl | skip, fr3, hz2.out, hk2.out⟩
              case measure => simp only; exact hz3.out
end Go.Proofs.YtbmafogjmdilkaaGreatDoor
