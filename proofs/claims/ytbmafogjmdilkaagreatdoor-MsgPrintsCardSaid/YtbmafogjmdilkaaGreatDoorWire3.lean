/-
  wire: a number taken from the front of a text.
-/
import Derived.Test.YtbmafogjmdilkaaGreatDoorWire2
import Derived.OwnWalk
set_option linter.unusedVariables false
set_option linter.unusedSimpArgs false
set_option maxRecDepth 100000
namespace Go.Proofs.YtbmafogjmdilkaaGreatDoor
open Go.RowKit Go Go.Lib

def NumPost (l : List UInt8) (e : Ending) : Prop :=
  (∃ (n : Nat) (t : List UInt8), numS 0 l = some (n, t) ∧ e = .returned (.tuple #[.int .i64 n, .string (strB t), .bool true])) ∨
  (numS 0 l = none ∧ ∃ (x : Int) (r : ByteArray), e = .returned (.tuple #[.int .i64 x, .string r, .bool false]))

theorem width3 (l : List UInt8) (h : l ≠ []) (h1 : 4352 ≤ (dec l).1) (h2 : (dec l).1 < 8448) : (dec l).2 = 3 := by
  have hok : okD l = true := by rw [okD_iff]; omega
  have hne : l.take (dec l).2 ≠ [] := by
    intro e
    have := congrArg List.length e
    simp only [List.length_take, List.length_nil] at this
    have h1 := dec_pos l
    have h2 := List.length_pos_iff.2 h
    omega
  have hk := enc_dec (l.take (dec l).2) hne (by rw [dec_chunk l h, List.length_take]; have := dec_le l h; omega) (by rw [okD_chunk l h]; exact hok)
  rw [dec_chunk l h, enc3 _ (by omega) (by omega)] at hk
  have := congrArg List.length hk
  rw [List.length_take] at this
  have := dec_le l h
  simp at *
  omega
theorem rlen_any (R : Int) (w : World) (h1 : 4352 ≤ R) (h2 : R < 8448) : Calls Tryz.prog 73 #[.int .i32 R] w fun e w' => e = .returned (.int .i64 3) ∧ ∃ k, w' = w.drewN k := by
  refine (Tryz.utf8_RuneLen R w).mono ?_
  rintro e w' ⟨rfl, rfl⟩
  refine ⟨?_, 0, rfl⟩
  unfold Lib.runeLen
  rw [if_neg (by omega), if_neg (by omega), if_neg (by omega), if_neg (by omega), if_pos (by omega)]
theorem slice_tail (s : ByteArray) (j : Nat) (J : Int) (hJ : J = (j : Int)) (h : j ≤ s.size) (hs : s.size ≤ 1000000) : ∀ w : World, (Instr.slice 9 (.string s) (some (.int .i64 J)) none none).run Tryz.prog w = .ok (.string (s.extract j s.size)) w := by
  intro w
  subst hJ
  rw [run_slice_string_l w 9 s Tryz.underlying9 .i64 (j : Int) (by omega) (by omega), Int.toNat_natCast]

set_option maxHeartbeats 2000000 in
theorem numr_any (s : ByteArray) (w : World) (hs : s.size ≤ 1000000) :
    Calls Tryz.prog 59 #[.string s] w fun e w' => NumPost s.data.toList e ∧ Fr noB w w' := by
  go_enter Tryz.func59, Tryz.ntmps59
  go_wp2_with fail
  go_loopw [2] (fun v wr => ∃ (pos acc : Nat), ItAt wr w.heap.size s pos ∧ Fr noB w wr ∧ pos ≤ s.size ∧ v = .int .i64 acc ∧ Hid (acc ≤ 9007199254745088) ∧ Hid (numS 0 s.data.toList = numS acc (s.data.toList.drop pos))) (fun _ wr => s.size - wr.iterPos w.heap.size)
  case atStart => exact ⟨0, 0, it_new w s, (Fr.refl _ _).alloc _, Nat.zero_le _, rfl, Lib.hid (by omega), Lib.hid rfl⟩
  case round =>
    obtain ⟨pos, acc, it, fr, hps, rfl, hab, hk⟩ := hrel
    by_cases hp : pos < s.size
    · obtain ⟨w2, hnx, it2, f2, hz2⟩ := next_it (P := Tryz.prog) it hp
      have hd := dec_in hp
      have h1 := dec_pos (s.data.toList.drop pos)
      have hne := drop_lt hp
      have hi1 := it.ipos
      have hi2 := it2.ipos
      have fr2 := fr.seqB f2 (fun q => absurd q (Nat.lt_irrefl _))
      have hst := numS_step acc _ hne
      rw [List.drop_drop] at hst
      have hw3 := width3 _ hne
      have hR := dec_rune (s.data.toList.drop pos)
      have hdl : ∀ j, (s.extract j s.size).data.toList = s.data.toList.drop j := tail_eq s
      generalize (dec (s.data.toList.drop pos)).1 = R at *
      generalize (dec (s.data.toList.drop pos)).2 = W at *
      have hb := hab.out
      replace hz2 := Lib.hid hz2
      replace hi1 := Lib.hid hi1
      replace hi2 := Lib.hid hi2
      replace hne := Lib.hid hne
      replace hst := Lib.hid hst
      replace hw3 := Lib.hid hw3
      replace hdl := Lib.hid hdl
      clear it f2
      have hR0 : (0 : Int) ≤ R := by omega
      have hR1 : (R : Int) ≤ 1114111 := by omega
      have ha0 : (0 : Int) ≤ acc := by omega
      by_cases hA : 2199023255552 < acc
      · have hno : numS 0 s.data.toList = none := by rw [hk.out, hst.out, if_pos hA]
        have i1 : (acc : Int) > 2199023255552 := by omega
        replace hno := Lib.hid hno
        clear hA hb hR
        go_wp2_with fail
        go_ret3
        exact ⟨Or.inr ⟨hno.out, _, _, rfl⟩, fr2⟩
      · have i1 : ¬ (acc : Int) > 2199023255552 := by omega
        have i1' : (acc : Int) ≤ 2199023255552 := by omega
        by_cases h43 : 4352 ≤ R
        · have i2 : (R : Int) ≥ 4352 := by omega
          by_cases h84 : R < 8448
          · have i3 : (R : Int) < 8448 := by omega
            have hW := hw3.out h43 h84
            subst hW
            have hsl := slice_tail s (pos + 3) ((pos : Int) + 3) (by omega) hd (by omega)
            have hst2 := hst.out
            rw [if_neg hA, if_pos ⟨h43, h84⟩, ← hk.out] at hst2
            have hstr : s.extract (pos + 3) s.size = strB (s.data.toList.drop (pos + 3)) := by rw [← hdl.out, strB_of]
            have i6 : ((acc : Int) * 4096) + ((R : Int) - 4352) = ((acc * 4096 + (R - 4352) : Nat) : Int) := by omega
            have hrl := fun w => rlen_any R w (by omega) (by omega)
            generalize s.extract (pos + 3) s.size = tl at *
            subst hstr
            replace hrl := Lib.hid hrl
            by_cases hN : acc * 4096 + (R - 4352) ≤ 9007199254740992
            · rw [if_pos hN] at hst2
              have i7 : decide (((acc : Int) * 4096) + ((R : Int) - 4352) ≤ 9007199254740992) = true := by simp; omega
              replace hst2 := Lib.hid hst2
              replace i6 := Lib.hid i6
              clear hA hb hR h43 h84 hN
              go_wp2_with fail
              go_quiet ((go_at_call 73; exact Calls.quiet_of (hrl.out _)))
              go_wp2_with fail
              go_ret3
              exact ⟨Or.inl ⟨_, _, hst2.out, by rw [← i6.out]; rfl⟩, fr2.drewN _⟩
            · rw [if_neg hN] at hst2
              have i7 : decide (((acc : Int) * 4096) + ((R : Int) - 4352) ≤ 9007199254740992) = false := by simp; omega
              replace hst2 := Lib.hid hst2
              replace i6 := Lib.hid i6
              clear hA hb hR h43 h84 hN
              go_wp2_with fail
              go_quiet ((go_at_call 73; exact Calls.quiet_of (hrl.out _)))
              go_wp2_with fail
              go_ret3
              exact ⟨Or.inr ⟨hst2.out, _, _, rfl⟩, fr2.drewN _⟩
          · have hno : numS 0 s.data.toList = none := by rw [hk.out, hst.out, if_neg hA, if_neg (by omega), if_pos (by omega)]
            have i3 : ¬ (R : Int) < 8448 := by omega
            have i4 : ((R : Int) == 256) = false := by simp; omega
            have i5 : ¬ (R : Int) < 256 := by omega
            replace hno := Lib.hid hno
            clear hA hb hR h43 h84
            go_wp2_with fail
            go_ret3
            exact ⟨Or.inr ⟨hno.out, _, _, rfl⟩, fr2⟩
        · have i2 : ¬ (R : Int) ≥ 4352 := by omega
          by_cases h25 : R < 256
          · have hno : numS 0 s.data.toList = none := by rw [hk.out, hst.out, if_neg hA, if_neg (by omega), if_pos (by omega)]
            have i4 : ((R : Int) == 256) = false := by simp; omega
            have i5 : (R : Int) < 256 := by omega
            replace hno := Lib.hid hno
            clear hA hb hR h43 h25
            go_wp2_with fail
            go_ret3
            exact ⟨Or.inr ⟨hno.out, _, _, rfl⟩, fr2⟩
          · have i5 : ¬ (R : Int) < 256 := by omega
            by_cases hZ : R = 256 ∧ acc = 0
            · have hno : numS 0 s.data.toList = none := by rw [hk.out, hst.out, if_neg hA, if_neg (by omega), if_pos (by omega)]
              obtain ⟨rfl, rfl⟩ := hZ
              replace hno := Lib.hid hno
              clear hA hb hR h43 h25
              go_wp2_with fail
              go_ret3
              exact ⟨Or.inr ⟨hno.out, _, _, rfl⟩, fr2⟩
            · have hst2 : numS 0 s.data.toList = numS (acc * 4096 + (R - 256)) (s.data.toList.drop (pos + W)) := by rw [hk.out, hst.out, if_neg hA, if_neg (by omega), if_neg (by omega)]
              have i6 : ((acc : Int) * 4096) + ((R : Int) - 256) = ((acc * 4096 + (R - 256) : Nat) : Int) := by omega
              have hab2 : acc * 4096 + (R - 256) ≤ 9007199254745088 := by omega
              have hmeas : s.size - (pos + W) < s.size - pos := by omega
              replace hst2 := Lib.hid hst2
              replace i6 := Lib.hid i6
              replace hab2 := Lib.hid hab2
              replace hmeas := Lib.hid hmeas
              by_cases hQ : R = 256
              · have i7 : ((acc : Int) == 0) = false := by simp; omega
                have i4 : ((R : Int) == 256) = true := by simp; omega
                clear hA hb hR h43 h25 hZ hQ
                go_wp2_with fail
                go_roundw
                case rel => exact ⟨_, acc * 4096 + (R - 256), it2, fr2, hd, by rw [← i6.out], hab2, hst2⟩
                case measure => rw [hi1.out, hi2.out]; exact hmeas.out
              · have i4 : ((R : Int) == 256) = false := by simp; omega
                clear hA hb hR h43 h25 hZ hQ
                go_wp2_with fail
                go_roundw
                case rel => exact ⟨_, acc * 4096 + (R - 256), it2, fr2, hd, by rw [← i6.out], hab2, hst2⟩
                case measure => rw [hi1.out, hi2.out]; exact hmeas.out
    · have hnx := next_end (P := Tryz.prog) it hp
      rw [drop_end hp, numS_nil] at hk
      go_wp2_with fail
      go_ret3
      exact ⟨Or.inr ⟨hk.out, _, _, rfl⟩, fr⟩
end Go.Proofs.YtbmafogjmdilkaaGreatDoor
