/-
  strconv.ParseUint at base 16, for 8 and for 31 bits.
-/
import Derived.Test.YtdmhnoffejjpnaaGreatDoorZAE
import Derived.Lib.ConvBytes
import Derived.Lib.ParseIntBMem
import Derived.Lib.IfaceEq
import Derived.Laws.Strings3
import Derived.Laws.Closers25
import Derived.Laws.Closers25b
import Derived.BigCall
import Derived.BigGuard
section
set_option linter.unusedVariables false
set_option linter.unusedSimpArgs false
set_option maxRecDepth 100000
namespace Go.Proofs.YtdmhnoffejjpnaaGreatDoor
open Go.RowKit Go

/-- what ParseUint hands back, inside -/
def PuPost (mx : Nat) (bs : List UInt8) (e : Ending) : Prop :=
  (∃ n, parse16 mx bs = some n ∧ e = .returned (.tuple #[.int .u64 (n : Nat), .nilIface])) ∨
  (parse16 mx bs = none ∧ ∃ x c : Int, (c = 1 ∨ c = 2) ∧ e = .returned (.tuple #[.int .u64 x, .iface 227 (.int .i64 c)]))
theorem PuPost.ok {mx n : Nat} {bs : List UInt8} {x : Int} (h : parse16 mx bs = some n) (hx : x = n) : PuPost mx bs (.returned (.tuple #[.int .u64 x, .nilIface])) := Or.inl ⟨n, h, by rw [hx]⟩
theorem PuPost.syn {mx : Nat} {bs : List UInt8} (x : Int) (h : parse16 mx bs = none) : PuPost mx bs (.returned (.tuple #[.int .u64 x, .iface 227 (.int .i64 2)])) := Or.inr ⟨h, x, 2, Or.inr rfl, rfl⟩
theorem PuPost.rng {mx : Nat} {bs : List UInt8} (x : Int) (h : parse16 mx bs = none) : PuPost mx bs (.returned (.tuple #[.int .u64 x, .iface 227 (.int .i64 1)])) := Or.inr ⟨h, x, 1, Or.inl rfl, rfl⟩

theorem lower_nat (c : Nat) (h : c < 256) : bits BinOp.or IntKind.u8 (c : Int) 32 = ((c ||| 32 : Nat) : Int) := u8_or_nat c 32 h (by omega)
theorem or32 : ∀ c : Nat, c < 256 → (65 ≤ c ∧ c ≤ 90 → c ||| 32 = c + 32) ∧ (97 ≤ c ∧ c ≤ 122 → c ||| 32 = c) ∧ (¬ (65 ≤ c ∧ c ≤ 90) → ¬ (97 ≤ c ∧ c ≤ 122) → ¬ (97 ≤ c ||| 32 ∧ c ||| 32 ≤ 122)) ∧ c ||| 32 < 256 := by decide +kernel

theorem dig_low (c : UInt8) (h : ¬ (48 ≤ c.toNat ∧ c.toNat ≤ 57)) : dig16 c = if 97 ≤ c.toNat ||| 32 ∧ c.toNat ||| 32 ≤ 102 then some ((c.toNat ||| 32) - 87) else none := by
  have hc := c.toNat_lt
  obtain ⟨h1, h2, h3, _⟩ := or32 c.toNat hc
  unfold dig16
  rw [if_neg h]
  by_cases a : 97 ≤ c.toNat ∧ c.toNat ≤ 122
  · have e := h2 a
    rw [e]
    by_cases b : c.toNat ≤ 102
    · rw [if_pos ⟨a.1, b⟩, if_pos ⟨a.1, b⟩]
    · rw [if_neg (by omega), if_neg (by omega), if_neg (by omega)]
  · by_cases a2 : 65 ≤ c.toNat ∧ c.toNat ≤ 90
    · have e := h1 a2
      rw [e]
      by_cases b : c.toNat ≤ 70
      · rw [if_neg (by omega), if_pos ⟨a2.1, b⟩, if_pos (by omega)]
        congr 1
      · rw [if_neg (by omega), if_neg (by omega), if_neg (by omega)]
    · have e := h3 a2 a
      rw [if_neg (by omega), if_neg (by omega), if_neg (by omega)]
theorem p16_over {mx acc d : Nat} {c : UInt8} {t : List UInt8} (hd : dig16 c = some d) (h : mx < acc * 16 + d) : p16 mx acc (c :: t) = none := by
  unfold p16; rw [hd]; simp [h]
theorem p16_next {mx acc d : Nat} {c : UInt8} {t : List UInt8} (hd : dig16 c = some d) (h : ¬ mx < acc * 16 + d) : p16 mx acc (c :: t) = p16 mx (acc * 16 + d) t := by
  conv => lhs; unfold p16
  rw [hd]
  simp only
  rw [if_neg h]
theorem p16_no {mx acc : Nat} {c : UInt8} {t : List UInt8} (hd : dig16 c = none) : p16 mx acc (c :: t) = none := by
  unfold p16; rw [hd]

set_option maxRecDepth 100000 in
theorem iparse_empty (b : Int) (w : World) : Calls Tryz.prog 155 #[.string ⟨#[]⟩, .int .i64 16, .int .i64 b] w fun e w' => PuPost 255 [] e ∧ PuPost 2147483647 [] e ∧ w' = w := by
  go_enter Tryz.func155, Tryz.ntmps155
  go_wp2
  go_ret2
  exact ⟨PuPost.syn 0 rfl, PuPost.syn 0 rfl, rfl⟩

set_option maxHeartbeats 4000000 in
set_option maxRecDepth 100000 in
theorem iparse_8 (t : ByteArray) (hne : t.size ≠ 0) (hmax : t.size ≤ 9223372036854775806) (w : World) :
    Calls Tryz.prog 155 #[.string t, .int .i64 16, .int .i64 8] w fun e w' => PuPost 255 t.data.toList e ∧ Fr noB w w' := by
  have hemp : t.toList.isEmpty = false := by
    rw [← decide_eq_emptyBytes]
    exact decide_eq_false (fun h => hne (by rw [h]; rfl))
  have hcv := Lib.run_convert_string_bytes (P := Tryz.prog) w 9 119 5 t (u := .string) Tryz.underlying9 Tryz.underlying119 Tryz.underlying5
  have hB : ∀ j, j < t.size → (Lib.bytesWorld w 5 t).cell? ⟨w.heap.size, j, none⟩ = some (.int .u8 (t.data.toList.getD j 0).toNat) := fun j hj => Lib.bytesWorld_cell w 5 t j hj
  have hF : Fr noB w (Lib.bytesWorld w 5 t) := ⟨rfl, rfl, rfl, by rw [Lib.bytesWorld_size]; omega, fun i hi _ => Lib.bytesWorld_at_old w _ t i hi⟩
  have hbne : t.data.toList ≠ [] := fun e => hne (by have := congrArg List.length e; rw [size_len] at this; exact this)
  obtain ⟨W1, hW1⟩ : ∃ W1, W1 = Lib.bytesWorld w 5 t := ⟨_, rfl⟩
  rw [← hW1] at hcv hB hF
  clear hW1
  obtain ⟨bs, hL⟩ : ∃ bs, bs = t.data.toList := ⟨_, rfl⟩
  have hLn : bs.length = t.size := by rw [hL]; rfl
  rw [← hL] at hB hbne ⊢
  clear hL
  have hp : parse16 255 bs = p16 255 0 bs := by unfold parse16; rw [if_neg hbne]
  replace hp := Lib.hid hp
  replace hbne := Lib.hid hbne
  have hmv : IntKind.u64.wrap (IntKind.u64.wrap 256 - 1) = 255 := by
    rw [IntKind.wrap_u64, IntKind.wrap_u64]
    decide
  replace hLn := Lib.hid hLn
  go_enter Tryz.func155, Tryz.ntmps155
  go_wp2
  go_loop [12, 13, 101] (fun vu vn vi => ∃ (k acc : Nat) (a : Int), vu = .bool false ∧ vn = .int .u64 a ∧ vi = .int .i64 k ∧ k ≤ t.size ∧ Hid (a = (acc : Int) ∧ acc ≤ 255 ∧ p16 255 0 bs = p16 255 acc (bs.drop k)))
    (fun _ _ vi => t.size - (intOf vi).toNat)
  case atStart => exact ⟨0, 0, 0, rfl, rfl, rfl, by omega, Lib.hid ⟨rfl, by omega, rfl⟩⟩
  case round =>
    obtain ⟨k, acc, a, rfl, rfl, rfl, hk, hh⟩ := hrel
    obtain ⟨ha, hacc, hdec0⟩ := hh.out
    clear hh
    have a0 : 0 ≤ a := by omega
    have a1 : a ≤ 255 := by omega
    by_cases hkn : k < t.size
    · have hc := hB k hkn
      have hkb : k < bs.length := by rw [hLn.out]; exact hkn
      have hdrop : bs.drop k = bs[k] :: bs.drop (k + 1) := List.drop_eq_getElem_cons hkb
      have hget : bs.getD k 0 = bs[k] := by simp [List.getD, List.getElem?_eq_getElem hkb]
      have hdec := hdec0
      rw [hdrop] at hdec
      rw [hget] at hc
      clear hB hdrop hget hdec0
      generalize bs[k] = c at hc hdec
      have hc256 : c.toNat < 256 := c.toNat_lt
      have hlow := lower_nat c.toNat hc256
      obtain ⟨ho1, ho2, ho3, ho4⟩ := or32 c.toNat hc256
      by_cases hdig : 48 ≤ c.toNat ∧ c.toNat ≤ 57
      · obtain ⟨hd0, hd1⟩ := hdig
        have hdg : dig16 c = some (c.toNat - 48) := by unfold dig16; rw [if_pos ⟨hd0, hd1⟩]
        by_cases hov : 255 < acc * 16 + (c.toNat - 48)
        · have hN : p16 255 0 bs = none := hdec.trans (p16_over hdg hov)
          have iov : (255 : Int) < a * 16 + ((c.toNat : Int) - 48) := by omega
          replace hN := Lib.hid (hp.out.trans hN)
          clear hdec hov hlow ho1 ho2 ho3 ho4 hdg ha hacc
          go_wp2
          go_ret2
          exact ⟨PuPost.rng _ hN.out, hF⟩
        · have hN : p16 255 0 bs = p16 255 (acc * 16 + (c.toNat - 48)) (bs.drop (k + 1)) := hdec.trans (p16_next hdg hov)
          have iov : a * 16 + ((c.toNat : Int) - 48) ≤ 255 := by omega
          have HN := Lib.hid (show a * 16 + ((c.toNat : Int) - 48) = ((acc * 16 + (c.toNat - 48) : Nat) : Int) ∧ acc * 16 + (c.toNat - 48) ≤ 255 ∧ p16 255 0 bs = p16 255 (acc * 16 + (c.toNat - 48)) (bs.drop (k + 1)) from ⟨by omega, by omega, hN⟩)
          clear hN hov hdec hlow ho1 ho2 ho3 ho4 hdg ha hacc
          go_wp2
          refine ⟨⟨k + 1, acc * 16 + (c.toNat - 48), a * 16 + ((c.toNat : Int) - 48), rfl, (by first | rfl | (congr 1; omega)), (by first | rfl | (congr 1; omega)), by omega, HN⟩, by simp [intOf]; omega⟩
      · have hdl := dig_low c hdig
        have iw1 := IntKind.wrap_u8
        generalize hl : c.toNat ||| 32 = l at *
        replace hl := Lib.hid hl
        by_cases hA : 97 ≤ l ∧ l ≤ 122
        · obtain ⟨hA0, hA1⟩ := hA
          have hn95 : ((c.toNat : Int) == 95) = false := by
            have h9 : c.toNat ≠ 95 := fun e => by have h8 := hl.out; rw [e] at h8; have h7 : (95 ||| 32 : Nat) = 127 := by decide
                                                  omega
            simp; omega
          by_cases hB2 : l ≤ 102
          · rw [if_pos ⟨hA0, hB2⟩] at hdl
            by_cases hov : 255 < acc * 16 + (l - 87)
            · have hN := Lib.hid (hp.out.trans (hdec.trans (p16_over hdl hov)))
              have iov : (255 : Int) < a * 16 + ((l : Int) - 97 + 10) := by omega
              clear hdec hdl ho1 ho2 ho3 iw1 ha hacc hov
              go_wp2_with (go_at_call 160; refine (Tryz.internal_strconv_lower _ _).mono ?_; rintro e w' ⟨rfl, hw'⟩; obtain rfl := hw'.symm)
              all_goals go_ret2
              all_goals exact ⟨PuPost.rng _ hN.out, hF⟩
            · have iov : a * 16 + ((l : Int) - 97 + 10) ≤ 255 := by omega
              have HN := Lib.hid (show a * 16 + ((l : Int) - 97 + 10) = ((acc * 16 + (l - 87) : Nat) : Int) ∧ acc * 16 + (l - 87) ≤ 255 ∧ p16 255 0 bs = p16 255 (acc * 16 + (l - 87)) (bs.drop (k + 1)) from ⟨by omega, by omega, hdec.trans (p16_next hdl hov)⟩)
              clear hdec hdl ho1 ho2 ho3 iw1 ha hacc hov
              go_wp2_with (go_at_call 160; refine (Tryz.internal_strconv_lower _ _).mono ?_; rintro e w' ⟨rfl, hw'⟩; obtain rfl := hw'.symm)
              all_goals (refine ⟨⟨k + 1, acc * 16 + (l - 87), a * 16 + ((l : Int) - 97 + 10), rfl, (by first | rfl | (congr 1; omega)), (by first | rfl | (congr 1; omega)), by omega, HN⟩, by simp [intOf]; omega⟩)
          · rw [if_neg (by omega)] at hdl
            have hN := Lib.hid (hp.out.trans (hdec.trans (p16_no hdl)))
            have iov : ¬ (l : Int) - 97 + 10 < 16 := by omega
            clear hdec hdl ho1 ho2 ho3 iw1 ha hacc
            go_wp2_with (go_at_call 160; refine (Tryz.internal_strconv_lower _ _).mono ?_; rintro e w' ⟨rfl, hw'⟩; obtain rfl := hw'.symm)
            all_goals go_ret2
            all_goals exact ⟨PuPost.syn _ hN.out, hF⟩
        · rw [if_neg (by omega)] at hdl
          have hN := Lib.hid (hp.out.trans (hdec.trans (p16_no hdl)))
          have hlb : l < 97 ∨ 122 < l := by omega
          clear hdec hdl ho1 ho2 ho3 iw1 ha hacc hA
          rcases hlb with hlb | hlb
          · have n1 : ¬ (97 : Int) ≤ l := by omega
            go_wp2_with (go_at_call 160; refine (Tryz.internal_strconv_lower _ _).mono ?_; rintro e w' ⟨rfl, hw'⟩; obtain rfl := hw'.symm)
            all_goals go_ret2
            all_goals exact ⟨PuPost.syn _ hN.out, hF⟩
          · have n1 : ¬ (l : Int) ≤ 122 := by omega
            have n2 : (97 : Int) ≤ l := by omega
            go_wp2_with (go_at_call 160; refine (Tryz.internal_strconv_lower _ _).mono ?_; rintro e w' ⟨rfl, hw'⟩; obtain rfl := hw'.symm)
            all_goals go_ret2
            all_goals exact ⟨PuPost.syn _ hN.out, hF⟩
    · have hkk : k = t.size := by omega
      subst hkk
      have hN : p16 255 0 bs = some acc := by rw [hdec0, List.drop_eq_nil_of_le (by rw [hLn.out]; omega)]; rfl
      replace hN := Lib.hid (hp.out.trans hN)
      replace ha := Lib.hid ha
      clear hdec0 hacc
      go_wp2
      go_ret2
      exact ⟨PuPost.ok hN.out ha.out, hF⟩

set_option maxHeartbeats 4000000 in
set_option maxRecDepth 100000 in
theorem iparse_31 (t : ByteArray) (hne : t.size ≠ 0) (hmax : t.size ≤ 9223372036854775806) (w : World) :
    Calls Tryz.prog 155 #[.string t, .int .i64 16, .int .i64 31] w fun e w' => PuPost 2147483647 t.data.toList e ∧ Fr noB w w' := by
  have hemp : t.toList.isEmpty = false := by
    rw [← decide_eq_emptyBytes]
    exact decide_eq_false (fun h => hne (by rw [h]; rfl))
  have hcv := Lib.run_convert_string_bytes (P := Tryz.prog) w 9 119 5 t (u := .string) Tryz.underlying9 Tryz.underlying119 Tryz.underlying5
  have hB : ∀ j, j < t.size → (Lib.bytesWorld w 5 t).cell? ⟨w.heap.size, j, none⟩ = some (.int .u8 (t.data.toList.getD j 0).toNat) := fun j hj => Lib.bytesWorld_cell w 5 t j hj
  have hF : Fr noB w (Lib.bytesWorld w 5 t) := ⟨rfl, rfl, rfl, by rw [Lib.bytesWorld_size]; omega, fun i hi _ => Lib.bytesWorld_at_old w _ t i hi⟩
  have hbne : t.data.toList ≠ [] := fun e => hne (by have := congrArg List.length e; rw [size_len] at this; exact this)
  obtain ⟨W1, hW1⟩ : ∃ W1, W1 = Lib.bytesWorld w 5 t := ⟨_, rfl⟩
  rw [← hW1] at hcv hB hF
  clear hW1
  obtain ⟨bs, hL⟩ : ∃ bs, bs = t.data.toList := ⟨_, rfl⟩
  have hLn : bs.length = t.size := by rw [hL]; rfl
  rw [← hL] at hB hbne ⊢
  clear hL
  have hp : parse16 2147483647 bs = p16 2147483647 0 bs := by unfold parse16; rw [if_neg hbne]
  replace hp := Lib.hid hp
  replace hbne := Lib.hid hbne
  have hmv : IntKind.u64.wrap (IntKind.u64.wrap 2147483648 - 1) = 2147483647 := by
    rw [IntKind.wrap_u64, IntKind.wrap_u64]
    decide
  replace hLn := Lib.hid hLn
  go_enter Tryz.func155, Tryz.ntmps155
  go_wp2
  go_loop [12, 13, 101] (fun vu vn vi => ∃ (k acc : Nat) (a : Int), vu = .bool false ∧ vn = .int .u64 a ∧ vi = .int .i64 k ∧ k ≤ t.size ∧ Hid (a = (acc : Int) ∧ acc ≤ 2147483647 ∧ p16 2147483647 0 bs = p16 2147483647 acc (bs.drop k)))
    (fun _ _ vi => t.size - (intOf vi).toNat)
  case atStart => exact ⟨0, 0, 0, rfl, rfl, rfl, by omega, Lib.hid ⟨rfl, by omega, rfl⟩⟩
  case round =>
    obtain ⟨k, acc, a, rfl, rfl, rfl, hk, hh⟩ := hrel
    obtain ⟨ha, hacc, hdec0⟩ := hh.out
    clear hh
    have a0 : 0 ≤ a := by omega
    have a1 : a ≤ 2147483647 := by omega
    by_cases hkn : k < t.size
    · have hc := hB k hkn
      have hkb : k < bs.length := by rw [hLn.out]; exact hkn
      have hdrop : bs.drop k = bs[k] :: bs.drop (k + 1) := List.drop_eq_getElem_cons hkb
      have hget : bs.getD k 0 = bs[k] := by simp [List.getD, List.getElem?_eq_getElem hkb]
      have hdec := hdec0
      rw [hdrop] at hdec
      rw [hget] at hc
      clear hB hdrop hget hdec0
      generalize bs[k] = c at hc hdec
      have hc256 : c.toNat < 256 := c.toNat_lt
      have hlow := lower_nat c.toNat hc256
      obtain ⟨ho1, ho2, ho3, ho4⟩ := or32 c.toNat hc256
      by_cases hdig : 48 ≤ c.toNat ∧ c.toNat ≤ 57
      · obtain ⟨hd0, hd1⟩ := hdig
        have hdg : dig16 c = some (c.toNat - 48) := by unfold dig16; rw [if_pos ⟨hd0, hd1⟩]
        by_cases hov : 2147483647 < acc * 16 + (c.toNat - 48)
        · have hN : p16 2147483647 0 bs = none := hdec.trans (p16_over hdg hov)
          have iov : (2147483647 : Int) < a * 16 + ((c.toNat : Int) - 48) := by omega
          replace hN := Lib.hid (hp.out.trans hN)
          clear hdec hov hlow ho1 ho2 ho3 ho4 hdg ha hacc
          go_wp2
          go_ret2
          exact ⟨PuPost.rng _ hN.out, hF⟩
        · have hN : p16 2147483647 0 bs = p16 2147483647 (acc * 16 + (c.toNat - 48)) (bs.drop (k + 1)) := hdec.trans (p16_next hdg hov)
          have iov : a * 16 + ((c.toNat : Int) - 48) ≤ 2147483647 := by omega
          have HN := Lib.hid (show a * 16 + ((c.toNat : Int) - 48) = ((acc * 16 + (c.toNat - 48) : Nat) : Int) ∧ acc * 16 + (c.toNat - 48) ≤ 2147483647 ∧ p16 2147483647 0 bs = p16 2147483647 (acc * 16 + (c.toNat - 48)) (bs.drop (k + 1)) from ⟨by omega, by omega, hN⟩)
          clear hN hov hdec hlow ho1 ho2 ho3 ho4 hdg ha hacc
          go_wp2
          refine ⟨⟨k + 1, acc * 16 + (c.toNat - 48), a * 16 + ((c.toNat : Int) - 48), rfl, (by first | rfl | (congr 1; omega)), (by first | rfl | (congr 1; omega)), by omega, HN⟩, by simp [intOf]; omega⟩
      · have hdl := dig_low c hdig
        have iw1 := IntKind.wrap_u8
        generalize hl : c.toNat ||| 32 = l at *
        replace hl := Lib.hid hl
        by_cases hA : 97 ≤ l ∧ l ≤ 122
        · obtain ⟨hA0, hA1⟩ := hA
          have hn95 : ((c.toNat : Int) == 95) = false := by
            have h9 : c.toNat ≠ 95 := fun e => by have h8 := hl.out; rw [e] at h8; have h7 : (95 ||| 32 : Nat) = 127 := by decide
                                                  omega
            simp; omega
          by_cases hB2 : l ≤ 102
          · rw [if_pos ⟨hA0, hB2⟩] at hdl
            by_cases hov : 2147483647 < acc * 16 + (l - 87)
            · have hN := Lib.hid (hp.out.trans (hdec.trans (p16_over hdl hov)))
              have iov : (2147483647 : Int) < a * 16 + ((l : Int) - 97 + 10) := by omega
              clear hdec hdl ho1 ho2 ho3 iw1 ha hacc hov
              go_wp2_with (go_at_call 160; refine (Tryz.internal_strconv_lower _ _).mono ?_; rintro e w' ⟨rfl, hw'⟩; obtain rfl := hw'.symm)
              all_goals go_ret2
              all_goals exact ⟨PuPost.rng _ hN.out, hF⟩
            · have iov : a * 16 + ((l : Int) - 97 + 10) ≤ 2147483647 := by omega
              have HN := Lib.hid (show a * 16 + ((l : Int) - 97 + 10) = ((acc * 16 + (l - 87) : Nat) : Int) ∧ acc * 16 + (l - 87) ≤ 2147483647 ∧ p16 2147483647 0 bs = p16 2147483647 (acc * 16 + (l - 87)) (bs.drop (k + 1)) from ⟨by omega, by omega, hdec.trans (p16_next hdl hov)⟩)
              clear hdec hdl ho1 ho2 ho3 iw1 ha hacc hov
              go_wp2_with (go_at_call 160; refine (Tryz.internal_strconv_lower _ _).mono ?_; rintro e w' ⟨rfl, hw'⟩; obtain rfl := hw'.symm)
              all_goals (refine ⟨⟨k + 1, acc * 16 + (l - 87), a * 16 + ((l : Int) - 97 + 10), rfl, (by first | rfl | (congr 1; omega)), (by first | rfl | (congr 1; omega)), by omega, HN⟩, by simp [intOf]; omega⟩)
          · rw [if_neg (by omega)] at hdl
            have hN := Lib.hid (hp.out.trans (hdec.trans (p16_no hdl)))
            have iov : ¬ (l : Int) - 97 + 10 < 16 := by omega
            clear hdec hdl ho1 ho2 ho3 iw1 ha hacc
            go_wp2_with (go_at_call 160; refine (Tryz.internal_strconv_lower _ _).mono ?_; rintro e w' ⟨rfl, hw'⟩; obtain rfl := hw'.symm)
            all_goals go_ret2
            all_goals exact ⟨PuPost.syn _ hN.out, hF⟩
        · rw [if_neg (by omega)] at hdl
          have hN := Lib.hid (hp.out.trans (hdec.trans (p16_no hdl)))
          have hlb : l < 97 ∨ 122 < l := by omega
          clear hdec hdl ho1 ho2 ho3 iw1 ha hacc hA
          rcases hlb with hlb | hlb
          · have n1 : ¬ (97 : Int) ≤ l := by omega
            go_wp2_with (go_at_call 160; refine (Tryz.internal_strconv_lower _ _).mono ?_; rintro e w' ⟨rfl, hw'⟩; obtain rfl := hw'.symm)
            all_goals go_ret2
            all_goals exact ⟨PuPost.syn _ hN.out, hF⟩
          · have n1 : ¬ (l : Int) ≤ 122 := by omega
            have n2 : (97 : Int) ≤ l := by omega
            go_wp2_with (go_at_call 160; refine (Tryz.internal_strconv_lower _ _).mono ?_; rintro e w' ⟨rfl, hw'⟩; obtain rfl := hw'.symm)
            all_goals go_ret2
            all_goals exact ⟨PuPost.syn _ hN.out, hF⟩
    · have hkk : k = t.size := by omega
      subst hkk
      have hN : p16 2147483647 0 bs = some acc := by rw [hdec0, List.drop_eq_nil_of_le (by rw [hLn.out]; omega)]; rfl
      replace hN := Lib.hid (hp.out.trans hN)
      replace ha := Lib.hid ha
      clear hdec0 hacc
      go_wp2
      go_ret2
      exact ⟨PuPost.ok hN.out ha.out, hF⟩

/-- what ParseUint hands back -/
def PuOut (mx : Nat) (bs : List UInt8) (e : Ending) : Prop :=
  (∃ n, parse16 mx bs = some n ∧ e = .returned (.tuple #[.int .u64 (n : Nat), .nilIface])) ∨
  (parse16 mx bs = none ∧ ∃ (x : Int) (N : Nat), e = .returned (.tuple #[.int .u64 x, .iface 229 (.pointer (some ⟨N, 0, none⟩))]))

theorem parse_8 (t : ByteArray) (hmax : t.size ≤ 1000000000) (w : World) (hg : Gl w) :
    Calls Tryz.prog 146 #[.string t, .int .i64 16, .int .i64 8] w fun e w' => PuOut 255 t.data.toList e ∧ Fr noB w w' := by
  have hin : Calls Tryz.prog 155 #[.string t, .int .i64 16, .int .i64 8] w fun e w' => PuPost 255 t.data.toList e ∧ Fr noB w w' := by
    by_cases h0 : t.size = 0
    · have ht : t = ⟨#[]⟩ := by
        apply ByteArray.ext
        exact Array.eq_empty_of_size_eq_zero h0
      subst ht
      exact (iparse_empty 8 w).mono fun e w' ⟨h1, h2, hw⟩ => ⟨h1, by rw [hw]; exact Fr.refl _ _⟩
    · exact iparse_8 t h0 (by omega) w
  go_enter Tryz.func146, Tryz.ntmps146
  go_wp2_with fail
  refine hin.mono ?_
  rintro e w1 ⟨hp, f1⟩
  obtain ⟨⟨te, pe, cS⟩, ⟨tr, pr, cR⟩, _⟩ := hg.fr f1
  rcases hp with ⟨n, hn, rfl⟩ | ⟨hn, x, c, rfl | rfl, rfl⟩
  · replace hn := Lib.hid hn
    clear hin cS cR
    go_wp2_with fail
    go_ret2
    exact ⟨Or.inl ⟨n, hn.out, rfl⟩, f1⟩
  · replace hn := Lib.hid hn
    clear hin
    go_wp2_with fail
    refine (Tryz.strconv_toError_range _ t 16 8 _ w1 (by omega) cR (Or.inr ⟨_, _, rfl⟩)).mono ?_
    rintro e w2 ⟨N, rfl, _, _, hb⟩
    have f2 : Fr noB w w2 := f1.seqN (Fr.of_below hb)
    clear cS cR hb
    go_wp2_with fail
    go_ret2
    exact ⟨Or.inr ⟨hn.out, x, N, rfl⟩, f2⟩
  · replace hn := Lib.hid hn
    clear hin
    go_wp2_with fail
    refine (Tryz.strconv_toError_syntax _ t 16 8 _ w1 (by omega) cS (Or.inr ⟨_, _, rfl⟩)).mono ?_
    rintro e w2 ⟨N, rfl, _, _, hb⟩
    have f2 : Fr noB w w2 := f1.seqN (Fr.of_below hb)
    clear cS cR hb
    go_wp2_with fail
    go_ret2
    exact ⟨Or.inr ⟨hn.out, x, N, rfl⟩, f2⟩

theorem parse_31 (t : ByteArray) (hmax : t.size ≤ 1000000000) (w : World) (hg : Gl w) :
    Calls Tryz.prog 146 #[.string t, .int .i64 16, .int .i64 31] w fun e w' => PuOut 2147483647 t.data.toList e ∧ Fr noB w w' := by
  have hin : Calls Tryz.prog 155 #[.string t, .int .i64 16, .int .i64 31] w fun e w' => PuPost 2147483647 t.data.toList e ∧ Fr noB w w' := by
    by_cases h0 : t.size = 0
    · have ht : t = ⟨#[]⟩ := by
        apply ByteArray.ext
        exact Array.eq_empty_of_size_eq_zero h0
      subst ht
      exact (iparse_empty 31 w).mono fun e w' ⟨h1, h2, hw⟩ => ⟨h2, by rw [hw]; exact Fr.refl _ _⟩
    · exact iparse_31 t h0 (by omega) w
  go_enter Tryz.func146, Tryz.ntmps146
  go_wp2_with fail
  refine hin.mono ?_
  rintro e w1 ⟨hp, f1⟩
  obtain ⟨⟨te, pe, cS⟩, ⟨tr, pr, cR⟩, _⟩ := hg.fr f1
  rcases hp with ⟨n, hn, rfl⟩ | ⟨hn, x, c, rfl | rfl, rfl⟩
  · replace hn := Lib.hid hn
    clear hin cS cR
    go_wp2_with fail
    go_ret2
    exact ⟨Or.inl ⟨n, hn.out, rfl⟩, f1⟩
  · replace hn := Lib.hid hn
    clear hin
    go_wp2_with fail
    refine (Tryz.strconv_toError_range _ t 16 31 _ w1 (by omega) cR (Or.inr ⟨_, _, rfl⟩)).mono ?_
    rintro e w2 ⟨N, rfl, _, _, hb⟩
    have f2 : Fr noB w w2 := f1.seqN (Fr.of_below hb)
    clear cS cR hb
    go_wp2_with fail
    go_ret2
    exact ⟨Or.inr ⟨hn.out, x, N, rfl⟩, f2⟩
  · replace hn := Lib.hid hn
    clear hin
    go_wp2_with fail
    refine (Tryz.strconv_toError_syntax _ t 16 31 _ w1 (by omega) cS (Or.inr ⟨_, _, rfl⟩)).mono ?_
    rintro e w2 ⟨N, rfl, _, _, hb⟩
    have f2 : Fr noB w w2 := f1.seqN (Fr.of_below hb)
    clear cS cR hb
    go_wp2_with fail
    go_ret2
    exact ⟨Or.inr ⟨hn.out, x, N, rfl⟩, f2⟩
end Go.Proofs.YtdmhnoffejjpnaaGreatDoor
end
