/-
  The document's pool, by definition: the calls that only look.
-/
import Derived.Test.YtnecglghinpgmaaRefP
set_option linter.unusedVariables false
set_option linter.unusedSimpArgs false
namespace Go.Proofs.Ytnecglghinpgmaa
open Go.RowKit Go Go.Maps Go.Lib

/-- a trace's place -/
def AtT (P : TP) (t : Int) (r : Int) : Prop := (∃ (j : Nat) (p : Int × List ByteArray), P[j]? = some p ∧ p.1 = t ∧ r = j) ∨ ((∀ p ∈ P, p.1 ≠ t) ∧ r = -1)
theorem AtT.ex (P : TP) (t : Int) : ∃ r, AtT P t r := by
  by_cases h : ∃ p ∈ P, p.1 = t
  · obtain ⟨p, hp, e⟩ := h
    obtain ⟨j, hj, rfl⟩ := List.getElem_of_mem hp
    exact ⟨j, Or.inl ⟨j, _, List.getElem?_eq_getElem hj, e, rfl⟩⟩
  · exact ⟨-1, Or.inr ⟨fun p hp e => h ⟨p, hp, e⟩, rfl⟩⟩
theorem AtT.here {P : TP} {t r : Int} (h : AtT P t r) (hr : risT P) {k : Nat} {m : Int × List ByteArray} (hm : P[k]? = some m) (ht : m.1 = t) : r = k := by
  rcases h with ⟨j, p, hj, hp, rfl⟩ | ⟨h, rfl⟩
  · by_cases e : j = k
    · rw [e]
    · exact absurd (hp.trans ht.symm) (key_at hr hm j p e hj)
  · exact absurd ht (h m (List.mem_of_getElem? hm))
theorem AtT.none {P : TP} {t r : Int} (h : AtT P t r) (hn : ∀ p ∈ P, p.1 ≠ t) : r = -1 := by
  rcases h with ⟨j, p, hj, hp, rfl⟩ | ⟨h, rfl⟩
  · exact absurd hp (hn p (List.mem_of_getElem? hj))
  · rfl

set_option maxHeartbeats 1000000 in
set_option maxRecDepth 10000 in
theorem rfind_any (g B N : Nat) (P : TP) (vt vs : Value) (V : List Value) (t r : Int) (w : World) (h : Rq w g B N P vt vs V) (hr : AtT P t r) :
    Calls Try.prog 39 #[.pointer (some ⟨g, 0, none⟩), .int .i64 t] w fun e w' => e = .returned (.int .i64 r) ∧ w' = w := by
  obtain ⟨aT, cT, rfl⟩ := ownsRow_slice h.rt
  have hpl := h.pl
  have c1 : w.cell? ⟨g, 1, none⟩ = some (.slice aT P.length cT) := h.blk.cell 1
  have hrt := h.rt
  have hat := fun (k : Nat) (m : Int × List ByteArray) => hr.here (k := k) (m := m) h.ris
  have hno := hr.none
  generalize hn : P.length = n at *
  replace hn := Lib.hid hn
  replace hrt := Lib.hid hrt
  replace hat := Lib.hid hat
  replace hno := Lib.hid hno
  replace hr := Lib.hid hr
  clear h
  go_enter Try.func39, Try.ntmps39
  go_wp2_with fail
  go_loop [5] (fun i => ∃ k : Nat, k ≤ n ∧ i = .int .i64 k ∧ Hid (∀ p ∈ P.take k, p.1 ≠ t)) (fun i => n - (RowKit.intOf i).toNat)
  case atStart => exact ⟨0, by omega, rfl, Lib.hid (by simp)⟩
  case round =>
    obtain ⟨k, hk, rfl, hkt⟩ := hrel
    by_cases hlt : k < n
    · obtain ⟨m, hm⟩ : ∃ m, P[k]? = some m := ⟨_, List.getElem?_eq_getElem (by rw [hn.out]; exact hlt)⟩
      obtain ⟨gT, rfl, e1⟩ := own_at hrt.out (i := k) (x := .int .i64 m.1) (by simp [rowV, hm])
      by_cases hmt : m.1 = t
      · have hb1 : (m.1 == t) = true := by simpa using hmt
        have hrk := hat.out k m hm hmt
        subst hrk
        replace hm := Lib.hid hm
        generalize m.1 = x at *
        clear hmt
        go_wp2_with fail
        go_ret
        exact ⟨rfl, rfl⟩
      · have hb1 : (m.1 == t) = false := by simpa using hmt
        have hk2 : Hid (∀ p ∈ P.take (k + 1), p.1 ≠ t) := Lib.hid (by
          rw [take_next hm]
          intro p hp
          rcases List.mem_append.1 hp with hp | hp
          · exact hkt.out p hp
          · rw [List.mem_singleton.1 hp]; exact hmt)
        replace hm := Lib.hid hm
        generalize m.1 = x at *
        clear hmt hkt
        go_wp2_with fail
        go_round
        case rel => exact ⟨k + 1, by omega, by go_num, hk2⟩
        case measure => simp [RowKit.intOf]; omega
    · obtain rfl : k = n := by omega
      have hr1 := hno.out (fun p hp => hkt.out p (by rw [List.take_of_length_le (by have := hn.out; omega)]; exact hp))
      subst hr1
      go_wp2_with fail
      go_ret
      exact ⟨rfl, rfl⟩

theorem buffers_any (n : Nat) (w : World) (hn : n ≤ 1000) : Calls Try.prog 42 #[.int .i64 n] w fun e w' => e = .returned (.int .i64 (((n + 2) / 3 : Nat))) ∧ w' = w := by
  have e1 : ((n : Int) + 2) / 3 = (((n + 2) / 3 : Nat) : Int) := by omega
  go_enter Try.func42, Try.ntmps42
  go_wp2_with fail
  go_ret
  exact ⟨by first | (rw [e1]; done) | rfl | (simp), rfl⟩

set_option maxHeartbeats 1000000 in
theorem rof_no (g B N : Nat) (P : TP) (vt vs : Value) (V : List Value) (t : Int) (w : World) (h : Rq w g B N P vt vs V) (ht : ∀ p ∈ P, p.1 ≠ t) :
    Calls Try.prog 22 #[.pointer (some ⟨g, 0, none⟩), .int .i64 t] w fun e w' => e = .returned (.slice none 0 0) ∧ w' = w := by
  have hf := rfind_any g B N P vt vs V t (-1) w h (Or.inr ⟨ht, rfl⟩)
  clear h ht
  go_enter Try.func22, Try.ntmps22
  go_wp2_with fail
  refine hf.mono ?_
  rintro e w1 ⟨rfl, hw1⟩
  obtain rfl := hw1.symm
  clear hf hw1
  go_wp2_with fail
  go_ret
  exact ⟨rfl, rfl⟩
set_option maxHeartbeats 1000000 in
theorem rof_at (g B N : Nat) (P : TP) (vt vs : Value) (V : List Value) (j : Nat) (p : Int × List ByteArray) (v : Value) (w : World) (h : Rq w g B N P vt vs V) (hp : P[j]? = some p) (hv : V[j]? = some v) :
    Calls Try.prog 22 #[.pointer (some ⟨g, 0, none⟩), .int .i64 p.1] w fun e w' => e = .returned v ∧ w' = w := by
  have hf := rfind_any g B N P vt vs V p.1 j w h (Or.inl ⟨j, p, hp, rfl, rfl⟩)
  obtain ⟨aS, cS, rfl⟩ := ownsRow_slice h.rs
  have hpl := h.pl
  have hj := (List.getElem?_eq_some_iff.1 hp).1
  have c1 : w.cell? ⟨g, 2, none⟩ = some (.slice aS P.length cS) := h.blk.cell 2
  obtain ⟨gS, rfl, e1⟩ := own_at h.rs hv
  have hb0 : (0 : Int) ≤ j := by omega
  have hb1 : (j : Int) < P.length := by omega
  clear h hp hv
  generalize P.length = n at *
  generalize p.1 = t at *
  go_enter Try.func22, Try.ntmps22
  go_wp2_with fail
  refine hf.mono ?_
  rintro e w1 ⟨rfl, hw1⟩
  obtain rfl := hw1.symm
  clear hf hw1
  go_wp2_with fail
  go_ret
  exact ⟨rfl, rfl⟩

theorem used_take_next {P : TP} {k : Nat} {m : Int × List ByteArray} (hm : P[k]? = some m) : used (P.take (k + 1)) = used (P.take k) + (m.2.length + 2) / 3 := by
  rw [take_next hm]
  unfold used
  rw [List.map_append, List.sum_append]
  simp
theorem used_take (P : TP) (k : Nat) : used (P.take k) ≤ used P := by
  have e := List.take_append_drop k P
  have : used P = used (P.take k) + used (P.drop k) := by
    conv => lhs; rw [← e]
    unfold used
    rw [List.map_append, List.sum_append]
  omega
theorem SpRow.form {w : World} {B : Nat} {v : Value} {p : Int × List ByteArray} (h : SpRow w B v p) : ∃ a c, v = .slice a p.2.length c := ownsRow_slice h

set_option maxHeartbeats 1000000 in
set_option maxRecDepth 10000 in
theorem rfree_any (g B N : Nat) (P : TP) (vt vs : Value) (V : List Value) (w : World) (h : Rq w g B N P vt vs V) :
    Calls Try.prog 24 #[.pointer (some ⟨g, 0, none⟩)] w fun e w' => e = .returned (.int .i64 ((N - used P : Nat))) ∧ w' = w := by
  obtain ⟨aS, cS, rfl⟩ := ownsRow_slice h.rs
  have hpl := h.pl
  have hxl := fun p (hp : p ∈ P) => h.xl hp
  have c0 : w.cell? ⟨g, 0, none⟩ = some (.int .i64 N) := h.blk.cell 0
  have c2 : w.cell? ⟨g, 2, none⟩ = some (.slice aS P.length cS) := h.blk.cell 2
  have hrs := h.rs
  have hrd := h.rd
  have hle := h.le
  have h16 := h.n16
  have hus := used_take P
  have hul : used (P.take P.length) = used P := by rw [List.take_length]
  have hVl : V.length = P.length := h.rd.1
  generalize hn : P.length = n at *
  replace hn := Lib.hid hn
  replace hrs := Lib.hid hrs
  replace hrd := Lib.hid hrd
  replace hxl := Lib.hid hxl
  replace hus := Lib.hid hus
  replace hul := Lib.hid hul
  replace hVl := Lib.hid hVl
  clear h
  generalize hU : used P = U at *
  replace hU := Lib.hid hU
  go_enter Try.func24, Try.ntmps24
  go_wp2_with fail
  go_loop [3, 4] (fun s i => ∃ (k u : Nat), k ≤ n ∧ i = .int .i64 k ∧ s = .int .i64 ((N : Int) - u) ∧ Hid (u = used (P.take k)) ∧ u ≤ U) (fun _ i => n - (RowKit.intOf i).toNat)
  case atStart => exact ⟨0, 0, by omega, rfl, by simp, Lib.hid (by simp [used]), by omega⟩
  case round =>
    obtain ⟨k, u, hk, rfl, rfl, hu, huU⟩ := hrel
    by_cases hlt : k < n
    · obtain ⟨m, hm⟩ : ∃ m, P[k]? = some m := ⟨_, List.getElem?_eq_getElem (by rw [hn.out]; exact hlt)⟩
      obtain ⟨v, hv⟩ : ∃ v, V[k]? = some v := ⟨_, List.getElem?_eq_getElem (by rw [hVl.out]; exact hlt)⟩
      obtain ⟨gS, rfl, e1⟩ := own_at hrs.out hv
      obtain ⟨av, cv, rfl⟩ := (hrd.out.2 k m v hm hv).form
      have hml := hxl.out m (List.mem_of_getElem? hm)
      have hst := used_take_next hm
      have hle2 := hus.out (k + 1)
      rw [hst, ← hu.out] at hle2
      have hu2 : Hid (u + (m.2.length + 2) / 3 = used (P.take (k + 1))) := Lib.hid (by rw [hst, hu.out])
      have hb := buffers_any m.2.length w (by omega)
      replace hm := Lib.hid hm
      replace hv := Lib.hid hv
      clear hst
      obtain ⟨b, hb3⟩ : ∃ b, b = (m.2.length + 2) / 3 := ⟨_, rfl⟩
      rw [← hb3] at hb hu2 hle2
      generalize m.2.length = ml at *
      have hb9 : b ≤ 16 := by omega
      replace hb3 := Lib.hid hb3
      go_wp2_with fail
      refine hb.mono ?_
      rintro e w1 ⟨rfl, hw1⟩
      obtain rfl := hw1.symm
      clear hb hw1
      go_wp2_with fail
      go_round
      case rel => exact ⟨k + 1, u + b, by omega, by go_num, by first | (congr 1; omega) | go_num, hu2, by have := hU.out; omega⟩
      case measure => simp [RowKit.intOf]; omega
    · obtain rfl : k = n := by omega
      have hu1 := hu.out
      rw [hul.out] at hu1
      subst hu1
      have e9 : (N : Int) - (u : Int) = ((N - u : Nat) : Int) := by omega
      replace e9 := Lib.hid e9

      go_wp2_with fail
      go_ret
      exact ⟨by first | rfl | (rw [e9.out]; rfl) | (rw [e9.out]), rfl⟩
end Go.Proofs.Ytnecglghinpgmaa
