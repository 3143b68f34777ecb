/-
  span: Print.
-/
import Derived.Test.YtbmafogjmdilkaaGreatDoorSpan1
set_option linter.unusedVariables false
set_option linter.unusedSimpArgs false
set_option maxRecDepth 100000
namespace Go.Proofs.YtbmafogjmdilkaaGreatDoor
open Go.RowKit Go Go.Lib

def pre (L : List Sp) (k : Nat) : List UInt8 := numL L.length ++ (L.take k).flatMap spanF
theorem pre_step (L : List Sp) (k : Nat) (s : Sp) (h : L[k]? = some s) : pre L (k + 1) = pre L k ++ numsL [s.t, s.q] ++ textL s.x.data.toList := by
  obtain ⟨hk, rfl⟩ := List.getElem?_eq_some_iff.1 h
  unfold pre
  rw [List.take_succ_eq_append_getElem hk, List.flatMap_append]
  unfold numsL spanF
  simp [List.append_assoc]
theorem pre_zero (L : List Sp) : pre L 0 = numL L.length := by unfold pre; simp
theorem pre_len (L : List Sp) (k : Nat) (h : ∀ i m, i < k → L[i]? = some m → rightS m = true) (hk : k ≤ 1000) : (pre L k).length ≤ 564028 := by
  unfold pre
  have h1 := (num_len L.length).2
  have h2 := spans_len (L.take k) (fun s hs => by
    obtain ⟨i, hi, rfl⟩ := List.getElem_of_mem hs
    rw [List.length_take] at hi
    rw [List.getElem_take]
    exact h i _ (by omega) (List.getElem?_eq_getElem (by omega)))
  rw [List.length_take] at h2
  rw [List.length_append]
  omega
theorem print_no (L : List Sp) (k : Nat) (s : Sp) (h : L[k]? = some s) (hs : rightS s = false) : printL L = [] := by
  unfold printL
  have : L.all rightS = false := by
    rw [List.all_eq_false]
    exact ⟨s, List.mem_of_getElem? h, by simp [hs]⟩
  rw [this]; simp
theorem print_yes (L : List Sp) (hl : L.length ≤ 1000) (h : ∀ i m, i < L.length → L[i]? = some m → rightS m = true) : printL L = pre L L.length := by
  unfold printL pre
  have : L.all rightS = true := by
    rw [List.all_eq_true]
    intro m hm
    obtain ⟨i, hi, rfl⟩ := List.getElem_of_mem hm
    exact h i _ hi (List.getElem?_eq_getElem hi)
  rw [this, List.take_length]; simp [hl]

set_option maxHeartbeats 4000000 in
theorem print_any (v : Value) (L : List Sp) (w : World) (hg : Gl w) (hv : RdSp w v L) :
    Calls Tryz.prog 54 #[v] w fun e w' => e = .returned (.string (strB (printL L))) ∧ Fr noB w w' := by
  obtain ⟨a, c, rfl, hx1, hx2, _, hx3⟩ := hv
  unfold maxLen at hx2
  by_cases hbig : 1000 < L.length
  · have hp : printL L = [] := by unfold printL; rw [show decide (L.length ≤ 1000) = false by simp; omega]; rfl
    rw [hp]
    have i1 : (L.length : Int) > 1000 := by omega
    generalize L.length = n at *
    clear hbig hp
    go_enter Tryz.func54, Tryz.ntmps54
    go_wp2_with fail
    go_ret
    exact ⟨rfl, Fr.refl _ _⟩
  · have hget : ∀ k, k < L.length → ∃ m, L[k]? = some m := fun k hk => ⟨L[k], List.getElem?_eq_getElem hk⟩
    have hst := pre_step L
    have hno := print_no L
    have hyes := print_yes L (by omega)
    have hplen := pre_len L
    have hp0 := pre_zero L
    have gb := hg.low
    have key : ∀ w', Fr (hiB w.heap.size) w w' → Fr noB w w' := fun w' f => f.hiN
    have hcell : ∀ k s, L[k]? = some s → ∃ g o, a = some ⟨g, o, none⟩ ∧ ∀ w', Fr (hiB w.heap.size) w w' → w'.cell? ⟨g, o + k * 3, none⟩ = some (.int .i64 s.t) ∧ w'.cell? ⟨g, o + k * 3 + 1, none⟩ = some (.int .i64 s.q) ∧ w'.cell? ⟨g, o + k * 3 + 2, none⟩ = some (.string s.x) := fun k s hs => by
      obtain ⟨g, o, rfl, c0, c1, c2⟩ := hx3 k s hs
      have hlt : ¬ hiB w.heap.size g := by have := lt_of_cell c0; unfold hiB; omega
      exact ⟨g, o, rfl, fun w' f => ⟨f.cell c0 hlt, f.cell c1 hlt, f.cell c2 hlt⟩⟩
    obtain ⟨B, hB⟩ : ∃ B, w.heap.size = B := ⟨_, rfl⟩
    rw [hB] at gb key hcell
    generalize hn : L.length = n at *
    have hnb : n ≤ 1000 := by omega
    generalize hpr : printL L = P at *
    replace hpr := Lib.hid hpr
    replace key := Lib.hid key
    replace hcell := Lib.hid hcell
    replace hget := Lib.hid hget
    replace hst := Lib.hid hst
    replace hno := Lib.hid hno
    replace hyes := Lib.hid hyes
    replace hplen := Lib.hid hplen
    replace hn := Lib.hid hn
    clear hx3
    have i1 : ¬ (n : Int) > 1000 := by omega
    have bp := Blk.new w 75 [.slice none 0 0]
    rw [hB] at bp
    have f1 : Fr (hiB B) w (w.alloc (.cells #[Value.slice none 0 0] 75)) := (Fr.refl _ w).alloc _
    have s1 : (w.alloc (.cells #[Value.slice none 0 0] 75)).heap.size = B + 1 := by rw [size_alloc, hB]
    go_enter Tryz.func54, Tryz.ntmps54
    go_wp2_with fail
    generalize (w.alloc (.cells #[Value.slice none 0 0] 75)) = w1 at *
    refine (wint_new B B (B + 1) _ [] [(n : Int)] w1 (wr_new bp (by omega)) s1 (by intro x hx; simp at hx; omega) (by simp)).mono ?_
    rintro e w2 ⟨rfl, v2, hw2, f2⟩
    have fr2 := f1.hi (f2 : Fr (wU B B w1) w1 w2) (by rintro i hi (q | ⟨q, _⟩) <;> omega)
    have hn1 : ([] : List UInt8) ++ numsL [(n : Int)] = pre L 0 := by rw [hp0]; unfold numsL; simp
    rw [hn1] at hw2
    replace hp0 := Lib.hid hp0
    replace hn1 := Lib.hid hn1
    clear f1 f2 bp s1
    go_wp2_with fail
    go_loopg [15] n (fun gk vi w3 => ∃ (k : Nat) (v' : Value), k + gk = n ∧ vi = .int .i64 k ∧ Hid (∀ (i : Nat) (m : Sp), i < k → L[i]? = some m → rightS m = true) ∧ Hid (Wr w3 B v' B (pre L k)) ∧ Fr (hiB B) w w3)
    case atStart => exact ⟨0, v2, by omega, rfl, Lib.hid (fun i _ hi _ => by omega), Lib.hid hw2, fr2⟩
    case round =>
      clear hw2 fr2
      obtain ⟨k, v', hkn, rfl, hok, hw, fr⟩ := hrel
      by_cases hlt : k < n
      · obtain ⟨s, hs⟩ := hget.out k hlt
        obtain ⟨g, o, rfl, hc⟩ := hcell.out k s hs
        obtain ⟨c0, c1, c2⟩ := hc wr fr
        have fX := fr.alloc (.cells #[.int .i64 s.t, .int .i64 s.q, .string s.x] 62)
        have bX := Blk.new wr 62 [.int .i64 s.t, .int .i64 s.q, .string s.x]
        have hwX := hw.out.frN ((Fr.refl noB wr).alloc (.cells #[.int .i64 s.t, .int .i64 s.q, .string s.x] 62))
        have hBp : B < wr.heap.size := hw.out.1.lt
        obtain ⟨z, hz⟩ : ∃ z, wr.heap.size = z := ⟨_, rfl⟩
        rw [hz] at bX hBp
        have hb1 : (k : Int) < n := by omega
        have hrt := fun w => right_any s w
        have hst1 := hst.out k s hs
        have hpk := hplen.out k hok.out (by omega)
        have hmeas : n - (k + 1) < gk := by omega
        have hkn2 : k + 1 + (n - (k + 1)) = n := by omega
        clear hc fr hw
        cases hR : rightS s with
        | false =>
          rw [hR] at hrt
          have hP : P = [] := hno.out k s hs hR
          subst hP
          replace hrt := Lib.hid hrt
          replace hst1 := Lib.hid hst1
          replace hs := Lib.hid hs
          replace hpk := Lib.hid hpk
          go_wp2_with fail
          refine (hrt.out _).mono ?_
          rintro e w4 ⟨rfl, f4⟩
          have fr4 := fX.hi0 f4
          go_wp2_with fail
          go_ret
          exact ⟨rfl, key.out _ fr4⟩
        | true =>
          rw [hR] at hrt
          obtain ⟨h1, h2, h3, h4, h5⟩ := (right_iff s).1 hR
          have hok1 : Hid (∀ (i : Nat) (m : Sp), i < k + 1 → L[i]? = some m → rightS m = true) := Lib.hid (fun i m' hi hmi => by
            rcases Nat.lt_or_ge i k with q | q
            · exact hok.out i m' q hmi
            · obtain rfl : i = k := by omega
              rw [hs] at hmi; cases hmi
              exact hR)
          have hin : ∀ x ∈ [s.t, s.q], -9223372036854775808 ≤ x ∧ x ≤ 9223372036854775807 := by
            intro x hx
            simp at hx
            rcases hx with rfl | rfl <;> omega
          have hl2 : (pre L k ++ numsL [s.t, s.q]).length ≤ 10000000 := by
            have := nums_len [s.t, s.q]
            simp only [List.length_append, List.length_cons, List.length_nil] at *
            omega
          have hx40 : s.x.size ≤ 100000 := by omega
          replace hrt := Lib.hid hrt
          replace hst1 := Lib.hid hst1
          replace hs := Lib.hid hs
          replace hpk := Lib.hid hpk
          replace hin := Lib.hid hin
          replace hl2 := Lib.hid hl2
          replace hx40 := Lib.hid hx40
          replace hmeas := Lib.hid hmeas
          replace hkn2 := Lib.hid hkn2
          replace hR := Lib.hid hR
          clear h1 h2 h3 h4 h5
          go_wp2_with fail
          generalize (wr.alloc (.cells #[.int .i64 s.t, .int .i64 s.q, .string s.x] 62)) = wX at *
          refine (hrt.out _).mono ?_
          rintro e w4 ⟨rfl, f4⟩
          have fr4 := fX.hi0 f4
          have hw4 := hwX.frN f4
          have b4 := f4.keepN bX
          have d0 : w4.cell? ⟨z, 0, none⟩ = some (.int .i64 s.t) := b4.cell 0
          have d1 : w4.cell? ⟨z, 1, none⟩ = some (.int .i64 s.q) := b4.cell 1
          obtain ⟨z4, hz4⟩ : ∃ z, w4.heap.size = z := ⟨_, rfl⟩
          clear fX hwX bX f4 c0 c1 c2
          go_wp2_with fail
          refine (wint_new B B z4 _ _ [s.t, s.q] w4 hw4 hz4 hin.out (by have := hpk.out; simp; omega)).mono ?_
          rintro e w5 ⟨rfl, v5, hw5, f5⟩
          have fr5 := fr4.hi f5 (by rintro i hi (q | ⟨q, _⟩) <;> omega)
          have b5 := f5.blk b4 (b4.notW (by decide) (by omega))
          have d2 : w5.cell? ⟨z, 2, none⟩ = some (.string s.x) := b5.cell 2
          have gb5 := gb.hi fr5
          obtain ⟨z5, hz5⟩ : ∃ z, w5.heap.size = z := ⟨_, rfl⟩
          clear fr4 hw4 b4 f5 d0 d1 hz4 b5
          go_wp2_with fail
          refine (wtext_new B B B z5 _ _ s.x w5 hw5 hz5 gb5 (Nat.le_refl _) (Nat.le_refl _) hx40.out hl2.out).mono ?_
          rintro e w6 ⟨rfl, v6, hw6, f6⟩
          have fr6 := fr5.hi f6 (by rintro i hi (q | ⟨q, _⟩) <;> omega)
          rw [← hst1.out] at hw6
          replace hw6 := Lib.hid hw6
          clear fr5 hw5 f6 d2 hz5 gb5
          go_wp2_with fail
          go_roundg (n - (k + 1))
          case rel => exact ⟨k + 1, v6, hkn2.out, by go_num, hok1, hw6, fr6⟩
          case measure => exact hmeas.out
      · obtain rfl : k = n := by omega
        have hP : P = pre L k := hyes.out hok.out
        have hst := wstr_any B B v' _ wr hw.out
        rw [← hP] at hst
        replace hP := Lib.hid hP
        go_wp2_with fail
        refine hst.mono ?_
        rintro e w4 ⟨rfl, hw4⟩
        obtain rfl := hw4.symm
        go_wp2_with fail
        go_ret
        exact ⟨rfl, key.out _ fr⟩
end Go.Proofs.YtbmafogjmdilkaaGreatDoor
