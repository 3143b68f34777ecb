/-
  Stage 2's law WireBack.
-/
import Derived.Test.YtnfjnlaalfcabaaDoorWireFew
import Derived.Test.YtnfjnlaalfcabaaDoorWireRef
import Derived.Test.YtnfjnlaalfcabaaDoorWireCutsL
set_option linter.unusedVariables false
set_option linter.unusedSimpArgs false
set_option maxRecDepth 100000
namespace Go.Proofs.YtnfjnlaalfcabaaDoor
open Go.RowKit Go Go.Lib

def fieldL (m : OpW) : List UInt8 := if m.k = 1 then numL m.n.toNat else textL m.s.data.toList
def allL (xs : List OpW) : List UInt8 := xs.flatMap fieldL
theorem all_take (xs : List OpW) (k : Nat) (m : OpW) (h : xs[k]? = some m) : allL (xs.take (k + 1)) = allL (xs.take k) ++ fieldL m := by
  obtain ⟨hk, rfl⟩ := List.getElem?_eq_some_iff.1 h
  unfold allL
  rw [List.take_succ_eq_append_getElem hk, List.flatMap_append]
  simp
theorem all_drop (xs : List OpW) (k : Nat) (m : OpW) (h : xs[k]? = some m) : allL (xs.drop k) = fieldL m ++ allL (xs.drop (k + 1)) := by
  obtain ⟨hk, rfl⟩ := List.getElem?_eq_some_iff.1 h
  unfold allL
  rw [List.drop_eq_getElem_cons hk, List.flatMap_cons]
theorem field_len (m : OpW) (h : okW m = true) : (fieldL m).length ≤ 2428 := by
  unfold okW at h
  simp at h
  unfold fieldL
  split
  · have := (num_len m.n.toNat).2; omega
  · have h1 := text_len m.s.data.toList
    have h2 := quote_len m.s.data.toList
    rw [size_len] at h2
    omega
theorem field_valid (m : OpW) : validL (fieldL m) = true := by
  unfold fieldL
  split
  · exact num_valid _
  · exact text_valid _
theorem all_valid (xs : List OpW) : validL (allL xs) = true := by
  induction xs with
  | nil => rfl
  | cons m xs ih =>
    show validL (fieldL m ++ allL xs) = true
    rw [valid_app _ _ (field_valid m)]; exact ih
theorem all_len (xs : List OpW) (h : xs.all okW = true) : (allL xs).length ≤ 2428 * xs.length := by
  induction xs with
  | nil => simp [allL]
  | cons m xs ih =>
    rw [List.all_cons, Bool.and_eq_true] at h
    have h1 := field_len m h.1
    have h2 := ih h.2
    show (fieldL m ++ allL xs).length ≤ _
    rw [List.length_append, List.length_cons]
    omega
theorem few_ok {xs : List OpW} (h : fewW xs = true) : xs.all okW = true ∧ xs.length ≤ 60 := by
  unfold fewW at h
  simpa using h
theorem few_get {xs : List OpW} (h : fewW xs = true) {k : Nat} {m : OpW} (hm : xs[k]? = some m) : m.s.size ≤ 200 ∧ m.n ≤ 9007199254740992 := by
  have := (List.all_eq_true.1 (few_ok h).1) m (List.mem_of_getElem? hm)
  unfold okW at this
  simpa using this

set_option maxHeartbeats 4000000 in
theorem back_any (v : Value) (xs : List OpW) (w : World) (hg : Gl w) (hv : SlR w v 5 IsOpW xs) :
    Calls Tryd.prog 3 #[v] w fun e w' => e = .returned (.bool true) ∧ Fr noB w w' := by
  cases hfew : fewW xs with
  | false =>
    have hf := few_any v xs
    go_enter Tryd.func3, Tryd.ntmps3
    go_wp2_with fail
    refine (awake_any _ hg).mono ?_
    rintro e w1 ⟨rfl, f1⟩
    have hf1 := hf w1 (hv.frame f1 (fun _ _ q => q))
    rw [hfew] at hf1
    clear hf
    go_wp2_with fail
    refine hf1.mono ?_
    rintro e w2 ⟨rfl, f2⟩
    go_wp2_with fail
    refine (awake_any _ (hg.fr (f1.seqN f2))).mono ?_
    rintro e wr ⟨rfl, f3⟩
    go_wp2_with fail
    go_ret
    exact ⟨rfl, (f1.seqN f2).seqN f3⟩
  | true =>
    have hf := few_any v xs
    obtain ⟨hall, hx60⟩ := few_ok hfew
    have hget := fun k m => few_get hfew (k := k) (m := m)
    have hlen : ∀ k, (allL (xs.take k)).length ≤ 145680 := fun k => by
      have h1 := all_len (xs.take k) (by
        rw [List.all_eq_true] at hall ⊢
        exact fun x hx => hall x (List.mem_of_mem_take hx))
      rw [List.length_take] at h1
      omega
    replace hall := Lib.hid hall
    replace hget := Lib.hid hget
    replace hlen := Lib.hid hlen
    go_enter Tryd.func3, Tryd.ntmps3
    go_wp2_with fail
    refine (awake_any _ hg).mono ?_
    rintro e w0 ⟨rfl, f0⟩
    have hf1 := hf w0 (hv.frame f0 (fun _ _ q => q))
    rw [hfew] at hf1
    clear hf
    go_wp2_with fail
    refine hf1.mono ?_
    rintro e w1 ⟨rfl, f1⟩
    have f01 := f0.seqN f1
    have gb := (hg.fr f01).low
    have key : ∀ w', Fr (hiB w1.heap.size) w1 w' → Fr noB w w' := fun w' f => f01.seqN f.hiN
    have hv1 := hv.frame f01 (fun _ _ q => q)
    obtain ⟨a, c, rfl, hx1, hx2, hx3⟩ := hv1
    unfold maxLen at hx2
    have hcell : ∀ k m, xs[k]? = some m → ∃ g o, a = some ⟨g, o, none⟩ ∧ (∀ w' : World, Fr (hiB w1.heap.size) w1 w' → w'.cell? ⟨g, o + k * 5, none⟩ = some (.int .i64 m.k) ∧ w'.cell? ⟨g, o + k * 5 + 1, none⟩ = some (.int .i64 m.n) ∧ w'.cell? ⟨g, o + k * 5 + 2, none⟩ = some (.int .i64 m.lo) ∧ w'.cell? ⟨g, o + k * 5 + 3, none⟩ = some (.int .i64 m.hi) ∧ w'.cell? ⟨g, o + k * 5 + 4, none⟩ = some (.string m.s)) ∧ okI m.n := fun k m hm => by
      obtain ⟨g, o, cs, rfl, _, hR, hc⟩ := hx3 k m hm
      have hlt : ¬ hiB w1.heap.size g := by
        have := lt_of_cell (hc 0 (.int .i64 m.k) (by rw [hR.1]; rfl))
        unfold hiB; omega
      exact ⟨g, o, rfl, fun w' f => ⟨f.cell (hc 0 (.int .i64 m.k) (by rw [hR.1]; rfl)) hlt, f.cell (hc 1 (.int .i64 m.n) (by rw [hR.1]; rfl)) hlt, f.cell (hc 2 (.int .i64 m.lo) (by rw [hR.1]; rfl)) hlt, f.cell (hc 3 (.int .i64 m.hi) (by rw [hR.1]; rfl)) hlt, f.cell (hc 4 (.string m.s) (by rw [hR.1]; rfl)) hlt⟩, hR.2.2.1⟩
    have hex : ∀ k, k < xs.length → ∃ m, xs[k]? = some m := fun k hk => ⟨xs[k], List.getElem?_eq_getElem hk⟩
    have htk := fun k m => all_take xs k m
    have hdr := fun k m => all_drop xs k m
    have hfull : allL (xs.take xs.length) = allL xs := by rw [List.take_length]
    have hend : allL (xs.drop xs.length) = [] := by rw [List.drop_length]; rfl
    have hval := all_valid xs
    obtain ⟨B, hB⟩ : ∃ B, w1.heap.size = B := ⟨_, rfl⟩
    rw [hB] at gb key hcell
    generalize hn : xs.length = n at *
    have hnb : n ≤ 60 := hx60
    obtain ⟨hx1, _⟩ := hx1
    replace key := Lib.hid key
    replace hcell := Lib.hid hcell
    replace hex := Lib.hid hex
    replace htk := Lib.hid htk
    replace hdr := Lib.hid hdr
    replace hfull := Lib.hid hfull
    replace hend := Lib.hid hend
    replace hval := Lib.hid hval
    replace hn := Lib.hid hn
    replace hv := Lib.hid hv
    clear hx3 hf1 f0 f1 f01
    have bp := Blk.new w1 27 [.slice none 0 0]
    rw [hB] at bp
    have f2 : Fr (hiB B) w1 (w1.alloc (.cells #[Value.slice none 0 0] 27)) := (Fr.refl _ w1).alloc _
    have s2 : (w1.alloc (.cells #[Value.slice none 0 0] 27)).heap.size = B + 1 := by rw [size_alloc, hB]
    go_wp2_with fail
    generalize (w1.alloc (.cells #[Value.slice none 0 0] 27)) = w2 at *
    have hw0 := wr_new (B := B) bp (by omega)
    clear bp s2
    go_loopg [4, 21] n (fun gk vs vi wr => ∃ (k : Nat) (v' : Value), k + gk = n ∧ vi = .int .i64 k ∧ vs = .string (strB (allL (xs.take k))) ∧ Hid (Wr wr B v' B (allL (xs.take k))) ∧ Fr (hiB B) w1 wr)
    case atStart => exact ⟨0, _, by omega, rfl, rfl, Lib.hid hw0, f2⟩
    case round =>
      obtain ⟨k, v', hkn, rfl, rfl, hw, fr⟩ := hrel
      clear hw0 f2
      by_cases hlt : k < n
      · obtain ⟨m, hm⟩ := hex.out k hlt
        obtain ⟨g, o, rfl, hc, hmn⟩ := hcell.out k m hm
        obtain ⟨c0, c1, c2, c3, c4⟩ := hc wr fr
        have hok := hget.out k m hm
        obtain ⟨hms, hmn2⟩ := hok
        have htk1 := htk.out k m hm
        have hl0 := hlen.out k
        have hl1 := hlen.out (k + 1)
        have fX := fr.alloc (.cells #[.int .i64 m.k, .int .i64 m.n, .int .i64 m.lo, .int .i64 m.hi, .string m.s] 29)
        have bX := Blk.new wr 29 [.int .i64 m.k, .int .i64 m.n, .int .i64 m.lo, .int .i64 m.hi, .string m.s]
        have hwX := hw.out.frN ((Fr.refl noB wr).alloc (.cells #[.int .i64 m.k, .int .i64 m.n, .int .i64 m.lo, .int .i64 m.hi, .string m.s] 29))
        have hBz : B ≤ wr.heap.size := by have := fr.size; omega
        have hBp : B < wr.heap.size := hw.out.1.lt
        obtain ⟨z, hz⟩ : ∃ z, wr.heap.size = z := ⟨_, rfl⟩
        have sX : (wr.alloc (.cells #[.int .i64 m.k, .int .i64 m.n, .int .i64 m.lo, .int .i64 m.hi, .string m.s] 29)).heap.size = z + 1 := by rw [size_alloc, hz]
        rw [hz] at bX hBz hBp
        have hb1 : (k : Int) < n := by omega
        have hwf := wf_i64 hmn
        have hmeas : n - (k + 1) < gk := by omega
        have hkn2 : k + 1 + (n - (k + 1)) = n := by omega
        replace hm := Lib.hid hm
        replace htk1 := Lib.hid htk1
        replace hl0 := Lib.hid hl0
        replace hl1 := Lib.hid hl1
        replace hwf := Lib.hid hwf
        replace hmn2 := Lib.hid hmn2
        replace hms := Lib.hid hms
        replace hmeas := Lib.hid hmeas
        replace hkn2 := Lib.hid hkn2
        clear hc hmn fr hw
        by_cases hk1 : m.k = 1
        · have hfl : fieldL m = numL m.n.toNat := by unfold fieldL; rw [if_pos hk1]
          rw [hk1] at c0 fX bX hwX sX
          replace hk1 := Lib.hid hk1
          have hri := fun w => refint_any m.n w hwf.out.1 hwf.out.2
          have hcat : strB (allL (xs.take k)) ++ strB (numL m.n.toNat) = strB (allL (xs.take (k + 1))) := by rw [strB_append, htk1.out, hfl]
          have hsum : (strB (allL (xs.take k))).size + (strB (numL m.n.toNat)).size ≤ 9223372036854775807 := by
            have := hl0.out
            have := (num_len m.n.toNat).2
            rw [strB_size, strB_size]; omega
          have hnw : allL (xs.take k) ++ numsL [m.n] = allL (xs.take (k + 1)) := by rw [htk1.out, hfl]; unfold numsL; simp
          replace hri := Lib.hid hri
          replace hcat := Lib.hid hcat
          replace hnw := Lib.hid hnw
          replace hfl := Lib.hid hfl
          go_wp2_with fail
          generalize (wr.alloc (.cells #[.int .i64 1, .int .i64 m.n, .int .i64 m.lo, .int .i64 m.hi, .string m.s] 29)) = w4 at *
          refine (wint_new B B (z + 1) _ _ [m.n] w4 hwX sX (by intro x hx; simp at hx; subst hx; exact hwf.out) (by have := hl0.out; simp; omega)).mono ?_
          rintro e w5 ⟨rfl, v5, hw5, f5⟩
          rw [hnw.out] at hw5
          have fr5 := fX.hi f5 (by rintro i hi (q | ⟨q, _⟩) <;> omega)
          have bX5 := f5.blk bX (bX.notW (by decide) (by omega))
          have d1 : w5.cell? ⟨z, 1, none⟩ = some (.int .i64 m.n) := bX5.cell 1
          replace hw5 := Lib.hid hw5
          clear f5 bX hwX sX fX c0 c1 c2 c3 c4
          go_wp2_with fail
          refine (hri.out w5).mono ?_
          rintro e w6 ⟨rfl, f6⟩
          have fr6 := fr5.hi0 f6
          have hw6 := hw5.out.frN f6
          clear d1 bX5
          go_wp2_with fail
          go_roundg (n - (k + 1))
          case rel => exact ⟨k + 1, v5, hkn2.out, by go_num, by rw [hcat.out], Lib.hid hw6, fr6⟩
          case measure => exact hmeas.out
        · have hfl : fieldL m = textL m.s.data.toList := by unfold fieldL; rw [if_neg hk1]
          have b1 : (m.k == 1) = false := by simpa using hk1
          have hri := fun w => reftext_any m.s w (by have := hms.out; omega)
          have hcat : strB (allL (xs.take k)) ++ strB (textL m.s.data.toList) = strB (allL (xs.take (k + 1))) := by rw [strB_append, htk1.out, hfl]
          have hsum : (strB (allL (xs.take k))).size + (strB (textL m.s.data.toList)).size ≤ 9223372036854775807 := by
            have h1 := hl1.out
            rw [htk1.out, hfl, List.length_append] at h1
            rw [strB_size, strB_size]; omega
          have hnw : allL (xs.take k) ++ textL m.s.data.toList = allL (xs.take (k + 1)) := by rw [htk1.out, hfl]
          have gbX := gb.hi fX
          replace hri := Lib.hid hri
          replace hcat := Lib.hid hcat
          replace hnw := Lib.hid hnw
          replace hfl := Lib.hid hfl
          go_wp2_with fail
          generalize (wr.alloc (.cells #[.int .i64 m.k, .int .i64 m.n, .int .i64 m.lo, .int .i64 m.hi, .string m.s] 29)) = w4 at *
          refine (wtext_new B B B (z + 1) _ _ m.s w4 hwX sX gbX (Nat.le_refl _) (Nat.le_refl _) (by have := hms.out; omega) (by have := hl0.out; omega)).mono ?_
          rintro e w5 ⟨rfl, v5, hw5, f5⟩
          rw [hnw.out] at hw5
          have fr5 := fX.hi f5 (by rintro i hi (q | ⟨q, _⟩) <;> omega)
          have bX5 := f5.blk bX (bX.notW (by decide) (by omega))
          have d4 : w5.cell? ⟨z, 4, none⟩ = some (.string m.s) := bX5.cell 4
          replace hw5 := Lib.hid hw5
          clear f5 bX hwX sX fX c0 c1 c2 c3 c4
          go_wp2_with fail
          refine (hri.out w5).mono ?_
          rintro e w6 ⟨rfl, f6⟩
          have fr6 := fr5.hi0 f6
          have hw6 := hw5.out.frN f6
          clear d4 bX5
          go_wp2_with fail
          go_roundg (n - (k + 1))
          case rel => exact ⟨k + 1, v5, hkn2.out, by go_num, by rw [hcat.out], Lib.hid hw6, fr6⟩
          case measure => exact hmeas.out
      · obtain rfl : k = n := by omega
        rw [hfull.out] at hw
        rw [hfull.out]
        have hL := hlen.out k
        rw [hfull.out] at hL
        have st := wstr_any B B v' (allL xs) wr hw.out
        have hvl := fun w => rvalid_any (strB (allL xs)) w (by rw [strB_size]; omega)
        rw [strB_list, hval.out] at hvl
        have ht : (strB (allL xs)).size ≤ 200000 := by rw [strB_size]; omega
        have h0 : (strB (allL xs)).data.toList = allL (xs.drop 0) := by rw [strB_list, List.drop_zero]
        have e1 : ((strB (allL xs)).toList == (strB (allL xs)).toList) = true := by simp
        clear hkn hw hL
        generalize strB (allL xs) = TT at *
        replace hvl := Lib.hid hvl
        replace h0 := Lib.hid h0
        go_wp2_with fail
        refine st.mono ?_
        rintro e w4 ⟨rfl, hw4⟩
        obtain rfl := hw4.symm
        clear hw4 st
        go_wp2_with fail
        refine (hvl.out _).mono ?_
        rintro e w4 ⟨rfl, f4⟩
        have fr4 := fr.hi0 f4
        clear f4 fr hvl
        go_wp2_with fail
        refine (newr_any TT w4).mono ?_
        rintro e w5 ⟨rfl, hw5⟩
        have rd := rd_new TT w4 ht
        rw [← hw5, h0.out] at rd
        have fr5 : Fr (hiB B) w1 w5 := by rw [hw5]; exact fr4.alloc _
        have hq : B ≤ w4.heap.size := by have := fr4.size; omega
        clear hw5 fr4
        generalize w4.heap.size = q at *
        have hqne := gb.ne hq
        replace hqne := hqne
        go_wp2_with fail
        go_loopg [59] k (fun gk vi w6 => ∃ j : Nat, j + gk = k ∧ vi = .int .i64 j ∧ Hid (Rd w6 q (some (allL (xs.drop j)))) ∧ Fr (hiB B) w1 w6)
        case atStart => exact ⟨0, by omega, rfl, Lib.hid rd, fr5⟩
        case round =>
          clear rd fr5
          obtain ⟨n, hnk⟩ : ∃ n, n = k := ⟨k, rfl⟩
          subst hnk
          obtain ⟨k, hkn, rfl, hrd, fr⟩ := hrel
          by_cases hlt : k < n
          · obtain ⟨m, hm⟩ := hex.out k hlt
            obtain ⟨g, o, rfl, hc, hmn⟩ := hcell.out k m hm
            obtain ⟨c0, c1, c2, c3, c4⟩ := hc wr fr
            obtain ⟨hms, hmn2⟩ := hget.out k m hm
            have hdr1 := hdr.out k m hm
            have fX := fr.alloc (.cells #[.int .i64 m.k, .int .i64 m.n, .int .i64 m.lo, .int .i64 m.hi, .string m.s] 29)
            have bX := Blk.new wr 29 [.int .i64 m.k, .int .i64 m.n, .int .i64 m.lo, .int .i64 m.hi, .string m.s]
            have rdX := hrd.out.fr ((Fr.refl noB wr).alloc (.cells #[.int .i64 m.k, .int .i64 m.n, .int .i64 m.lo, .int .i64 m.hi, .string m.s] 29)) (fun q => q)
            have hzq : ¬ wr.heap.size = q := by
              obtain ⟨_, _, h1, _⟩ := hrd.out
              have := h1.lt
              omega
            have hok := fun w h => rok_any q (some (allL (xs.drop (k + 1)))) w h
            obtain ⟨z, hz⟩ : ∃ z, wr.heap.size = z := ⟨_, rfl⟩
            rw [hz] at bX hzq
            have hb1 : (k : Int) < n := by omega
            have hmeas : n - (k + 1) < gk := by omega
            have hkn2 : k + 1 + (n - (k + 1)) = n := by omega
            replace hm := Lib.hid hm
            replace hdr1 := Lib.hid hdr1
            replace hmn2 := Lib.hid hmn2
            replace hms := Lib.hid hms
            replace hmeas := Lib.hid hmeas
            replace hkn2 := Lib.hid hkn2
            replace hok := Lib.hid hok
            clear hc hmn fr hrd
            by_cases hk1 : m.k = 1
            · skip
              have hfl : fieldL m = numL m.n.toNat := by unfold fieldL; rw [if_pos hk1]
              have hbk := int_back m.n.toNat (max m.n 0) (max m.n 0) (allL (xs.drop (k + 1))) (by have := hmn2.out; omega) (by omega) (by omega)
              rw [← hfl, ← hdr1.out] at hbk
              have hri := fun w h => rint_any q (some (allL (xs.drop k))) (max m.n 0) (max m.n 0) w h
              rw [show (some (allL (xs.drop k))).bind (intS (max m.n 0) (max m.n 0)) = some (m.n.toNat, allL (xs.drop (k + 1))) from hbk, show vI (some (m.n.toNat, allL (xs.drop (k + 1)))) = max m.n 0 by simp only [vI]; omega, show sI (some (m.n.toNat, allL (xs.drop (k + 1)))) = some (allL (xs.drop (k + 1))) from rfl] at hri
              rw [hk1] at c0 fX bX rdX
              replace hk1 := Lib.hid hk1
              replace hri := Lib.hid hri
              replace hbk := Lib.hid hbk
              replace hfl := Lib.hid hfl
              go_wp2_with fail
              go_upto_region 21 with fail
              generalize (wr.alloc (.cells #[.int .i64 1, .int .i64 m.n, .int .i64 m.lo, .int .i64 m.hi, .string m.s] 29)) = wX at *
              have d0 : wX.cell? ⟨z, 0, none⟩ = some (.int .i64 1) := bX.cell 0
              have d4 : wX.cell? ⟨z, 4, none⟩ = some (.string m.s) := bX.cell 4
              clear c0 c1 c2 c3 c4
              have hbt : ∀ w', Blk w' z 29 [.int .i64 1, .int .i64 m.n, .int .i64 m.lo, .int .i64 m.hi, .string m.s] → w'.cell? ⟨z, 0, none⟩ = some (.int .i64 1) ∧ w'.cell? ⟨z, 4, none⟩ = some (.string m.s) := fun w' h => ⟨h.cell 0, h.cell 4⟩
              replace hbt := Lib.hid hbt
              refine wp_region_held_drew (S := fun w' => w'.cell? ⟨z, 0, none⟩ = some (.int .i64 1) ∧ w'.cell? ⟨z, 4, none⟩ = some (.string m.s)) (by kernel_rfl) ?_ (fun hHeld => ?_)
              · exact hbt.out _ (by exact bX)
              refine wpAnyH_take (i := 0) (oi := { dst := some 66, op := Op.fieldAddr 29 (Operand.tmp 9) 0, type := 0, pos := "law.go:60", after := #[], guard := none }) (v := ?_) rfl (by kernel_rfl) (by kernel_rfl) (by kernel_rfl) (fun _ _ _ h => h) (Or.inl ⟨by rfl, ?_⟩) (by assumption) ?_
              rotate_left
              focus (intro w hSw; (try dsimp only at hSw); go_simp; try with_reducible rfl)
              (try simp only [Act.put, List.setIfInBounds_toArray, List.set_cons_zero, List.set_cons_succ])
              refine wpAnyH_take (i := 1) (oi := { dst := some 67, op := Op.load 3 (Operand.tmp 66), type := 3, pos := "law.go:60", after := #[{ on := 0, ground := Ground.data }], guard := none }) (v := ?_) rfl (by kernel_rfl) (by kernel_rfl) (by kernel_rfl) (fun _ _ _ h => h) (Or.inl ⟨by rfl, ?_⟩) (by assumption) ?_
              rotate_left
              focus (intro w hSw; (try dsimp only at hSw); go_simp; try with_reducible rfl)
              (try simp only [Act.put, List.setIfInBounds_toArray, List.set_cons_zero, List.set_cons_succ])
              refine wpAnyH_take (i := 2) (oi := { dst := some 68, op := Op.binOp BinOp.eql 3 (Operand.tmp 67) (Operand.const (Value.int IntKind.i64 1)) 3, type := 4, pos := "law.go:60", after := #[{ on := 1, ground := Ground.data }], guard := none }) (v := ?_) rfl (by kernel_rfl) (by kernel_rfl) (by kernel_rfl) (fun _ _ _ h => h) (Or.inl ⟨by rfl, ?_⟩) (by assumption) ?_
              rotate_left
              focus (intro w hSw; (try dsimp only at hSw); go_simp; try with_reducible rfl)
              (try simp only [Act.put, List.setIfInBounds_toArray, List.set_cons_zero, List.set_cons_succ])
              refine wpAnyH_take (i := 3) (oi := { dst := some 69, op := Op.move (Operand.tmp 68), type := 4, pos := "law.go:60", after := #[{ on := 2, ground := Ground.data }], guard := none }) (v := ?_) rfl (by kernel_rfl) (by kernel_rfl) (by kernel_rfl) (fun _ _ _ h => h) (Or.inl ⟨by rfl, ?_⟩) (by assumption) ?_
              rotate_left
              focus (intro w hSw; (try dsimp only at hSw); go_simp; try with_reducible rfl)
              (try simp only [Act.put, List.setIfInBounds_toArray, List.set_cons_zero, List.set_cons_succ])
              refine wpAnyH_take (i := 4) (oi := { dst := some 70, op := Op.move (Operand.tmp 7), type := 36, pos := "law.go:60", after := #[{ on := 3, ground := Ground.guard }], guard := some (3, true) }) (v := ?_) rfl (by kernel_rfl) (by kernel_rfl) (by kernel_rfl) (fun _ _ _ h => h) (Or.inl ⟨by rfl, ?_⟩) (by assumption) ?_
              rotate_left
              focus (intro w hSw; (try dsimp only at hSw); go_simp; try with_reducible rfl)
              (try simp only [Act.put, List.setIfInBounds_toArray, List.set_cons_zero, List.set_cons_succ])
              refine wpAnyH_take (i := 5) (oi := { dst := some 71, op := Op.move (Operand.tmp 10), type := 3, pos := "law.go:60", after := #[{ on := 3, ground := Ground.guard }], guard := some (3, true) }) (v := ?_) rfl (by kernel_rfl) (by kernel_rfl) (by kernel_rfl) (fun _ _ _ h => h) (Or.inl ⟨by rfl, ?_⟩) (by assumption) ?_
              rotate_left
              focus (intro w hSw; (try dsimp only at hSw); go_simp; try with_reducible rfl)
              (try simp only [Act.put, List.setIfInBounds_toArray, List.set_cons_zero, List.set_cons_succ])
              refine wpAnyH_take (i := 6) (oi := { dst := some 72, op := Op.move (Operand.tmp 10), type := 3, pos := "law.go:60", after := #[{ on := 3, ground := Ground.guard }], guard := some (3, true) }) (v := ?_) rfl (by kernel_rfl) (by kernel_rfl) (by kernel_rfl) (fun _ _ _ h => h) (Or.inl ⟨by rfl, ?_⟩) (by assumption) ?_
              rotate_left
              focus (intro w hSw; (try dsimp only at hSw); go_simp; try with_reducible rfl)
              (try simp only [Act.put, List.setIfInBounds_toArray, List.set_cons_zero, List.set_cons_succ])
              refine wpAnyH_take (i := 8) (oi := { dst := some 74, op := Op.move (Operand.tmp 10), type := 3, pos := "law.go:60", after := #[{ on := 3, ground := Ground.guard }], guard := some (3, true) }) (v := ?_) rfl (by kernel_rfl) (by kernel_rfl) (by kernel_rfl) (fun _ _ _ h => h) (Or.inl ⟨by rfl, ?_⟩) (by assumption) ?_
              rotate_left
              focus (intro w hSw; (try dsimp only at hSw); go_simp; try with_reducible rfl)
              (try simp only [Act.put, List.setIfInBounds_toArray, List.set_cons_zero, List.set_cons_succ])
              refine wpAnyH_ready (rs := [7]) (by kernel_rfl) (by simp) ?_
              refine AllReadyH.cons (o := { dst := some 73, op := Op.call { callee := Callee.value (Operand.func 16), args := #[Operand.tmp 70, Operand.tmp 71, Operand.tmp 72], argTypes := #[36, 3, 3] }, type := 3, pos := "law.go:60", after := #[{ on := 4, ground := Ground.data }, { on := 5, ground := Ground.data }, { on := 6, ground := Ground.data }, { on := 3, ground := Ground.chain }, { on := 3, ground := Ground.guard }], guard := some (3, true) }) rfl (fun K hK => ?_) AllReadyH.nil
              go_simp
              refine (hri.out _ (by exact rdX)).mono ?_
              rintro e w6 ⟨rfl, rd6, f6⟩
              have bz6 : Blk w6 z 29 [.int .i64 1, .int .i64 m.n, .int .i64 m.lo, .int .i64 m.hi, .string m.s] := f6.blk (by exact bX) (fun q => hzq q)
              have fr6 : Fr (hiB B) w1 w6 := by first | exact fX.hiO f6 hq | exact fX.drew.hiO f6 hq | exact (fX.drewN 1).hiO f6 hq
              refine hK.out _ _ ?_ (fun hHeld => ?_)
              · exact hbt.out _ (by exact bz6)
              clear hK K
              (try simp only [Act.put, List.setIfInBounds_toArray, List.set_cons_zero, List.set_cons_succ])
              refine wpAnyH_take (i := 9) (oi := { dst := some 75, op := Op.binOp BinOp.neq 3 (Operand.tmp 73) (Operand.tmp 74) 3, type := 4, pos := "law.go:60", after := #[{ on := 7, ground := Ground.data }, { on := 8, ground := Ground.data }, { on := 3, ground := Ground.guard }], guard := some (3, true) }) (v := ?_) rfl (by kernel_rfl) (by kernel_rfl) (by kernel_rfl) (fun _ _ _ h => h) (Or.inl ⟨by rfl, ?_⟩) (by assumption) ?_
              rotate_left
              focus (intro w hSw; (try dsimp only at hSw); go_simp; try with_reducible rfl)
              (try simp only [Act.put, List.setIfInBounds_toArray, List.set_cons_zero, List.set_cons_succ])
              refine wpAnyH_take (i := 10) (oi := { dst := some 76, op := Op.pick (Operand.tmp 69) (Operand.tmp 75) (Operand.const (Value.bool false)), type := 4, pos := "law.go:60", after := #[{ on := 3, ground := Ground.data }, { on := 9, ground := Ground.data }], guard := none }) (v := ?_) rfl (by kernel_rfl) (by kernel_rfl) (by kernel_rfl) (fun _ _ _ h => h) (Or.inl ⟨by rfl, ?_⟩) (by assumption) ?_
              rotate_left
              focus (intro w hSw; (try dsimp only at hSw); go_simp; try with_reducible rfl)
              (try simp only [Act.put, List.setIfInBounds_toArray, List.set_cons_zero, List.set_cons_succ])
              refine wpAnyH_take (i := 11) (oi := { dst := some 77, op := Op.move (Operand.tmp 76), type := 4, pos := "law.go:60", after := #[{ on := 10, ground := Ground.data }, { on := 7, ground := Ground.chain }], guard := none }) (v := ?_) rfl (by kernel_rfl) (by kernel_rfl) (by kernel_rfl) (fun _ _ _ h => h) (Or.inl ⟨by rfl, ?_⟩) (by assumption) ?_
              rotate_left
              focus (intro w hSw; (try dsimp only at hSw); go_simp; try with_reducible rfl)
              (try simp only [Act.put, List.setIfInBounds_toArray, List.set_cons_zero, List.set_cons_succ])
              refine wpAnyH_take (i := 12) (oi := { dst := some 78, op := Op.fieldAddr 29 (Operand.tmp 9) 0, type := 0, pos := "law.go:60", after := #[{ on := 11, ground := Ground.guard }], guard := some (11, false) }) (v := ?_) rfl (by kernel_rfl) (by kernel_rfl) (by kernel_rfl) (fun _ _ _ h => h) (Or.inl ⟨by rfl, ?_⟩) (by assumption) ?_
              rotate_left
              focus (intro w hSw; (try dsimp only at hSw); go_simp; try with_reducible rfl)
              (try simp only [Act.put, List.setIfInBounds_toArray, List.set_cons_zero, List.set_cons_succ])
              refine wpAnyH_take (i := 13) (oi := { dst := some 79, op := Op.load 3 (Operand.tmp 78), type := 3, pos := "law.go:60", after := #[{ on := 12, ground := Ground.data }, { on := 11, ground := Ground.guard }], guard := some (11, false) }) (v := ?_) rfl (by kernel_rfl) (by kernel_rfl) (by kernel_rfl) (fun _ _ _ h => h) (Or.inl ⟨by rfl, ?_⟩) (by assumption) ?_
              rotate_left
              focus (intro w hSw; (try dsimp only at hSw); go_simp; try with_reducible rfl)
              (try simp only [Act.put, List.setIfInBounds_toArray, List.set_cons_zero, List.set_cons_succ])
              refine wpAnyH_take (i := 14) (oi := { dst := some 80, op := Op.binOp BinOp.neq 3 (Operand.tmp 79) (Operand.const (Value.int IntKind.i64 1)) 3, type := 4, pos := "law.go:60", after := #[{ on := 13, ground := Ground.data }, { on := 11, ground := Ground.guard }], guard := some (11, false) }) (v := ?_) rfl (by kernel_rfl) (by kernel_rfl) (by kernel_rfl) (fun _ _ _ h => h) (Or.inl ⟨by rfl, ?_⟩) (by assumption) ?_
              rotate_left
              focus (intro w hSw; (try dsimp only at hSw); go_simp; try with_reducible rfl)
              (try simp only [Act.put, List.setIfInBounds_toArray, List.set_cons_zero, List.set_cons_succ])
              refine wpAnyH_take (i := 15) (oi := { dst := some 81, op := Op.move (Operand.tmp 80), type := 4, pos := "law.go:60", after := #[{ on := 14, ground := Ground.data }, { on := 11, ground := Ground.chain }, { on := 11, ground := Ground.guard }], guard := some (11, false) }) (v := ?_) rfl (by kernel_rfl) (by kernel_rfl) (by kernel_rfl) (fun _ _ _ h => h) (Or.inl ⟨by rfl, ?_⟩) (by assumption) ?_
              rotate_left
              focus (intro w hSw; (try dsimp only at hSw); go_simp; try with_reducible rfl)
              (try simp only [Act.put, List.setIfInBounds_toArray, List.set_cons_zero, List.set_cons_succ])
              refine wpAnyH_take (i := 16) (oi := { dst := some 82, op := Op.move (Operand.tmp 7), type := 36, pos := "law.go:60", after := #[{ on := 15, ground := Ground.guard }], guard := some (15, true) }) (v := undef) rfl (by kernel_rfl) (by kernel_rfl) (by kernel_rfl) (fun _ _ _ h => h) (Or.inr ⟨by rfl, rfl⟩) (by assumption) ?_
              (try simp only [Act.put, List.setIfInBounds_toArray, List.set_cons_zero, List.set_cons_succ])
              refine wpAnyH_take (i := 17) (oi := { dst := some 83, op := Op.call { callee := Callee.value (Operand.func 17), args := #[Operand.tmp 82, Operand.const (Value.int IntKind.i64 200)], argTypes := #[36, 3] }, type := 9, pos := "law.go:60", after := #[{ on := 16, ground := Ground.data }, { on := 15, ground := Ground.chain }, { on := 15, ground := Ground.guard }], guard := some (15, true) }) (v := undef) rfl (by kernel_rfl) (by kernel_rfl) (by kernel_rfl) (fun _ _ _ h => h) (Or.inr ⟨by rfl, rfl⟩) (by assumption) ?_
              (try simp only [Act.put, List.setIfInBounds_toArray, List.set_cons_zero, List.set_cons_succ])
              refine wpAnyH_take (i := 18) (oi := { dst := some 84, op := Op.fieldAddr 29 (Operand.tmp 9) 4, type := 0, pos := "law.go:60", after := #[{ on := 15, ground := Ground.guard }], guard := some (15, true) }) (v := undef) rfl (by kernel_rfl) (by kernel_rfl) (by kernel_rfl) (fun _ _ _ h => h) (Or.inr ⟨by rfl, rfl⟩) (by assumption) ?_
              (try simp only [Act.put, List.setIfInBounds_toArray, List.set_cons_zero, List.set_cons_succ])
              refine wpAnyH_take (i := 19) (oi := { dst := some 85, op := Op.load 9 (Operand.tmp 84), type := 9, pos := "law.go:60", after := #[{ on := 18, ground := Ground.data }, { on := 15, ground := Ground.guard }], guard := some (15, true) }) (v := undef) rfl (by kernel_rfl) (by kernel_rfl) (by kernel_rfl) (fun _ _ _ h => h) (Or.inr ⟨by rfl, rfl⟩) (by assumption) ?_
              (try simp only [Act.put, List.setIfInBounds_toArray, List.set_cons_zero, List.set_cons_succ])
              refine wpAnyH_take (i := 20) (oi := { dst := some 86, op := Op.binOp BinOp.neq 9 (Operand.tmp 83) (Operand.tmp 85) 9, type := 4, pos := "law.go:60", after := #[{ on := 17, ground := Ground.data }, { on := 19, ground := Ground.data }, { on := 15, ground := Ground.guard }], guard := some (15, true) }) (v := undef) rfl (by kernel_rfl) (by kernel_rfl) (by kernel_rfl) (fun _ _ _ h => h) (Or.inr ⟨by rfl, rfl⟩) (by assumption) ?_
              (try simp only [Act.put, List.setIfInBounds_toArray, List.set_cons_zero, List.set_cons_succ])
              refine wpAnyH_take (i := 21) (oi := { dst := some 87, op := Op.pick (Operand.tmp 81) (Operand.tmp 86) (Operand.const (Value.bool false)), type := 4, pos := "law.go:60", after := #[{ on := 15, ground := Ground.data }, { on := 20, ground := Ground.data }, { on := 11, ground := Ground.guard }], guard := some (11, false) }) (v := ?_) rfl (by kernel_rfl) (by kernel_rfl) (by kernel_rfl) (fun _ _ _ h => h) (Or.inl ⟨by rfl, ?_⟩) (by assumption) ?_
              rotate_left
              focus (intro w hSw; (try dsimp only at hSw); go_simp; try with_reducible rfl)
              (try simp only [Act.put, List.setIfInBounds_toArray, List.set_cons_zero, List.set_cons_succ])
              refine wpAnyH_take (i := 22) (oi := { dst := some 88, op := Op.pick (Operand.tmp 77) (Operand.const (Value.bool true)) (Operand.tmp 87), type := 4, pos := "law.go:60", after := #[{ on := 11, ground := Ground.data }, { on := 21, ground := Ground.data }], guard := none }) (v := ?_) rfl (by kernel_rfl) (by kernel_rfl) (by kernel_rfl) (fun _ _ _ h => h) (Or.inl ⟨by rfl, ?_⟩) (by assumption) ?_
              rotate_left
              focus (intro w hSw; (try dsimp only at hSw); go_simp; try with_reducible rfl)
              (try simp only [Act.put, List.setIfInBounds_toArray, List.set_cons_zero, List.set_cons_succ])
              refine wpAnyH_take (i := 23) (oi := { dst := some 89, op := Op.move (Operand.tmp 88), type := 4, pos := "law.go:60", after := #[{ on := 22, ground := Ground.data }, { on := 17, ground := Ground.chain }], guard := none }) (v := ?_) rfl (by kernel_rfl) (by kernel_rfl) (by kernel_rfl) (fun _ _ _ h => h) (Or.inl ⟨by rfl, ?_⟩) (by assumption) ?_
              rotate_left
              focus (intro w hSw; (try dsimp only at hSw); go_simp; try with_reducible rfl)
              (try simp only [Act.put, List.setIfInBounds_toArray, List.set_cons_zero, List.set_cons_succ])
              refine wpAnyH_take (i := 24) (oi := { dst := some 90, op := Op.move (Operand.tmp 7), type := 36, pos := "law.go:60", after := #[{ on := 23, ground := Ground.guard }], guard := some (23, false) }) (v := ?_) rfl (by kernel_rfl) (by kernel_rfl) (by kernel_rfl) (fun _ _ _ h => h) (Or.inl ⟨by rfl, ?_⟩) (by assumption) ?_
              rotate_left
              focus (intro w hSw; (try dsimp only at hSw); go_simp; try with_reducible rfl)
              (try simp only [Act.put, List.setIfInBounds_toArray, List.set_cons_zero, List.set_cons_succ])
              refine wpAnyH_ready (rs := [25]) (by kernel_rfl) (by simp) ?_
              refine AllReadyH.cons (o := { dst := some 91, op := Op.call { callee := Callee.value (Operand.func 18), args := #[Operand.tmp 90], argTypes := #[36] }, type := 4, pos := "law.go:60", after := #[{ on := 24, ground := Ground.data }, { on := 23, ground := Ground.chain }, { on := 23, ground := Ground.guard }], guard := some (23, false) }) rfl (fun K hK => ?_) AllReadyH.nil
              go_simp
              refine (hok.out _ (by exact rd6)).mono ?_
              rintro e w7 ⟨rfl, hw7⟩
              obtain rfl := hw7.symm
              clear hw7
              refine hK.out _ _ ?_ (fun hHeld => ?_)
              · exact hbt.out _ (by exact bz6)
              clear hK K
              (try simp only [Act.put, List.setIfInBounds_toArray, List.set_cons_zero, List.set_cons_succ])
              refine wpAnyH_take (i := 26) (oi := { dst := some 92, op := Op.unOp UnOp.not 4 (Operand.tmp 91), type := 4, pos := "law.go:60", after := #[{ on := 25, ground := Ground.data }, { on := 23, ground := Ground.guard }], guard := some (23, false) }) (v := ?_) rfl (by kernel_rfl) (by kernel_rfl) (by kernel_rfl) (fun _ _ _ h => h) (Or.inl ⟨by rfl, ?_⟩) (by assumption) ?_
              rotate_left
              focus (intro w hSw; (try dsimp only at hSw); go_simp; try with_reducible rfl)
              (try simp only [Act.put, List.setIfInBounds_toArray, List.set_cons_zero, List.set_cons_succ])
              refine wpAnyH_take (i := 27) (oi := { dst := some 93, op := Op.pick (Operand.tmp 89) (Operand.const (Value.bool true)) (Operand.tmp 92), type := 4, pos := "law.go:60", after := #[{ on := 23, ground := Ground.data }, { on := 26, ground := Ground.data }], guard := none }) (v := ?_) rfl (by kernel_rfl) (by kernel_rfl) (by kernel_rfl) (fun _ _ _ h => h) (Or.inl ⟨by rfl, ?_⟩) (by assumption) ?_
              rotate_left
              focus (intro w hSw; (try dsimp only at hSw); go_simp; try with_reducible rfl)
              (try simp only [Act.put, List.setIfInBounds_toArray, List.set_cons_zero, List.set_cons_succ])
              refine wpAnyH_done (by kernel_rfl) ?_ _
              (
                replace rd6 := Lib.hid rd6
                clear bz6 rdX bX fX f6
                go_wp2_with fail
                go_roundg (n - (k + 1))
                case rel => exact ⟨k + 1, hkn2.out, by go_num, Lib.hid (by exact rd6.out), by first | exact fr6 | exact fr6.drew⟩
                case measure => exact hmeas.out)
            · skip
              have hfl : fieldL m = textL m.s.data.toList := by unfold fieldL; rw [if_neg hk1]
              have hms1 := hms.out
              have hql := quote_len m.s.data.toList
              rw [size_len] at hql
              have hbk := text_back m.s.data.toList 200 (by rw [size_len]; omega) (by omega) (allL (xs.drop (k + 1)))
              rw [← hfl, ← hdr1.out] at hbk
              have hri := fun w g h => rtext_any q (some (allL (xs.drop k))) 200 w g hqne h
              rw [show (some (allL (xs.drop k))).bind (textS 200) = some (m.s.data.toList, allL (xs.drop (k + 1))) from hbk, show vT (some (m.s.data.toList, allL (xs.drop (k + 1)))) = m.s.data.toList from rfl, show sT (some (m.s.data.toList, allL (xs.drop (k + 1)))) = some (allL (xs.drop (k + 1))) from rfl, strB_of] at hri
              have b1 : (m.k == 1) = false := by simpa using hk1
              have b3 : (m.k != 1) = true := by simpa using hk1
              have b4 : decide (m.k = 1) = false := by simpa using hk1
              replace hk1 := Lib.hid hk1
              have gbX := (gb.hi fX).gl
              have bs : (m.s.toList == m.s.toList) = true := by simp
              clear hms1 hql
              replace hri := Lib.hid hri
              replace hbk := Lib.hid hbk
              replace hfl := Lib.hid hfl
              go_wp2_with fail
              go_upto_region 21 with fail
              generalize (wr.alloc (.cells #[.int .i64 m.k, .int .i64 m.n, .int .i64 m.lo, .int .i64 m.hi, .string m.s] 29)) = wX at *
              have d0 : wX.cell? ⟨z, 0, none⟩ = some (.int .i64 m.k) := bX.cell 0
              have d4 : wX.cell? ⟨z, 4, none⟩ = some (.string m.s) := bX.cell 4
              clear c0 c1 c2 c3 c4
              have hbt : ∀ w', Blk w' z 29 [.int .i64 m.k, .int .i64 m.n, .int .i64 m.lo, .int .i64 m.hi, .string m.s] → w'.cell? ⟨z, 0, none⟩ = some (.int .i64 m.k) ∧ w'.cell? ⟨z, 4, none⟩ = some (.string m.s) := fun w' h => ⟨h.cell 0, h.cell 4⟩
              replace hbt := Lib.hid hbt
              refine wp_region_held_drew (S := fun w' => w'.cell? ⟨z, 0, none⟩ = some (.int .i64 m.k) ∧ w'.cell? ⟨z, 4, none⟩ = some (.string m.s)) (by kernel_rfl) ?_ (fun hHeld => ?_)
              · exact hbt.out _ (by exact bX)
              refine wpAnyH_take (i := 0) (oi := { dst := some 66, op := Op.fieldAddr 29 (Operand.tmp 9) 0, type := 0, pos := "law.go:60", after := #[], guard := none }) (v := ?_) rfl (by kernel_rfl) (by kernel_rfl) (by kernel_rfl) (fun _ _ _ h => h) (Or.inl ⟨by rfl, ?_⟩) (by assumption) ?_
              rotate_left
              focus (intro w hSw; (try dsimp only at hSw); go_simp; try with_reducible rfl)
              (try simp only [Act.put, List.setIfInBounds_toArray, List.set_cons_zero, List.set_cons_succ])
              refine wpAnyH_take (i := 1) (oi := { dst := some 67, op := Op.load 3 (Operand.tmp 66), type := 3, pos := "law.go:60", after := #[{ on := 0, ground := Ground.data }], guard := none }) (v := ?_) rfl (by kernel_rfl) (by kernel_rfl) (by kernel_rfl) (fun _ _ _ h => h) (Or.inl ⟨by rfl, ?_⟩) (by assumption) ?_
              rotate_left
              focus (intro w hSw; (try dsimp only at hSw); go_simp; try with_reducible rfl)
              (try simp only [Act.put, List.setIfInBounds_toArray, List.set_cons_zero, List.set_cons_succ])
              refine wpAnyH_take (i := 2) (oi := { dst := some 68, op := Op.binOp BinOp.eql 3 (Operand.tmp 67) (Operand.const (Value.int IntKind.i64 1)) 3, type := 4, pos := "law.go:60", after := #[{ on := 1, ground := Ground.data }], guard := none }) (v := ?_) rfl (by kernel_rfl) (by kernel_rfl) (by kernel_rfl) (fun _ _ _ h => h) (Or.inl ⟨by rfl, ?_⟩) (by assumption) ?_
              rotate_left
              focus (intro w hSw; (try dsimp only at hSw); go_simp; try with_reducible rfl)
              (try simp only [Act.put, List.setIfInBounds_toArray, List.set_cons_zero, List.set_cons_succ])
              refine wpAnyH_take (i := 3) (oi := { dst := some 69, op := Op.move (Operand.tmp 68), type := 4, pos := "law.go:60", after := #[{ on := 2, ground := Ground.data }], guard := none }) (v := ?_) rfl (by kernel_rfl) (by kernel_rfl) (by kernel_rfl) (fun _ _ _ h => h) (Or.inl ⟨by rfl, ?_⟩) (by assumption) ?_
              rotate_left
              focus (intro w hSw; (try dsimp only at hSw); go_simp; try with_reducible rfl)
              (try simp only [Act.put, List.setIfInBounds_toArray, List.set_cons_zero, List.set_cons_succ])
              refine wpAnyH_take (i := 4) (oi := { dst := some 70, op := Op.move (Operand.tmp 7), type := 36, pos := "law.go:60", after := #[{ on := 3, ground := Ground.guard }], guard := some (3, true) }) (v := undef) rfl (by kernel_rfl) (by kernel_rfl) (by kernel_rfl) (fun _ _ _ h => h) (Or.inr ⟨by rfl, rfl⟩) (by assumption) ?_
              (try simp only [Act.put, List.setIfInBounds_toArray, List.set_cons_zero, List.set_cons_succ])
              refine wpAnyH_take (i := 5) (oi := { dst := some 71, op := Op.move (Operand.tmp 10), type := 3, pos := "law.go:60", after := #[{ on := 3, ground := Ground.guard }], guard := some (3, true) }) (v := undef) rfl (by kernel_rfl) (by kernel_rfl) (by kernel_rfl) (fun _ _ _ h => h) (Or.inr ⟨by rfl, rfl⟩) (by assumption) ?_
              (try simp only [Act.put, List.setIfInBounds_toArray, List.set_cons_zero, List.set_cons_succ])
              refine wpAnyH_take (i := 6) (oi := { dst := some 72, op := Op.move (Operand.tmp 10), type := 3, pos := "law.go:60", after := #[{ on := 3, ground := Ground.guard }], guard := some (3, true) }) (v := undef) rfl (by kernel_rfl) (by kernel_rfl) (by kernel_rfl) (fun _ _ _ h => h) (Or.inr ⟨by rfl, rfl⟩) (by assumption) ?_
              (try simp only [Act.put, List.setIfInBounds_toArray, List.set_cons_zero, List.set_cons_succ])
              refine wpAnyH_take (i := 7) (oi := { dst := some 73, op := Op.call { callee := Callee.value (Operand.func 16), args := #[Operand.tmp 70, Operand.tmp 71, Operand.tmp 72], argTypes := #[36, 3, 3] }, type := 3, pos := "law.go:60", after := #[{ on := 4, ground := Ground.data }, { on := 5, ground := Ground.data }, { on := 6, ground := Ground.data }, { on := 3, ground := Ground.chain }, { on := 3, ground := Ground.guard }], guard := some (3, true) }) (v := undef) rfl (by kernel_rfl) (by kernel_rfl) (by kernel_rfl) (fun _ _ _ h => h) (Or.inr ⟨by rfl, rfl⟩) (by assumption) ?_
              (try simp only [Act.put, List.setIfInBounds_toArray, List.set_cons_zero, List.set_cons_succ])
              refine wpAnyH_take (i := 8) (oi := { dst := some 74, op := Op.move (Operand.tmp 10), type := 3, pos := "law.go:60", after := #[{ on := 3, ground := Ground.guard }], guard := some (3, true) }) (v := undef) rfl (by kernel_rfl) (by kernel_rfl) (by kernel_rfl) (fun _ _ _ h => h) (Or.inr ⟨by rfl, rfl⟩) (by assumption) ?_
              (try simp only [Act.put, List.setIfInBounds_toArray, List.set_cons_zero, List.set_cons_succ])
              refine wpAnyH_take (i := 9) (oi := { dst := some 75, op := Op.binOp BinOp.neq 3 (Operand.tmp 73) (Operand.tmp 74) 3, type := 4, pos := "law.go:60", after := #[{ on := 7, ground := Ground.data }, { on := 8, ground := Ground.data }, { on := 3, ground := Ground.guard }], guard := some (3, true) }) (v := undef) rfl (by kernel_rfl) (by kernel_rfl) (by kernel_rfl) (fun _ _ _ h => h) (Or.inr ⟨by rfl, rfl⟩) (by assumption) ?_
              (try simp only [Act.put, List.setIfInBounds_toArray, List.set_cons_zero, List.set_cons_succ])
              refine wpAnyH_take (i := 10) (oi := { dst := some 76, op := Op.pick (Operand.tmp 69) (Operand.tmp 75) (Operand.const (Value.bool false)), type := 4, pos := "law.go:60", after := #[{ on := 3, ground := Ground.data }, { on := 9, ground := Ground.data }], guard := none }) (v := ?_) rfl (by kernel_rfl) (by kernel_rfl) (by kernel_rfl) (fun _ _ _ h => h) (Or.inl ⟨by rfl, ?_⟩) (by assumption) ?_
              rotate_left
              focus (intro w hSw; (try dsimp only at hSw); go_simp; try with_reducible rfl)
              (try simp only [Act.put, List.setIfInBounds_toArray, List.set_cons_zero, List.set_cons_succ])
              refine wpAnyH_take (i := 11) (oi := { dst := some 77, op := Op.move (Operand.tmp 76), type := 4, pos := "law.go:60", after := #[{ on := 10, ground := Ground.data }, { on := 7, ground := Ground.chain }], guard := none }) (v := ?_) rfl (by kernel_rfl) (by kernel_rfl) (by kernel_rfl) (fun _ _ _ h => h) (Or.inl ⟨by rfl, ?_⟩) (by assumption) ?_
              rotate_left
              focus (intro w hSw; (try dsimp only at hSw); go_simp; try with_reducible rfl)
              (try simp only [Act.put, List.setIfInBounds_toArray, List.set_cons_zero, List.set_cons_succ])
              refine wpAnyH_take (i := 12) (oi := { dst := some 78, op := Op.fieldAddr 29 (Operand.tmp 9) 0, type := 0, pos := "law.go:60", after := #[{ on := 11, ground := Ground.guard }], guard := some (11, false) }) (v := ?_) rfl (by kernel_rfl) (by kernel_rfl) (by kernel_rfl) (fun _ _ _ h => h) (Or.inl ⟨by rfl, ?_⟩) (by assumption) ?_
              rotate_left
              focus (intro w hSw; (try dsimp only at hSw); go_simp; try with_reducible rfl)
              (try simp only [Act.put, List.setIfInBounds_toArray, List.set_cons_zero, List.set_cons_succ])
              refine wpAnyH_take (i := 13) (oi := { dst := some 79, op := Op.load 3 (Operand.tmp 78), type := 3, pos := "law.go:60", after := #[{ on := 12, ground := Ground.data }, { on := 11, ground := Ground.guard }], guard := some (11, false) }) (v := ?_) rfl (by kernel_rfl) (by kernel_rfl) (by kernel_rfl) (fun _ _ _ h => h) (Or.inl ⟨by rfl, ?_⟩) (by assumption) ?_
              rotate_left
              focus (intro w hSw; (try dsimp only at hSw); go_simp; try with_reducible rfl)
              (try simp only [Act.put, List.setIfInBounds_toArray, List.set_cons_zero, List.set_cons_succ])
              refine wpAnyH_take (i := 14) (oi := { dst := some 80, op := Op.binOp BinOp.neq 3 (Operand.tmp 79) (Operand.const (Value.int IntKind.i64 1)) 3, type := 4, pos := "law.go:60", after := #[{ on := 13, ground := Ground.data }, { on := 11, ground := Ground.guard }], guard := some (11, false) }) (v := ?_) rfl (by kernel_rfl) (by kernel_rfl) (by kernel_rfl) (fun _ _ _ h => h) (Or.inl ⟨by rfl, ?_⟩) (by assumption) ?_
              rotate_left
              focus (intro w hSw; (try dsimp only at hSw); go_simp; try with_reducible rfl)
              (try simp only [Act.put, List.setIfInBounds_toArray, List.set_cons_zero, List.set_cons_succ])
              refine wpAnyH_take (i := 15) (oi := { dst := some 81, op := Op.move (Operand.tmp 80), type := 4, pos := "law.go:60", after := #[{ on := 14, ground := Ground.data }, { on := 11, ground := Ground.chain }, { on := 11, ground := Ground.guard }], guard := some (11, false) }) (v := ?_) rfl (by kernel_rfl) (by kernel_rfl) (by kernel_rfl) (fun _ _ _ h => h) (Or.inl ⟨by rfl, ?_⟩) (by assumption) ?_
              rotate_left
              focus (intro w hSw; (try dsimp only at hSw); go_simp; try with_reducible rfl)
              (try simp only [Act.put, List.setIfInBounds_toArray, List.set_cons_zero, List.set_cons_succ])
              refine wpAnyH_take (i := 16) (oi := { dst := some 82, op := Op.move (Operand.tmp 7), type := 36, pos := "law.go:60", after := #[{ on := 15, ground := Ground.guard }], guard := some (15, true) }) (v := ?_) rfl (by kernel_rfl) (by kernel_rfl) (by kernel_rfl) (fun _ _ _ h => h) (Or.inl ⟨by rfl, ?_⟩) (by assumption) ?_
              rotate_left
              focus (intro w hSw; (try dsimp only at hSw); go_simp; try with_reducible rfl)
              (try simp only [Act.put, List.setIfInBounds_toArray, List.set_cons_zero, List.set_cons_succ])
              refine wpAnyH_take (i := 18) (oi := { dst := some 84, op := Op.fieldAddr 29 (Operand.tmp 9) 4, type := 0, pos := "law.go:60", after := #[{ on := 15, ground := Ground.guard }], guard := some (15, true) }) (v := ?_) rfl (by kernel_rfl) (by kernel_rfl) (by kernel_rfl) (fun _ _ _ h => h) (Or.inl ⟨by rfl, ?_⟩) (by assumption) ?_
              rotate_left
              focus (intro w hSw; (try dsimp only at hSw); go_simp; try with_reducible rfl)
              (try simp only [Act.put, List.setIfInBounds_toArray, List.set_cons_zero, List.set_cons_succ])
              refine wpAnyH_take (i := 19) (oi := { dst := some 85, op := Op.load 9 (Operand.tmp 84), type := 9, pos := "law.go:60", after := #[{ on := 18, ground := Ground.data }, { on := 15, ground := Ground.guard }], guard := some (15, true) }) (v := ?_) rfl (by kernel_rfl) (by kernel_rfl) (by kernel_rfl) (fun _ _ _ h => h) (Or.inl ⟨by rfl, ?_⟩) (by assumption) ?_
              rotate_left
              focus (intro w hSw; (try dsimp only at hSw); go_simp; try with_reducible rfl)
              (try simp only [Act.put, List.setIfInBounds_toArray, List.set_cons_zero, List.set_cons_succ])
              refine wpAnyH_ready (rs := [17]) (by kernel_rfl) (by simp) ?_
              refine AllReadyH.cons (o := { dst := some 83, op := Op.call { callee := Callee.value (Operand.func 17), args := #[Operand.tmp 82, Operand.const (Value.int IntKind.i64 200)], argTypes := #[36, 3] }, type := 9, pos := "law.go:60", after := #[{ on := 16, ground := Ground.data }, { on := 15, ground := Ground.chain }, { on := 15, ground := Ground.guard }], guard := some (15, true) }) rfl (fun K hK => ?_) AllReadyH.nil
              go_simp
              refine (hri.out _ (by first | exact gbX | exact gbX.fr ((Fr.refl noB _).drew) | exact gbX.fr ((Fr.refl noB _).drewN 1)) (by exact rdX)).mono ?_
              rintro e w6 ⟨rfl, rd6, f6⟩
              have bz6 : Blk w6 z 29 [.int .i64 m.k, .int .i64 m.n, .int .i64 m.lo, .int .i64 m.hi, .string m.s] := f6.blk (by exact bX) (fun q => hzq q)
              have fr6 : Fr (hiB B) w1 w6 := by first | exact fX.hiO f6 hq | exact fX.drew.hiO f6 hq | exact (fX.drewN 1).hiO f6 hq
              refine hK.out _ _ ?_ (fun hHeld => ?_)
              · exact hbt.out _ (by exact bz6)
              clear hK K
              (try simp only [Act.put, List.setIfInBounds_toArray, List.set_cons_zero, List.set_cons_succ])
              refine wpAnyH_take (i := 20) (oi := { dst := some 86, op := Op.binOp BinOp.neq 9 (Operand.tmp 83) (Operand.tmp 85) 9, type := 4, pos := "law.go:60", after := #[{ on := 17, ground := Ground.data }, { on := 19, ground := Ground.data }, { on := 15, ground := Ground.guard }], guard := some (15, true) }) (v := ?_) rfl (by kernel_rfl) (by kernel_rfl) (by kernel_rfl) (fun _ _ _ h => h) (Or.inl ⟨by rfl, ?_⟩) (by assumption) ?_
              rotate_left
              focus (intro w hSw; (try dsimp only at hSw); go_simp; try with_reducible rfl)
              (try simp only [Act.put, List.setIfInBounds_toArray, List.set_cons_zero, List.set_cons_succ])
              refine wpAnyH_take (i := 21) (oi := { dst := some 87, op := Op.pick (Operand.tmp 81) (Operand.tmp 86) (Operand.const (Value.bool false)), type := 4, pos := "law.go:60", after := #[{ on := 15, ground := Ground.data }, { on := 20, ground := Ground.data }, { on := 11, ground := Ground.guard }], guard := some (11, false) }) (v := ?_) rfl (by kernel_rfl) (by kernel_rfl) (by kernel_rfl) (fun _ _ _ h => h) (Or.inl ⟨by rfl, ?_⟩) (by assumption) ?_
              rotate_left
              focus (intro w hSw; (try dsimp only at hSw); go_simp; try with_reducible rfl)
              (try simp only [Act.put, List.setIfInBounds_toArray, List.set_cons_zero, List.set_cons_succ])
              refine wpAnyH_take (i := 22) (oi := { dst := some 88, op := Op.pick (Operand.tmp 77) (Operand.const (Value.bool true)) (Operand.tmp 87), type := 4, pos := "law.go:60", after := #[{ on := 11, ground := Ground.data }, { on := 21, ground := Ground.data }], guard := none }) (v := ?_) rfl (by kernel_rfl) (by kernel_rfl) (by kernel_rfl) (fun _ _ _ h => h) (Or.inl ⟨by rfl, ?_⟩) (by assumption) ?_
              rotate_left
              focus (intro w hSw; (try dsimp only at hSw); go_simp; try with_reducible rfl)
              (try simp only [Act.put, List.setIfInBounds_toArray, List.set_cons_zero, List.set_cons_succ])
              refine wpAnyH_take (i := 23) (oi := { dst := some 89, op := Op.move (Operand.tmp 88), type := 4, pos := "law.go:60", after := #[{ on := 22, ground := Ground.data }, { on := 17, ground := Ground.chain }], guard := none }) (v := ?_) rfl (by kernel_rfl) (by kernel_rfl) (by kernel_rfl) (fun _ _ _ h => h) (Or.inl ⟨by rfl, ?_⟩) (by assumption) ?_
              rotate_left
              focus (intro w hSw; (try dsimp only at hSw); go_simp; try with_reducible rfl)
              (try simp only [Act.put, List.setIfInBounds_toArray, List.set_cons_zero, List.set_cons_succ])
              refine wpAnyH_take (i := 24) (oi := { dst := some 90, op := Op.move (Operand.tmp 7), type := 36, pos := "law.go:60", after := #[{ on := 23, ground := Ground.guard }], guard := some (23, false) }) (v := ?_) rfl (by kernel_rfl) (by kernel_rfl) (by kernel_rfl) (fun _ _ _ h => h) (Or.inl ⟨by rfl, ?_⟩) (by assumption) ?_
              rotate_left
              focus (intro w hSw; (try dsimp only at hSw); go_simp; try with_reducible rfl)
              (try simp only [Act.put, List.setIfInBounds_toArray, List.set_cons_zero, List.set_cons_succ])
              refine wpAnyH_ready (rs := [25]) (by kernel_rfl) (by simp) ?_
              refine AllReadyH.cons (o := { dst := some 91, op := Op.call { callee := Callee.value (Operand.func 18), args := #[Operand.tmp 90], argTypes := #[36] }, type := 4, pos := "law.go:60", after := #[{ on := 24, ground := Ground.data }, { on := 23, ground := Ground.chain }, { on := 23, ground := Ground.guard }], guard := some (23, false) }) rfl (fun K hK => ?_) AllReadyH.nil
              go_simp
              refine (hok.out _ (by exact rd6)).mono ?_
              rintro e w7 ⟨rfl, hw7⟩
              obtain rfl := hw7.symm
              clear hw7
              refine hK.out _ _ ?_ (fun hHeld => ?_)
              · exact hbt.out _ (by exact bz6)
              clear hK K
              (try simp only [Act.put, List.setIfInBounds_toArray, List.set_cons_zero, List.set_cons_succ])
              refine wpAnyH_take (i := 26) (oi := { dst := some 92, op := Op.unOp UnOp.not 4 (Operand.tmp 91), type := 4, pos := "law.go:60", after := #[{ on := 25, ground := Ground.data }, { on := 23, ground := Ground.guard }], guard := some (23, false) }) (v := ?_) rfl (by kernel_rfl) (by kernel_rfl) (by kernel_rfl) (fun _ _ _ h => h) (Or.inl ⟨by rfl, ?_⟩) (by assumption) ?_
              rotate_left
              focus (intro w hSw; (try dsimp only at hSw); go_simp; try with_reducible rfl)
              (try simp only [Act.put, List.setIfInBounds_toArray, List.set_cons_zero, List.set_cons_succ])
              refine wpAnyH_take (i := 27) (oi := { dst := some 93, op := Op.pick (Operand.tmp 89) (Operand.const (Value.bool true)) (Operand.tmp 92), type := 4, pos := "law.go:60", after := #[{ on := 23, ground := Ground.data }, { on := 26, ground := Ground.data }], guard := none }) (v := ?_) rfl (by kernel_rfl) (by kernel_rfl) (by kernel_rfl) (fun _ _ _ h => h) (Or.inl ⟨by rfl, ?_⟩) (by assumption) ?_
              rotate_left
              focus (intro w hSw; (try dsimp only at hSw); go_simp; try with_reducible rfl)
              (try simp only [Act.put, List.setIfInBounds_toArray, List.set_cons_zero, List.set_cons_succ])
              refine wpAnyH_done (by kernel_rfl) ?_ _
              (
                replace rd6 := Lib.hid rd6
                clear bz6 rdX bX fX f6
                go_wp2_with fail
                go_roundg (n - (k + 1))
                case rel => exact ⟨k + 1, hkn2.out, by go_num, Lib.hid (by exact rd6.out), by first | exact fr6 | exact fr6.drew⟩
                case measure => exact hmeas.out)
          · obtain rfl : k = n := by omega
            rw [hend.out] at hrd
            have hdn := rdone_any q _ wr hrd.out
            go_wp2_with fail
            refine hdn.mono ?_
            rintro e w7 ⟨rfl, hw7⟩
            obtain rfl := hw7.symm
            go_wp2_with fail
            go_ret
            exact ⟨rfl, key.out _ fr⟩
end Go.Proofs.YtnfjnlaalfcabaaDoor
