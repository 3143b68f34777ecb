import Derived.Test.YtphcjfchphgakaaDiskLaws
set_option linter.unusedVariables false
set_option linter.unusedSimpArgs false
namespace Go.Proofs.Ytphcjfchphgakaa
open Go.RowKit Go Go.Lib

theorem ext_toList (l : List UInt8) (m : Nat) : ((strB l).extract 0 m).toList = l.take m := by
  rw [ByteArray.toList_eq, extract_list, strB_list]

set_option maxRecDepth 10000 in
set_option maxHeartbeats 2000000 in
theorem keeps_any (v : Value) (xs : List (Int × Int × ByteArray)) (w : World) (hxs : SlR w v 3 IsOp xs) :
    Calls Try.prog 4 #[v] w fun e w' => e = .returned (.bool true) ∧ Fr noB w w' := by
  obtain ⟨a, c, rfl, hx1, hx2, hx3⟩ := hxs
  unfold maxLen at hx2
  generalize hn : xs.length = n at *
  replace hx3 := Lib.hid hx3
  obtain ⟨hx1, _⟩ := hx1
  have hnb : n ≤ 9223372036854775807 := by omega
  replace hn := Lib.hid hn
  go_enter Try.func4, Try.ntmps4
  go_wp2_with fail
  refine (awake_any w).mono ?_
  rintro e w1 ⟨rfl, f1⟩
  by_cases hl : 200 < n
  · go_wp2_with fail
    refine (awake_any w1).mono ?_
    rintro e w2 ⟨rfl, f2⟩
    go_wp2
    go_ret
    exact ⟨rfl, f1.seqN f2⟩
  have hd1 : decide (200 < (n : Int)) = false := by simp; omega
  go_wp2_with fail
  refine (dnew_any w1).mono ?_
  rintro e w2 ⟨rfl, hw2⟩
  have z2 : w2.heap.size = w1.heap.size + 1 := by rw [hw2]; simp
  have d2 : Dk w2 w1.heap.size w2.heap.size [] 0 := dk_new w1 w2 (by omega) (by rw [hw2]; exact Blk.new w1 _ _)
  have f2 : Fr noB w w2 := f1.seqN (by rw [hw2]; exact (Fr.refl _ _).alloc _)
  obtain ⟨B, hB⟩ : ∃ B, B = w2.heap.size := ⟨_, rfl⟩
  rw [← hB] at d2
  have hBB : w.heap.size ≤ B := by have := f1.size; omega
  have hg2 : w.heap.size ≤ w1.heap.size := f1.size
  clear hw2 z2 hB f1
  go_wp2_with fail
  generalize w1.heap.size = g at *
  go_loopw [22] (fun i wr => ∃ (k : Nat) (bs : List UInt8) (kept : Nat), k ≤ n ∧ i = .int .i64 k ∧ Dk wr g B bs kept ∧ Fr noB w wr) (fun i _ => n - (intOf i).toNat)
  case atStart => exact ⟨0, [], 0, by omega, rfl, d2, f2⟩
  case round =>
    clear d2 f2
    obtain ⟨k, bs, kept, hk, rfl, st, fr⟩ := hrel
    by_cases hlt : k < n
    · obtain ⟨⟨kd, kk, s⟩, hop⟩ : ∃ o, xs[k]? = some o := ⟨_, List.getElem?_eq_getElem (by rw [hn.out]; exact hlt)⟩
      obtain ⟨g0, o0, cs, ha, hcs, ⟨hcs2, hI1, hI2, hsz⟩, hcell⟩ := hx3.out k _ hop
      subst ha hcs2
      have e0 := fr.cell (hcell 0 _ rfl) (fun q => q)
      have e1 := fr.cell (hcell 1 _ rfl) (fun q => q)
      have e2 := fr.cell (hcell 2 _ rfl) (fun q => q)
      clear hop hcell
      simp only [← Nat.add_assoc, Nat.add_zero] at e0 e1 e2 hI1 hI2 hsz
      have fr1 := fr.alloc (.cells #[.int .i64 kd, .int .i64 kk, .string s] 30)
      have st1 := st.frame ((Fr.refl noB wr).alloc (.cells #[.int .i64 kd, .int .i64 kk, .string s] 30)) (fun q => q) (fun _ _ _ q => q)
      have bo := Blk.new wr 30 [.int .i64 kd, .int .i64 kk, .string s]
      clear st fr
      by_cases hs2 : 2000 < s.size
      · go_wp2
        go_ret
        exact ⟨rfl, fr1⟩
      have hs3 : s.size ≤ 2000 := by omega
      have hd2 : decide (2000 < (s.size : Int)) = false := by simp; omega
      clear hsz
      obtain ⟨wa, hwa⟩ : ∃ wa, wa = wr.alloc (.cells #[.int .i64 kd, .int .i64 kk, .string s] 30) := ⟨_, rfl⟩
      go_wp2_with fail
      rw [← hwa] at st1 fr1
      have bo1 : Blk wa wr.heap.size 30 [.int .i64 kd, .int .i64 kk, .string s] := by rw [hwa]; exact bo
      clear bo e0 e1 e2
      rw [← hwa]
      generalize wr.heap.size = ob at *
      clear hwa
      refine (dbytes_any g B bs kept wa st1).mono ?_
      rintro e w3 ⟨rfl, hw3⟩
      obtain rfl := hw3.symm
      go_wp2_with fail
      refine (dkept_any g B bs kept wa st1).mono ?_
      rintro e w3 ⟨rfl, hw3⟩
      obtain rfl := hw3.symm
      have c0 : wa.cell? ⟨ob, 0, none⟩ = some (.int .i64 kd) := bo1.cell 0
      have c1 : wa.cell? ⟨ob, 1, none⟩ = some (.int .i64 kk) := bo1.cell 1
      have c2 : wa.cell? ⟨ob, 2, none⟩ = some (.string s) := bo1.cell 2
      have hkb : kept ≤ bs.length := by obtain ⟨_, _, _, _, _, _, h, _⟩ := st1; exact h
      have hlb : bs.length ≤ 65536 := by obtain ⟨_, _, _, _, _, _, _, h⟩ := st1; exact h
      clear bo1
      go_wp2_with fail
      focus (
        by_cases hfit : bs.length + s.size ≤ 65536
        focus (
          refine (dappend_any g B bs kept s wa st1 hfit).mono ?_
          rintro e w5 ⟨rfl, d5, f5⟩
          have f6 := fr1.noD f5 st1 hg2 hBB
          have hT : (bs ++ s.data.toList).take kept = bs.take kept := List.take_append_of_le_length hkb
          have hL : kept ≤ (bs ++ s.data.toList).length := by rw [List.length_append]; omega
          have hz1 : (strB (bs ++ s.data.toList)).size = (bs ++ s.data.toList).length := rfl
          have hE : (((strB (bs ++ s.data.toList)).extract 0 kept).toList == ((strB bs).extract 0 kept).toList) = true := by rw [ext_toList, ext_toList, hT]; simp
          have hz2 : (strB bs).size = bs.length := rfl
          have hM : (bs ++ s.data.toList).length ≤ 65536 := by rw [List.length_append]; exact hfit
          generalize bs ++ s.data.toList = bs5 at *
          clear f5 hfit)
        rotate_left
        focus (
          refine (dappend_full g B bs kept s wa st1 (by unfold maxLen; omega) (by omega)).mono ?_
          rintro e w5 ⟨rfl, hw5⟩
          have d5 : Dk w5 g B bs kept := by rw [hw5]; exact st1
          have f6 : Fr noB w w5 := by rw [hw5]; exact fr1
          have hT : bs.take kept = bs.take kept := rfl
          have hL : kept ≤ bs.length := hkb
          have hz1 : (strB bs).size = bs.length := rfl
          have hE : (((strB bs).extract 0 kept).toList == ((strB bs).extract 0 kept).toList) = true := by simp
          clear hw5 hfit))
      rotate_left
      rotate_left
      focus (
        refine (dsync_any g B bs kept wa st1).mono ?_
        rintro e w5 ⟨rfl, d5, f5⟩
        have f6 := fr1.noD f5 st1 hg2 hBB
        have hT : bs.take kept = bs.take kept := rfl
        have hL : kept ≤ bs.length := hkb
        have hz1 : (strB bs).size = bs.length := rfl
        have hE : (((strB bs).extract 0 kept).toList == ((strB bs).extract 0 kept).toList) = true := by simp
        clear f5)
      rotate_left
      focus (
        refine (dcrash_any g B bs kept kk wa st1 hI2).mono ?_
        rintro e w5 ⟨rfl, d5, f5⟩
        have f6 := fr1.noD f5 st1 hg2 hBB
        have hq := (crN_spec kk (bs.length - kept) (by omega)).2
        generalize crN kk (bs.length - kept) = q at *
        have hlen : (bs.take (kept + q)).length = kept + q := by rw [List.length_take]; omega
        have hT : (bs.take (kept + q)).take kept = bs.take kept := by rw [List.take_take]; congr 1; omega
        have hL : kept ≤ (bs.take (kept + q)).length := by omega
        have hz1 : (strB (bs.take (kept + q))).size = kept + q := hlen
        have hz2 : (strB bs).size = bs.length := rfl
        have hx : ((strB bs).extract 0 (kept + q)).toList = bs.take (kept + q) := ext_toList bs (kept + q)
        have hy : (strB (bs.take (kept + q))).toList = bs.take (kept + q) := strB_toList _
        have hkq : kept + q ≤ bs.length := by omega
        clear f5
        generalize hbs5 : bs.take (kept + q) = bs5 at *
        replace hbs5 := Lib.hid hbs5
        generalize hS5 : strB bs5 = S5 at *
        replace hS5 := Lib.hid hS5
        generalize hS : strB bs = S at *
        replace hS := Lib.hid hS
        replace hT := Lib.hid hT
        replace hlen := Lib.hid hlen
        go_wp2_with fail
        refine (dbytes_any g B _ _ _ d5).mono ?_
        rintro e w6 ⟨rfl, hw6⟩
        obtain rfl := hw6.symm
        rw [hS5.out]
        go_wp2_with fail
        refine (dkept_any g B _ _ _ d5).mono ?_
        rintro e w6 ⟨rfl, hw6⟩
        obtain rfl := hw6.symm
        go_wp2_with fail
        refine (dbytes_any g B _ _ _ d5).mono ?_
        rintro e w6 ⟨rfl, hw6⟩
        obtain rfl := hw6.symm
        rw [hS5.out]
        have hE : ((S5.extract 0 kept).toList == (S.extract 0 kept).toList) = true := by
          rw [← hS5.out, ← hS.out, ext_toList, ext_toList, hT.out]; simp
        go_wp2_with fail)
      rotate_left
      rotate_left
      rotate_left
      rotate_left
      focus (
        go_quiet (fail)
        clear hE hx hy hz1 hz2 hS hS5 hT hlen hbs5
        go_wp2_with fail
        go_roundw
        case rel => exact ⟨k+1, _, _, by omega, by go_num, d5.drewN _, f6.drewN _⟩
        case measure => simp [intOf]; omega)
      all_goals (
        go_wp2_with fail
        refine (dbytes_any g B _ _ _ d5).mono ?_
        rintro e w6 ⟨rfl, hw6⟩
        obtain rfl := hw6.symm
        go_wp2_with fail
        go_quiet (fail)
        go_wp2_with fail
        go_roundw
        case rel => exact ⟨k+1, _, _, by omega, by go_num, d5.drewN _, f6.drewN _⟩
        case measure => simp [intOf]; omega)
    · obtain rfl : k = n := by omega
      go_wp2_with fail
      refine (dsync_nil wr).mono ?_
      rintro e w3 ⟨rfl, hw3⟩
      obtain rfl := hw3.symm
      go_wp2_with fail
      refine (dcrash_nil 1 wr).mono ?_
      rintro e w3 ⟨rfl, hw3⟩
      obtain rfl := hw3.symm
      go_wp2_with fail
      refine (dcut_nil 1 wr).mono ?_
      rintro e w3 ⟨rfl, hw3⟩
      obtain rfl := hw3.symm
      go_wp2_with fail
      refine (dappend_nil _ wr).mono ?_
      rintro e w3 ⟨rfl, hw3⟩
      obtain rfl := hw3.symm
      go_wp2_with fail
      refine (dbytes_nil wr).mono ?_
      rintro e w3 ⟨rfl, hw3⟩
      obtain rfl := hw3.symm
      rw [show strB [] = ByteArray.mk #[] from rfl]
      go_wp2_with fail
      refine (dkept_nil wr).mono ?_
      rintro e w3 ⟨rfl, hw3⟩
      obtain rfl := hw3.symm
      go_wp2_with fail
      go_ret
      exact ⟨rfl, fr⟩
end Go.Proofs.Ytphcjfchphgakaa
