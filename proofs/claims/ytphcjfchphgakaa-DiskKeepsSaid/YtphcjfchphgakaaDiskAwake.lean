import Derived.Test.YtphcjfchphgakaaDiskRef
import Derived.Laws.MakeOwn
import Derived.Laws.OwnMore
set_option linter.unusedVariables false
set_option linter.unusedSimpArgs false
namespace Go.Proofs.Ytphcjfchphgakaa
open Go.RowKit Go Go.Lib

theorem Dk.frame {w w' : World} {g B : Nat} {bs : List UInt8} {kept : Nat} {S : Nat → Prop} (h : Dk w g B bs kept) (hf : Fr S w w') (hg : ¬ S g) (hS : ∀ q, B ≤ q → q < w.heap.size → ¬ S q) : Dk w' g B bs kept := by
  obtain ⟨a, c, hb, ho, hgB, hBw, hk, hl⟩ := h
  exact ⟨a, c, hf.blk hb hg, ownsRow_fr ho hf (fun q hq => hS q (ho.lt q hq).1 (ho.lt q hq).2), hgB, by have := hf.size; omega, hk, hl⟩
theorem Dk.drewN {w : World} {g B : Nat} {bs : List UInt8} {kept : Nat} (h : Dk w g B bs kept) (n : Nat) : Dk (w.drewN n) g B bs kept := h

theorem Fr.noD {a b c : World} {g B : Nat} {bs : List UInt8} {kept : Nat} (h : Fr noB a b) (k : Fr (touched b g) b c) (d : Dk b g B bs kept) (hg : a.heap.size ≤ g) (hB : a.heap.size ≤ B) : Fr noB a c :=
  h.trans k (fun _ _ q => q) (fun i hi q => by have := d.touch q; omega)

theorem strB_toList (l : List UInt8) : (strB l).toList = l := ByteArray.toList_mk l

/-- 'string(make([]byte, n))' -/
theorem make_zeros (n : Nat) (hn : n ≤ 1048576) : ∃ (Z : Array Value) (zs : ByteArray), zs.size = n ∧
    (∀ w, (Instr.makeSlice 39 (.int .i64 n) (.int .i64 n)).run Try.prog w = .ok (.slice (some ⟨w.heap.size, 0, none⟩) n n) (w.alloc (.cells Z 5))) ∧
    (∀ w : World, (convert 39 9 (.slice (some ⟨w.heap.size, 0, none⟩) n n)).run Try.prog (w.alloc (.cells Z 5)) = .ok (.string zs) (w.alloc (.cells Z 5))) := by
  obtain ⟨i0, hi, hz0, hz1, hz2⟩ := info_parts Try.infoByte
  refine ⟨madeCells #[.int .u8 0] n, strB (List.replicate n 0), ?_, fun w => ?_, fun w => ?_⟩
  · rw [strB_size, List.length_replicate]
  · have := run_make (P := Try.prog) w 39 5 i0 (.int .u8 0) Try.underlying39 hi hz0 .i64 .i64 n n (by omega) (by omega) (by rw [hz2]; omega) (by omega)
    rw [this, hz1]
    simp only [Int.toNat_natCast, Nat.mul_one]
    rfl
  · have hl : (madeCells #[Value.int .u8 0] n).toList = (List.replicate n (0 : UInt8)).map cellB := by
      rw [toList_madeCells_one, List.map_replicate]; rfl
    have ho : (w.alloc (.cells (madeCells #[Value.int .u8 0] n) 5)).ownsRow w.heap.size 5 1 (.slice (some ⟨w.heap.size, 0, none⟩) n n) n ((List.replicate n (0 : UInt8)).map cellB) := by
      have := own_new w 5 ((List.replicate n (0 : UInt8)).map cellB) 1 n (by simp) (by unfold maxLen; omega)
      rw [← hl, Array.toArray_toList] at this
      rw [hl] at this
      exact this
    exact string_of_row (P := Try.prog) 39 9 5 Try.underlying39 Try.underlying5 Try.underlying9 ho

theorem cr2 : crN 2 3 = 2 := by decide +kernel

set_option maxHeartbeats 1000000 in
theorem awake_any (w : World) : Calls Try.prog 6 #[] w fun e w' => e = .returned (.bool true) ∧ Fr noB w w' := by
  go_enter Try.func6, Try.ntmps6
  go_wp2_with fail
  refine (dnew_any w).mono ?_
  rintro e w1 ⟨rfl, hw1⟩
  have z1 : w1.heap.size = w.heap.size + 1 := by rw [hw1]; simp
  have d1 : Dk w1 w.heap.size w1.heap.size [] 0 := dk_new w w1 (by omega) (by rw [hw1]; exact Blk.new w _ _)
  have f1 : Fr noB w w1 := by rw [hw1]; exact (Fr.refl _ _).alloc _
  obtain ⟨B, hB⟩ : ∃ B, B = w1.heap.size := ⟨_, rfl⟩
  rw [← hB] at d1
  have hBB : w.heap.size ≤ B := by omega
  clear hw1 z1 hB
  obtain ⟨g, hg, hg2⟩ : ∃ g, g = w.heap.size ∧ w.heap.size ≤ g := ⟨_, rfl, Nat.le_refl _⟩
  rw [← hg] at d1
  rw [← hg]
  clear hg
  go_wp2_with fail
  refine (dappend_any g B _ _ _ _ d1 (by decide)).mono ?_
  rintro e w2 ⟨rfl, d2, f2⟩
  replace f2 := f1.noD f2 d1 hg2 hBB
  go_wp2_with fail
  refine (dsync_any g B _ _ _ d2).mono ?_
  rintro e w3 ⟨rfl, d3, f3⟩
  replace f3 := f2.noD f3 d2 hg2 hBB
  go_wp2_with fail
  refine (dappend_any g B _ _ _ _ d3 (by decide)).mono ?_
  rintro e w4 ⟨rfl, d4, f4⟩
  replace f4 := f3.noD f4 d3 hg2 hBB
  go_wp2_with fail
  refine (dcrash_any g B _ _ _ _ d4 (by omega)).mono ?_
  rintro e w5 ⟨rfl, d5, f5⟩
  replace f5 := f4.noD f5 d4 hg2 hBB
  clear d1 d2 d3 d4 f1 f2 f3 f4
  have d6 : Dk w5 g B [97, 98, 99, 100, 101] 5 := by
    simp only [List.nil_append, List.cons_append, List.length_cons, List.length_nil, Nat.reduceAdd, Nat.reduceSub, cr2] at d5
    exact d5
  clear d5
  have ht := strB_toList
  go_wp2_with fail
  refine (dbytes_any g B _ _ _ d6).mono ?_
  rintro e w6 ⟨rfl, hw6⟩
  obtain rfl := hw6.symm
  go_wp2_with fail
  refine (dkept_any g B _ _ _ d6).mono ?_
  rintro e w6 ⟨rfl, hw6⟩
  obtain rfl := hw6.symm
  go_wp2_with fail
  refine (dcut_any g B _ _ _ _ d6 (by omega)).mono ?_
  rintro e w7 ⟨rfl, d7, f7⟩
  replace f7 := f5.noD f7 d6 hg2 hBB
  have d8 : Dk w7 g B [97] 1 := d7
  clear d7 d6 f5
  go_wp2_with fail
  refine (dbytes_any g B _ _ _ d8).mono ?_
  rintro e w8 ⟨rfl, hw8⟩
  obtain rfl := hw8.symm
  obtain ⟨Z, zs, hzs, hmk, hcv⟩ := make_zeros 65536 (by omega)
  have hzl : zs.size ≤ maxLen := by rw [hzs]; unfold maxLen; omega
  replace hzs := Lib.hid hzs
  replace hzl := Lib.hid hzl
  replace hmk : ∀ w, (Instr.makeSlice 39 (.int .i64 65536) (.int .i64 65536)).run Try.prog w = .ok (.slice (some ⟨w.heap.size, 0, none⟩) 65536 65536) (w.alloc (.cells Z 5)) := hmk
  go_wp2_with fail
  refine (dappend_full g B _ _ zs _ (d8.frame ((Fr.refl noB w7).alloc (.cells Z 5)) (fun q => q) (fun _ _ _ q => q)) hzl.out (by rw [hzs.out]; decide)).mono ?_
  rintro e w9 ⟨rfl, hw9⟩
  obtain rfl := hw9.symm
  go_wp2
  go_ret
  exact ⟨by first | rfl | simp, f7.alloc _⟩
end Go.Proofs.Ytphcjfchphgakaa
