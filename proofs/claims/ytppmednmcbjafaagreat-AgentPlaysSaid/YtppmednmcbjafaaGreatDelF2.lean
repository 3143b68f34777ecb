/-
  slices.DeleteFunc with the keeper's closure, at a row of the call's own: what stays.
-/
import Derived.Test.YtppmednmcbjafaaGreatDelF
set_option linter.unusedVariables false
set_option linter.unusedSimpArgs false
set_option maxRecDepth 100000
namespace Go.Proofs.YtppmednmcbjafaaGreat
open Go.RowKit Go Go.Maps Go.Lib

theorem zeroI (w : World) : (zeroValue 3).run Tryz.prog w = .ok (.int .i64 0) w := by kernel_rfl
set_option maxHeartbeats 2000000 in
set_option maxRecDepth 10000 in
theorem delf_any (B g c n : Nat) (X : List Int) (cb : Value) (p : Int → Bool) (w : World) (h : w.ownsRow B 3 1 (.slice (some ⟨g, 0, none⟩) n c) n (rowV X)) (hn : n ≤ 1000) (ht : Tells w g cb p X) :
    Calls Tryz.prog 108 #[.slice (some ⟨g, 0, none⟩) n c, .func (.func 107) #[] #[cb]] w fun e w' => e = .returned (.slice (some ⟨g, 0, none⟩) (X.filter fun x => !p x).length c) ∧ w'.ownsRow B 3 1 (.slice (some ⟨g, 0, none⟩) (X.filter fun x => !p x).length c) (X.filter fun x => !p x).length (rowV (X.filter fun x => !p x)) ∧ Fr (onlyB g) w w' := by
  have hl : X.length = n := by simpa [rowV] using h.1
  have hnc : n ≤ c := by
    rcases h.2 with ⟨h1, _⟩ | ⟨g', cap, cur, h1, hb, hg, hn, hm2, hs, ht⟩
    · cases h1
    · cases h1; exact hn
  have hcm : c ≤ maxLen := by
    rcases h.2 with ⟨h1, _⟩ | ⟨g', cap, cur, h1, hb, hg, hn, hm2, hs, ht⟩
    · cases h1
    · cases h1; exact hm2
  have hix := indexf_any B g c n X cb p w h hn ht
  have ht2 : Hid (∀ i, i < n → ∀ w', Fr (onlyB g) w w' → Calls Tryz.prog 107 #[.int .i64 (X.getD i 0), cb] w' fun e w'' => e = .returned (.bool (p (X.getD i 0))) ∧ Fr noB w' w'') := Lib.hid (fun i hi w' f => ht _ (by simp [List.getD, hl, hi]) w' f)
  replace h := Lib.hid h
  clear ht
  unfold maxLen at hcm
  go_enter Tryz.func108, Tryz.ntmps108
  go_wp2_with fail
  refine hix.mono ?_
  rintro e w1 ⟨r, rfl, hr, f1⟩
  clear hix
  have h1 := Lib.hid (ownsRow_fr h.out f1 (fun _ _ q => q))
  have fr0 : Fr (onlyB g) w w1 := f1.mono (fun _ _ q => False.elim q)
  rcases hr with ⟨rfl, hno⟩ | ⟨i, hi, rfl, hp, hno⟩
  · have hall : X.filter (fun x => !p x) = X := List.filter_eq_self.2 (fun x hx => by rw [hno x hx]; rfl)
    replace hall := Lib.hid hall
    replace hno := Lib.hid hno
    replace hl := Lib.hid hl
    go_wp2_with fail
    go_ret
    rw [hall.out, hl.out]
    exact ⟨rfl, h1.out, fr0⟩
  · have d0 := DelI.start (by rw [hl]; exact hi) hp hno
    have hne : ((i : Int) == -1) = false := beq_eq_false_iff_ne.2 (by omega)
    replace d0 := Lib.hid d0
    replace hp := Lib.hid hp
    replace hno := Lib.hid hno
    replace hl := Lib.hid hl
    clear h f1
    go_wp2_with fail
    go_loopg [5, 6] (n - (i + 1)) (fun gk iv jv wr => ∃ (i j : Nat) (Z : List Int), j + gk = n ∧ iv = .int .i64 i ∧ jv = .int .i64 j ∧ i < j ∧ Hid (DelI X Z p i j) ∧ Hid (wr.ownsRow B 3 1 (.slice (some ⟨g, 0, none⟩) n c) n (rowV Z)) ∧ Fr (onlyB g) w wr)
    case atStart => exact ⟨i, i + 1, X, by omega, rfl, by go_num, by omega, d0, h1, fr0⟩
    case round =>
      clear d0 h1 fr0 hp hno hne hi
      obtain ⟨i, j, Z, hk, rfl, rfl, hij, dl, ow, fr⟩ := hrel
      by_cases hjn : j < n
      · have c0 := (own_cellI ow.out hjn).1
        rw [dl.out.high j (Nat.le_refl _)] at c0
        obtain ⟨ci, zi⟩ := own_cellI ow.out (show i < n by omega)
        have hcl := ht2.out j hjn _ fr
        have hsk := dl.out.skip (show j < X.length by rw [hl.out]; exact hjn)
        have hke := dl.out.keep (show j < X.length by rw [hl.out]; exact hjn)
        have hb0 : (0 : Int) ≤ j := by omega
        have hb1 : (j : Int) < n := by omega
        have hb2 : (0 : Int) ≤ i := by omega
        have hb3 : (i : Int) < n := by omega
        generalize hx : X.getD j 0 = x at *
        replace hx := Lib.hid hx
        cases hp : p x with
        | true =>
          rw [hp] at hcl
          have hsk := Lib.hid (hsk hp)
          replace hp := Lib.hid hp
          clear hke
          go_wp2_with fail
          refine hcl.mono ?_
          rintro e w3 ⟨rfl, f3⟩
          have fr3 := fr.seqN f3
          have ow3 := Lib.hid (ownsRow_fr ow.out f3 (fun _ _ q => q))
          clear hcl f3 c0 ci zi
          go_wp2_with fail
          go_roundg (n - j - 1)
          case rel => exact ⟨i, j + 1, Z, by omega, rfl, by go_num, by omega, hsk, ow3, fr3⟩
          case measure => omega
        | false =>
          rw [hp] at hcl
          have hke := Lib.hid (hke hp)
          replace hp := Lib.hid hp
          clear hsk
          go_wp2_with fail
          refine hcl.mono ?_
          rintro e w3 ⟨rfl, f3⟩
          have fr3 := fr.seqN f3
          have ow3 := ownsRow_fr ow.out f3 (fun _ _ q => q)
          obtain ⟨ci3, zi3⟩ := own_cellI ow3 (show i < n by omega)
          have ow4 : Hid ((w3.setCell ⟨g, i, none⟩ (.int .i64 x)).ownsRow B 3 1 (.slice (some ⟨g, 0, none⟩) n c) n (rowV (Z.set i x))) := Lib.hid (by
            have := own_set (i := i) ow3 (.int .i64 x)
            unfold rowV at this ⊢
            rw [List.map_set]; exact this)
          have fr4 : Fr (onlyB g) w (w3.setCell ⟨g, i, none⟩ (.int .i64 x)) := fr3.store rfl
          replace ow3 := Lib.hid ow3
          replace fr4 := Lib.hid fr4
          clear hcl f3 c0 ci zi fr3
          go_wp2_with fail
          go_roundg (n - j - 1)
          case rel => exact ⟨i + 1, j + 1, Z.set i x, by omega, by go_num, by go_num, by omega, hke, ow4, fr4.out⟩
          case measure => omega
      · obtain rfl : j = n := by have := dl.out.le; have := hl.out; omega
        have dlo := dl.out
        have hF : X.filter (fun x => !p x) = Z.take i := by
          rw [dlo.low, List.take_of_length_le (by rw [hl.out]; exact Nat.le_refl _)]
        have hFl : (X.filter fun x => !p x).length = i := by
          have := dlo.cnt
          rwa [List.take_of_length_le (by rw [hl.out]; exact Nat.le_refl _)] at this
        have hcl : ∀ ty, (Builtin.clear_ #[57] ty #[.slice (some ⟨g, i, none⟩) (j - i) (c - i)]).run Tryz.prog wr = .ok (.tuple #[]) (wr.setCells g i (List.replicate (j - i) (.int .i64 0))) :=
          fun ty => Lib.run_clear_slice wr _ _ ty _ Tryz.underlying57 zeroI rfl rfl g i _ _ (by omega) (fun q hq => by rw [(own_cellI ow.out (show i + q < j by omega)).1]; rfl) (fun q hq => (own_cellI ow.out (show i + q < j by omega)).2)
        have ow2 : Hid ((wr.setCells g i (List.replicate (j - i) (.int .i64 0))).ownsRow B 3 1 (.slice (some ⟨g, 0, none⟩) i c) i (rowV (Z.take i))) := Lib.hid (by
          have := own_pasts (List.replicate (j - i) (.int .i64 0)) i wr (own_cut ow.out (show i ≤ j by omega)) (Nat.le_refl _)
          unfold rowV at this ⊢
          rw [List.map_take]; exact this)
        have fr2 : Hid (Fr (onlyB g) w (wr.setCells g i (List.replicate (j - i) (.int .i64 0)))) := Lib.hid (fr.trans (fr_setCells _ _ _) (fun _ _ q => q) (fun _ _ q => q))
        have hb2 : (0 : Int) ≤ i := by omega
        have hb3 : (i : Int) ≤ j := by omega
        replace hF := Lib.hid hF
        replace hFl := Lib.hid hFl
        clear dlo dl ow fr
        go_wp2_with (simp only [hcl])
        go_ret
        rw [hFl.out, hF.out]
        exact ⟨rfl, ow2.out, fr2.out⟩
end Go.Proofs.YtppmednmcbjafaaGreat
