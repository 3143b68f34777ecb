/-
  The reference's Unquote.
-/
import Derived.Test.YtnehphfpchfjeaaDoorRefQuote
import Derived.Test.YtnehphfpchfjeaaDoorUnquote
import Derived.Test.YtnehphfpchfjeaaDoorNameLaws
set_option linter.unusedVariables false
set_option linter.unusedSimpArgs false
namespace Go.Proofs.YtnehphfpchfjeaaDoor
open Go.RowKit Go

/-- what the reference's Unquote hands back -/
def runqL (l : List UInt8) : Option (List UInt8) := unqP runq1 l
theorem runqL_eq (l : List UInt8) : runqL l = unqL l := unqP_eq good_runq1 good_unq1 l

theorem rF_some {l n : List UInt8} {k : Nat} (o : List UInt8) (h : l ≠ []) (e : runq1 l = some (n, k)) : unqF runq1 l.length o l = unqF runq1 (l.drop k).length (o ++ n) (l.drop k) := by
  have hp := List.length_pos_iff.2 h
  have hk := runq1_pos l n k h e
  conv => lhs; rw [show l.length = (l.length - 1) + 1 by omega]
  simp only [unqF, if_neg h, e]
  exact unqF_fuel runq1_pos _ _ _ _ (by rw [List.length_drop]; omega) (Nat.le_refl _)
theorem rF_none {l : List UInt8} (o : List UInt8) (h : l ≠ []) (e : runq1 l = none) : unqF runq1 l.length o l = none := by
  have hp := List.length_pos_iff.2 h
  conv => lhs; rw [show l.length = (l.length - 1) + 1 by omega]
  simp only [unqF, if_neg h, e]

def RunqPost (l : List UInt8) (e : Ending) : Prop :=
  (∃ t, runqL l = some t ∧ e = .returned (.tuple #[.string (strB t), .bool true])) ∨ (runqL l = none ∧ e = .returned (.tuple #[.string (strB []), .bool false]))

theorem rq_plain {l : List UInt8} (h : l.getD 0 0 ≠ 92) : runq1 l = some ([l.getD 0 0], 1) := by unfold runq1; rw [if_pos h]
theorem rq_short {l : List UInt8} (h : l.getD 0 0 = 92) (h2 : l.length < 2) : runq1 l = none := by unfold runq1; rw [if_neg (fun q => q h), if_pos h2]
theorem rq_slash {l : List UInt8} (h : l.getD 0 0 = 92) (h2 : 2 ≤ l.length) (h3 : l.getD 1 0 = 92) : runq1 l = some ([92], 2) := by
  unfold runq1; rw [if_neg (fun q => q h), if_neg (by omega), if_pos h3]
theorem rq_x {l : List UInt8} (h : l.getD 0 0 = 92) (h3 : l.getD 1 0 = 120) (h2 : 4 ≤ l.length) : runq1 l = match unhex (l.getD 2 0), unhex (l.getD 3 0) with | some a, some b => some ([UInt8.ofNat (16 * a + b)], 4) | _, _ => none := by
  unfold runq1; rw [if_neg (fun q => q h), if_neg (by omega), if_neg (by rw [h3]; decide), if_pos h3, if_neg (by omega)]
  cases unhex (l.getD 2 0) <;> cases unhex (l.getD 3 0) <;> rfl
theorem rq_xs {l : List UInt8} (h : l.getD 0 0 = 92) (h3 : l.getD 1 0 = 120) (h2 : l.length < 4) : runq1 l = none := by
  unfold runq1; rw [if_neg (fun q => q h)]
  have e1 : ¬ l.getD 1 0 = 92 := by rw [h3]; decide
  by_cases h5 : l.length < 2
  · rw [if_pos h5]
  · rw [if_neg h5, if_neg e1, if_pos h3, if_pos h2]
theorem rq_u {l : List UInt8} (h : l.getD 0 0 = 92) (h2 : 2 ≤ l.length) (h3 : l.getD 1 0 = 117) {n m : Nat} (hq : scanH 7 0 (l.drop 2) = (n, m)) :
    runq1 l = if l.length ≤ m + 2 ∨ l.getD (m + 2) 0 ≠ 46 ∨ m = 0 ∨ 1114111 < n then none else some (encL n, m + 3) := by
  unfold runq1; rw [if_neg (fun q => q h), if_neg (by omega), if_neg (by rw [h3]; decide), if_neg (by rw [h3]; decide), if_pos h3, hq]
theorem rq_no {l : List UInt8} (h : l.getD 0 0 = 92) (h2 : 2 ≤ l.length) (h3 : l.getD 1 0 ≠ 92) (h4 : l.getD 1 0 ≠ 120) (h5 : l.getD 1 0 ≠ 117) : runq1 l = none := by
  unfold runq1; rw [if_neg (fun q => q h), if_neg (by omega), if_neg h3, if_neg h4, if_neg h5]
theorem scan_go {l : List UInt8} {m acc d : Nat} (hm : m < 7) (hl : 2 + m < l.length) (hd : unhex (l.getD (2 + m) 0) = some d) :
    scanH (7 - m) acc (l.drop (2 + m)) = ((scanH (7 - (m + 1)) (16 * acc + d) (l.drop (2 + (m + 1)))).1, (scanH (7 - (m + 1)) (16 * acc + d) (l.drop (2 + (m + 1)))).2 + 1) := by
  rw [List.drop_eq_getElem_cons hl, show 7 - m = (7 - (m + 1)) + 1 by omega]
  have : l[2 + m] = l.getD (2 + m) 0 := by simp [List.getD, hl]
  rw [this]
  simp only [scanH, hd]
  rfl
theorem scan_stop {l : List UInt8} {m acc : Nat} (h : m = 7 ∨ l.length ≤ 2 + m ∨ unhex (l.getD (2 + m) 0) = none) : scanH (7 - m) acc (l.drop (2 + m)) = (acc, 0) := by
  rcases h with rfl | h | h
  · rfl
  · rw [List.drop_of_length_le h]
    cases 7 - m <;> rfl
  · by_cases hl : 2 + m < l.length
    · rw [List.drop_eq_getElem_cons hl]
      have : l[2 + m] = l.getD (2 + m) 0 := by simp [List.getD, hl]
      rw [this]
      cases 7 - m with
      | zero => rfl
      | succ f => simp only [scanH, h]
    · rw [List.drop_of_length_le (by omega)]
      cases 7 - m <;> rfl
theorem getD_drop (l : List UInt8) (i j : Nat) : (l.drop i).getD j 0 = l.getD (i + j) 0 := by simp [List.getD, List.getElem?_drop]
theorem idx_at (s : ByteArray) (j : Nat) (J : Int) (hJ : J = (j : Int)) (h : j < s.size) : ∀ w : World, (Instr.index 9 (.string s) (.int .i64 J)).run Tryd.prog w = .ok (.int .u8 ((s.data.toList.getD j 0).toNat : Int)) w := by
  intro w
  subst hJ
  rw [run_index_string w 9 s .i64 (j : Int) Tryd.underlying9]
  rw [at_get s j h]
  simp [h]

theorem runqL_none {l : List UInt8} (h : unqF runq1 l.length [] l = none) : runqL l = none := by unfold runqL unqP; rw [h]
theorem unhex_lt {b : UInt8} {d : Nat} (h : unhex b = some d) : d < 16 := by
  have := b.toNat_lt
  unfold unhex at h
  split at h
  · injection h with h; omega
  split at h
  · injection h with h; omega
  · cases h
theorem unhex_dot {b : UInt8} {d : Nat} (h : unhex b = some d) : b ≠ 46 := by
  rintro rfl
  cases h
theorem u8_ne {x : UInt8} (n : Nat) (hn : n < 256) (h : x ≠ UInt8.ofNat n) : ¬ ((x.toNat : Int) = n) := by
  intro e
  apply h
  apply UInt8.toNat_inj.1
  rw [UInt8.toNat_ofNat']
  omega
theorem digI_some {b : UInt8} {d : Nat} (h : unhex b = some d) : digI b = d := by unfold digI; rw [h]
theorem digI_none {b : UInt8} (h : unhex b = none) : digI b = -1 := by unfold digI; rw [h]
theorem dig_some {b : UInt8} {d : Nat} (h : unhex b = some d) (w : World) : Calls Tryd.prog 36 #[.int .u8 (b.toNat : Int)] w fun e w' => e = .returned (.int .i64 (d : Int)) ∧ w' = w := by
  have := rdigit_any b w
  rw [digI_some h] at this
  exact this
theorem dig_none {b : UInt8} (h : unhex b = none) (w : World) : Calls Tryd.prog 36 #[.int .u8 (b.toNat : Int)] w fun e w' => e = .returned (.int .i64 (-1)) ∧ w' = w := by
  have := rdigit_any b w
  rw [digI_none h] at this
  exact this

theorem conv_drew (w : World) (vs : List Value) (l : List UInt8) (hv : vs = l.map cellB) (hl : l.length ≤ 1000) :
    (convert 49 9 (.slice (some ⟨w.heap.size, 0, none⟩) vs.length vs.length)).run Tryd.prog (w.alloc (.cells vs.toArray 5)).drew = .ok (.string (strB l)) (w.alloc (.cells vs.toArray 5)).drew := by
  refine string_of_row (P := Tryd.prog) 49 9 5 Tryd.underlying49 Tryd.underlying5 Tryd.underlying9 (base := w.heap.size) (n := vs.length) ?_
  rw [← hv]
  exact ownsRow_fr (own_new w 5 vs 1 vs.length (by omega) (by rw [hv, List.length_map]; unfold maxLen; omega)) ((Fr.refl noB _).drew) (fun _ _ h => h)
theorem w64 {z J : Int} (h : J = z) (h0 : 0 ≤ z) (h1 : z ≤ 1000000) : wrap64 z = J := by rw [IntWalk.wrap64_in _ (by omega)]; exact h.symm
theorem i64w {z : Int} (h0 : 0 ≤ z) (h1 : z ≤ 1000000) : IntKind.i64.wrap z = z := IntWalk.i64_in _ (by omega)
theorem u8w {z : Int} (h0 : 0 ≤ z) (h1 : z < 256) : IntKind.u8.wrap z = z := by
  have : z % 256 = z := by omega
  simp [IntKind.wrap, IntKind.signed, IntKind.bits, this]
set_option maxRecDepth 100000 in
set_option maxHeartbeats 4000000 in
theorem runquote_any (s : ByteArray) (w : World) (hs : s.size ≤ 1000) :
    Calls Tryd.prog 23 #[.string s] w fun e w' => RunqPost s.data.toList e ∧ Fr noB w w' := by
  go_enter Tryd.func23, Tryd.ntmps23
  go_wp2_with fail
  go_loopg [4, 5, 6, 7] s.size (fun gk vo vi _ _ wr => ∃ (i : Nat) (o : List UInt8), i + gk = s.size ∧ vi = .int .i64 i ∧ vo = .string (strB o) ∧ o.length ≤ 4 * i ∧ Fr noB w wr ∧ Hid (unqF runq1 s.data.toList.length [] s.data.toList = unqF runq1 (s.data.toList.drop i).length o (s.data.toList.drop i)))
  case atStart => exact ⟨0, [], by omega, rfl, rfl, by simp, Fr.refl _ _, Lib.hid rfl⟩
  case round =>
    obtain ⟨i, o, hig, rfl, rfl, hol, fr, hh⟩ := hrel
    have hi : i ≤ s.size := by omega
    have hso : (strB o).size = o.length := rfl
    have hso2 : (strB o).size ≤ 4000 := by rw [hso]; omega
    by_cases hlt : i < s.size
    · have hne : s.data.toList.drop i ≠ [] := drop_lt hlt
      have hll : (s.data.toList.drop i).length = s.size - i := by rw [List.length_drop, size_len]
      have g0 := getD_drop s.data.toList i 0
      have g1 := getD_drop s.data.toList i 1
      rw [Nat.add_zero] at g0
      have ix0 := idx_at s i (i : Int) rfl hlt
      have hi0 : (i : Int) < s.size := by omega
      have hb0 := (s.data.toList.getD i 0).toNat_lt
      by_cases hx0 : s.data.toList.getD i 0 = 92
      · have h92 : ((s.data.toList.getD i 0).toNat : Int) = 92 := by rw [hx0]; rfl
        rw [hx0] at g0
        by_cases h2 : i + 1 < s.size
        · have ix1 := idx_at s (i + 1) ((i : Int) + 1) (by omega) h2
          have q1 : ¬ (i : Int) + 1 ≥ s.size := by omega
          have hll2 : 2 ≤ (s.data.toList.drop i).length := by omega
          by_cases hy : s.data.toList.getD (i + 1) 0 = 92
          · have hr := rq_slash g0 hll2 (by rw [g1]; exact hy)
            have hk2 := hh.out.trans (rF_some o hne hr)
            rw [List.drop_drop] at hk2
            have hy2 : ((s.data.toList.getD (i + 1) 0).toNat : Int) = 92 := by rw [hy]; rfl
            have hsum : (strB o).size + 1 ≤ 9223372036854775807 := by omega
            rw [hx0] at ix0
            rw [hy] at ix1
            replace hk2 := Lib.hid hk2
            replace hr := Lib.hid hr
            replace g0 := Lib.hid g0
            replace g1 := Lib.hid g1
            replace hso := Lib.hid hso
            replace hne := Lib.hid hne
            clear hx0 hy h92 hy2
            go_wp2_with fail
            go_roundg (s.size - (i + 2))
            case rel => exact ⟨i + 2, o ++ [92], by omega, by go_num, by rw [← strB_append]; rfl, by simp; omega, fr, hk2⟩
            case measure => omega
          · have hn92 : ¬ ((s.data.toList.getD (i + 1) 0).toNat : Int) = 92 := u8_ne 92 (by omega) hy
            rw [hx0] at ix0
            clear hx0 h92
            by_cases hX : s.data.toList.getD (i + 1) 0 = 120
            · have g1' : (s.data.toList.drop i).getD 1 0 = 120 := by rw [g1]; exact hX
              rw [hX] at ix1
              clear hX hn92 hy
              by_cases h4 : i + 3 < s.size
              · have g2 := getD_drop s.data.toList i 2
                have g3 := getD_drop s.data.toList i 3
                have ix2 := idx_at s (i + 2) ((i : Int) + 2) (by omega) (by omega)
                have ix3 := idx_at s (i + 3) ((i : Int) + 3) (by omega) h4
                have q3 : ¬ (i : Int) + 3 ≥ s.size := by omega
                have hr := rq_x g0 g1' (by omega)
                rw [g2, g3] at hr
                generalize hx2 : s.data.toList.getD (i + 2) 0 = x2 at *
                generalize hx3 : s.data.toList.getD (i + 3) 0 = x3 at *
                have hb2 := x2.toNat_lt
                have hb3 := x3.toNat_lt
                replace g0 := Lib.hid g0
                replace g1 := Lib.hid g1
                replace g2 := Lib.hid g2
                replace g3 := Lib.hid g3
                replace g1' := Lib.hid g1'
                replace hso := Lib.hid hso
                cases hu2 : unhex x2 with
                | none =>
                  rw [hu2] at hr
                  have hno := runqL_none (hh.out.trans (rF_none o hne hr))
                  have c2 := dig_none hu2
                  replace hno := Lib.hid hno
                  replace hr := Lib.hid hr
                  replace hne := Lib.hid hne
                  replace c2 := Lib.hid c2
                  replace hu2 := Lib.hid hu2
                  go_wp2_with fail
                  refine (c2.out _).mono ?_
                  rintro e w1 ⟨rfl, hw1⟩
                  obtain rfl := hw1.symm
                  go_wp2_with fail
                  go_ret2
                  exact ⟨Or.inr ⟨hno.out, rfl⟩, fr⟩
                | some a =>
                  have ha := unhex_lt hu2
                  have c2 := dig_some hu2
                  replace c2 := Lib.hid c2
                  cases hu3 : unhex x3 with
                  | none =>
                    rw [hu2, hu3] at hr
                    have hno := runqL_none (hh.out.trans (rF_none o hne hr))
                    have c3 := dig_none hu3
                    have ha0 : ¬ (a : Int) < 0 := by omega
                    replace hno := Lib.hid hno
                    replace hr := Lib.hid hr
                    replace hne := Lib.hid hne
                    replace c3 := Lib.hid c3
                    replace hu2 := Lib.hid hu2
                    replace hu3 := Lib.hid hu3
                    go_wp2_with fail
                    refine (c2.out _).mono ?_
                    rintro e w1 ⟨rfl, hw1⟩
                    obtain rfl := hw1.symm
                    go_wp2_with fail
                    refine (c3.out _).mono ?_
                    rintro e w1 ⟨rfl, hw1⟩
                    obtain rfl := hw1.symm
                    go_wp2_with fail
                    go_ret2
                    exact ⟨Or.inr ⟨hno.out, rfl⟩, fr⟩
                  | some b =>
                    have hb := unhex_lt hu3
                    have c3 := dig_some hu3
                    replace c3 := Lib.hid c3
                    rw [hu2, hu3] at hr
                    have hk2 := hh.out.trans (rF_some o hne hr)
                    rw [List.drop_drop] at hk2
                    obtain ⟨J2, hJ2⟩ : ∃ J : Int, J = (i : Int) + 2 := ⟨_, rfl⟩
                    obtain ⟨J3, hJ3⟩ : ∃ J : Int, J = (i : Int) + 3 := ⟨_, rfl⟩
                    obtain ⟨A1, hA1⟩ : ∃ J : Int, J = 16 * (a : Int) := ⟨_, rfl⟩
                    obtain ⟨A2, hA2⟩ : ∃ J : Int, J = A1 + (b : Int) := ⟨_, rfl⟩
                    have hcell : ([.int .u8 A2] : List Value) = [UInt8.ofNat (16 * a + b)].map cellB := by subst hA2 hA1; simp [cellB]; omega
                    have hcv := fun wz => conv_new wz [.int .u8 A2] [UInt8.ofNat (16 * a + b)] hcell (by simp)
                    simp only [List.length_cons, List.length_nil, Nat.zero_add] at hcv
                    have hcv1 := hcv wr
                    have hcv2 := conv_drew wr [.int .u8 A2] [UInt8.ofNat (16 * a + b)] hcell (by simp)
                    simp only [List.length_cons, List.length_nil, Nat.zero_add] at hcv2
                    rw [← hJ2] at ix2
                    rw [← hJ3] at ix3
                    have z6 : ¬ (a : Int) < 0 := by omega
                    have z7 : ¬ (b : Int) < 0 := by omega
                    have hm4 : i + 4 + (s.size - (i + 4)) = s.size := by omega
                    have hm7 : s.size - (i + 4) < gk := by omega
                    have hm5 : (o ++ [UInt8.ofNat (16 * a + b)]).length ≤ 4 * (i + 4) := by rw [List.length_append, List.length_singleton]; omega
                    have hm6 : s.size - (i + 4) < s.size - i := by omega
                    have e2 : ∀ h : J2.toNat < s.size, s[J2.toNat]'h = x2 := by
                      intro h
                      have h1 := at_get s (i + 2) (by omega)
                      have h2 : J2.toNat = i + 2 := by omega
                      rw [← hx2, h1]
                      simp only [h2]
                    have e3 : ∀ h : J3.toNat < s.size, s[J3.toNat]'h = x3 := by
                      intro h
                      have h1 := at_get s (i + 3) (by omega)
                      have h2 : J3.toNat = i + 3 := by omega
                      rw [← hx3, h1]
                      simp only [h2]
                    have qs : wrap64 ((i : Int) + 2) = J2 ∧ wrap64 ((i : Int) + 3) = J3 ∧ IntKind.i64.wrap (16 * digI x2) = A1 ∧ IntKind.i64.wrap (A1 + digI x3) = A2 ∧ IntKind.u8.wrap A2 = A2 ∧ wrap64 ((i : Int) + 4) = (i : Int) + 4 ∧ IntKind.i64.wrap J2 = J2 ∧ IntKind.i64.wrap J3 = J3 ∧ (0 ≤ J2 ∧ J2 < s.size) ∧ (0 ≤ J3 ∧ J3 < s.size) :=
                      ⟨w64 hJ2 (by omega) (by omega), w64 hJ3 (by omega) (by omega), by rw [digI_some hu2, ← hA1]; exact i64w (by omega) (by omega), by rw [digI_some hu3, ← hA2]; exact i64w (by omega) (by omega), u8w (by omega) (by omega), w64 rfl (by omega) (by omega), i64w (by omega) (by omega), i64w (by omega) (by omega), by omega, by omega⟩
                    replace qs := Lib.hid qs
                    have q4 : (i : Int) + 2 = J2 := hJ2.symm
                    have q5 : (i : Int) + 3 = J3 := hJ3.symm
                    have hsum : (strB o).size + (strB [UInt8.ofNat (16 * a + b)]).size ≤ 9223372036854775807 := by rw [strB_size [UInt8.ofNat (16 * a + b)], List.length_singleton]; omega
                    have hsum2 : ¬ 9223372036854775807 < (strB o).size + (strB [UInt8.ofNat (16 * a + b)]).size := Nat.not_lt.2 hsum
                    have hfin : strB o ++ strB [UInt8.ofNat (16 * a + b)] = strB (o ++ [UInt8.ofNat (16 * a + b)]) := by rw [strB_append]
                    generalize UInt8.ofNat (16 * a + b) = ub at *
                    replace hk2 := Lib.hid hk2
                    replace hr := Lib.hid hr
                    replace hne := Lib.hid hne
                    replace hu2 := Lib.hid hu2
                    replace hu3 := Lib.hid hu3
                    replace hcv := Lib.hid hcv
                    replace hcell := Lib.hid hcell
                    replace hfin := Lib.hid hfin
                    replace hm4 := Lib.hid hm4
                    replace hm5 := Lib.hid hm5
                    replace hm6 := Lib.hid hm6
                    replace hm7 := Lib.hid hm7
                    clear ha hb hb2 hb3 hJ2 hJ3 hA1 hA2 hx2 hx3
                    go_wp2_with fail
                    refine (c2.out _).mono ?_
                    rintro e w1 ⟨rfl, hw1⟩
                    obtain rfl := hw1.symm
                    go_wp2_with fail
                    refine (c3.out _).mono ?_
                    rintro e w1 ⟨rfl, hw1⟩
                    obtain rfl := hw1.symm
                    go_upto_region 17 with fail
                    obtain ⟨y2, y3, y4, y5, y6, y7, y8, y9, ⟨p1, p2⟩, p3, p4⟩ := qs.out
                    go_region_law (first
                      | (go_simp; go_at_call 36; refine (rdigit_any _ _).mono ?_; rintro e wq ⟨rfl, hwq⟩; obtain rfl := hwq.symm; clear hwq)
                      | fail)
                    all_goals (
                      clear y2 y3 y4 y5 y6 y7 y8 y9 p1 p2 p3 p4
                      go_wp2_with fail
                      go_roundg (s.size - (i + 4))
                      case rel => exact ⟨i + 4, o ++ [ub], hm4.out, by go_num, by rw [hfin.out], hm5.out, fr.seqN (((Fr.refl noB _).alloc _).drewN 1), hk2⟩
                      case measure => omega)
              · have hr := rq_xs g0 g1' (by omega)
                have hno := runqL_none (hh.out.trans (rF_none o hne hr))
                have q3 : (i : Int) + 3 ≥ s.size := by omega
                replace hno := Lib.hid hno
                replace hr := Lib.hid hr
                replace g0 := Lib.hid g0
                replace g1 := Lib.hid g1
                replace g1' := Lib.hid g1'
                replace hso := Lib.hid hso
                replace hne := Lib.hid hne
                go_wp2_with fail
                go_ret2
                exact ⟨Or.inr ⟨hno.out, rfl⟩, fr⟩
            · have hn120 : ¬ ((s.data.toList.getD (i + 1) 0).toNat : Int) = 120 := u8_ne 120 (by omega) hX
              by_cases hU : s.data.toList.getD (i + 1) 0 = 117
              · have g1' : (s.data.toList.drop i).getD 1 0 = 117 := by rw [g1]; exact hU
                rw [hU] at ix1
                have hrq := fun n m => rq_u (n := n) (m := m) g0 hll2 g1'
                have hgd := getD_drop s.data.toList i
                have hi1 : (i : Int) + 1 < s.size := by omega
                have h2s : i + 2 + 0 ≤ s.size := by omega
                have hi1000 : (i : Int) ≤ 1000 := by omega
                have hgk : ∀ x, x < s.size - i → x < gk := fun x hx => by omega
                replace hgk := Lib.hid hgk
                replace g0 := Lib.hid g0
                replace g1 := Lib.hid g1
                replace g1' := Lib.hid g1'
                replace hso := Lib.hid hso
                replace hrq := Lib.hid hrq
                replace hgd := Lib.hid hgd
                replace hll := Lib.hid hll
                replace hig := Lib.hid hig
                clear hU hX hn120 hn92 hy hll2
                go_wp2_with fail
                go_loopg [6, 7] 7 (fun gk2 vn vk w5 => ∃ (m acc : Nat), m + gk2 = 7 ∧ vn = .int .i64 (acc : Int) ∧ vk = .int .i64 ((i + 2 + m : Nat) : Int) ∧ Hid (acc < 16 ^ m) ∧ Hid (i + 2 + m ≤ s.size) ∧ Hid (scanH 7 0 ((s.data.toList.drop i).drop 2) = ((scanH (7 - m) acc ((s.data.toList.drop i).drop (2 + m))).1, (scanH (7 - m) acc ((s.data.toList.drop i).drop (2 + m))).2 + m)) ∧ Fr noB wr w5)
                case atStart => exact ⟨0, 0, by omega, rfl, by go_num, Lib.hid (by simp), Lib.hid h2s, Lib.hid rfl, Fr.refl _ _⟩
                case round =>
                  obtain ⟨m, acc, hmg, rfl, rfl, hacc, hKs, hsc, f5⟩ := hrel
                  have fr5 := fr.seqN f5
                  have hm7 : m ≤ 7 := by omega
                  have hpw : (16 : Nat) ^ m ≤ 268435456 := Nat.le_trans (Nat.pow_le_pow_right (by omega) hm7) (by decide)
                  have hac : (acc : Int) ≤ 268435455 := by have := hacc.out; omega
                  clear hpw
                  obtain ⟨K, hK⟩ : ∃ K, K = i + 2 + m := ⟨_, rfl⟩
                  rw [← hK]
                  have hKl : K ≤ s.size := by rw [hK]; exact hKs.out
                  have hKi : (K : Int) ≤ 1000 := by omega
                  have hstop : m = 7 ∨ (s.data.toList.drop i).length ≤ 2 + m ∨ unhex ((s.data.toList.drop i).getD (2 + m) 0) = none → scanH 7 0 ((s.data.toList.drop i).drop 2) = (acc, m) := fun q => by
                    rw [hsc.out, scan_stop q]; simp
                  by_cases hlK : K < s.size
                  · have ixK := idx_at s K (K : Int) rfl hlK
                    have hgK : (s.data.toList.drop i).getD (2 + m) 0 = s.data.toList.getD K 0 := by rw [hgd.out, hK]; congr 1; omega
                    have hgK2 : (s.data.toList.drop i).getD (m + 2) 0 = s.data.toList.getD K 0 := by rw [hgd.out, hK]; congr 1; omega
                    generalize s.data.toList.getD K 0 = xK at *
                    have hbK := xK.toNat_lt
                    have hlK' : (K : Int) < s.size := by omega
                    have hlK2 : ¬ (K : Int) ≥ s.size := by omega
                    replace ixK := ixK
                    cases huK : unhex xK with
                    | none =>
                      have hsq := hstop (Or.inr (Or.inr (by rw [hgK]; exact huK)))
                      have cK := dig_none huK
                      have hrq3 := hrq.out _ _ hsq
                      rw [hgK2] at hrq3
                      have hll3 : ¬ (s.data.toList.drop i).length ≤ m + 2 := by rw [hll.out, Nat.not_le]; omega
                      have hrq2 : runq1 (s.data.toList.drop i) = if xK ≠ 46 ∨ m = 0 ∨ 1114111 < acc then none else some (encL acc, m + 3) := by rw [hrq3]; simp only [hll3, false_or]
                      clear hrq3 hll3
                      replace hsq := Lib.hid hsq
                      replace hstop := Lib.hid hstop
                      replace cK := Lib.hid cK
                      replace huK := Lib.hid huK
                      replace hgK := Lib.hid hgK
                      replace hgK2 := Lib.hid hgK2
                      by_cases hdot : xK = 46
                      · subst hdot
                        by_cases hm0 : m = 0
                        · have hno := runqL_none (hh.out.trans (rF_none o hne (by rw [hrq2, if_pos (by omega)])))
                          have eK : ((K : Int) == (i : Int) + 2) = true := by simp; omega
                          replace hno := Lib.hid hno
                          replace hrq2 := Lib.hid hrq2
                          clear hK hm0
                          go_wp2_with fail
                          refine (cK.out _).mono ?_
                          rintro e w6 ⟨rfl, hw6⟩
                          obtain rfl := hw6.symm
                          go_wp2_with fail
                          go_ret2
                          exact ⟨Or.inr ⟨hno.out, rfl⟩, fr5⟩
                        · have eK : ((K : Int) == (i : Int) + 2) = false := by simp; omega
                          by_cases hbig : 1114111 < acc
                          · have hno := runqL_none (hh.out.trans (rF_none o hne (by rw [hrq2, if_pos (by omega)])))
                            have eB : (acc : Int) > 1114111 := by omega
                            replace hno := Lib.hid hno
                            replace hrq2 := Lib.hid hrq2
                            clear hK hm0 hbig
                            go_wp2_with fail
                            refine (cK.out _).mono ?_
                            rintro e w6 ⟨rfl, hw6⟩
                            obtain rfl := hw6.symm
                            go_wp2_with fail
                            go_ret2
                            exact ⟨Or.inr ⟨hno.out, rfl⟩, fr5⟩
                          · have hyes := hh.out.trans (rF_some o hne (n := encL acc) (k := m + 3) (by rw [hrq2, if_neg (by simp; omega)]))
                            rw [List.drop_drop] at hyes
                            have eB : ¬ (acc : Int) > 1114111 := by omega
                            have hen := fun w => renc_any acc w (by omega)
                            have hel := encL_len acc
                            have hsum : (strB o).size + (strB (encL acc)).size ≤ 9223372036854775807 := by rw [strB_size (encL acc)]; omega
                            have hfin : strB o ++ strB (encL acc) = strB (o ++ encL acc) := strB_append _ _
                            have hol2 : (o ++ encL acc).length ≤ 4 * (i + (m + 3)) := by rw [List.length_append]; omega
                            have hi3 : i + (m + 3) + (s.size - (i + (m + 3))) = s.size := by omega
                            have hi4 : s.size - (i + (m + 3)) < s.size - i := by omega
                            have hi5 : (K : Int) + 1 = ((i + (m + 3) : Nat) : Int) := by omega
                            replace hyes := Lib.hid hyes
                            replace hrq2 := Lib.hid hrq2
                            replace hen := Lib.hid hen
                            replace hfin := Lib.hid hfin
                            replace hol2 := Lib.hid hol2
                            replace hi3 := Lib.hid hi3
                            replace hi4 := Lib.hid hi4
                            replace hi5 := Lib.hid hi5
                            replace hel := Lib.hid hel
                            clear hK hm0 hbig
                            go_wp2_with fail
                            refine (cK.out _).mono ?_
                            rintro e w6 ⟨rfl, hw6⟩
                            obtain rfl := hw6.symm
                            go_wp2_with fail
                            refine (hen.out _).mono ?_
                            rintro e w6 ⟨rfl, f6⟩
                            go_wp2_with fail
                            go_roundg (s.size - (i + (m + 3)))
                            case rel => exact ⟨i + (m + 3), o ++ encL acc, hi3.out, by rw [← hi5.out], by rw [hfin.out], hol2.out, fr5.seqN f6, hyes⟩
                            case measure => exact hgk.out _ hi4.out
                      · have hno := runqL_none (hh.out.trans (rF_none o hne (by rw [hrq2, if_pos (Or.inl hdot)])))
                        have hn46 : ¬ ((xK.toNat : Int) = 46) := u8_ne 46 (by omega) hdot
                        replace hno := Lib.hid hno
                        replace hrq2 := Lib.hid hrq2
                        clear hK hdot
                        go_wp2_with fail
                        refine (cK.out _).mono ?_
                        rintro e w6 ⟨rfl, hw6⟩
                        obtain rfl := hw6.symm
                        go_wp2_with fail
                        go_ret2
                        exact ⟨Or.inr ⟨hno.out, rfl⟩, fr5⟩
                    | some d =>
                      have hd16 := unhex_lt huK
                      have cK := dig_some huK
                      have hd0 : ¬ ((d : Int) < 0) := by omega
                      have hd1 : (d : Int) ≥ 0 := by omega
                      by_cases hm : m = 7
                      · have hsq := hstop (Or.inl hm)
                        have hrq2 := hrq.out _ _ hsq
                        rw [hgK2] at hrq2
                        have hndot := unhex_dot huK
                        have hno := runqL_none (hh.out.trans (rF_none o hne (by rw [hrq2, if_pos (Or.inr (Or.inl hndot))])))
                        have hn46 : ¬ ((xK.toNat : Int) = 46) := u8_ne 46 (by omega) hndot
                        have hk9 : ¬ (K : Int) < (i : Int) + 9 := by omega
                        replace hsq := Lib.hid hsq
                        replace hstop := Lib.hid hstop
                        replace cK := Lib.hid cK
                        replace huK := Lib.hid huK
                        replace hgK := Lib.hid hgK
                        replace hgK2 := Lib.hid hgK2
                        replace hno := Lib.hid hno
                        replace hrq2 := Lib.hid hrq2
                        clear hK hm hndot
                        go_wp2_with fail
                        refine (cK.out _).mono ?_
                        rintro e w6 ⟨rfl, hw6⟩
                        obtain rfl := hw6.symm
                        go_wp2_with fail
                        go_ret2
                        exact ⟨Or.inr ⟨hno.out, rfl⟩, fr5⟩
                      · have hgo := scan_go (l := s.data.toList.drop i) (m := m) (acc := acc) (d := d) (by omega) (by rw [hll.out]; omega) (by rw [hgK]; exact huK)
                        have hsc2 : scanH 7 0 ((s.data.toList.drop i).drop 2) = ((scanH (7 - (m + 1)) (16 * acc + d) ((s.data.toList.drop i).drop (2 + (m + 1)))).1, (scanH (7 - (m + 1)) (16 * acc + d) ((s.data.toList.drop i).drop (2 + (m + 1)))).2 + (m + 1)) := by
                          rw [hsc.out, hgo]
                          simp only [Prod.mk.injEq, true_and]
                          omega
                        have hk9 : (K : Int) < (i : Int) + 9 := by omega
                        have hacc2 : 16 * acc + d < 16 ^ (m + 1) := by rw [Nat.pow_succ]; have := hacc.out; omega
                        have hKs2 : i + 2 + (m + 1) ≤ s.size := by omega
                        have hKn : (K : Int) + 1 = ((i + 2 + (m + 1) : Nat) : Int) := by omega
                        have hm1 : m + 1 + (7 - (m + 1)) = 7 := by omega
                        have hdc : (d : Int) ≤ 15 := by omega
                        have hm6 : m ≤ 6 := by omega
                        have haN : (16 : Int) * acc + d = ((16 * acc + d : Nat) : Int) := by omega
                        replace hstop := Lib.hid hstop
                        replace cK := Lib.hid cK
                        replace huK := Lib.hid huK
                        replace hgK := Lib.hid hgK
                        replace hgK2 := Lib.hid hgK2
                        replace hgo := Lib.hid hgo
                        replace hsc2 := Lib.hid hsc2
                        replace hacc2 := Lib.hid hacc2
                        replace hKs2 := Lib.hid hKs2
                        replace hKn := Lib.hid hKn
                        replace hm1 := Lib.hid hm1
                        replace haN := Lib.hid haN
                        clear hK hm hd16
                        go_wp2_with fail
                        refine (cK.out _).mono ?_
                        rintro e w6 ⟨rfl, hw6⟩
                        obtain rfl := hw6.symm
                        go_wp2_with fail
                        refine (cK.out _).mono ?_
                        rintro e w6 ⟨rfl, hw6⟩
                        obtain rfl := hw6.symm
                        go_wp2_with fail
                        go_roundg (7 - (m + 1))
                        case rel => exact ⟨m + 1, 16 * acc + d, hm1.out, by rw [← haN.out], by rw [← hKn.out], hacc2, hKs2, hsc2, f5⟩
                        case measure => omega
                  · have hsq := hstop (Or.inr (Or.inl (by rw [hll.out]; omega)))
                    have hrq2 := hrq.out _ _ hsq
                    have hno := runqL_none (hh.out.trans (rF_none o hne (by rw [hrq2, if_pos (Or.inl (by rw [hll.out]; omega))])))
                    have hlK' : ¬ (K : Int) < s.size := by omega
                    have hlK2 : (K : Int) ≥ s.size := by omega
                    replace hsq := Lib.hid hsq
                    replace hstop := Lib.hid hstop
                    replace hno := Lib.hid hno
                    replace hrq2 := Lib.hid hrq2
                    clear hK hlK
                    go_wp2_with fail
                    go_ret2
                    exact ⟨Or.inr ⟨hno.out, rfl⟩, fr5⟩
              · have hn117 : ¬ ((s.data.toList.getD (i + 1) 0).toNat : Int) = 117 := u8_ne 117 (by omega) hU
                have hr := rq_no g0 hll2 (by rw [g1]; exact hy) (by rw [g1]; exact hX) (by rw [g1]; exact hU)
                have hno := runqL_none (hh.out.trans (rF_none o hne hr))
                generalize s.data.toList.getD (i + 1) 0 = x1 at *
                replace hno := Lib.hid hno
                replace hr := Lib.hid hr
                replace g0 := Lib.hid g0
                replace g1 := Lib.hid g1
                replace hso := Lib.hid hso
                replace hne := Lib.hid hne
                clear hU hX hy
                go_wp2_with fail
                go_ret2
                exact ⟨Or.inr ⟨hno.out, rfl⟩, fr⟩
        · have hr := rq_short g0 (by omega)
          have hno := runqL_none (hh.out.trans (rF_none o hne hr))
          have q1 : (i : Int) + 1 ≥ s.size := by omega
          rw [hx0] at ix0
          replace hno := Lib.hid hno
          replace hr := Lib.hid hr
          replace g0 := Lib.hid g0
          replace g1 := Lib.hid g1
          replace hso := Lib.hid hso
          replace hne := Lib.hid hne
          clear hx0 h92
          go_wp2_with fail
          go_ret2
          exact ⟨Or.inr ⟨hno.out, rfl⟩, fr⟩
      · have hr := rq_plain (l := s.data.toList.drop i) (by rw [g0]; exact hx0)
        have hk2 := hh.out.trans (rF_some o hne hr)
        rw [List.drop_drop, g0] at hk2
        have hsl : ∀ w : World, (Instr.slice 9 (.string s) (some (.int .i64 (i : Int))) (some (.int .i64 ((i : Int) + 1))) none).run Tryd.prog w = .ok (.string (strB [s.data.toList.getD i 0])) w := by
          intro w
          rw [run_slice_string w 9 s .i64 .i64 i ((i : Int) + 1) Tryd.underlying9 (by omega) (by omega) (by omega)]
          congr 2
          rw [show ((i : Int) + 1).toNat = i + 1 by omega, Int.toNat_natCast, ext_eq]
          congr 1
          rw [List.drop_take, show i + 1 - i = 1 by omega]
          rw [List.drop_eq_getElem_cons (by rw [size_len]; exact hlt)]
          simp [List.getD, size_len, hlt]
        have hn92 : ¬ ((s.data.toList.getD i 0).toNat : Int) = 92 := fun e => hx0 (UInt8.toNat_inj.1 (by show _ = 92; omega))
        generalize s.data.toList.getD i 0 = x0 at *
        have hsum : (strB o).size + (strB [x0]).size ≤ 9223372036854775807 := by rw [strB_size [x0], List.length_singleton]; omega
        replace hk2 := Lib.hid hk2
        replace hr := Lib.hid hr
        replace g0 := Lib.hid g0
        replace g1 := Lib.hid g1
        replace hso := Lib.hid hso
        replace hne := Lib.hid hne
        go_wp2_with fail
        go_roundg (s.size - (i + 1))
        case rel => exact ⟨i + 1, o ++ [x0], by omega, by go_num, by rw [strB_append], by simp; omega, fr, hk2⟩
        case measure => omega
    · have hd : s.data.toList.drop i = [] := List.drop_of_length_le (by rw [size_len]; omega)
      have hk2 : unqF runq1 s.data.toList.length [] s.data.toList = some o := by
        have := hh.out
        rw [hd] at this
        rw [this]
        simp [unqF]
      have hqt := rquote_any (strB o) wr (by omega)
      rw [strB_list] at hqt
      have hul : runqL s.data.toList = if quoteL o = s.data.toList then some o else none := by
        unfold runqL unqP
        rw [hk2]
      have q0 : ¬ (i : Int) < s.size := by omega
      replace hk2 := Lib.hid hk2
      replace hqt := Lib.hid hqt
      replace hd := Lib.hid hd
      replace hso := Lib.hid hso
      clear hol
      go_wp2_with fail
      refine hqt.out.mono ?_
      rintro e w2 ⟨rfl, f2⟩
      have fr2 := fr.seqN f2
      clear hqt
      by_cases hE : quoteL o = s.data.toList
      · rw [if_pos hE] at hul
        have hb : ((strB (quoteL o)).toList == s.toList) = true := by rw [toList_eq, toList_eq, hE, strB_list]; simp
        have hb2 : ((strB (quoteL o)).toList != s.toList) = false := by simp [bne, hb]
        replace hul := Lib.hid hul
        replace hE := Lib.hid hE
        go_wp2_with fail
        go_ret2
        exact ⟨Or.inl ⟨o, hul.out, rfl⟩, fr2⟩
      · rw [if_neg hE] at hul
        have hb : ((strB (quoteL o)).toList == s.toList) = false := by rw [toList_eq, toList_eq, strB_list]; exact beq_false_of_ne hE
        have hb2 : ((strB (quoteL o)).toList != s.toList) = true := by simp [bne, hb]
        replace hul := Lib.hid hul
        replace hE := Lib.hid hE
        go_wp2_with fail
        go_ret2
        exact ⟨Or.inr ⟨hul.out, rfl⟩, fr2⟩
end Go.Proofs.YtnehphfpchfjeaaDoor
