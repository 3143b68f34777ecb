/-
  SpanPrints.
-/
import Derived.Test.YtgdpaoodfnabjaaDoorSpanLaws
set_option linter.unusedVariables false
set_option linter.unusedSimpArgs false
set_option maxRecDepth 100000
namespace Go.Proofs.YtgdpaoodfnabjaaDoor
open Go.RowKit Go Go.Lib

set_option maxHeartbeats 4000000 in
theorem prints_any (v : Value) (L : List Sp) (w : World) (hv : RdSp w v L) (hg : Gl w) :
    Calls Tryd.prog 3 #[v] w fun e w' => e = .returned (.bool true) ∧ Fr noB w w' := by
  have haw := awake_any w hg
  have hfew := fun w' (f : Fr noB w w') => few_any v L w' (hv.frN f)
  have haw2 := fun w' (f : Fr noB w w') => awake_any w' (hg.fr f)
  cases hF : fewS L with
  | false =>
    rw [hF] at hfew
    obtain ⟨a, c, rfl, _⟩ := hv
    replace haw := Lib.hid haw
    replace hfew := Lib.hid hfew
    replace haw2 := Lib.hid haw2
    go_enter Tryd.func3, Tryd.ntmps3
    go_wp2_with fail
    refine haw.out.mono ?_
    rintro e w1 ⟨rfl, f1⟩
    go_wp2_with fail
    refine (hfew.out w1 f1).mono ?_
    rintro e w2 ⟨rfl, f2⟩
    have fr2 := f1.seqN f2
    go_wp2_with fail
    refine (haw2.out w2 fr2).mono ?_
    rintro e w3 ⟨rfl, f3⟩
    go_wp2_with fail
    go_ret
    exact ⟨rfl, fr2.seqN f3⟩
  | true =>
    rw [hF] at hfew
    obtain ⟨hl, hs⟩ := few_len hF
    have hbytes := printL_bytes hF
    have hor := fun w' (f : Fr noB w w') => (hv.frN f).app
    have hfl := flat_len L
    have hone := flat_one L
    obtain ⟨i0, hi, hz0, hz1, hz2⟩ := info_parts Tryd.infoSpan
    have hrp := fun w' (f : Fr noB w w') => rprint_any v L w' (hv.frN f) (by omega)
    have hpr := fun w' u (f : Fr noB w w') (h : RdSp w' u L) => print_any u L w' (hg.fr f) h
    have hget : ∀ k, k < L.length → ∃ m, L[k]? = some m := fun k hk => ⟨L[k], List.getElem?_eq_getElem hk⟩
    have hself : ∀ T : ByteArray, (T.toList == T.toList) = true := fun T => by simp
    have hsame := fun w' u (f : Fr noB w w') (h : RdSp w' u L) => same_any u v L w' h (hv.frN f)
    have hcell : ∀ k s, L[k]? = some s → ∀ w', Fr noB w w' → ∃ a c, v = .slice a L.length c ∧ L.length ≤ c ∧ ∃ g o, a = some ⟨g, o, none⟩ ∧ w'.cell? ⟨g, o + k * 3, none⟩ = some (.int .i64 s.t) ∧ w'.cell? ⟨g, o + k * 3 + 1, none⟩ = some (.int .i64 s.q) ∧ w'.cell? ⟨g, o + k * 3 + 2, none⟩ = some (.string s.x) := fun k s hk w' f => by
      obtain ⟨a, c, e, h1, h2, h3, h4⟩ := hv.frN f
      obtain ⟨g, o, e2, h5⟩ := h4 k s hk
      exact ⟨a, c, e, h1, g, o, e2, h5⟩
    obtain ⟨a, c, rfl, hc1, _⟩ := hv
    obtain ⟨n, hn⟩ : ∃ n, L.length = n := ⟨_, rfl⟩
    rw [hn] at hl hor hfl hget hcell hc1 ⊢
    have hemp : L = [] ∨ L ≠ [] := Decidable.em _
    simp only [hn] at hfew hrp hsame
    have hrd : ∀ w', Fr noB w w' → Calls Tryd.prog 10 #[.string (strB (printL L))] w' fun e w'' => ∃ a7 n7 c7 cd, e = .returned (.tuple #[.slice a7 n7 c7, .int .i64 cd]) ∧ Fr noB w' w'' ∧ Hid (strB (printL L) = ByteArray.mk #[] ∨ (((strB (printL L)).toList == []) = false ∧ cd = 0 ∧ n7 = n ∧ RdSp w'' (.slice a7 n7 c7) L)) := fun w' f => by
      by_cases hp : printL L = []
      · rw [hp]
        refine (read_no (strB []) w' (by decide) (by decide +kernel)).mono ?_
        rintro e w2 ⟨rfl, f2⟩
        exact ⟨_, _, _, _, rfl, f2, Lib.hid (Or.inl rfl)⟩
      · have hR := print_right (by rw [hn]; omega) hp
        have hpre := print_ne (by rw [hn]; omega) hp
        have hne : ((strB (printL L)).toList == []) = false := by
          have h1 : (strB (printL L)).toList = printL L := ByteArray.toList_mk _
          rw [h1]
          simpa using hp
        refine (read_any (strB (printL L)) L w' (hg.fr f) (by rw [strB_size]; exact hbytes) (by rw [strB_list]; exact hpre) hR (by rw [hn]; omega)).mono ?_
        rintro e w2 ⟨v7, rfl, o7, f7⟩
        have rd7 : RdSp w2 v7 L := RdSp.of_own o7 rfl
        obtain ⟨a7, c7, rfl⟩ := ownsRow_slice o7
        exact ⟨_, _, _, _, rfl, f7, Lib.hid (Or.inr ⟨hne, rfl, hn, rd7⟩)⟩
    generalize hT : strB (printL L) = T at *
    generalize hXX : L.flatMap spC = XX at *
    replace hXX := Lib.hid hXX
    replace hT := Lib.hid hT
    replace haw := Lib.hid haw
    replace hfew := Lib.hid hfew
    replace haw2 := Lib.hid haw2
    replace hor := Lib.hid hor
    replace hone := Lib.hid hone
    replace hrp := Lib.hid hrp
    replace hpr := Lib.hid hpr
    replace hget := Lib.hid hget
    replace hsame := Lib.hid hsame
    replace hcell := Lib.hid hcell
    replace hrd := Lib.hid hrd
    replace hn := Lib.hid hn
    replace hs := Lib.hid hs
    clear hemp hF hbytes
    go_enter Tryd.func3, Tryd.ntmps3
    go_wp2_with fail
    refine haw.out.mono ?_
    rintro e w1 ⟨rfl, f1⟩
    go_wp2_with fail
    refine (hfew.out w1 f1).mono ?_
    rintro e w2 ⟨rfl, f2⟩
    have fr2 := f1.seqN f2
    have own3 := own_new w2 30 [] 3 0 rfl (Nat.zero_le _)
    have f3 : Fr noB w2 (w2.alloc (.cells #[] 30)) := (Fr.refl _ _).alloc _
    have hor3 := hor.out _ (fr2.seqN f3)
    have hB3 : w2.heap.size ≤ (w2.alloc (.cells #[] 30)).heap.size := f3.size
    replace hor3 := Lib.hid hor3
    go_wp2_with (first
      | (at_builtin; go_must (refine wpList_append_rd _ rfl (.tmp 16) (.tmp 17) 22 rfl w2.heap.size 30 i0 _ 3 32 Tryd.underlying22 hi hz0 hz1 hz2 rfl (by decide) _ 0 [] rfl own3 n _ XX rfl hor3.out hfl hone.out ?_ ?_ hB3 ?_))
      | fail)
    · unfold maxLen; omega
    · omega
    intro v4 w4 o4 f4
    try rw [Nat.zero_add] at o4
    try rw [List.nil_append] at o4
    have fr4 : Fr noB w w4 := (fr2.seqN f3).trans f4 (fun _ _ q => q) (fun i hi q => by have := (own3.lt i q).1; have := fr2.size; omega)
    have rd4 : RdSp w4 v4 L := RdSp.of_own (n := n) (by rw [hXX.out]; exact o4) hn.out
    clear own3 f3 hor3 hB3 o4 f4
    go_wp2_with fail
    refine (hpr.out w4 v4 fr4 rd4).mono ?_
    rintro e w5 ⟨rfl, f5⟩
    have fr5 := fr4.seqN f5
    have hrp5 := hrp.out w5 fr5
    replace hrp5 := Lib.hid hrp5
    have hss := hself T
    go_wp2_with fail
    refine hrp5.out.mono ?_
    rintro e w6 ⟨rfl, f6⟩
    have fr6 := fr5.seqN f6
    go_wp2_with fail
    refine (hrd.out w6 fr6).mono ?_
    rintro e w7 ⟨a7, n7, c7, cd, rfl, f7, hq7⟩
    have fr7 := fr6.seqN f7
    clear hrp5
    go_wp2_with fail
    go_loopw [31] (fun vi wr => ∃ k : Nat, k ≤ n ∧ vi = .int .i64 k ∧ Fr noB w7 wr) (fun vi _ => n - (RowKit.intOf vi).toNat)
    case atStart => exact ⟨0, by omega, rfl, Fr.refl _ _⟩
    case round =>
      obtain ⟨k, hk, rfl, fr⟩ := hrel
      by_cases hlt : k < n
      · obtain ⟨s, hsk⟩ := hget.out k hlt
        obtain ⟨a', c', e1, _, g, o, e2, d0, d1, d2⟩ := hcell.out k s hsk wr (fr7.seqN fr)
        cases e1
        subst e2
        have hb1 : (k : Int) < n := by omega
        have bX := Blk.new wr 30 [.int .i64 s.t, .int .i64 s.q, .string s.x]
        have hrt1 := right_any s
        have hrt2 := rright_any s
        have fX : Fr noB w7 (wr.alloc (.cells #[.int .i64 s.t, .int .i64 s.q, .string s.x] 30)) := fr.alloc _
        obtain ⟨gX, hgX⟩ : ∃ g, wr.heap.size = g := ⟨_, rfl⟩
        rw [hgX] at bX
        generalize rightS s = RS at *
        replace hsk := Lib.hid hsk
        replace hrt1 := Lib.hid hrt1
        replace hrt2 := Lib.hid hrt2
        have d3 : ((wr.alloc (.cells #[.int .i64 s.t, .int .i64 s.q, .string s.x] 30)).drewN 1).cell? ⟨gX, 0, none⟩ = some (.int .i64 s.t) := bX.cell 0
        have d4 : ((wr.alloc (.cells #[.int .i64 s.t, .int .i64 s.q, .string s.x] 30)).drewN 1).cell? ⟨gX, 1, none⟩ = some (.int .i64 s.q) := bX.cell 1
        have d5 : ((wr.alloc (.cells #[.int .i64 s.t, .int .i64 s.q, .string s.x] 30)).drewN 1).cell? ⟨gX, 2, none⟩ = some (.string s.x) := bX.cell 2
        have fq := fX.drewN 1
        cases RS
        all_goals (
          go_wp2_with fail
          go_region_held3 (fun w' => w'.cell? ⟨gX, 0, none⟩ = some (.int .i64 s.t) ∧ w'.cell? ⟨gX, 1, none⟩ = some (.int .i64 s.q) ∧ w'.cell? ⟨gX, 2, none⟩ = some (.string s.x))
            (first | exact ⟨d3, d4, d5⟩)
            (first
             | (go_at_call 11; refine (hrt1.out _).mono ?_; rintro e w5 ⟨rfl, f5⟩; have fq := fq.seqN f5; have d3 := f5.cell d3 (fun q => q); have d4 := f5.cell d4 (fun q => q); have d5 := f5.cell d5 (fun q => q))
             | (go_at_call 12; refine (hrt2.out _).mono ?_; rintro e w5 ⟨rfl, f5⟩; have fq := fq.seqN f5; have d3 := f5.cell d3 (fun q => q); have d4 := f5.cell d4 (fun q => q); have d5 := f5.cell d5 (fun q => q))
             | fail)
          all_goals (
            go_wp2_with fail
            go_roundw
            case rel => exact ⟨k + 1, by omega, by go_num, fq⟩
            case measure => simp [RowKit.intOf]; omega))
      · obtain rfl : k = n := by omega
        rcases hq7.out with hq | ⟨hne, rfl, rfl, rd7⟩
        · rw [hq]
          go_wp2_with fail
          go_ret
          exact ⟨rfl, fr7.seqN fr⟩
        · have hsm := hsame.out wr (.slice a7 n7 c7) (fr7.seqN fr) (rd7.frN fr)
          replace hsm := Lib.hid hsm
          clear rd7
          go_wp2_with fail
          refine hsm.out.mono ?_
          rintro e w8 ⟨rfl, f8⟩
          go_wp2_with fail
          go_ret
          exact ⟨rfl, (fr7.seqN fr).seqN f8⟩
end Go.Proofs.YtgdpaoodfnabjaaDoor
