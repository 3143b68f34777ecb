/-
  SpanChunks.
-/
import Derived.Test.YtgdpaoodfnabjaaDoorSpanLaws
set_option linter.unusedVariables false
set_option linter.unusedSimpArgs false
set_option maxRecDepth 100000
namespace Go.Proofs.YtgdpaoodfnabjaaDoor
open Go.RowKit Go Go.Lib

theorem row_take (tr : Int) (L : List Sp) (k : Nat) (s : Sp) (h : L[k]? = some s) : rowF tr 0 (L.take (k + 1)) = (rowF tr 0 (L.take k) && (s.t == tr && s.q == (k : Int) + 1)) := by
  have hk : k < L.length := (List.getElem?_eq_some_iff.1 h).1
  rw [List.take_add_one, h, rowF_app, List.length_take, Nat.min_eq_left (by omega)]
  simp [rowF]

set_option maxHeartbeats 2000000 in
theorem chunkslaw_any (v : Value) (L : List Sp) (tr : Int) (w : World) (hv : RdSp w v L) (hg : Gl w) :
    Calls Tryd.prog 4 #[v, .int .i64 tr] w fun e w' => e = .returned (.bool true) ∧ Fr noB w w' := by
  have haw := awake_any w hg
  have hfew := fun w' (f : Fr noB w w') => few_any v L w' (hv.frN f)
  have haw2 := fun w' (f : Fr noB w w') => awake_any w' (hg.fr f)
  cases hF : fewS L with
  | false =>
    rw [hF] at hfew
    obtain ⟨a, c, rfl, _⟩ := hv
    replace haw := Lib.hid haw
    replace hfew := Lib.hid hfew
    replace haw2 := Lib.hid haw2
    go_enter Tryd.func4, Tryd.ntmps4
    go_wp2_with fail
    refine haw.out.mono ?_
    rintro e w1 ⟨rfl, f1⟩
    go_wp2_with fail
    refine (hfew.out w1 f1).mono ?_
    rintro e w2 ⟨rfl, f2⟩
    have fr2 := f1.seqN f2
    go_wp2_with fail
    refine (haw2.out w2 fr2).mono ?_
    rintro e w3 ⟨rfl, f3⟩
    go_wp2_with fail
    go_ret
    exact ⟨rfl, fr2.seqN f3⟩
  | true =>
    rw [hF] at hfew
    obtain ⟨hl, hs⟩ := few_len hF
    have hor := fun w' (f : Fr noB w w') => (hv.frN f).app
    have hfl := flat_len L
    have hone := flat_one L
    obtain ⟨i0, hi, hz0, hz1, hz2⟩ := info_parts Tryd.infoSpan
    have hrow := fun w' (f : Fr noB w w') => row_any v L tr w' (hv.frN f)
    have hget : ∀ k, k < L.length → ∃ m, L[k]? = some m := fun k hk => ⟨L[k], List.getElem?_eq_getElem hk⟩
    have hsame := fun w' u (f : Fr noB w w') (h : RdSp w' u L) => same_any u v L w' h (hv.frN f)
    have hchk := fun w' u (f : Fr noB w w') (h : RdSp w' u L) => chunks_any u L w' h (by omega)
    obtain ⟨hc1, hc2, hc3⟩ := chk_props L.length L rfl
    have hjoin := fun w' u (h : RdR w' u (chkL L)) => join_any u (chkL L) w' h (by rw [hc1]; omega)
    rw [hc1] at hjoin
    have hcell : ∀ k s, L[k]? = some s → ∀ w', Fr noB w w' → ∃ a c, v = .slice a L.length c ∧ L.length ≤ c ∧ ∃ g o, a = some ⟨g, o, none⟩ ∧ w'.cell? ⟨g, o + k * 3, none⟩ = some (.int .i64 s.t) ∧ w'.cell? ⟨g, o + k * 3 + 1, none⟩ = some (.int .i64 s.q) ∧ w'.cell? ⟨g, o + k * 3 + 2, none⟩ = some (.string s.x) := fun k s hk w' f => by
      obtain ⟨a, c, e, h1, h2, h3, h4⟩ := hv.frN f
      obtain ⟨g, o, e2, h5⟩ := h4 k s hk
      exact ⟨a, c, e, h1, g, o, e2, h5⟩
    have hrt := row_take tr L
    have hr0 : rowF tr 0 (L.take 0) = true := rfl
    have hrN : rowF tr 0 (L.take L.length) = rowF tr 0 L := by rw [List.take_length]
    have hgetC : ∀ k, k < (chkL L).length → ∃ m, (chkL L)[k]? = some m := fun k hk => ⟨(chkL L)[k], List.getElem?_eq_getElem hk⟩
    obtain ⟨a, c, rfl, hc1', _⟩ := hv
    obtain ⟨n, hn⟩ : ∃ n, L.length = n := ⟨_, rfl⟩
    obtain ⟨M, hM⟩ : ∃ M, (chkL L).length = M := ⟨_, rfl⟩
    simp only [hn] at hl hor hfl hget hcell hc1' hfew hrow hsame hjoin hc2 hrN ⊢
    simp only [hM] at hc2 hc3 hgetC
    have hMb : M ≤ 51 := by omega
    generalize hXX : L.flatMap spC = XX at *
    replace hXX := Lib.hid hXX
    replace hc2 := Lib.hid hc2
    replace hc3 := Lib.hid hc3
    replace hgetC := Lib.hid hgetC
    replace haw := Lib.hid haw
    replace hfew := Lib.hid hfew
    replace haw2 := Lib.hid haw2
    replace hor := Lib.hid hor
    replace hone := Lib.hid hone
    replace hrow := Lib.hid hrow
    replace hget := Lib.hid hget
    replace hsame := Lib.hid hsame
    replace hchk := Lib.hid hchk
    replace hjoin := Lib.hid hjoin
    replace hcell := Lib.hid hcell
    replace hrt := Lib.hid hrt
    replace hr0 := Lib.hid hr0
    replace hrN := Lib.hid hrN
    replace hn := Lib.hid hn
    replace hM := Lib.hid hM
    replace hs := Lib.hid hs
    replace hc1 := Lib.hid hc1
    clear hF
    go_enter Tryd.func4, Tryd.ntmps4
    go_wp2_with fail
    refine haw.out.mono ?_
    rintro e w1 ⟨rfl, f1⟩
    go_wp2_with fail
    refine (hfew.out w1 f1).mono ?_
    rintro e w2 ⟨rfl, f2⟩
    have fr2 := f1.seqN f2
    have own3 := own_new w2 30 [] 3 0 rfl (Nat.zero_le _)
    have f3 : Fr noB w2 (w2.alloc (.cells #[] 30)) := (Fr.refl _ _).alloc _
    have hor3 := hor.out _ (fr2.seqN f3)
    have hB3 : w2.heap.size ≤ (w2.alloc (.cells #[] 30)).heap.size := f3.size
    replace hor3 := Lib.hid hor3
    go_wp2_with (first
      | (at_builtin; go_must (refine wpList_append_rd _ rfl (.tmp 19) (.tmp 20) 22 rfl w2.heap.size 30 i0 _ 3 32 Tryd.underlying22 hi hz0 hz1 hz2 rfl (by decide) _ 0 [] rfl own3 n _ XX rfl hor3.out hfl hone.out ?_ ?_ hB3 ?_))
      | fail)
    · unfold maxLen; omega
    · omega
    intro v4 w4 o4 f4
    try rw [Nat.zero_add] at o4
    try rw [List.nil_append] at o4
    have fr4 : Fr noB w w4 := (fr2.seqN f3).trans f4 (fun _ _ q => q) (fun i hi q => by have := (own3.lt i q).1; have := fr2.size; omega)
    have rd4 : RdSp w4 v4 L := RdSp.of_own (n := n) (by rw [hXX.out]; exact o4) hn.out
    clear own3 f3 hor3 hB3 o4 f4
    go_wp2_with fail
    refine (hchk.out w4 v4 fr4 rd4).mono ?_
    rintro e w5 ⟨v5, P, rfl, o5, op5, hP, f5⟩
    have fr5 := fr4.seqN f5
    have rr := RdR.of_own o5 op5
    rw [hP] at rr
    have hrr := rr
    obtain ⟨ra, rc, rfl, hx1, hx2, hx3⟩ := rr
    rw [hM.out] at hrr hx1 ⊢
    clear o5 op5 hP hx2 rd4
    replace hrr := Lib.hid hrr
    replace hx3 := Lib.hid hx3
    go_wp2_with fail
    go_loopw [25] (fun vi wr => ∃ k : Nat, k ≤ M ∧ vi = .int .i64 k ∧ wr = w5) (fun vi _ => M - (RowKit.intOf vi).toNat)
    case atStart => exact ⟨0, by omega, rfl, rfl⟩
    case round =>
      obtain ⟨k, hk, rfl, hwr⟩ := hrel
      obtain rfl := hwr.symm
      by_cases hlt : k < M
      · obtain ⟨l, hlk⟩ := hgetC.out k hlt
        obtain ⟨g, o, u, rfl, c0, c1⟩ := hx3.out k l hlk
        obtain ⟨ua, uc, rfl, _, _, _, _⟩ := c1
        obtain ⟨p1, p2, p3⟩ := hc3.out k l hlk
        have hb1 : (k : Int) < M := by omega
        have i1 : wrap64 ((M : Int) - 1) = (M : Int) - 1 := IntWalk.wrap64_in _ (by omega)
        have hcase : (l.length = 2) ∨ (l.length = 1 ∧ ¬ (k : Int) < (M : Int) - 1) ∨ (l.length = 0 ∧ ¬ (k : Int) < (M : Int) - 1 ∧ ¬ (M : Int) > 1) := by
          by_cases h2 : k + 1 < M
          · exact Or.inl (p2 h2)
          · by_cases h0 : l.length = 0
            · have := p3 h0; exact Or.inr (Or.inr ⟨h0, by omega, by omega⟩)
            · by_cases h1 : l.length = 1
              · exact Or.inr (Or.inl ⟨h1, by omega⟩)
              · exact Or.inl (by omega)
        generalize l.length = ln at *
        clear p1 p2 p3
        replace hlk := Lib.hid hlk
        rcases hcase with rfl | ⟨rfl, i2⟩ | ⟨rfl, i2, i3⟩
        · by_cases i2 : (k : Int) < (M : Int) - 1
          all_goals (
            go_wp2_with fail
            go_roundw
            case rel => exact ⟨k + 1, by omega, by go_num, trivial⟩
            case measure => simp [RowKit.intOf]; omega)
        all_goals (
          go_wp2_with fail
          go_roundw
          case rel => exact ⟨k + 1, by omega, by go_num, trivial⟩
          case measure => simp [RowKit.intOf]; omega)
      · obtain rfl : k = M := by omega
        go_wp2_with fail
        go_loopw [8, 58] (fun vb vi wr => ∃ j : Nat, j ≤ n ∧ vi = .int .i64 j ∧ vb = .bool (rowF tr 0 (L.take j)) ∧ Fr noB w5 wr) (fun _ vi _ => n - (RowKit.intOf vi).toNat)
        case atStart => exact ⟨0, by omega, rfl, by rw [hr0.out], Fr.refl _ _⟩
        case round =>
          obtain ⟨j, hj, rfl, rfl, fr⟩ := hrel
          have fr8 := fr5.seqN fr
          by_cases hlt2 : j < n
          · obtain ⟨s, hsk⟩ := hget.out j hlt2
            obtain ⟨a', c', e1, _, g, o, e2, d0, d1, d2⟩ := hcell.out j s hsk wr fr8
            cases e1
            subst e2
            have hb1 : (j : Int) < n := by omega
            have hst := hrt.out j s hsk
            have bX := Blk.new wr 30 [.int .i64 s.t, .int .i64 s.q, .string s.x]
            have fX : Fr noB w5 (wr.alloc (.cells #[.int .i64 s.t, .int .i64 s.q, .string s.x] 30)) := fr.alloc _
            obtain ⟨gX, hgX⟩ : ∃ g, wr.heap.size = g := ⟨_, rfl⟩
            rw [hgX] at bX
            have d3 : (wr.alloc (.cells #[.int .i64 s.t, .int .i64 s.q, .string s.x] 30)).cell? ⟨gX, 0, none⟩ = some (.int .i64 s.t) := bX.cell 0
            have d4 : (wr.alloc (.cells #[.int .i64 s.t, .int .i64 s.q, .string s.x] 30)).cell? ⟨gX, 1, none⟩ = some (.int .i64 s.q) := bX.cell 1
            clear hgX
            generalize rowF tr 0 (L.take j) = R1 at *
            replace hsk := Lib.hid hsk
            cases h1 : R1 <;> cases h2 : (s.t == tr) <;> cases h3 : (s.q == (j : Int) + 1)
            all_goals (
              rw [h1, h2, h3] at hst
              subst h1
              replace hst := Lib.hid hst
              go_wp2_with fail
              go_roundw
              case rel => exact ⟨j + 1, by omega, by go_num, by rw [hst.out]; rfl, fX⟩
              case measure => simp [RowKit.intOf]; omega)
          · obtain rfl : j = n := by omega
            have hjn := hjoin.out wr _ (hrr.out.frN fr)
            have hmx := hc2.out
            rw [hrN.out]
            have hrow8 := fun w' (f : Fr noB wr w') => hrow.out w' (fr8.seqN f)
            have i4 : wrap64 ((j : Int) + 1) = (j : Int) + 1 := IntWalk.wrap64_in _ (by omega)
            have i5 : wrap64 (((j : Int) + 1) / 2) = ((j : Int) + 1) / 2 := IntWalk.wrap64_in _ (by omega)
            generalize rowF tr 0 L = R at *
            replace hjn := Lib.hid hjn
            replace hrow8 := Lib.hid hrow8
            replace hmx := Lib.hid hmx
            go_wp2_with fail
            refine hjn.out.mono ?_
            rintro e w9 ⟨v9, rfl, o9, f9⟩
            have rd9 : RdSp w9 v9 L := RdSp.of_own (n := j) (by rw [hXX.out]; exact o9) hn.out
            have hsm := hsame.out w9 v9 (fr8.seqN f9) rd9
            obtain ⟨a9, c9, rfl⟩ := ownsRow_slice o9
            clear o9 rd9
            replace hsm := Lib.hid hsm
            go_wp2_with fail
            refine hsm.out.mono ?_
            rintro e wA ⟨rfl, fA⟩
            have f9A := f9.seqN fA
            go_wp2_with fail
            all_goals (
              have hmm := hmx.out
              first
              | (exfalso; omega)
              | (refine (hrow8.out wA f9A).mono ?_
                 rintro e wB ⟨rfl, fB⟩
                 have hRR : (R == R) = true := by simp
                 clear hmm
                 go_wp2_with fail
                 go_ret
                 exact ⟨rfl, (fr8.seqN f9A).seqN fB⟩))
end Go.Proofs.YtgdpaoodfnabjaaDoor
