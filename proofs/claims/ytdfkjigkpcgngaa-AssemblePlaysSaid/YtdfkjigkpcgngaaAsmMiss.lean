/-
  Missing: of which agents something is missing.
-/
import Derived.Test.YtdfkjigkpcgngaaAsmSpans
set_option linter.unusedVariables false
set_option linter.unusedSimpArgs false
set_option maxRecDepth 100000
set_option maxRecDepth 100000
namespace Go.Proofs.Ytdfkjigkpcgngaa
open Go.RowKit Go Go.Maps Go.Lib

def missL (tr : Int) (C : CH) (ps : List Pn) : List Int := (ps.filter fun p => (partOf tr C p).isNone).map (·.a)
def AP.miss (A : AP) : List Int := match A.man with
  | none => []
  | some x => missL A.tr A.C x.2
theorem miss_step (tr : Int) (C : CH) (ps : List Pn) (k : Nat) (p : Pn) (h : ps[k]? = some p) : missL tr C (ps.take (k + 1)) = missL tr C (ps.take k) ++ (if (partOf tr C p).isNone = true then [p.a] else []) := by
  unfold missL
  rw [List.take_add_one, h, Option.toList_some, List.filter_append, List.map_append]
  congr 1
  by_cases hq : (partOf tr C p).isNone = true
  · simp [hq]
  · simp [hq]
theorem infoIntX : (Try.prog.info? 3).map (fun i => (i.zero, i.size, i.bytes)) = some (some (.int .i64 0), 1, 8) := by kernel_rfl
theorem missing_nil (w : World) : Calls Try.prog 14 #[.pointer none] w fun e w' => e = .returned (.slice none 0 0) ∧ w' = w := by
  go_enter Try.func14, Try.ntmps14
  go_wp2_with fail
  go_ret
  exact ⟨rfl, rfl⟩

set_option maxHeartbeats 8000000 in
theorem missing_any (p bm mb : Nat) (D : Nat → Prop) (A : AP) (w : World) (h : AsmP w p bm mb D A) :
    Calls Try.prog 14 #[.pointer (some ⟨p, 0, none⟩)] w fun e w' => ∃ v', e = .returned v' ∧ w'.ownsRow w.heap.size 3 1 v' A.miss.length (A.miss.map (Value.int .i64)) ∧ Fr noB w w' := by
  have c2 := h.blk.cell 2
  cases hman : A.man with
  | none =>
    have e0 : A.miss = [] := by unfold AP.miss; rw [hman]
    have c2' : w.cell? ⟨p, 2, none⟩ = some (.pointer none) := by rw [c2]; unfold AP.mp; rw [hman]; rfl
    rw [e0]
    clear c2 h
    go_enter Try.func14, Try.ntmps14
    go_wp2_with fail
    go_ret
    exact ⟨_, rfl, ⟨rfl, Or.inl ⟨rfl, rfl⟩⟩, Fr.refl _ _⟩
  | some x =>
    obtain ⟨c, ps⟩ := x
    have e0 : A.miss = missL A.tr A.C ps := by unfold AP.miss; rw [hman]
    have c2' : w.cell? ⟨p, 2, none⟩ = some (.pointer (some ⟨mb, 0, none⟩)) := by rw [c2]; unfold AP.mp; rw [hman]; rfl
    obtain ⟨⟨v, hmb, hps⟩, _, _, h4, hpn⟩ := h.man c ps hman
    have cm3 := hmb.cell 3
    obtain ⟨a, cc, rfl, hl1, hl2, hl3⟩ := hps
    obtain ⟨N, hN⟩ : ∃ N, ps.length = N := ⟨_, rfl⟩
    rw [hN] at h4 hl1 cm3
    have cm3' : w.cell? ⟨mb, 3, none⟩ = some (.slice a N cc) := cm3
    have hget : ∀ k, k < N → ∃ m, ps[k]? = some m := fun k hk => ⟨ps[k]'(by omega), List.getElem?_eq_getElem (by omega)⟩
    rw [e0]
    obtain ⟨M0, hM0⟩ : ∃ M0, missL A.tr A.C ps = M0 := ⟨_, rfl⟩
    rw [hM0]
    obtain ⟨i0, hi0, hz0, hz1, hz2⟩ := info_parts infoIntX
    obtain ⟨B, hB⟩ : ∃ B, w.heap.size = B := ⟨_, rfl⟩
    rw [hB]
    replace hB := Lib.hid hB
    replace hM0 := Lib.hid hM0
    replace hN := Lib.hid hN
    replace hget := Lib.hid hget
    replace hpn := Lib.hid hpn
    replace hl3 := Lib.hid hl3
    replace h := Lib.hid h
    clear c2 e0 hmb cm3 hman hl2
    go_enter Try.func14, Try.ntmps14
    go_wp2_with fail
    go_loopg [3, 25] N (fun gk vl i wr => ∃ (k : Nat) (M : List Int), k + gk = N ∧ i = .int .i64 k ∧ Hid (M = missL A.tr A.C (ps.take k)) ∧ Hid (M.length ≤ k) ∧ Hid (wr.ownsRow B 3 1 vl M.length (M.map (Value.int .i64))) ∧ Hid (Fr noB w wr))
    case atStart => exact ⟨0, [], Nat.zero_add _, rfl, Lib.hid rfl, Lib.hid (Nat.le_refl _), Lib.hid ⟨rfl, Or.inl ⟨rfl, rfl⟩⟩, Lib.hid (Fr.refl _ _)⟩
    case round =>
      obtain ⟨k, M, hk, rfl, hM, hMl, hown, fr⟩ := hrel
      clear c2' cm3'
      by_cases hlt : k < N
      · obtain ⟨q, hs⟩ := hget.out k hlt
        obtain ⟨g, ua, uc, rfl, _, hc, hri, _⟩ := hl3.out k q hs
        have c0 : wr.cell? ⟨g, k * 6, none⟩ = some (.int .i64 q.a) := fr.out.cell (hc 0 _ rfl) (fun q => q)
        have c1 : wr.cell? ⟨g, k * 6 + 1, none⟩ = some (.int .i64 q.t) := fr.out.cell (hc 1 _ rfl) (fun q => q)
        have c2 : wr.cell? ⟨g, k * 6 + 2, none⟩ = some (.int .i64 q.j) := fr.out.cell (hc 2 _ rfl) (fun q => q)
        have c3 : wr.cell? ⟨g, k * 6 + 3, none⟩ = some (.int .i64 q.n) := fr.out.cell (hc 3 _ rfl) (fun q => q)
        have c4 : wr.cell? ⟨g, k * 6 + 4, none⟩ = some (.slice ua q.cr.length uc) := fr.out.cell (hc 4 _ rfl) (fun q => q)
        have c5 : wr.cell? ⟨g, k * 6 + 5, none⟩ = some (.bool q.lo) := fr.out.cell (hc 5 _ rfl) (fun q => q)
        have hstep := miss_step A.tr A.C ps k q hs
        have hb1 : (k : Int) < N := by omega
        have hmeas : N - (k + 1) < gk := by omega
        have hkn2 : k + 1 + (N - (k + 1)) = N := by omega
        have fA : Fr noB wr (wr.alloc (.cells #[.int .i64 q.a, .int .i64 q.t, .int .i64 q.j, .int .i64 q.n, .slice ua q.cr.length uc, .bool q.lo] 65)) := (Fr.refl _ _).alloc _
        have bA := Blk.new wr 65 [.int .i64 q.a, .int .i64 q.t, .int .i64 q.j, .int .i64 q.n, .slice ua q.cr.length uc, .bool q.lo]
        have hsp := spans_any p bm mb D A q ua q.cr.length uc _ ((h.out.frN fr.out).frN fA) (hpn.out q (List.mem_of_getElem? hs))
        obtain ⟨R, hR⟩ : ∃ R, partOf A.tr A.C q = R := ⟨_, rfl⟩
        rw [hR] at hsp hstep
        rw [← hM.out] at hstep
        generalize q.cr.length = cl at *
        generalize q.a = qa at *
        generalize q.t = qt at *
        generalize q.j = qj at *
        generalize q.n = qn at *
        generalize q.lo = ql at *
        have hwB : B ≤ wr.heap.size := by have := fr.out.size; have := hB.out; omega
        have hk4 : k < 4 := by omega
        replace hsp := Lib.hid hsp
        replace hstep := Lib.hid hstep
        replace hs := Lib.hid hs
        replace hR := Lib.hid hR
        replace hmeas := Lib.hid hmeas
        replace hkn2 := Lib.hid hkn2
        replace fA := Lib.hid fA
        replace bA := Lib.hid bA
        replace hk4 := Lib.hid hk4
        clear hk hc hri
        go_wp2_with fail
        go_fit hsp.out
        rintro e w1 ⟨v1, rfl, _, _, f1⟩
        have g1 := fA.out.seqN f1
        have d0 : w1.cell? ⟨wr.heap.size, 0, none⟩ = some (.int .i64 qa) := (f1.blk bA.out (fun q => q)).cell 0
        have own1 := ownsRow_fr hown.out g1 (fun _ _ q => q)
        have fr1 := fr.out.seqN g1
        clear c0 c1 c2 c3 c4 c5 hsp fA bA f1 hown fr
        cases R with
        | some S =>
          have hM1 : M = missL A.tr A.C (ps.take (k + 1)) := by rw [hstep.out]; simp
          have hMl1 : M.length ≤ k + 1 := by have := hMl.out; omega
          replace hM1 := Lib.hid hM1
          replace hMl1 := Lib.hid hMl1
          replace own1 := Lib.hid own1
          replace fr1 := Lib.hid fr1
          clear hM hMl hstep
          go_wp2_with fail
          go_roundg (N - (k + 1))
          case rel => exact ⟨k + 1, M, hkn2.out, by go_num, hM1, hMl1, own1, fr1⟩
          case measure => exact hmeas.out
        | none =>
          have hM1 : M ++ [qa] = missL A.tr A.C (ps.take (k + 1)) := by rw [hstep.out]; simp
          have hMl1 : (M ++ [qa]).length ≤ k + 1 := by have := hMl.out; simp; omega
          have f5 : Fr noB w1 (w1.alloc (.cells #[.int .i64 qa] 3)) := (Fr.refl _ _).alloc _
          have ow5 := ownsRow_fr own1 f5 (fun _ _ q => q)
          have cn := cell_new w1 (.int .i64 qa) 3
          have hw5 : B ≤ (w1.alloc (.cells #[.int .i64 qa] 3)).heap.size := by have := f5.size; have := g1.size; omega
          replace hM1 := Lib.hid hM1
          replace hMl1 := Lib.hid hMl1
          replace fr1 := Lib.hid fr1
          clear hM hstep
          obtain ⟨m, hm⟩ : ∃ m, M.length = m := ⟨_, rfl⟩
          rw [hm] at ow5 hMl
          replace hm := Lib.hid hm
          go_wp2_with (first
            | (at_builtin; go_must (refine wpList_append_at _ rfl (.tmp 37) (.tmp 40) 28 rfl B 3 i0 _ 1 8 Try.underlying28 hi0 hz0 hz1 hz2 rfl (by decide) _ m (M.map (Value.int .i64)) rfl ow5 ⟨w1.heap.size, 0, none⟩ 1 1 [.int .i64 qa] rfl rfl cn (one_int _ _) ?_ ?_ hw5 ?_))
            | fail)
          · have := hk4.out; have := hMl.out; unfold maxLen; omega
          · have := hk4.out; have := hMl.out; omega
          intro v8 w8 o8 gr8 _
          have f8 : Fr (rowB u3) (w1.alloc (.cells #[.int .i64 qa] 3)) w8 := (Fr.refl _ _).grown gr8 (fun k hk _ => hk)
          have fr8 : Fr noB w w8 := (fr1.out.seqN f5).trans f8 (fun _ _ q => q) (fun i hi q => by have := (own1.lt i q).1; have := hB.out; omega)
          have o8' : w8.ownsRow B 3 1 v8 (M ++ [qa]).length ((M ++ [qa]).map (Value.int .i64)) := by
            rw [List.map_append, List.length_append, hm.out]; exact o8
          replace o8' := Lib.hid o8'
          replace fr8 := Lib.hid fr8
          clear o8 gr8 f8 ow5 cn f5 own1 fr1
          go_wp2_with fail
          go_roundg (N - (k + 1))
          case rel => exact ⟨k + 1, M ++ [qa], hkn2.out, by go_num, hM1, hMl1, o8', fr8⟩
          case measure => exact hmeas.out
      · obtain rfl : k = N := by omega
        go_wp2_with fail
        go_ret
        have hMe : M = M0 := by rw [hM.out, ← hM0.out, List.take_of_length_le (by rw [hN.out]; exact Nat.le_refl _)]
        exact ⟨_, rfl, by rw [← hMe]; exact hown.out, fr.out⟩
end Go.Proofs.Ytdfkjigkpcgngaa
