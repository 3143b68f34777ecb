/-
  The reference: of which agents something is missing.
-/
import Derived.Test.YtdfkjigkpcgngaaAsmRefP
set_option linter.unusedVariables false
set_option linter.unusedSimpArgs false
set_option maxRecDepth 100000
namespace Go.Proofs.Ytdfkjigkpcgngaa
open Go.RowKit Go Go.Maps Go.Lib

def RS.miss (r : RS) (C : CH) : List Int := match r.man with
  | none => []
  | some x => missL r.tr C x.2
theorem partsD {w : World} {G : Nat → Prop} {a : Option Addr} {n c : Nat} {ps : List Pn} (h : RdPsD w G (.slice a n c) ps) {i : Nat} {p : Pn} (hi : ps[i]? = some p) :
    ∃ g ua uc, a = some ⟨g, 0, none⟩ ∧ w.cell? ⟨g, i * 6, none⟩ = some (.int .i64 p.a) ∧ w.cell? ⟨g, i * 6 + 1, none⟩ = some (.int .i64 p.t) ∧ w.cell? ⟨g, i * 6 + 2, none⟩ = some (.int .i64 p.j) ∧ w.cell? ⟨g, i * 6 + 3, none⟩ = some (.int .i64 p.n) ∧ w.cell? ⟨g, i * 6 + 4, none⟩ = some (.slice ua p.cr.length uc) ∧ w.cell? ⟨g, i * 6 + 5, none⟩ = some (.bool p.lo) ∧ RdI w (.slice ua p.cr.length uc) p.cr := by
  obtain ⟨a', c', e, h1, h2, h3⟩ := h
  injection e with e1 e2 e3
  subst e1
  obtain ⟨g, ua, uc, rfl, _, hc, hr, _⟩ := h3 i p hi
  exact ⟨g, ua, uc, rfl, hc 0 _ rfl, hc 1 _ rfl, hc 2 _ rfl, hc 3 _ rfl, hc 4 _ rfl, hc 5 _ rfl, hr⟩

set_option maxHeartbeats 8000000 in
theorem rmissing_any (q : Nat) (E : Nat → Prop) (M0 : Nat) (r : RS) (Mm : MR) (ca : Option Addr) (cc : Nat) (C : CH) (w : World) (h : AR w q E M0 r Mm ca cc) (hck : CK C (r.K.map Kq.kp)) (h2 : ∀ k ∈ r.K, k.sp.length ≤ 2 ∧ k.n ≤ 500) :
    Calls Try.prog 15 #[.pointer (some ⟨q, 0, none⟩)] w fun e w' => ∃ v', e = .returned v' ∧ w'.ownsRow w.heap.size 3 1 v' (r.miss C).length ((r.miss C).map (Value.int .i64)) ∧ Fr noB w w' := by
  cases hman : r.man with
  | none =>
    have e0 : r.miss C = [] := by unfold RS.miss; rw [hman]
    have d17 : w.cell? ⟨q, 17, none⟩ = some (.bool false) := by have : w.cell? ⟨q, 17, none⟩ = some (.bool r.man.isSome) := h.blk.cell 17; rw [hman] at this; exact this
    rw [e0]
    clear h
    go_enter Try.func15, Try.ntmps15
    go_wp2_with fail
    go_loopg [3, 4] 1 (fun gk vl i wr => vl = .slice none 0 0 ∧ i = .int .i64 0 ∧ wr = w)
    case atStart => exact ⟨rfl, rfl, rfl⟩
    case round =>
      obtain ⟨rfl, rfl, hwr⟩ := hrel
      obtain rfl := hwr.symm
      go_wp2_with fail
      go_ret
      exact ⟨_, rfl, World.ownsRow_nil _ _ _ _, Fr.refl _ _⟩
  | some x =>
    obtain ⟨c, ps⟩ := x
    have e0 : r.miss C = missL r.tr C ps := by unfold RS.miss; rw [hman]
    obtain ⟨m1, m2, m3, G, m4, m5, m6⟩ := h.man c ps hman
    obtain ⟨N, hN⟩ : ∃ N, ps.length = N := ⟨_, rfl⟩
    have d17 : ∀ w', Fr noB w w' → w'.cell? ⟨q, 17, none⟩ = some (.bool true) ∧ w'.cell? ⟨q, 15, none⟩ = some (.slice Mm.qa N Mm.qc) := fun w' f => by
      have h1 : w'.cell? ⟨q, 17, none⟩ = some (.bool r.man.isSome) := (h.frN f).blk.cell 17
      have h2 : w'.cell? ⟨q, 15, none⟩ = some (.slice Mm.qa Mm.qn Mm.qc) := (h.frN f).blk.cell 15
      rw [hman] at h1
      rw [m2, hN] at h2
      exact ⟨h1, h2⟩
    rw [hN] at m3
    rw [m2, hN] at m4
    have hget : ∀ k, k < N → ∃ m, ps[k]? = some m := fun k hk => ⟨ps[k]'(by omega), List.getElem?_eq_getElem (by omega)⟩
    rw [e0]
    obtain ⟨M0', hM0⟩ : ∃ M0', missL r.tr C ps = M0' := ⟨_, rfl⟩
    rw [hM0]
    obtain ⟨i0, hi0, hz0, hz1, hz2⟩ := info_parts infoIntX
    obtain ⟨B, hB⟩ : ∃ B, w.heap.size = B := ⟨_, rfl⟩
    rw [hB]
    replace hB := Lib.hid hB
    replace hM0 := Lib.hid hM0
    replace hN := Lib.hid hN
    replace hget := Lib.hid hget
    replace h := Lib.hid h
    replace hck := Lib.hid hck
    replace h2 := Lib.hid h2
    replace d17 := Lib.hid d17
    replace m4 := Lib.hid m4
    clear e0 hman m1 m2 m5 m6
    go_enter Try.func15, Try.ntmps15
    go_wp2_with fail
    go_loopg [3, 4] N (fun gk vl i wr => ∃ (k : Nat) (M : List Int), k + gk = N ∧ i = .int .i64 k ∧ Hid (M = missL r.tr C (ps.take k)) ∧ Hid (M.length ≤ k) ∧ Hid (wr.ownsRow B 3 1 vl M.length (M.map (Value.int .i64))) ∧ Hid (Fr noB w wr))
    case atStart => exact ⟨0, [], Nat.zero_add _, rfl, Lib.hid rfl, Lib.hid (Nat.le_refl _), Lib.hid (World.ownsRow_nil _ _ _ _), Lib.hid (Fr.refl _ _)⟩
    case round =>
      obtain ⟨k, M, hk, rfl, hM, hMl, hown, fr⟩ := hrel
      obtain ⟨d1, d2⟩ := d17.out wr fr.out
      by_cases hlt : k < N
      · obtain ⟨p, hs⟩ := hget.out k hlt
        obtain ⟨g, ua, uc, hqa, c0, c1, c2, c3, c4, c5, _⟩ := partsD (m4.out.fr fr.out (fun _ _ q => q)) hs
        rw [hqa] at d2
        have hstep := miss_step r.tr C ps k p hs
        have hb1 : (k : Int) < N := by omega
        have hmeas : N - (k + 1) < gk := by omega
        have hkn2 : k + 1 + (N - (k + 1)) = N := by omega
        have hsp := gpart_any q E M0 r Mm ca cc C p ua p.cr.length uc wr (h.out.frN fr.out) hck.out h2.out
        have hsd := fun w' (f : Fr noB wr w') => d17.out w' (fr.out.seqN f)
        have hcg := fun w' (f : Fr noB wr w') => f.cell c0 (fun q => q)
        obtain ⟨R, hR⟩ : ∃ R, partOf r.tr C p = R := ⟨_, rfl⟩
        rw [hR] at hsp hstep
        rw [← hM.out] at hstep
        generalize p.cr.length = cl at *
        generalize p.a = qa at *
        generalize p.t = qt at *
        generalize p.j = qj at *
        generalize p.n = qn at *
        generalize p.lo = ql at *
        have hwB : B ≤ wr.heap.size := by have := fr.out.size; have := hB.out; omega
        have hk4 : k < 100 := by omega
        replace hsp := Lib.hid hsp
        replace hstep := Lib.hid hstep
        replace hs := Lib.hid hs
        replace hR := Lib.hid hR
        replace hmeas := Lib.hid hmeas
        replace hkn2 := Lib.hid hkn2
        replace hk4 := Lib.hid hk4
        replace hsd := Lib.hid hsd
        replace hcg := Lib.hid hcg
        replace hqa := Lib.hid hqa
        clear hk
        go_wp2_with fail
        go_fit hsp.out
        rintro e w1 ⟨v1, rfl, _, _, f1⟩
        have own1 := ownsRow_fr hown.out f1 (fun _ _ q => q)
        have fr1 := fr.out.seqN f1
        obtain ⟨_, e2⟩ := hsd.out w1 f1
        rw [hqa.out] at e2
        have e0 := hcg.out w1 f1
        have hw1 := f1.size
        clear c0 c1 c2 c3 c4 c5 d1 d2 hsp f1 hown fr hsd hcg
        cases R with
        | some S =>
          have hM1 : M = missL r.tr C (ps.take (k + 1)) := by rw [hstep.out]; simp
          have hMl1 : M.length ≤ k + 1 := by have := hMl.out; omega
          replace hM1 := Lib.hid hM1
          replace hMl1 := Lib.hid hMl1
          replace own1 := Lib.hid own1
          replace fr1 := Lib.hid fr1
          clear hM hMl hstep
          go_wp2_with fail
          go_roundg (N - (k + 1))
          case rel => exact ⟨k + 1, M, hkn2.out, by go_num, hM1, hMl1, own1, fr1⟩
          case measure => exact hmeas.out
        | none =>
          have hM1 : M ++ [qa] = missL r.tr C (ps.take (k + 1)) := by rw [hstep.out]; simp
          have hMl1 : (M ++ [qa]).length ≤ k + 1 := by have := hMl.out; simp; omega
          have f5 : Fr noB w1 (w1.alloc (.cells #[.int .i64 qa] 3)) := (Fr.refl _ _).alloc _
          have ow5 := ownsRow_fr own1 f5 (fun _ _ q => q)
          have cn := cell_new w1 (.int .i64 qa) 3
          have hw5 : B ≤ (w1.alloc (.cells #[.int .i64 qa] 3)).heap.size := by have := f5.size; omega
          replace hM1 := Lib.hid hM1
          replace hMl1 := Lib.hid hMl1
          replace fr1 := Lib.hid fr1
          clear hM hstep
          obtain ⟨m, hm⟩ : ∃ m, M.length = m := ⟨_, rfl⟩
          rw [hm] at ow5 hMl
          replace hm := Lib.hid hm
          go_wp2_with (first
            | (at_builtin; go_must (refine wpList_append_at _ rfl (.tmp 38) (.tmp 48) 28 rfl B 3 i0 _ 1 8 Try.underlying28 hi0 hz0 hz1 hz2 rfl (by decide) _ m (M.map (Value.int .i64)) rfl ow5 ⟨w1.heap.size, 0, none⟩ 1 1 [.int .i64 qa] rfl rfl cn (one_int _ _) ?_ ?_ hw5 ?_))
            | fail)
          · have := hk4.out; have := hMl.out; unfold maxLen; omega
          · have := hk4.out; have := hMl.out; omega
          intro v8 w8 o8 gr8 _
          have f8 : Fr (rowB u3) (w1.alloc (.cells #[.int .i64 qa] 3)) w8 := (Fr.refl _ _).grown gr8 (fun k hk _ => hk)
          have fr8 : Fr noB w w8 := (fr1.out.seqN f5).trans f8 (fun _ _ q => q) (fun i hi q => by have := (own1.lt i q).1; have := hB.out; omega)
          have o8' : w8.ownsRow B 3 1 v8 (M ++ [qa]).length ((M ++ [qa]).map (Value.int .i64)) := by
            rw [List.map_append, List.length_append, hm.out]; exact o8
          replace o8' := Lib.hid o8'
          replace fr8 := Lib.hid fr8
          clear o8 gr8 f8 ow5 cn f5 own1 fr1
          go_wp2_with fail
          go_roundg (N - (k + 1))
          case rel => exact ⟨k + 1, M ++ [qa], hkn2.out, by go_num, hM1, hMl1, o8', fr8⟩
          case measure => exact hmeas.out
      · obtain rfl : k = N := by omega
        go_wp2_with fail
        go_ret
        have hMe : M = M0' := by rw [hM.out, ← hM0.out, List.take_of_length_le (by rw [hN.out]; exact Nat.le_refl _)]
        exact ⟨_, rfl, by rw [← hMe]; exact hown.out, fr.out⟩
end Go.Proofs.Ytdfkjigkpcgngaa
