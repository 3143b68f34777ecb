/-
  How the law reads a message: a Pinned, and none.
  spoorlaw09.Like of a Manifest.
  Like, and the reference's Print, of any message.
  The reference's Right of any message.
  The law's samePart, Same: two alike.
-/
import Derived.Test.YtidcoddefebdpaaGreatLike
import Derived.Test.YtidcoddefebdpaaGreatPUB
import Derived.Test.YtidcoddefebdpaaGreatLikeStore
import Derived.Deep.LoopGhost
import Derived.Test.YtidcoddefebdpaaGreatRfA
import Derived.Test.YtidcoddefebdpaaGreatRefRight3B
import Derived.Deep.DeepCutAuto
section
set_option linter.unusedVariables false
set_option linter.unusedSimpArgs false
set_option maxRecDepth 100000
namespace Go.Proofs.YtidcoddefebdpaaGreat
open Go.RowKit Go Go.Lib

def pnArr (a t j c : Int) (v : Value) (lo : Bool) : Array Value := #[.int .i64 a, .int .i64 t, .int .i64 j, .int .i64 c, v, .bool lo]
theorem part_is (a t j c : Int) (ua : Option Addr) (un uc : Nat) (lo : Bool) (w : World) :
    Calls Tryz.prog 32 #[.agg #[.int .i64 a, .int .i64 t, .int .i64 j, .int .i64 c, .slice ua un uc, .bool lo]] w fun e w' => e = .returned (.agg #[.int .i64 a, .int .i64 t, .int .i64 j, .int .i64 c, .slice ua un uc, .bool lo]) ∧ w' = (w.alloc (.cells #[.int .i64 a, .int .i64 t, .int .i64 j, .int .i64 c, .slice ua un uc, .bool lo] 67)).alloc (.cells #[.int .i64 a, .int .i64 t, .int .i64 j, .int .i64 c, .slice ua un uc, .bool lo] 50) := by
  go_enter Tryz.func32, Tryz.ntmps32
  go_wp2_with fail
  go_returns
  exact ⟨rfl, rfl⟩
set_option maxHeartbeats 1000000 in
set_option maxRecDepth 10000 in
theorem like_Pinned (a t j c : Int) (ua : Option Addr) (un uc : Nat) (lo : Bool) (w : World) :
    Calls Tryz.prog 12 #[mPinned a t j c (.slice ua un uc) lo] w fun e w' => e = .returned (mrV { k := 3, pa := a, pt := t, pj := j, pc := c, ua := ua, un := un, uc := uc, lo := lo }) ∧ Fr noB w w' := by
  unfold mPinned mrV mrC
  have fX := ((((Fr.refl noB w).alloc (.cells (mrC { k := 3, pa := a, pt := t, pj := j, pc := c, ua := ua, un := un, uc := uc, lo := lo }).toArray 54)).alloc (.cells #[.int .i64 a, .int .i64 t, .int .i64 j, .int .i64 c, .slice ua un uc, .bool lo] 67)).alloc (.cells #[.int .i64 a, .int .i64 t, .int .i64 j, .int .i64 c, .slice ua un uc, .bool lo] 67)).alloc (.cells #[.int .i64 a, .int .i64 t, .int .i64 j, .int .i64 c, .slice ua un uc, .bool lo] 50)
  unfold mrC at fX
  have q0 := as_Pinned_Trigger
  have q1 := as_Pinned_Pin
  have q2 := as_Pinned_Pinned
  have k := part_is a t j c ua un uc lo
  go_enter Tryz.func12, Tryz.ntmps12
  go_wp2_with fail
  refine (k _).mono ?_
  rintro e w1 ⟨rfl, rfl⟩
  clear k
  go_wp2_with fail
  go_returns
  exact ⟨rfl, fX⟩
end Go.Proofs.YtidcoddefebdpaaGreat
end

section
set_option linter.unusedVariables false
set_option linter.unusedSimpArgs false
set_option maxRecDepth 100000
set_option maxRecDepth 100000
namespace Go.Proofs.YtidcoddefebdpaaGreat
open Go.RowKit Go Go.Lib

theorem RdPs.of_rd {w : World} {B n : Nat} {e : TypeId} {v : Value} {P : List PU} {ps : List Pn} (h : w.ownsRow B e 6 v n (P.flatMap PU.cs)) (ho : ∀ q ∈ P, RdI w q.v q.p.cr) (hp : P.map PU.p = ps) (hn : P.length = n) (hb : n ≤ 1000000) : RdPs w v ps := by
  have hl : ps.length = n := by rw [← hp, List.length_map]; exact hn
  rcases h.2 with ⟨rfl, h1⟩ | ⟨g, cap, cur, rfl, hb, hg, hnc, hcm, hcs, htake⟩
  · refine ⟨none, 0, by rw [hl, h1], by omega, by omega, fun i p hi => ?_⟩
    rw [List.eq_nil_of_length_eq_zero (by omega : ps.length = 0)] at hi
    simp at hi
  · refine ⟨_, cap, by rw [hl], by omega, by omega, fun i p hi => ?_⟩
    rw [← hp, List.getElem?_map] at hi
    cases hq : P[i]? with
    | none => rw [hq] at hi; cases hi
    | some u =>
      rw [hq] at hi
      simp at hi
      subst hi
      refine ⟨g, 0, u.a, u.c, rfl, fun q x hx => ?_, ho u (List.mem_of_getElem? hq)⟩
      have hq6 : q < 6 := (List.getElem?_eq_some_iff.1 hx).1
      have h2 := PU.get P i q u hq hq6
      have h3 := h.cells (g := g) rfl (i * 6 + q) x (by rw [h2]; exact hx)
      rw [add_none] at h3
      exact h3
theorem Tryz.infoPart : (Tryz.prog.info? 50).map (fun i => (i.zero, i.size, i.bytes)) = some (some (.agg #[.int .i64 0, .int .i64 0, .int .i64 0, .int .i64 0, .slice none 0 0, .bool false]), 6, 64) := by kernel_rfl
theorem size_msg : (Tryz.prog.info? 54).map (·.size) = some 15 := by kernel_rfl
theorem mr_one (m : MR) : ((mrC m).toArray).all (·.oneCell') = true :=
  all_oneCell_toArray (cs := mrC m) (fun v hv => by
    unfold mrC at hv
    simp only [List.mem_cons, List.not_mem_nil, or_false] at hv
    rcases hv with rfl | rfl | rfl | rfl | rfl | rfl | rfl | rfl | rfl | rfl | rfl | rfl | rfl | rfl | rfl <;> rfl)

theorem part_fr (a t j n : Int) (ua : Option Addr) (un uc : Nat) (lo : Bool) (w : World) :
    Calls Tryz.prog 32 #[.agg #[.int .i64 a, .int .i64 t, .int .i64 j, .int .i64 n, .slice ua un uc, .bool lo]] w fun e w' => e = .returned (.agg #[.int .i64 a, .int .i64 t, .int .i64 j, .int .i64 n, .slice ua un uc, .bool lo]) ∧ Fr noB w w' := by
  refine (part_is a t j n ua un uc lo w).mono ?_
  rintro e w' ⟨rfl, rfl⟩
  exact ⟨rfl, by first | exact (((Fr.refl _ _).alloc _).alloc _) | exact (Fr.refl _ _).alloc _⟩
set_option maxHeartbeats 2000000 in
theorem like_Manifest (t j c : Int) (v : Value) (ps : List Pn) (w : World) (hv : RdPs w v ps) (hl : ps.length ≤ 100) :
    Calls Tryz.prog 12 #[mManifest t j c v] w fun e w' => ∃ a cc, e = .returned (mrV { k := 7, t := t, j := j, c := c, qa := a, qn := ps.length, qc := cc }) ∧ RdPs w' (.slice a ps.length cc) ps ∧ Fr noB w w' := by
  obtain ⟨i0, hi, hz0, hz1, hz2⟩ := info_parts Tryz.infoPart
  have hget : ∀ k, k < ps.length → ∃ m, ps[k]? = some m := fun k hk => ⟨ps[k], List.getElem?_eq_getElem hk⟩
  have hv0 := hv
  obtain ⟨sa, sc, rfl, hx1, hx2, hx3⟩ := hv
  obtain ⟨N, hN⟩ : ∃ N, ps.length = N := ⟨_, rfl⟩
  obtain ⟨B, hB⟩ : ∃ B, w.heap.size = B := ⟨_, rfl⟩
  rw [hN] at hget hx1 hx2 hl ⊢
  unfold mManifest
  have b0 := Blk.new w 54 (mrC {})
  have f0 : Fr noB w (w.alloc (.cells (mrC {}).toArray 54)) := (Fr.refl _ w).alloc _
  have hs1 : (w.alloc (.cells (mrC {}).toArray 54)).heap.size = B + 1 := by rw [size_alloc, hB]
  rw [hB] at b0
  unfold mrC at b0 f0 hs1
  have q0 := as_Manifest_Trigger
  have q1 := as_Manifest_Pin
  have q2 := as_Manifest_Pinned
  have q3 := as_Manifest_Gone
  have q4 := as_Manifest_Collect
  have q5 := as_Manifest_Chunk
  have q6 := as_Manifest_Manifest
  have hpart := fun (p : Pn) ua cl uc w' => part_fr p.a p.t p.j p.n ua cl uc p.lo w'
  replace hpart := Lib.hid hpart
  go_enter Tryz.func12, Tryz.ntmps12
  go_wp2_with fail
  generalize (w.alloc (.cells #[.int .i64 0, .int .i64 0, .int .i64 0, .int .i64 0, .int .i64 0, .int .i64 0, .int .i64 0, .int .i64 0, .int .i64 0, .int .i64 0, .int .i64 0, .slice none 0 0, .bool false, .slice none 0 0, .slice none 0 0] 54)) = w1 at *
  have bm := Blk.new w1 101 [.int .i64 t, .int .i64 j, .int .i64 c, .slice sa N sc]
  have f1 : Fr noB w1 (w1.alloc (.cells #[.int .i64 t, .int .i64 j, .int .i64 c, .slice sa N sc] 101)) := (Fr.refl _ _).alloc _
  have hs2 : (w1.alloc (.cells #[.int .i64 t, .int .i64 j, .int .i64 c, .slice sa N sc] 101)).heap.size = B + 2 := by rw [size_alloc, hs1]
  rw [hs1] at bm
  have b02 := f1.blk b0 (fun q => q)
  generalize (w1.alloc (.cells #[.int .i64 t, .int .i64 j, .int .i64 c, .slice sa N sc] 101)) = w2 at *
  have own3 := own_new w2 50 [] 6 0 rfl (Nat.zero_le _)
  have f3 : Fr noB w2 (w2.alloc (.cells #[] 50)) := (Fr.refl _ _).alloc _
  have b03 := f3.blk b02 (fun q => q)
  have bm3 := f3.blk bm (fun q => q)
  rw [hs2] at own3
  have fr3 := (f0.seqN f1).seqN f3
  have own3b := ownsRow_mono own3 (show B ≤ B + 2 by omega)
  replace hv0 := Lib.hid hv0
  replace hx3 := Lib.hid hx3
  replace hget := Lib.hid hget
  replace hN := Lib.hid hN
  clear b0 f0 b02 bm f1 f3 own3 q0 q1 q2 q3 q4 q5 q6
  go_loopg [10, 82] N (fun gk vl vi wr => ∃ (k : Nat) (P : List PU), k + gk = N ∧ vi = .int .i64 k ∧ Hid (P.map PU.p = ps.take k) ∧ Hid (P.length = k) ∧ Hid (∀ q ∈ P, RdI w q.v q.p.cr) ∧ Hid (wr.ownsRow B 50 6 vl k (P.flatMap PU.cs)) ∧ Hid (Blk wr B 54 [.int .i64 0, .int .i64 0, .int .i64 0, .int .i64 0, .int .i64 0, .int .i64 0, .int .i64 0, .int .i64 0, .int .i64 0, .int .i64 0, .int .i64 0, .slice none 0 0, .bool false, .slice none 0 0, .slice none 0 0]) ∧ Hid (Blk wr (B + 1) 101 [.int .i64 t, .int .i64 j, .int .i64 c, .slice sa N sc]) ∧ Fr noB w wr)
  case atStart => exact ⟨0, [], by omega, by first | rfl | trivial, Lib.hid rfl, Lib.hid rfl, Lib.hid (fun q hq => by simp at hq), Lib.hid own3b, Lib.hid b03, Lib.hid bm3, fr3⟩
  case round =>
    clear own3b b03 bm3 fr3 hs1 hs2
    obtain ⟨k, P, hkn, rfl, hPf, hPl, hPr, hown, hb0, hbm, fr⟩ := hrel
    by_cases hlt : k < N
    · obtain ⟨p, hs⟩ := hget.out k hlt
      obtain ⟨g', o, ua, uc, rfl, hc, hri2⟩ := hx3.out k p hs
      have c0 : wr.cell? ⟨g', o + k * 6, none⟩ = some (.int .i64 p.a) := fr.cell (hc 0 _ rfl) (fun q => q)
      have c1 : wr.cell? ⟨g', o + k * 6 + 1, none⟩ = some (.int .i64 p.t) := fr.cell (hc 1 _ rfl) (fun q => q)
      have c2 : wr.cell? ⟨g', o + k * 6 + 2, none⟩ = some (.int .i64 p.j) := fr.cell (hc 2 _ rfl) (fun q => q)
      have c3 : wr.cell? ⟨g', o + k * 6 + 3, none⟩ = some (.int .i64 p.n) := fr.cell (hc 3 _ rfl) (fun q => q)
      have c4 : wr.cell? ⟨g', o + k * 6 + 4, none⟩ = some (.slice ua p.cr.length uc) := fr.cell (hc 4 _ rfl) (fun q => q)
      have c5 : wr.cell? ⟨g', o + k * 6 + 5, none⟩ = some (.bool p.lo) := fr.cell (hc 5 _ rfl) (fun q => q)
      have hb1 : (k : Int) < N := by omega
      have hmeas : N - (k + 1) < gk := by omega
      have hkn2 : k + 1 + (N - (k + 1)) = N := by omega
      have hk1 : k ≤ 100 := by omega
      have hBr : B ≤ wr.heap.size := by have := fr.size; omega
      obtain ⟨cl, hcl⟩ : ∃ cl, p.cr.length = cl := ⟨_, rfl⟩
      have hpu : PU.cs (PU.mk p ua uc) = [.int .i64 p.a, .int .i64 p.t, .int .i64 p.j, .int .i64 p.n, .slice ua p.cr.length uc, .bool p.lo] := rfl
      have hri3 : RdI w (PU.v (PU.mk p ua uc)) p.cr := hri2
      rw [hcl] at c4 hpu
      have fA : Fr noB wr (wr.alloc (.cells #[.int .i64 p.a, .int .i64 p.t, .int .i64 p.j, .int .i64 p.n, .slice ua cl uc, .bool p.lo] 67)) := (Fr.refl _ _).alloc _
      have hpp := hpart.out p ua cl uc (wr.alloc (.cells #[.int .i64 p.a, .int .i64 p.t, .int .i64 p.j, .int .i64 p.n, .slice ua cl uc, .bool p.lo] 67))
      replace hpp := Lib.hid hpp
      replace hri3 := Lib.hid hri3
      replace hpu := Lib.hid hpu
      replace hs := Lib.hid hs
      replace hcl := Lib.hid hcl
      replace hmeas := Lib.hid hmeas
      replace hkn2 := Lib.hid hkn2
      clear hc hri2 hkn hlt
      go_wp2_with fail
      go_fit hpp.out
      rintro e w4 ⟨rfl, f4⟩
      have f5 : Fr noB w4 (w4.alloc (.cells #[.int .i64 p.a, .int .i64 p.t, .int .i64 p.j, .int .i64 p.n, .slice ua cl uc, .bool p.lo] 50)) := (Fr.refl _ _).alloc _
      have f45 := (fA.seqN f4).seqN f5
      have ow5 := ownsRow_fr hown.out f45 (fun _ _ q => q)
      have b05 := f45.blk hb0.out (fun q => q)
      have bm5 := f45.blk hbm.out (fun q => q)
      have hB5 : B ≤ (w4.alloc (.cells #[.int .i64 p.a, .int .i64 p.t, .int .i64 p.j, .int .i64 p.n, .slice ua cl uc, .bool p.lo] 50)).heap.size := by have := f45.size; omega
      have b6 := news_at w4 50 [.int .i64 p.a, .int .i64 p.t, .int .i64 p.j, .int .i64 p.n, .slice ua cl uc, .bool p.lo]
      replace b05 := Lib.hid b05
      replace bm5 := Lib.hid bm5
      clear hpp fA f4 f5
      go_wp2_with (first
        | (at_builtin; go_must (refine wpList_append_at _ rfl (.tmp 86) (.tmp 89) 51 rfl B 50 i0 _ 6 64 Tryz.underlying51 hi hz0 hz1 hz2 rfl (by decide) _ k _ rfl ow5 ⟨w4.heap.size, 0, none⟩ 1 1 [.int .i64 p.a, .int .i64 p.t, .int .i64 p.j, .int .i64 p.n, .slice ua cl uc, .bool p.lo] rfl rfl b6 (by intro u hu; simp only [List.mem_cons, List.not_mem_nil, or_false] at hu; rcases hu with rfl | rfl | rfl | rfl | rfl | rfl <;> rfl) ?_ ?_ hB5 ?_))
        | fail)
      · unfold maxLen; omega
      · omega
      intro v8 w8 o8 gr8 _
      have f8 : Fr (rowB u10) (w4.alloc (.cells #[.int .i64 p.a, .int .i64 p.t, .int .i64 p.j, .int .i64 p.n, .slice ua cl uc, .bool p.lo] 50)) w8 := (Fr.refl _ _).grown gr8 (fun k hk _ => hk)
      have b08 := f8.blk b05.out (row_not ow5 b05.out (by decide))
      have bm8 := f8.blk bm5.out (row_not ow5 bm5.out (by decide))
      have fr8 : Fr noB w w8 := (fr.seqN f45).trans f8 (fun _ _ q => q) (fun i hi q => by have := (hown.out.lt i q).1; omega)
      rw [show P.flatMap PU.cs ++ [.int .i64 p.a, .int .i64 p.t, .int .i64 p.j, .int .i64 p.n, .slice ua cl uc, .bool p.lo] = (P ++ [PU.mk p ua uc]).flatMap PU.cs by rw [List.flatMap_append, ← hpu.out]; simp] at o8
      have hPf2 : (P ++ [PU.mk p ua uc]).map PU.p = ps.take (k + 1) := by rw [List.map_append, hPf.out, List.take_add_one, hs.out]; rfl
      have hPl2 : (P ++ [PU.mk p ua uc]).length = k + 1 := by rw [List.length_append, hPl.out]; rfl
      have hPr2 : ∀ q ∈ P ++ [PU.mk p ua uc], RdI w q.v q.p.cr := fun q hq => by
        rcases List.mem_append.1 hq with hq | hq
        · exact hPr.out q hq
        · simp at hq; subst hq; exact hri3.out
      replace o8 := Lib.hid o8
      replace b08 := Lib.hid b08
      replace bm8 := Lib.hid bm8
      replace hPf2 := Lib.hid hPf2
      replace hPl2 := Lib.hid hPl2
      replace hPr2 := Lib.hid hPr2
      clear gr8 f8 f45 ow5 b05 bm5 b6 hB5
      go_wp2_with fail
      go_roundg (N - (k + 1))
      case rel => exact ⟨k + 1, P ++ [PU.mk p ua uc], hkn2.out, by go_num, hPf2, hPl2, hPr2, o8, b08, bm8, fr8⟩
      case measure => exact hmeas.out
    · obtain rfl : k = N := by omega
      obtain ⟨qa, qc, rfl⟩ := ownsRow_slice hown.out
      have d0 : wr.cell? ⟨B + 1, 0, none⟩ = some (.int .i64 t) := hbm.out.cell 0
      have d1 : wr.cell? ⟨B + 1, 1, none⟩ = some (.int .i64 j) := hbm.out.cell 1
      have d2 : wr.cell? ⟨B + 1, 2, none⟩ = some (.int .i64 c) := hbm.out.cell 2
      have t1a : Hid (wr.there B 0 (#[.int .i64 7, .int .i64 0, .int .i64 t, .int .i64 j, .int .i64 c, .int .i64 0, .int .i64 0, .int .i64 0, .int .i64 0, .int .i64 0, .int .i64 0, .slice none 0 0, .bool false, .slice qa k qc, .slice none 0 0] : Array Value).size) := Lib.hid (there6m hb0.out (by simp))
      have hsz : (Tryz.prog.info? 54).map (·.size) = some (#[.int .i64 7, .int .i64 0, .int .i64 t, .int .i64 j, .int .i64 c, .int .i64 0, .int .i64 0, .int .i64 0, .int .i64 0, .int .i64 0, .int .i64 0, .slice none 0 0, .bool false, .slice qa k qc, .slice none 0 0] : Array Value).size := size_msg
      have hon : (#[.int .i64 7, .int .i64 0, .int .i64 t, .int .i64 j, .int .i64 c, .int .i64 0, .int .i64 0, .int .i64 0, .int .i64 0, .int .i64 0, .int .i64 0, .slice none 0 0, .bool false, .slice qa k qc, .slice none 0 0] : Array Value).all (·.oneCell') = true := mr_one { k := 7, t := t, j := j, c := c, qa := qa, qn := k, qc := qc }
      have hfull : ps.take k = ps := by rw [← hN.out, List.take_length]
      have hbl0 := hb0
      replace hsz := Lib.hid hsz
      replace hon := Lib.hid hon
      replace hfull := Lib.hid hfull
      go_wp2_with (first
        | (refine wpList_store_mid rfl 54 (.tmp 2) (.tmp 99) rfl B 0 #[.int .i64 7, .int .i64 0, .int .i64 t, .int .i64 j, .int .i64 c, .int .i64 0, .int .i64 0, .int .i64 0, .int .i64 0, .int .i64 0, .int .i64 0, .slice none 0 0, .bool false, .slice qa k qc, .slice none 0 0] rfl rfl t1a.out hsz.out hon.out ?_; obtain ⟨w10, hw10, f10, h10⟩ := store_all wr B #[.int .i64 7, .int .i64 0, .int .i64 t, .int .i64 j, .int .i64 c, .int .i64 0, .int .i64 0, .int .i64 0, .int .i64 0, .int .i64 0, .int .i64 0, .slice none 0 0, .bool false, .slice qa k qc, .slice none 0 0]; rw [← hw10]; clear hw10; have h10 := h10 _ _ hb0.out rfl; have f10 := Lib.hid f10)
        | fail)
      have r0 : w10.cell? ⟨B, 0, none⟩ = some (.int .i64 7) := h10.cell 0
      have r1 : w10.cell? ⟨B, 1, none⟩ = some (.int .i64 0) := h10.cell 1
      have r2 : w10.cell? ⟨B, 2, none⟩ = some (.int .i64 t) := h10.cell 2
      have r3 : w10.cell? ⟨B, 3, none⟩ = some (.int .i64 j) := h10.cell 3
      have r4 : w10.cell? ⟨B, 4, none⟩ = some (.int .i64 c) := h10.cell 4
      have r5 : w10.cell? ⟨B, 5, none⟩ = some (.int .i64 0) := h10.cell 5
      have r6 : w10.cell? ⟨B, 6, none⟩ = some (.int .i64 0) := h10.cell 6
      have r7 : w10.cell? ⟨B, 7, none⟩ = some (.int .i64 0) := h10.cell 7
      have r8 : w10.cell? ⟨B, 8, none⟩ = some (.int .i64 0) := h10.cell 8
      have r9 : w10.cell? ⟨B, 9, none⟩ = some (.int .i64 0) := h10.cell 9
      have r10 : w10.cell? ⟨B, 10, none⟩ = some (.int .i64 0) := h10.cell 10
      have r11 : w10.cell? ⟨B, 11, none⟩ = some (.slice none 0 0) := h10.cell 11
      have r12 : w10.cell? ⟨B, 12, none⟩ = some (.bool false) := h10.cell 12
      have r13 : w10.cell? ⟨B, 13, none⟩ = some (.slice qa k qc) := h10.cell 13
      have r14 : w10.cell? ⟨B, 14, none⟩ = some (.slice none 0 0) := h10.cell 14
      have frA : Fr noB w w10 := fr.trans f10.out (fun _ _ q => q) (fun i hi q => by unfold onlyB at q; omega)
      have owA := ownsRow_fr hown.out f10.out (fun g hg q => by
        unfold onlyB at q
        subst q
        exact row_not hown.out hb0.out (by decide) hg)
      have hrp : RdPs w10 (.slice qa k qc) ps := RdPs.of_rd owA (fun q hq => (hPr.out q hq).frN frA) (by rw [hPf.out, hfull.out]) hPl.out (by omega)
      clear h10 f10 t1a hsz hon d0 d1 d2 owA
      replace hrp := Lib.hid hrp
      try go_wp2_with fail
      refine bodyPost_ret (by simp [results, Tryz.results12, go_sem, r0, r1, r2, r3, r4, r5, r6, r7, r8, r9, r10, r11, r12, r13, r14]; try rfl) rfl ?_
      exact ⟨qa, qc, rfl, hrp.out, frA⟩
end Go.Proofs.YtidcoddefebdpaaGreat
end

section
set_option linter.unusedVariables false
set_option linter.unusedSimpArgs false
set_option maxRecDepth 100000
set_option maxRecDepth 100000
namespace Go.Proofs.YtidcoddefebdpaaGreat
open Go.RowKit Go Go.Lib

/-- the value v is the reference's message m -/
def RfW (w : World) (v : Value) : Ms → Prop
  | .trigger a t c => v = mrV { k := 1, a := a, t := t, c := c }
  | .pin t j => v = mrV { k := 2, t := t, j := j }
  | .pinned p => ∃ ua uc, v = mrV { k := 3, pa := p.a, pt := p.t, pj := p.j, pc := p.n, ua := ua, un := p.cr.length, uc := uc, lo := p.lo } ∧ RdI w (.slice ua p.cr.length uc) p.cr
  | .gone a t j => v = mrV { k := 4, a := a, t := t, j := j }
  | .collect t j => v = mrV { k := 5, t := t, j := j }
  | .chunk a t j i n sp => ∃ sa sc, v = mrV { k := 6, a := a, t := t, j := j, i := i, n := n, sa := sa, sn := sp.length, sc := sc } ∧ RdSp w (.slice sa sp.length sc) sp
  | .manifest t j c ps => ∃ qa qc, v = mrV { k := 7, t := t, j := j, c := c, qa := qa, qn := ps.length, qc := qc } ∧ RdPs w (.slice qa ps.length qc) ps
  | .stored t j => v = mrV { k := 8, t := t, j := j }
  | .unpin t j => v = mrV { k := 9, t := t, j := j }
  | .unpinned a t j => v = mrV { k := 10, a := a, t := t, j := j }
theorem RfW.frN {w w' : World} {v : Value} {m : Ms} (h : RfW w v m) (hf : Fr noB w w') : RfW w' v m := by
  cases m with
  | pinned p => obtain ⟨a, c, e, h1⟩ := h; exact ⟨a, c, e, h1.frN hf⟩
  | chunk => obtain ⟨a, c, e, h1⟩ := h; exact ⟨a, c, e, h1.frN hf⟩
  | manifest => obtain ⟨a, c, e, h1⟩ := h; exact ⟨a, c, e, h1.frH hf.toH⟩
  | _ => exact h
def Ms.few : Ms → Prop
  | .manifest _ _ _ ps => ps.length ≤ 100
  | _ => True
theorem like_ms (v : Value) (m : Ms) (w : World) (h : MsW w v m) (hl : m.few) : Calls Tryz.prog 12 #[v] w fun e w' => ∃ u, e = .returned u ∧ RfW w' u m ∧ Fr noB w w' := by
  cases m with
  | trigger a t c => obtain rfl := h; exact (like_Trigger a t c w).mono fun e w' ⟨h1, f⟩ => ⟨_, h1, rfl, f⟩
  | pin t j => obtain rfl := h; exact (like_Pin t j w).mono fun e w' ⟨h1, f⟩ => ⟨_, h1, rfl, f⟩
  | pinned p =>
    obtain ⟨u, rfl, h1⟩ := h
    have h0 := h1
    obtain ⟨ua, uc, rfl, _⟩ := h1
    exact (like_Pinned p.a p.t p.j p.n ua _ uc p.lo w).mono fun e w' ⟨h2, f⟩ => ⟨_, h2, ⟨ua, uc, rfl, h0.frN f⟩, f⟩
  | gone a t j => obtain rfl := h; exact (like_Gone a t j w).mono fun e w' ⟨h1, f⟩ => ⟨_, h1, rfl, f⟩
  | collect t j => obtain rfl := h; exact (like_Collect t j w).mono fun e w' ⟨h1, f⟩ => ⟨_, h1, rfl, f⟩
  | chunk a t j i n sp =>
    obtain ⟨u, rfl, h1⟩ := h
    have h0 := h1
    obtain ⟨sa, sc, rfl, _⟩ := h1
    exact (like_Chunk a t j i n sa _ sc w).mono fun e w' ⟨h2, f⟩ => ⟨_, h2, ⟨sa, sc, rfl, h0.frN f⟩, f⟩
  | manifest t j c ps =>
    obtain ⟨u, rfl, h1⟩ := h
    refine (like_Manifest t j c u ps w h1 hl).mono ?_
    rintro e w' ⟨qa, qc, rfl, h2, f⟩
    exact ⟨_, rfl, ⟨qa, qc, rfl, h2⟩, f⟩
  | stored t j => obtain rfl := h; exact (like_Stored t j w).mono fun e w' ⟨h1, f⟩ => ⟨_, h1, rfl, f⟩
  | unpin t j => obtain rfl := h; exact (like_Unpin t j w).mono fun e w' ⟨h1, f⟩ => ⟨_, h1, rfl, f⟩
  | unpinned a t j => obtain rfl := h; exact (like_Unpinned a t j w).mono fun e w' ⟨h1, f⟩ => ⟨_, h1, rfl, f⟩
end Go.Proofs.YtidcoddefebdpaaGreat
end

section
set_option linter.unusedVariables false
set_option linter.unusedSimpArgs false
set_option maxRecDepth 100000
set_option maxRecDepth 100000
namespace Go.Proofs.YtidcoddefebdpaaGreat
open Go.RowKit Go Go.Lib

theorem and3a (x y z : Bool) : (y && (x && z)) = (x && (y && z)) := by cases x <;> cases y <;> rfl
theorem and3b (x y z : Bool) : (y && (z && x)) = (x && (y && z)) := by cases x <;> cases y <;> cases z <;> rfl
theorem rr_ms (v : Value) (m : Ms) (w : World) (h : RfW w v m) : Calls Tryz.prog 27 #[v] w fun e w' => e = .returned (.bool m.ok) ∧ Fr noB w w' := by
  cases m with
  | trigger a t c => obtain rfl := h; exact (rr_1 a t c w).mono fun e w' ⟨h1, f⟩ => ⟨h1.trans (ret_b (and3a _ _ _)), f⟩
  | pin t j => obtain rfl := h; exact rr_2 t j w
  | pinned p => obtain ⟨ua, uc, rfl, h1⟩ := h; exact rr_3 p.a p.t p.j p.n ua _ uc p.lo p.cr w h1
  | gone a t j => obtain rfl := h; exact (rr_4 a t j w).mono fun e w' ⟨h1, f⟩ => ⟨h1.trans (ret_b (and3b _ _ _)), f⟩
  | collect t j => obtain rfl := h; exact rr_5 t j w
  | chunk a t j i n sp => obtain ⟨sa, sc, rfl, h1⟩ := h; exact rr_Chunk a t j i n sp sa _ sc w h1
  | manifest t j c ps => obtain ⟨qa, qc, rfl, h1⟩ := h; exact rr_Manifest t j c ps qa _ qc w h1
  | stored t j => obtain rfl := h; exact rr_8 t j w
  | unpin t j => obtain rfl := h; exact rr_9 t j w
  | unpinned a t j => obtain rfl := h; exact (rr_10 a t j w).mono fun e w' ⟨h1, f⟩ => ⟨h1.trans (ret_b (and3b _ _ _)), f⟩
end Go.Proofs.YtidcoddefebdpaaGreat
end

section
set_option linter.unusedVariables false
set_option linter.unusedSimpArgs false
set_option maxRecDepth 100000
set_option maxRecDepth 100000
namespace Go.Proofs.YtidcoddefebdpaaGreat
open Go.RowKit Go Go.Lib

set_option maxHeartbeats 2000000 in
theorem same_part (p : Pn) (ua ub : Option Addr) (uc ud : Nat) (w : World) (hu : RdI w (.slice ua p.cr.length uc) p.cr) (hv : RdI w (.slice ub p.cr.length ud) p.cr) :
    Calls Tryz.prog 36 #[.agg #[.int .i64 p.a, .int .i64 p.t, .int .i64 p.j, .int .i64 p.n, .slice ua p.cr.length uc, .bool p.lo], .agg #[.int .i64 p.a, .int .i64 p.t, .int .i64 p.j, .int .i64 p.n, .slice ub p.cr.length ud, .bool p.lo]] w fun e w' => e = .returned (.bool true) ∧ Fr noB w w' := by
  have hs := fun w' (f : Fr noB w w') => sameInts_any _ _ p.cr p.cr w' (hu.frN f) (hv.frN f)
  generalize p.cr.length = cl at *
  have fX := ((Fr.refl noB w).alloc (.cells #[.int .i64 p.a, .int .i64 p.t, .int .i64 p.j, .int .i64 p.n, .slice ua cl uc, .bool p.lo] 50)).alloc (.cells #[.int .i64 p.a, .int .i64 p.t, .int .i64 p.j, .int .i64 p.n, .slice ub cl ud, .bool p.lo] 50)
  have k0 : (p.a == p.a) = true := by simp
  have k1 : (p.t == p.t) = true := by simp
  have k2 : (p.j == p.j) = true := by simp
  have k3 : (p.n == p.n) = true := by simp
  have k4 : (p.lo == p.lo) = true := by simp
  have hs2 := hs _ fX
  rw [show decide (p.cr = p.cr) = true by simp] at hs2
  replace hs2 := Lib.hid hs2
  clear hs hu hv
  go_enter Tryz.func36, Tryz.ntmps36
  go_wp2_with fail
  go_fit hs2.out
  rintro e w1 ⟨rfl, q, hw⟩
  obtain rfl := hw
  go_wp2_with fail
  go_ret
  exact ⟨rfl, fX.drewN q⟩

/-- the reference's message with just these fields -/
def RfG (w : World) (v : Value) (k a t j c i n : Int) (p : Pn) (ps : List Pn) (sp : List Sp) : Prop := ∃ ua uc qa qc sa sc, v = mrV { k := k, a := a, t := t, j := j, c := c, i := i, n := n, pa := p.a, pt := p.t, pj := p.j, pc := p.n, ua := ua, un := p.cr.length, uc := uc, lo := p.lo, qa := qa, qn := ps.length, qc := qc, sa := sa, sn := sp.length, sc := sc } ∧ RdI w (.slice ua p.cr.length uc) p.cr ∧ RdPs w (.slice qa ps.length qc) ps ∧ RdSp w (.slice sa sp.length sc) sp
set_option maxHeartbeats 2000000 in
theorem same_gen (v u : Value) (k a t j c i n : Int) (p : Pn) (ps : List Pn) (sp : List Sp) (w : World) (hv : RfG w v k a t j c i n p ps sp) (hu : RfG w u k a t j c i n p ps sp) :
    Calls Tryz.prog 20 #[v, u] w fun e w' => e = .returned (.bool true) ∧ Fr noB w w' := by
  obtain ⟨ua, uc, qa, qc, sa, sc, rfl, hu1, hq1, hs1⟩ := hv
  obtain ⟨ub, ud, qb, qd, sb, sd, rfl, hu2, hq2, hs2⟩ := hu
  have hsp := fun w' (f : Fr noB w w') => same_part p ua ub uc ud w' (hu1.frN f) (hu2.frN f)
  have hss := fun w' (f : Fr noB w w') => same_any _ _ sp w' (hs1.frN f) (hs2.frN f)
  have hget : ∀ k, k < ps.length → ∃ m, ps[k]? = some m := fun k hk => ⟨ps[k], List.getElem?_eq_getElem hk⟩
  obtain ⟨_, _, e1, hx1, hx2, hx3⟩ := hq1
  cases e1
  obtain ⟨_, _, e2, hy1, hy2, hy3⟩ := hq2
  cases e2
  unfold mrV mrC
  generalize hcl : p.cr.length = cl at *
  generalize hN : ps.length = N at *
  generalize hM : sp.length = M at *
  have hNb : (N : Int) ≤ 9223372036854775807 := by omega
  have fX := ((Fr.refl noB w).alloc (.cells #[.int .i64 k, .int .i64 a, .int .i64 t, .int .i64 j, .int .i64 c, .int .i64 i, .int .i64 n, .int .i64 p.a, .int .i64 p.t, .int .i64 p.j, .int .i64 p.n, .slice ua cl uc, .bool p.lo, .slice qa N qc, .slice sa M sc] 54)).alloc (.cells #[.int .i64 k, .int .i64 a, .int .i64 t, .int .i64 j, .int .i64 c, .int .i64 i, .int .i64 n, .int .i64 p.a, .int .i64 p.t, .int .i64 p.j, .int .i64 p.n, .slice ub cl ud, .bool p.lo, .slice qb N qd, .slice sb M sd] 54)
  have h1 := ((Fr.refl noB (w.alloc (.cells #[.int .i64 k, .int .i64 a, .int .i64 t, .int .i64 j, .int .i64 c, .int .i64 i, .int .i64 n, .int .i64 p.a, .int .i64 p.t, .int .i64 p.j, .int .i64 p.n, .slice ua cl uc, .bool p.lo, .slice qa N qc, .slice sa M sc] 54))).alloc (.cells #[.int .i64 k, .int .i64 a, .int .i64 t, .int .i64 j, .int .i64 c, .int .i64 i, .int .i64 n, .int .i64 p.a, .int .i64 p.t, .int .i64 p.j, .int .i64 p.n, .slice ub cl ud, .bool p.lo, .slice qb N qd, .slice sb M sd] 54)).blk (Blk.new w 54 [.int .i64 k, .int .i64 a, .int .i64 t, .int .i64 j, .int .i64 c, .int .i64 i, .int .i64 n, .int .i64 p.a, .int .i64 p.t, .int .i64 p.j, .int .i64 p.n, .slice ua cl uc, .bool p.lo, .slice qa N qc, .slice sa M sc]) (fun q => q)
  have h2 := Blk.new (w.alloc (.cells #[.int .i64 k, .int .i64 a, .int .i64 t, .int .i64 j, .int .i64 c, .int .i64 i, .int .i64 n, .int .i64 p.a, .int .i64 p.t, .int .i64 p.j, .int .i64 p.n, .slice ua cl uc, .bool p.lo, .slice qa N qc, .slice sa M sc] 54)) 54 [.int .i64 k, .int .i64 a, .int .i64 t, .int .i64 j, .int .i64 c, .int .i64 i, .int .i64 n, .int .i64 p.a, .int .i64 p.t, .int .i64 p.j, .int .i64 p.n, .slice ub cl ud, .bool p.lo, .slice qb N qd, .slice sb M sd]
  rw [size_alloc] at h2
  obtain ⟨g1, hg1⟩ : ∃ g, w.heap.size = g := ⟨_, rfl⟩
  rw [hg1] at h1 h2
  obtain ⟨g2, hg2⟩ : ∃ g, g1 + 1 = g := ⟨_, rfl⟩
  rw [hg2] at h2
  have z0 : ∀ x : Int, (x != x) = false := fun x => by simp
  have hsp1 := hsp _ fX
  replace hsp1 := Lib.hid hsp1
  replace hss := Lib.hid hss
  replace hget := Lib.hid hget
  replace hx3 := Lib.hid hx3
  replace hy3 := Lib.hid hy3
  replace hcl := Lib.hid hcl
  replace hN := Lib.hid hN
  replace hM := Lib.hid hM
  replace hu1 := Lib.hid hu1
  replace hu2 := Lib.hid hu2
  replace hs1 := Lib.hid hs1
  replace hs2 := Lib.hid hs2
  replace h1 := Lib.hid h1
  replace h2 := Lib.hid h2
  clear hsp hx1 hx2 hy2
  go_enter Tryz.func20, Tryz.ntmps20
  go_upto_region 1 with fail
  generalize ((w.alloc (.cells #[.int .i64 k, .int .i64 a, .int .i64 t, .int .i64 j, .int .i64 c, .int .i64 i, .int .i64 n, .int .i64 p.a, .int .i64 p.t, .int .i64 p.j, .int .i64 p.n, .slice ua cl uc, .bool p.lo, .slice qa N qc, .slice sa M sc] 54)).alloc (.cells #[.int .i64 k, .int .i64 a, .int .i64 t, .int .i64 j, .int .i64 c, .int .i64 i, .int .i64 n, .int .i64 p.a, .int .i64 p.t, .int .i64 p.j, .int .i64 p.n, .slice ub cl ud, .bool p.lo, .slice qb N qd, .slice sb M sd] 54)) = wX at *
  have a0 : wX.cell? ⟨g1, 0, none⟩ = some (.int .i64 k) := h1.out.cell 0
  have b0 : wX.cell? ⟨g2, 0, none⟩ = some (.int .i64 k) := h2.out.cell 0
  have a1 : wX.cell? ⟨g1, 1, none⟩ = some (.int .i64 a) := h1.out.cell 1
  have b1 : wX.cell? ⟨g2, 1, none⟩ = some (.int .i64 a) := h2.out.cell 1
  have a2 : wX.cell? ⟨g1, 2, none⟩ = some (.int .i64 t) := h1.out.cell 2
  have b2 : wX.cell? ⟨g2, 2, none⟩ = some (.int .i64 t) := h2.out.cell 2
  have a3 : wX.cell? ⟨g1, 3, none⟩ = some (.int .i64 j) := h1.out.cell 3
  have b3 : wX.cell? ⟨g2, 3, none⟩ = some (.int .i64 j) := h2.out.cell 3
  have a4 : wX.cell? ⟨g1, 4, none⟩ = some (.int .i64 c) := h1.out.cell 4
  have b4 : wX.cell? ⟨g2, 4, none⟩ = some (.int .i64 c) := h2.out.cell 4
  have a5 : wX.cell? ⟨g1, 5, none⟩ = some (.int .i64 i) := h1.out.cell 5
  have b5 : wX.cell? ⟨g2, 5, none⟩ = some (.int .i64 i) := h2.out.cell 5
  have a6 : wX.cell? ⟨g1, 6, none⟩ = some (.int .i64 n) := h1.out.cell 6
  have b6 : wX.cell? ⟨g2, 6, none⟩ = some (.int .i64 n) := h2.out.cell 6
  have a7 : wX.cell? ⟨g1, 7, none⟩ = some (.int .i64 p.a) := h1.out.cell 7
  have b7 : wX.cell? ⟨g2, 7, none⟩ = some (.int .i64 p.a) := h2.out.cell 7
  have a8 : wX.cell? ⟨g1, 8, none⟩ = some (.int .i64 p.t) := h1.out.cell 8
  have b8 : wX.cell? ⟨g2, 8, none⟩ = some (.int .i64 p.t) := h2.out.cell 8
  have a9 : wX.cell? ⟨g1, 9, none⟩ = some (.int .i64 p.j) := h1.out.cell 9
  have b9 : wX.cell? ⟨g2, 9, none⟩ = some (.int .i64 p.j) := h2.out.cell 9
  have a10 : wX.cell? ⟨g1, 10, none⟩ = some (.int .i64 p.n) := h1.out.cell 10
  have b10 : wX.cell? ⟨g2, 10, none⟩ = some (.int .i64 p.n) := h2.out.cell 10
  have a11 : wX.cell? ⟨g1, 11, none⟩ = some (.slice ua cl uc) := h1.out.cell 11
  have b11 : wX.cell? ⟨g2, 11, none⟩ = some (.slice ub cl ud) := h2.out.cell 11
  have a12 : wX.cell? ⟨g1, 12, none⟩ = some (.bool p.lo) := h1.out.cell 12
  have b12 : wX.cell? ⟨g2, 12, none⟩ = some (.bool p.lo) := h2.out.cell 12
  have a13 : wX.cell? ⟨g1, 13, none⟩ = some (.slice qa N qc) := h1.out.cell 13
  have b13 : wX.cell? ⟨g2, 13, none⟩ = some (.slice qb N qd) := h2.out.cell 13
  have a14 : wX.cell? ⟨g1, 14, none⟩ = some (.slice sa M sc) := h1.out.cell 14
  have b14 : wX.cell? ⟨g2, 14, none⟩ = some (.slice sb M sd) := h2.out.cell 14
  go_wp2_with fail
  go_fit hsp1.out
  rintro e w1 ⟨rfl, f1⟩
  have fr1 := fX.seqN f1
  have h1w1 := f1.blk h1.out (fun q => q)
  have h2w1 := f1.blk h2.out (fun q => q)
  clear a0 b0 a1 b1 a2 b2 a3 b3 a4 b4 a5 b5 a6 b6 a7 b7 a8 b8 a9 b9 a10 b10 a11 b11 a12 b12 a13 b13 a14 b14
  have a13 : w1.cell? ⟨g1, 13, none⟩ = some (.slice qa N qc) := h1w1.cell 13
  have b13 : w1.cell? ⟨g2, 13, none⟩ = some (.slice qb N qd) := h2w1.cell 13
  have a14 : w1.cell? ⟨g1, 14, none⟩ = some (.slice sa M sc) := h1w1.cell 14
  have b14 : w1.cell? ⟨g2, 14, none⟩ = some (.slice sb M sd) := h2w1.cell 14
  have hss1 := hss.out w1 fr1
  replace hss1 := Lib.hid hss1
  replace h1w1 := Lib.hid h1w1
  replace h2w1 := Lib.hid h2w1
  go_wp2_with fail
  go_fit hss1.out
  rintro e w2 ⟨rfl, f2⟩
  have fr2 := fr1.seqN f2
  have h1w2 := f2.blk h1w1.out (fun q => q)
  have h2w2 := f2.blk h2w1.out (fun q => q)
  clear a13 b13 a14 b14
  have a13 : w2.cell? ⟨g1, 13, none⟩ = some (.slice qa N qc) := h1w2.cell 13
  replace h1w2 := Lib.hid h1w2
  replace h2w2 := Lib.hid h2w2
  go_wp2_with fail
  clear a13
  go_loopw [81] (fun vi wr => ∃ m : Nat, m ≤ N ∧ vi = .int .i64 m ∧ Fr noB w2 wr) (fun vi _ => N - (RowKit.intOf vi).toNat)
  case atStart => exact ⟨0, by omega, rfl, Fr.refl _ _⟩
  case round =>
    obtain ⟨m, hm, rfl, fr⟩ := hrel
    have frw := fr2.seqN fr
    by_cases hlt : m < N
    · obtain ⟨r, hr⟩ := hget.out m hlt
      obtain ⟨ga, oa, va, vc, rfl, hca, hra⟩ := hx3.out m r hr
      obtain ⟨gb, ob, vb, vd, rfl, hcb, hrb⟩ := hy3.out m r hr
      have hpt := fun w' (f : Fr noB w w') => same_part r va vb vc vd w' (hra.frN f) (hrb.frN f)
      generalize hrl : r.cr.length = rl at *
      have hS : ∀ w', Fr noB wr w' → ((w'.cell? ⟨g1, 13, none⟩ = some (.slice (some ⟨ga, oa, none⟩) N qc) ∧ w'.cell? ⟨g2, 13, none⟩ = some (.slice (some ⟨gb, ob, none⟩) N qd)) ∧ (w'.cell? ⟨ga, oa + m * 6, none⟩ = some (.int .i64 r.a) ∧ w'.cell? ⟨ga, oa + m * 6 + 1, none⟩ = some (.int .i64 r.t) ∧ w'.cell? ⟨ga, oa + m * 6 + 2, none⟩ = some (.int .i64 r.j) ∧ w'.cell? ⟨ga, oa + m * 6 + 3, none⟩ = some (.int .i64 r.n) ∧ w'.cell? ⟨ga, oa + m * 6 + 4, none⟩ = some (.slice va rl vc) ∧ w'.cell? ⟨ga, oa + m * 6 + 5, none⟩ = some (.bool r.lo)) ∧ w'.cell? ⟨gb, ob + m * 6, none⟩ = some (.int .i64 r.a) ∧ w'.cell? ⟨gb, ob + m * 6 + 1, none⟩ = some (.int .i64 r.t) ∧ w'.cell? ⟨gb, ob + m * 6 + 2, none⟩ = some (.int .i64 r.j) ∧ w'.cell? ⟨gb, ob + m * 6 + 3, none⟩ = some (.int .i64 r.n) ∧ w'.cell? ⟨gb, ob + m * 6 + 4, none⟩ = some (.slice vb rl vd) ∧ w'.cell? ⟨gb, ob + m * 6 + 5, none⟩ = some (.bool r.lo)) := fun w' f => by
        have b1 := (fr.seqN f).blk h1w2.out (fun q => q)
        have b2 := (fr.seqN f).blk h2w2.out (fun q => q)
        have fw := frw.seqN f
        exact ⟨⟨b1.cell 13, b2.cell 13⟩, ⟨fw.cell (hca 0 _ rfl) (fun q => q), fw.cell (hca 1 _ rfl) (fun q => q), fw.cell (hca 2 _ rfl) (fun q => q), fw.cell (hca 3 _ rfl) (fun q => q), fw.cell (hca 4 _ (by simp [pnC, hrl])) (fun q => q), fw.cell (hca 5 _ rfl) (fun q => q)⟩, fw.cell (hcb 0 _ rfl) (fun q => q), fw.cell (hcb 1 _ rfl) (fun q => q), fw.cell (hcb 2 _ rfl) (fun q => q), fw.cell (hcb 3 _ rfl) (fun q => q), fw.cell (hcb 4 _ (by simp [pnC, hrl])) (fun q => q), fw.cell (hcb 5 _ rfl) (fun q => q)⟩
      have hb1 : (m : Int) < N := by omega
      have fq := (Fr.refl noB wr).drewN 1
      replace hS := Lib.hid hS
      replace hpt := Lib.hid hpt
      replace hr := Lib.hid hr
      replace hrl := Lib.hid hrl
      clear hca hcb hra hrb
      go_wp2_with fail
      go_region_held3 (fun w' => ((w'.cell? ⟨g1, 13, none⟩ = some (.slice (some ⟨ga, oa, none⟩) N qc) ∧ w'.cell? ⟨g2, 13, none⟩ = some (.slice (some ⟨gb, ob, none⟩) N qd)) ∧ (w'.cell? ⟨ga, oa + m * 6, none⟩ = some (.int .i64 r.a) ∧ w'.cell? ⟨ga, oa + m * 6 + 1, none⟩ = some (.int .i64 r.t) ∧ w'.cell? ⟨ga, oa + m * 6 + 2, none⟩ = some (.int .i64 r.j) ∧ w'.cell? ⟨ga, oa + m * 6 + 3, none⟩ = some (.int .i64 r.n) ∧ w'.cell? ⟨ga, oa + m * 6 + 4, none⟩ = some (.slice va rl vc) ∧ w'.cell? ⟨ga, oa + m * 6 + 5, none⟩ = some (.bool r.lo)) ∧ w'.cell? ⟨gb, ob + m * 6, none⟩ = some (.int .i64 r.a) ∧ w'.cell? ⟨gb, ob + m * 6 + 1, none⟩ = some (.int .i64 r.t) ∧ w'.cell? ⟨gb, ob + m * 6 + 2, none⟩ = some (.int .i64 r.j) ∧ w'.cell? ⟨gb, ob + m * 6 + 3, none⟩ = some (.int .i64 r.n) ∧ w'.cell? ⟨gb, ob + m * 6 + 4, none⟩ = some (.slice vb rl vd) ∧ w'.cell? ⟨gb, ob + m * 6 + 5, none⟩ = some (.bool r.lo)))
        (first | exact hS.out _ fq | exact hS.out _ ((Fr.refl noB _).drewN 1) | fail)
        (first | (go_at_call 36; refine (hpt.out _ (frw.seqN fq)).mono ?_; rintro e w5 ⟨rfl, f5⟩; have fq := fq.seqN f5) | fail)
      all_goals (
        go_wp2_with fail
        go_roundw
        case rel => exact ⟨m + 1, by omega, by go_num, fr.seqN fq⟩
        case measure => simp [RowKit.intOf]; omega)
    · obtain rfl : m = N := by omega
      go_wp2_with fail
      go_ret
      exact ⟨rfl, frw⟩

def zP : Pn := ⟨0, 0, 0, 0, [], false⟩
theorem rdI_nil (w : World) : RdI w (.slice none 0 0) [] := ⟨none, 0, rfl, by simp, by simp, fun i hi => by simp at hi⟩
theorem rdPs_nil (w : World) : RdPs w (.slice none 0 0) [] := ⟨none, 0, rfl, by simp, by simp, fun i p hi => by simp at hi⟩
theorem rdSp_nil (w : World) : RdSp w (.slice none 0 0) [] := ⟨none, 0, rfl, by simp, by simp [maxLen], fun _ => rfl, fun i s hi => by simp at hi⟩
/-- the fields of a message, as Same reads them -/
def RfM (w : World) (v : Value) : Ms → Prop
  | .trigger a t c => RfG w v 1 a t 0 c 0 0 zP [] []
  | .pin t j => RfG w v 2 0 t j 0 0 0 zP [] []
  | .pinned p => RfG w v 3 0 0 0 0 0 0 p [] []
  | .gone a t j => RfG w v 4 a t j 0 0 0 zP [] []
  | .collect t j => RfG w v 5 0 t j 0 0 0 zP [] []
  | .chunk a t j i n sp => RfG w v 6 a t j 0 i n zP [] sp
  | .manifest t j c ps => RfG w v 7 0 t j c 0 0 zP ps []
  | .stored t j => RfG w v 8 0 t j 0 0 0 zP [] []
  | .unpin t j => RfG w v 9 0 t j 0 0 0 zP [] []
  | .unpinned a t j => RfG w v 10 a t j 0 0 0 zP [] []
theorem RfW.gen {w : World} {v : Value} {m : Ms} (h : RfW w v m) : RfM w v m := by
  have n1 := rdI_nil w
  have n2 := rdPs_nil w
  have n3 := rdSp_nil w
  cases m with
  | pinned p => obtain ⟨ua, uc, rfl, h1⟩ := h; exact ⟨ua, uc, none, 0, none, 0, rfl, h1, n2, n3⟩
  | chunk a t j i n sp => obtain ⟨sa, sc, rfl, h1⟩ := h; exact ⟨none, 0, none, 0, sa, sc, rfl, n1, n2, h1⟩
  | manifest t j c ps => obtain ⟨qa, qc, rfl, h1⟩ := h; exact ⟨none, 0, qa, qc, none, 0, rfl, n1, h1, n3⟩
  | _ => obtain rfl := h; exact ⟨none, 0, none, 0, none, 0, rfl, n1, n2, n3⟩
theorem same_ms (v u : Value) (m : Ms) (w : World) (hv : RfW w v m) (hu : RfW w u m) : Calls Tryz.prog 20 #[v, u] w fun e w' => e = .returned (.bool true) ∧ Fr noB w w' := by
  have h1 := hv.gen
  have h2 := hu.gen
  cases m <;> exact same_gen v u _ _ _ _ _ _ _ _ _ _ w h1 h2
end Go.Proofs.YtidcoddefebdpaaGreat
end
