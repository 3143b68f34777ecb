/-
  store: the message of a call, with where its rows lie.
-/
import Derived.Test.YtdmhnoffejjpnaaGreatDoorZBF
import Derived.Test.YtdmhnoffejjpnaaGreatDoorZBE
section
set_option linter.unusedVariables false
set_option linter.unusedSimpArgs false
set_option maxRecDepth 100000
namespace Go.Proofs.YtdmhnoffejjpnaaGreatDoor
open Go.RowKit Go Go.Maps Go.Lib

theorem RdPsD.of_own {w : World} {B n : Nat} {e : TypeId} {v : Value} {P : List PU} {ps : List Pn} {D : Nat → Prop} (h : w.ownsRow B e 6 v n (P.flatMap PU.cs)) (ho : ∀ q ∈ P, RdI w q.v q.p.cr) (hp : P.map PU.p = ps) (hn : P.length = n) (hb : n ≤ 1000000) (hD : ∀ g, B ≤ g → g < w.heap.size → D g) (hcr : ∀ p ∈ ps, p.cr = []) : RdPsD w D v ps := by
  have hl : ps.length = n := by rw [← hp, List.length_map]; exact hn
  rcases h.2 with ⟨rfl, h1⟩ | ⟨g, cap, cur, rfl, hbg, hg, hnc, hcm, hcs, htake⟩
  · refine ⟨none, 0, by rw [hl, h1], by omega, by omega, fun i p hi => ?_⟩
    rw [List.eq_nil_of_length_eq_zero (by omega : ps.length = 0)] at hi
    simp at hi
  · refine ⟨_, cap, by rw [hl], by omega, by omega, fun i p hi => ?_⟩
    have hpc := hcr p (List.mem_of_getElem? hi)
    rw [← hp, List.getElem?_map] at hi
    cases hq : P[i]? with
    | none => rw [hq] at hi; cases hi
    | some u =>
      rw [hq] at hi
      simp at hi
      subst hi
      refine ⟨g, u.a, u.c, rfl, hD g hbg (h.lt g rfl).2, fun q x hx => ?_, ho u (List.mem_of_getElem? hq), fun hne => absurd hpc hne⟩
      have hq6 : q < 6 := (List.getElem?_eq_some_iff.1 hx).1
      have h2 := PU.get P i q u hq hq6
      have h3 := h.cells (g := g) rfl (i * 6 + q) x (by rw [h2]; exact hx)
      rw [add_none, Nat.zero_add] at h3
      exact h3
/-- the message of a chunk's call has the call's own slice -/
theorem message6 (m : OpA) (w : World) (h6 : m.k = 6) : Calls Tryz.prog 15 #[.agg (opaC m).toArray] w fun e w' => e = .returned (mChunk m.a m.t m.j m.i m.n (.slice m.sa m.sp.length m.sc)) ∧ Fr noB w w' := by
  have hmk := make_6 m.a m.t m.j m.i m.n none 0 0 m.lo m.sa m.sp.length m.sc (w.alloc (.cells (opaC m).toArray 32))
  have ek : (m.k != 7) = true := by rw [h6]; rfl
  have f1 : Fr noB w (w.alloc (.cells (opaC m).toArray 32)) := (Fr.refl _ _).alloc _
  have b1 := Blk.new w 32 (opaC m)
  obtain ⟨ob, hob⟩ : ∃ ob, w.heap.size = ob := ⟨_, rfl⟩
  rw [hob] at b1
  have y0 : (w.alloc (.cells (opaC m).toArray 32)).cell? ⟨ob, 0, none⟩ = some (.int .i64 m.k) := b1.cell 0
  have y1 : (w.alloc (.cells (opaC m).toArray 32)).cell? ⟨ob, 1, none⟩ = some (.int .i64 m.a) := b1.cell 1
  have y2 : (w.alloc (.cells (opaC m).toArray 32)).cell? ⟨ob, 2, none⟩ = some (.int .i64 m.t) := b1.cell 2
  have y3 : (w.alloc (.cells (opaC m).toArray 32)).cell? ⟨ob, 3, none⟩ = some (.int .i64 m.j) := b1.cell 3
  have y4 : (w.alloc (.cells (opaC m).toArray 32)).cell? ⟨ob, 4, none⟩ = some (.int .i64 m.i) := b1.cell 4
  have y5 : (w.alloc (.cells (opaC m).toArray 32)).cell? ⟨ob, 5, none⟩ = some (.int .i64 m.n) := b1.cell 5
  have y6 : (w.alloc (.cells (opaC m).toArray 32)).cell? ⟨ob, 6, none⟩ = some (.slice m.sa m.sp.length m.sc) := b1.cell 6
  have y8 : (w.alloc (.cells (opaC m).toArray 32)).cell? ⟨ob, 8, none⟩ = some (.bool m.lo) := b1.cell 8
  replace f1 := Lib.hid f1
  clear b1
  rw [← h6] at hmk
  unfold opaC at hmk y0 y1 y2 y3 y4 y5 y6 y8 ⊢
  replace hmk := Lib.hid hmk
  replace h6 := Lib.hid h6
  go_enter Tryz.func15, Tryz.ntmps15
  go_wp2_with fail
  try rw [hob]
  go_fit hmk.out
  rintro e w1 ⟨rfl, f2⟩
  have fz := Lib.hid (f1.out.seqN f2)
  clear hmk f2
  go_wp2_with fail
  go_ret
  exact ⟨rfl, fz.out⟩
/-- where the spans of a call's message lie -/
def Own6 (m : OpA) (v : Value) : Prop := m.k = 6 → v = mChunk m.a m.t m.j m.i m.n (.slice m.sa m.sp.length m.sc)
theorem messageB_any (m : OpA) (w : World) (hs : RdSp w (.slice m.sa m.sp.length m.sc) m.sp) (hx : RdI w (.slice m.ua m.xs.length m.uc) m.xs) (h20 : m.xs.length ≤ 20) :
    Calls Tryz.prog 15 #[.agg (opaC m).toArray] w fun e w' => ∃ v, e = .returned v ∧ MsO w' v m.ms ∧ Own6 m v ∧ Fr noB w w' := by
  by_cases h6 : m.k = 6
  · refine (message6 m w h6).mono ?_
    rintro e w' ⟨rfl, f⟩
    refine ⟨_, rfl, ?_, fun _ => rfl, f⟩
    have : m.ms = some (.chunk m.a m.t m.j m.i m.n m.sp) := by unfold OpA.ms; rw [h6]; rfl
    rw [this]
    exact ⟨_, rfl, hs.frN f⟩
  · refine (messageA_any m w hs hx h20).mono ?_
    rintro e w' ⟨v, rfl, h1, f⟩
    exact ⟨v, rfl, h1, fun q => absurd q h6, f⟩
theorem parts_cr (m : OpA) (k : Nat) : ∀ p ∈ partsK m k, p.cr = [] := by
  intro p hp
  unfold partsK at hp
  obtain ⟨i, _, hi⟩ := List.mem_filterMap.1 hp
  split at hi
  · injection hi with hi; subst hi; rfl
  · cases hi
theorem ms6 {m : OpA} (h : m.k = 6) : m.ms = some (.chunk m.a m.t m.j m.i m.n m.sp) := by unfold OpA.ms; rw [h]; rfl
theorem ms7 {m : OpA} (h : m.k = 7) : m.ms = some (.manifest m.t m.j m.i (partsK m m.xs.length)) := by unfold OpA.ms; rw [h]; rfl
set_option maxHeartbeats 8000000 in
theorem message7 (m : OpA) (w : World) (h7 : m.k = 7) (hs : RdSp w (.slice m.sa m.sp.length m.sc) m.sp) (hx : RdI w (.slice m.ua m.xs.length m.uc) m.xs) (h20 : m.xs.length ≤ 20) :
    Calls Tryz.prog 15 #[.agg (opaC m).toArray] w fun e w' => ∃ a c, e = .returned (mManifest m.t m.j m.i (.slice a (partsK m m.xs.length).length c)) ∧ RdPsD w' (fun g => w.heap.size ≤ g ∧ g < w'.heap.size) (.slice a (partsK m m.xs.length).length c) (partsK m m.xs.length) ∧ Fr noB w w' := by
  obtain ⟨ob, hob⟩ : ∃ ob, w.heap.size = ob := ⟨_, rfl⟩
  have f1 : Fr noB w (w.alloc (.cells (opaC m).toArray 32)) := (Fr.refl _ _).alloc _
  have b1 := Blk.new w 32 (opaC m)
  have hs1 : (w.alloc (.cells (opaC m).toArray 32)).heap.size = ob + 1 := by rw [size_alloc, hob]
  rw [hob] at b1
  have hor : m.k = 7 ∨ False := Or.inl h7
  clear h7
  rcases hor with h7 | h7
  · have e0 : m.ms = some (.manifest m.t m.j m.i (partsK m m.xs.length)) := by
      unfold OpA.ms
      iterate 6 rw [if_neg (by omega)]
      rw [if_pos h7]
    have fM : Fr noB (w.alloc (.cells (opaC m).toArray 32)) ((w.alloc (.cells (opaC m).toArray 32)).alloc (.cells #[.int .i64 m.t, .int .i64 m.j, .int .i64 m.i, .slice none 0 0] 73)) := (Fr.refl _ _).alloc _
    have bM := Blk.new (w.alloc (.cells (opaC m).toArray 32)) 73 [.int .i64 m.t, .int .i64 m.j, .int .i64 m.i, .slice none 0 0]
    rw [hs1] at bM
    have I0 : ManI w ((w.alloc (.cells (opaC m).toArray 32)).alloc (.cells #[.int .i64 m.t, .int .i64 m.j, .int .i64 m.i, .slice none 0 0] 73)) m ob (ob + 1) 0 0 none 0 [] := ⟨rfl, Nat.le_refl _, rfl, fun u hu => (by cases hu), fM.blk b1 (fun q => q), bM, ⟨rfl, Or.inl ⟨rfl, rfl⟩⟩, f1.seqN fM⟩
    have ek : ((7 : Int) != 7) = false := by decide
    have k7 : (w.alloc (.cells (opaC m).toArray 32)).cell? ⟨ob, 0, none⟩ = some (.int .i64 7) := by rw [← h7]; exact b1.cell 0
    obtain ⟨N, hN⟩ : ∃ N, m.xs.length = N := ⟨_, rfl⟩
    have hxc : ∀ w', Fr noB w w' → ∀ i, i < N → ∃ g o, m.ua = some ⟨g, o, none⟩ ∧ w'.cell? ⟨g, o + i, none⟩ = some (.int .i64 (m.xs.getD i 0)) := fun w' f i hi => by
      obtain ⟨a, c, e, _, _, h3⟩ := hx
      injection e with e1 _ _
      subst e1
      obtain ⟨g, o, e2, h4⟩ := h3 i (by omega)
      exact ⟨g, o, e2, f.cell h4 (fun q => q)⟩
    have hNc : N ≤ m.uc := by
      obtain ⟨a, c, e, _, h2, _⟩ := hx
      injection e with _ _ e3
      omega
    have o7 : ∀ k np pa pc P wr, ManI w wr m ob (ob + 1) k np pa pc P → wr.cell? ⟨ob, 2, none⟩ = some (.int .i64 m.t) ∧ wr.cell? ⟨ob, 3, none⟩ = some (.int .i64 m.j) ∧ wr.cell? ⟨ob, 4, none⟩ = some (.int .i64 m.i) ∧ wr.cell? ⟨ob, 7, none⟩ = some (.slice m.ua N m.uc) ∧ wr.cell? ⟨ob, 8, none⟩ = some (.bool m.lo) := fun k np pa pc P wr I => ⟨I.bo.cell 2, I.bo.cell 3, I.bo.cell 4, by rw [← hN]; exact I.bo.cell 7, I.bo.cell 8⟩
    obtain ⟨i0, hi0, hz0, hz1, hz2⟩ := info_parts infoPinC
    obtain ⟨p2, p3, p4, p7, p8⟩ := o7 _ _ _ _ _ _ I0
    have y2 : (w.alloc (.cells (opaC m).toArray 32)).cell? ⟨ob, 2, none⟩ = some (.int .i64 m.t) := b1.cell 2
    have y3 : (w.alloc (.cells (opaC m).toArray 32)).cell? ⟨ob, 3, none⟩ = some (.int .i64 m.j) := b1.cell 3
    have y4 : (w.alloc (.cells (opaC m).toArray 32)).cell? ⟨ob, 4, none⟩ = some (.int .i64 m.i) := b1.cell 4
    rw [hN] at h20
    have hone : ∀ u ∈ opaC m, u.oneCell' = true := by
      intro u hu
      unfold opaC at hu
      simp only [List.mem_cons, List.not_mem_nil, or_false] at hu
      rcases hu with rfl | rfl | rfl | rfl | rfl | rfl | rfl | rfl | rfl <;> rfl
    replace h7 := Lib.hid h7
    replace I0 := Lib.hid I0
    replace hxc := Lib.hid hxc
    replace o7 := Lib.hid o7
    replace hN := Lib.hid hN
    clear hs hx fM bM f1 e0
    unfold opaC
    unfold opaC at hs1 k7 p2 p3 p4 p7 p8 y2 y3 y4 I0
    obtain ⟨ua, hua⟩ : ∃ ua, m.ua = ua := ⟨_, rfl⟩
    rw [hua] at hs1 k7 p2 p3 p4 p7 p8 y2 y3 y4 I0 ⊢
    go_enter Tryz.func15, Tryz.ntmps15
    go_upto_region 4 with fail
    generalize ((w.alloc (.cells #[.int .i64 m.k, .int .i64 m.a, .int .i64 m.t, .int .i64 m.j, .int .i64 m.i, .int .i64 m.n, .slice m.sa m.sp.length m.sc, .slice ua m.xs.length m.uc, .bool m.lo] 32)).alloc (.cells #[.int .i64 m.t, .int .i64 m.j, .int .i64 m.i, .slice none 0 0] 73)) = w2 at *
    clear y2 y3 y4 k7 hs1 b1 p2 p3 p4 p8
    have hobl : Hid (w.heap.size ≤ ob + 1) := Lib.hid (by omega)
    replace hob := Lib.hid hob
    replace hua := Lib.hid hua
    go_wp2_with fail
    go_loopg [36] N (fun gk i wr => ∃ (k np : Nat) (pa : Option Addr) (pc : Nat) (P : List PU), k + gk = N ∧ i = .int .i64 k ∧ Hid (ManI w wr m ob (ob + 1) k np pa pc P))
    case atStart => exact ⟨0, 0, none, 0, [], Nat.zero_add _, rfl, I0⟩
    case round =>
      clear p7 I0
      obtain ⟨k, np, pa, pc, P, hk, rfl, hI⟩ := hrel
      obtain ⟨q2, q3, q4, q7, q8⟩ := o7.out _ _ _ _ _ _ hI.out
      have q13 : wr.cell? ⟨ob + 1, 3, none⟩ = some (.slice pa np pc) := hI.out.bm.cell 3
      by_cases hlt : k < N
      · obtain ⟨g, o, hua2, hcx⟩ := hxc.out wr hI.out.fr k hlt
        rw [hua.out] at hua2 q7
        subst hua2
        obtain ⟨x, hxx⟩ : ∃ x, m.xs.getD k 0 = x := ⟨_, rfl⟩
        obtain ⟨b, hb⟩ : ∃ b, (m.lo && ((k : Int) == 0)) = b := ⟨_, rfl⟩
        obtain ⟨lo, hlo⟩ : ∃ lo, m.lo = lo := ⟨_, rfl⟩
        rw [hxx] at hcx
        rw [hlo] at q8
        have hb1 : (k : Int) < N := by omega
        have hmeas : N - (k + 1) < gk := by omega
        have hkn2 : k + 1 + (N - (k + 1)) = N := by omega
        replace hxx := Lib.hid hxx
        replace hmeas := Lib.hid hmeas
        replace hkn2 := Lib.hid hkn2
        clear hk q4
        by_cases h0 : 0 ≤ x
        · have h0d : decide (0 ≤ x) = true := decide_eq_true h0
          cases lo with
          | false =>
            rw [hlo, Bool.false_and] at hb
            subst hb
            have hb : Hid ((m.lo && ((k : Int) == 0)) = false) := Lib.hid (by rw [hlo]; rfl)
            replace hlo := Lib.hid hlo
            have fA : Fr noB wr (wr.alloc (.cells #[.int .i64 k, .int .i64 m.t, .int .i64 m.j, .int .i64 x, .slice none 0 0, .bool false] 70)) := (Fr.refl _ _).alloc _
            have IA : ManI w (wr.alloc (.cells #[.int .i64 k, .int .i64 m.t, .int .i64 m.j, .int .i64 x, .slice none 0 0, .bool false] 70)) m ob (ob + 1) k np pa pc P := hI.out.frN fA
            have cn := news_at wr 70 [.int .i64 k, .int .i64 m.t, .int .i64 m.j, .int .i64 x, .slice none 0 0, .bool false]
            have hw8 : w.heap.size ≤ (wr.alloc (.cells #[.int .i64 k, .int .i64 m.t, .int .i64 m.j, .int .i64 x, .slice none 0 0, .bool false] 70)).heap.size := IA.fr.size
            have ow8 := IA.ow
            have hnp : np ≤ 20 := by have := IA.pk; omega
            have huc : (PU.mk ⟨k, m.t, m.j, m.xs.getD k 0, [], m.lo && ((k : Int) == 0)⟩ none 0).cs = [.int .i64 k, .int .i64 m.t, .int .i64 m.j, .int .i64 x, .slice none 0 0, .bool false] := by
              unfold PU.cs pnC PU.v
              simp only
              rw [hxx.out, hb.out]; rfl
            replace IA := Lib.hid IA
            replace huc := Lib.hid huc
            replace hw8 := Lib.hid hw8
            replace hnp := Lib.hid hnp
            clear fA
            go_wp2_with (first
              | (at_builtin; go_must (refine wpList_append_at _ rfl (.tmp 44) (.tmp 58) 71 rfl w.heap.size 70 i0 _ 6 64 Tryz.underlying71 hi0 hz0 hz1 hz2 rfl (by decide) _ np (P.flatMap PU.cs) rfl ow8 ⟨wr.heap.size, 0, none⟩ 1 1 [.int .i64 k, .int .i64 m.t, .int .i64 m.j, .int .i64 x, .slice none 0 0, .bool false] rfl rfl cn (by intro u hu; simp only [List.mem_cons, List.not_mem_nil, or_false] at hu; rcases hu with rfl | rfl | rfl | rfl | rfl | rfl <;> rfl) ?_ ?_ hw8.out ?_))
              | fail)
            · have := hnp.out; unfold maxLen; omega
            · have := hnp.out; omega
            intro v9 w9 o9 gr9 _
            obtain ⟨a9, c9, rfl⟩ := ownsRow_slice o9
            have f9 : Fr (rowB (.slice pa np pc)) (wr.alloc (.cells #[.int .i64 k, .int .i64 m.t, .int .i64 m.j, .int .i64 x, .slice none 0 0, .bool false] 70)) w9 := (Fr.refl _ _).grown gr9 (fun k hk _ => hk)
            rw [← huc.out] at o9
            have hfin := man_next IA.out _ rfl (by rw [hxx.out]; exact h0) o9 f9 (by omega) hobl.out
            have b9 := f9.blk IA.out.bm (fun q => row_not IA.out.ow IA.out.bm (by decide) q)
            have k9 : w9.cell? ⟨ob + 1, 3, none⟩ = some (.slice pa np pc) := b9.cell 3
            have z9 := b9.frozen 3
            replace hfin := Lib.hid hfin
            clear o9 gr9 f9 b9 cn ow8 IA hI
            go_wp2_with fail
            go_roundg (N - (k + 1))
            case rel => exact ⟨k + 1, np + 1, a9, c9, _, hkn2.out, by go_num, hfin⟩
            case measure => exact hmeas.out
          | true =>
            rw [hlo, Bool.true_and] at hb
            have e5 : ((k : Int) == 0) = b := hb
            clear hb
            have hb : Hid ((m.lo && ((k : Int) == 0)) = b) := Lib.hid (by rw [hlo, Bool.true_and]; exact e5)
            replace hlo := Lib.hid hlo
            have fA : Fr noB wr (wr.alloc (.cells #[.int .i64 k, .int .i64 m.t, .int .i64 m.j, .int .i64 x, .slice none 0 0, .bool b] 70)) := (Fr.refl _ _).alloc _
            have IA : ManI w (wr.alloc (.cells #[.int .i64 k, .int .i64 m.t, .int .i64 m.j, .int .i64 x, .slice none 0 0, .bool b] 70)) m ob (ob + 1) k np pa pc P := hI.out.frN fA
            have cn := news_at wr 70 [.int .i64 k, .int .i64 m.t, .int .i64 m.j, .int .i64 x, .slice none 0 0, .bool b]
            have hw8 : w.heap.size ≤ (wr.alloc (.cells #[.int .i64 k, .int .i64 m.t, .int .i64 m.j, .int .i64 x, .slice none 0 0, .bool b] 70)).heap.size := IA.fr.size
            have ow8 := IA.ow
            have hnp : np ≤ 20 := by have := IA.pk; omega
            have huc : (PU.mk ⟨k, m.t, m.j, m.xs.getD k 0, [], m.lo && ((k : Int) == 0)⟩ none 0).cs = [.int .i64 k, .int .i64 m.t, .int .i64 m.j, .int .i64 x, .slice none 0 0, .bool b] := by
              unfold PU.cs pnC PU.v
              simp only
              rw [hxx.out, hb.out]; rfl
            replace IA := Lib.hid IA
            replace huc := Lib.hid huc
            replace hw8 := Lib.hid hw8
            replace hnp := Lib.hid hnp
            clear fA
            go_wp2_with (first
              | (at_builtin; go_must (refine wpList_append_at _ rfl (.tmp 44) (.tmp 58) 71 rfl w.heap.size 70 i0 _ 6 64 Tryz.underlying71 hi0 hz0 hz1 hz2 rfl (by decide) _ np (P.flatMap PU.cs) rfl ow8 ⟨wr.heap.size, 0, none⟩ 1 1 [.int .i64 k, .int .i64 m.t, .int .i64 m.j, .int .i64 x, .slice none 0 0, .bool b] rfl rfl cn (by intro u hu; simp only [List.mem_cons, List.not_mem_nil, or_false] at hu; rcases hu with rfl | rfl | rfl | rfl | rfl | rfl <;> rfl) ?_ ?_ hw8.out ?_))
              | fail)
            · have := hnp.out; unfold maxLen; omega
            · have := hnp.out; omega
            intro v9 w9 o9 gr9 _
            obtain ⟨a9, c9, rfl⟩ := ownsRow_slice o9
            have f9 : Fr (rowB (.slice pa np pc)) (wr.alloc (.cells #[.int .i64 k, .int .i64 m.t, .int .i64 m.j, .int .i64 x, .slice none 0 0, .bool b] 70)) w9 := (Fr.refl _ _).grown gr9 (fun k hk _ => hk)
            rw [← huc.out] at o9
            have hfin := man_next IA.out _ rfl (by rw [hxx.out]; exact h0) o9 f9 (by omega) hobl.out
            have b9 := f9.blk IA.out.bm (fun q => row_not IA.out.ow IA.out.bm (by decide) q)
            have k9 : w9.cell? ⟨ob + 1, 3, none⟩ = some (.slice pa np pc) := b9.cell 3
            have z9 := b9.frozen 3
            replace hfin := Lib.hid hfin
            clear o9 gr9 f9 b9 cn ow8 IA hI
            go_wp2_with fail
            go_roundg (N - (k + 1))
            case rel => exact ⟨k + 1, np + 1, a9, c9, _, hkn2.out, by go_num, hfin⟩
            case measure => exact hmeas.out
        · have h0d : decide (0 ≤ x) = false := decide_eq_false h0
          have hfin := Lib.hid (hI.out.skip (by rw [hxx.out]; exact h0))
          replace hb := Lib.hid hb
          replace hlo := Lib.hid hlo
          go_wp2_with fail
          go_roundg (N - (k + 1))
          case rel => exact ⟨k + 1, np, pa, pc, P, hkn2.out, by go_num, hfin⟩
          case measure => exact hmeas.out
      · obtain rfl : k = N := by omega
        have r0 : wr.cell? ⟨ob + 1, 0, none⟩ = some (.int .i64 m.t) := hI.out.bm.cell 0
        have r1 : wr.cell? ⟨ob + 1, 1, none⟩ = some (.int .i64 m.j) := hI.out.bm.cell 1
        have r2 : wr.cell? ⟨ob + 1, 2, none⟩ = some (.int .i64 m.i) := hI.out.bm.cell 2
        go_wp2_with fail
        go_ret
        have hnp : (partsK m m.xs.length).length = np := by rw [hN.out, ← hI.out.pp, List.length_map]; exact hI.out.pl
        refine ⟨pa, pc, by rw [hnp]; rfl, ?_, hI.out.fr⟩
        rw [hnp, hN.out]
        exact RdPsD.of_own hI.out.ow (fun u hu => by
          obtain ⟨h1, h2, h3⟩ := hI.out.pn u hu
          unfold PU.v
          rw [h1, h2, h3]
          exact rdi_nil _) hI.out.pp hI.out.pl (by have := hI.out.pk; omega) (fun g h1 h2 => ⟨by omega, h2⟩) (parts_cr m _)
  · exact h7.elim

/-- where the rows of a call's message lie: in the call's own, or among blocks made since B -/
def MsB (w : World) (B : Nat) (m : OpA) (v : Value) : Prop :=
  (m.k = 6 → v = mChunk m.a m.t m.j m.i m.n (.slice m.sa m.sp.length m.sc)) ∧
  (m.k = 7 → ∃ a c, v = mManifest m.t m.j m.i (.slice a (partsK m m.xs.length).length c) ∧ RdPsD w (fun g => B ≤ g ∧ g < w.heap.size) (.slice a (partsK m m.xs.length).length c) (partsK m m.xs.length))
theorem messageC_any (m : OpA) (w : World) (hs : RdSp w (.slice m.sa m.sp.length m.sc) m.sp) (hx : RdI w (.slice m.ua m.xs.length m.uc) m.xs) (h20 : m.xs.length ≤ 20) :
    Calls Tryz.prog 15 #[.agg (opaC m).toArray] w fun e w' => ∃ v, e = .returned v ∧ MsO w' v m.ms ∧ MsB w' w.heap.size m v ∧ Fr noB w w' := by
  by_cases h7 : m.k = 7
  · refine (message7 m w h7 hs hx h20).mono ?_
    rintro e w' ⟨a, c, rfl, h1, f⟩
    refine ⟨_, rfl, ?_, ⟨fun q => by omega, fun _ => ⟨a, c, rfl, h1⟩⟩, f⟩
    rw [ms7 h7]
    exact ⟨_, rfl, h1.ps⟩
  · refine (messageB_any m w hs hx h20).mono ?_
    rintro e w' ⟨v, rfl, h1, h2, f⟩
    exact ⟨v, rfl, h1, ⟨h2, fun q => absurd q h7⟩, f⟩
theorem ms_pin {m : OpA} {p : Pn} (h : m.ms = some (.pinned p)) : p.cr = [] := by
  unfold OpA.ms at h
  repeat' (split at h)
  all_goals (first | (injection h with h; injection h with h; subst h; rfl) | (injection h with h; cases h; done) | (cases h; done))
/-- it stays what it is, whatever happens to other blocks -/
theorem MsB.keep {w w' : World} {B M0 : Nat} {S : Nat → Prop} {m : OpA} {v : Value} (h : MsB w B m v) (ho : MsO w v m.ms) (hs : RdSp w (.slice m.sa m.sp.length m.sc) m.sp) (hm : m.sp ≠ [] → ∀ g o, m.sa = some ⟨g, o, none⟩ → g < M0) (f : Fr S w w') (hS : ∀ g, (g < M0 ∨ B ≤ g) → ¬ S g) : MsO w' v m.ms ∧ Own6 m v := by
  refine ⟨?_, h.1⟩
  by_cases h6 : m.k = 6
  · rw [ms6 h6]
    exact ⟨_, h.1 h6, hs.fr1 f (fun hne g o n c e => hS g (Or.inl (hm hne g o (by injection e))))⟩
  · by_cases h7 : m.k = 7
    · obtain ⟨a, c, e, h1⟩ := h.2 h7
      rw [ms7 h7]
      exact ⟨_, e, (h1.fr f (fun g hg => hS g (Or.inr hg.1))).ps⟩
    · cases hx : m.ms with
      | none => rw [hx] at ho; exact ho
      | some x =>
        rw [hx] at ho
        cases x with
        | pinned p =>
          obtain ⟨u, e, hr⟩ := ho
          have hp := ms_pin hx
          refine ⟨u, e, hr.fr1 f (fun hne => absurd hp hne)⟩
        | chunk a t j i n sp =>
          exfalso
          unfold OpA.ms at hx
          repeat' (split at hx)
          all_goals (first | (injection hx with hx; cases hx; done) | (cases hx; done) | (simp_all; done))
        | manifest t j c ps =>
          exfalso
          unfold OpA.ms at hx
          repeat' (split at hx)
          all_goals (first | (injection hx with hx; cases hx; done) | (cases hx; done) | (simp_all; done))
        | _ => exact ho
theorem rdsp_lt {w : World} {a : Option Addr} {n c : Nat} {L : List Sp} (h : RdSp w (.slice a n c) L) : L ≠ [] → ∀ g o, a = some ⟨g, o, none⟩ → g < w.heap.size := by
  intro hne g o e
  obtain ⟨a', c', e', _, _, _, h1⟩ := h
  injection e' with e1 e2 e3
  subst e1
  obtain ⟨x, hx⟩ : ∃ x, L[0]? = some x := by cases L with | nil => exact absurd rfl hne | cons y r => exact ⟨y, rfl⟩
  obtain ⟨g', o', e4, c0, _⟩ := h1 0 x hx
  rw [e] at e4
  injection e4 with e4
  injection e4 with e5 e6
  subst e5
  exact lt_of_cell c0
end Go.Proofs.YtdmhnoffejjpnaaGreatDoor
end
