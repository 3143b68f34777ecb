/-
  A call's message, with where its parts lie.
-/
import Derived.Test.YtdfkjigkpcgngaaAsmMs2
set_option linter.unusedVariables false
set_option linter.unusedSimpArgs false
set_option maxRecDepth 100000
namespace Go.Proofs.Ytdfkjigkpcgngaa
open Go.RowKit Go Go.Maps Go.Lib

set_option maxHeartbeats 8000000 in
theorem message7 (m : OpA) (w : World) (h7 : m.k = 7) (hs : RdSp w (.slice m.sa m.sp.length m.sc) m.sp) (hx : RdI w (.slice m.ua m.xs.length m.uc) m.xs) (h20 : m.xs.length ≤ 20) :
    Calls Try.prog 9 #[.agg (opaC m).toArray] w fun e w' => ∃ a c, e = .returned (mManifest m.t m.j m.i (.slice a (partsK m m.xs.length).length c)) ∧ RdPsD w' (fun g => w.heap.size ≤ g ∧ g < w'.heap.size) (.slice a (partsK m m.xs.length).length c) (partsK m m.xs.length) ∧ Fr noB w w' := by
  obtain ⟨ob, hob⟩ : ∃ ob, w.heap.size = ob := ⟨_, rfl⟩
  have f1 : Fr noB w (w.alloc (.cells (opaC m).toArray 39)) := (Fr.refl _ _).alloc _
  have b1 := Blk.new w 39 (opaC m)
  have hs1 : (w.alloc (.cells (opaC m).toArray 39)).heap.size = ob + 1 := by rw [size_alloc, hob]
  rw [hob] at b1
  have hor : m.k = 7 ∨ False := Or.inl h7
  clear h7
  rcases hor with h7 | h7
  · have e0 : m.ms = some (.manifest m.t m.j m.i (partsK m m.xs.length)) := by
      unfold OpA.ms
      iterate 6 rw [if_neg (by omega)]
      rw [if_pos h7]
    have fM : Fr noB (w.alloc (.cells (opaC m).toArray 39)) ((w.alloc (.cells (opaC m).toArray 39)).alloc (.cells #[.int .i64 m.t, .int .i64 m.j, .int .i64 m.i, .slice none 0 0] 59)) := (Fr.refl _ _).alloc _
    have bM := Blk.new (w.alloc (.cells (opaC m).toArray 39)) 59 [.int .i64 m.t, .int .i64 m.j, .int .i64 m.i, .slice none 0 0]
    rw [hs1] at bM
    have I0 : ManI w ((w.alloc (.cells (opaC m).toArray 39)).alloc (.cells #[.int .i64 m.t, .int .i64 m.j, .int .i64 m.i, .slice none 0 0] 59)) m ob (ob + 1) 0 0 none 0 [] := ⟨rfl, Nat.le_refl _, rfl, fun u hu => (by cases hu), fM.blk b1 (fun q => q), bM, ⟨rfl, Or.inl ⟨rfl, rfl⟩⟩, f1.seqN fM⟩
    have ek : ((7 : Int) != 7) = false := by decide
    have k7 : (w.alloc (.cells (opaC m).toArray 39)).cell? ⟨ob, 0, none⟩ = some (.int .i64 7) := by rw [← h7]; exact b1.cell 0
    obtain ⟨N, hN⟩ : ∃ N, m.xs.length = N := ⟨_, rfl⟩
    have hxc : ∀ w', Fr noB w w' → ∀ i, i < N → ∃ g o, m.ua = some ⟨g, o, none⟩ ∧ w'.cell? ⟨g, o + i, none⟩ = some (.int .i64 (m.xs.getD i 0)) := fun w' f i hi => by
      obtain ⟨a, c, e, _, _, h3⟩ := hx
      injection e with e1 _ _
      subst e1
      obtain ⟨g, o, e2, h4⟩ := h3 i (by omega)
      exact ⟨g, o, e2, f.cell h4 (fun q => q)⟩
    have hNc : N ≤ m.uc := by
      obtain ⟨a, c, e, _, h2, _⟩ := hx
      injection e with _ _ e3
      omega
    have o7 : ∀ k np pa pc P wr, ManI w wr m ob (ob + 1) k np pa pc P → wr.cell? ⟨ob, 2, none⟩ = some (.int .i64 m.t) ∧ wr.cell? ⟨ob, 3, none⟩ = some (.int .i64 m.j) ∧ wr.cell? ⟨ob, 4, none⟩ = some (.int .i64 m.i) ∧ wr.cell? ⟨ob, 7, none⟩ = some (.slice m.ua N m.uc) ∧ wr.cell? ⟨ob, 8, none⟩ = some (.bool m.lo) := fun k np pa pc P wr I => ⟨I.bo.cell 2, I.bo.cell 3, I.bo.cell 4, by rw [← hN]; exact I.bo.cell 7, I.bo.cell 8⟩
    obtain ⟨i0, hi0, hz0, hz1, hz2⟩ := info_parts infoPinC
    obtain ⟨p2, p3, p4, p7, p8⟩ := o7 _ _ _ _ _ _ I0
    have y2 : (w.alloc (.cells (opaC m).toArray 39)).cell? ⟨ob, 2, none⟩ = some (.int .i64 m.t) := b1.cell 2
    have y3 : (w.alloc (.cells (opaC m).toArray 39)).cell? ⟨ob, 3, none⟩ = some (.int .i64 m.j) := b1.cell 3
    have y4 : (w.alloc (.cells (opaC m).toArray 39)).cell? ⟨ob, 4, none⟩ = some (.int .i64 m.i) := b1.cell 4
    rw [hN] at h20
    have hone : ∀ u ∈ opaC m, u.oneCell' = true := by
      intro u hu
      unfold opaC at hu
      simp only [List.mem_cons, List.not_mem_nil, or_false] at hu
      rcases hu with rfl | rfl | rfl | rfl | rfl | rfl | rfl | rfl | rfl <;> rfl
    replace h7 := Lib.hid h7
    replace I0 := Lib.hid I0
    replace hxc := Lib.hid hxc
    replace o7 := Lib.hid o7
    replace hN := Lib.hid hN
    clear hs hx fM bM f1 e0
    unfold opaC
    unfold opaC at hs1 k7 p2 p3 p4 p7 p8 y2 y3 y4 I0
    obtain ⟨ua, hua⟩ : ∃ ua, m.ua = ua := ⟨_, rfl⟩
    rw [hua] at hs1 k7 p2 p3 p4 p7 p8 y2 y3 y4 I0 ⊢
    go_enter Try.func9, Try.ntmps9
    go_upto_region 4 with fail
    generalize ((w.alloc (.cells #[.int .i64 m.k, .int .i64 m.a, .int .i64 m.t, .int .i64 m.j, .int .i64 m.i, .int .i64 m.n, .slice m.sa m.sp.length m.sc, .slice ua m.xs.length m.uc, .bool m.lo] 39)).alloc (.cells #[.int .i64 m.t, .int .i64 m.j, .int .i64 m.i, .slice none 0 0] 59)) = w2 at *
    clear y2 y3 y4 k7 hs1 b1 p2 p3 p4 p8
    have hobl : Hid (w.heap.size ≤ ob + 1) := Lib.hid (by omega)
    replace hob := Lib.hid hob
    replace hua := Lib.hid hua
    go_wp2_with fail
    go_loopg [36] N (fun gk i wr => ∃ (k np : Nat) (pa : Option Addr) (pc : Nat) (P : List PU), k + gk = N ∧ i = .int .i64 k ∧ Hid (ManI w wr m ob (ob + 1) k np pa pc P))
    case atStart => exact ⟨0, 0, none, 0, [], Nat.zero_add _, rfl, I0⟩
    case round =>
      clear p7 I0
      obtain ⟨k, np, pa, pc, P, hk, rfl, hI⟩ := hrel
      obtain ⟨q2, q3, q4, q7, q8⟩ := o7.out _ _ _ _ _ _ hI.out
      have q13 : wr.cell? ⟨ob + 1, 3, none⟩ = some (.slice pa np pc) := hI.out.bm.cell 3
      by_cases hlt : k < N
      · obtain ⟨g, o, hua2, hcx⟩ := hxc.out wr hI.out.fr k hlt
        rw [hua.out] at hua2 q7
        subst hua2
        obtain ⟨x, hxx⟩ : ∃ x, m.xs.getD k 0 = x := ⟨_, rfl⟩
        obtain ⟨b, hb⟩ : ∃ b, (m.lo && ((k : Int) == 0)) = b := ⟨_, rfl⟩
        obtain ⟨lo, hlo⟩ : ∃ lo, m.lo = lo := ⟨_, rfl⟩
        rw [hxx] at hcx
        rw [hlo] at q8
        have hb1 : (k : Int) < N := by omega
        have hmeas : N - (k + 1) < gk := by omega
        have hkn2 : k + 1 + (N - (k + 1)) = N := by omega
        replace hxx := Lib.hid hxx
        replace hmeas := Lib.hid hmeas
        replace hkn2 := Lib.hid hkn2
        clear hk q4
        by_cases h0 : 0 ≤ x
        · have h0d : decide (0 ≤ x) = true := decide_eq_true h0
          cases lo with
          | false =>
            rw [hlo, Bool.false_and] at hb
            subst hb
            have hb : Hid ((m.lo && ((k : Int) == 0)) = false) := Lib.hid (by rw [hlo]; rfl)
            replace hlo := Lib.hid hlo
            have fA : Fr noB wr (wr.alloc (.cells #[.int .i64 k, .int .i64 m.t, .int .i64 m.j, .int .i64 x, .slice none 0 0, .bool false] 65)) := (Fr.refl _ _).alloc _
            have IA : ManI w (wr.alloc (.cells #[.int .i64 k, .int .i64 m.t, .int .i64 m.j, .int .i64 x, .slice none 0 0, .bool false] 65)) m ob (ob + 1) k np pa pc P := hI.out.frN fA
            have cn := news_at wr 65 [.int .i64 k, .int .i64 m.t, .int .i64 m.j, .int .i64 x, .slice none 0 0, .bool false]
            have hw8 : w.heap.size ≤ (wr.alloc (.cells #[.int .i64 k, .int .i64 m.t, .int .i64 m.j, .int .i64 x, .slice none 0 0, .bool false] 65)).heap.size := IA.fr.size
            have ow8 := IA.ow
            have hnp : np ≤ 20 := by have := IA.pk; omega
            have huc : (PU.mk ⟨k, m.t, m.j, m.xs.getD k 0, [], m.lo && ((k : Int) == 0)⟩ none 0).cs = [.int .i64 k, .int .i64 m.t, .int .i64 m.j, .int .i64 x, .slice none 0 0, .bool false] := by
              unfold PU.cs pnC PU.v
              simp only
              rw [hxx.out, hb.out]; rfl
            replace IA := Lib.hid IA
            replace huc := Lib.hid huc
            replace hw8 := Lib.hid hw8
            replace hnp := Lib.hid hnp
            clear fA
            go_wp2_with (first
              | (at_builtin; go_must (refine wpList_append_at _ rfl (.tmp 44) (.tmp 58) 57 rfl w.heap.size 65 i0 _ 6 64 Try.underlying57 hi0 hz0 hz1 hz2 rfl (by decide) _ np (P.flatMap PU.cs) rfl ow8 ⟨wr.heap.size, 0, none⟩ 1 1 [.int .i64 k, .int .i64 m.t, .int .i64 m.j, .int .i64 x, .slice none 0 0, .bool false] rfl rfl cn (by intro u hu; simp only [List.mem_cons, List.not_mem_nil, or_false] at hu; rcases hu with rfl | rfl | rfl | rfl | rfl | rfl <;> rfl) ?_ ?_ hw8.out ?_))
              | fail)
            · have := hnp.out; unfold maxLen; omega
            · have := hnp.out; omega
            intro v9 w9 o9 gr9 _
            obtain ⟨a9, c9, rfl⟩ := ownsRow_slice o9
            have f9 : Fr (rowB (.slice pa np pc)) (wr.alloc (.cells #[.int .i64 k, .int .i64 m.t, .int .i64 m.j, .int .i64 x, .slice none 0 0, .bool false] 65)) w9 := (Fr.refl _ _).grown gr9 (fun k hk _ => hk)
            rw [← huc.out] at o9
            have hfin := man_next IA.out _ rfl (by rw [hxx.out]; exact h0) o9 f9 (by omega) hobl.out
            have b9 := f9.blk IA.out.bm (fun q => row_not IA.out.ow IA.out.bm (by decide) q)
            have k9 : w9.cell? ⟨ob + 1, 3, none⟩ = some (.slice pa np pc) := b9.cell 3
            have z9 := b9.frozen 3
            replace hfin := Lib.hid hfin
            clear o9 gr9 f9 b9 cn ow8 IA hI
            go_wp2_with fail
            go_roundg (N - (k + 1))
            case rel => exact ⟨k + 1, np + 1, a9, c9, _, hkn2.out, by go_num, hfin⟩
            case measure => exact hmeas.out
          | true =>
            rw [hlo, Bool.true_and] at hb
            have e5 : ((k : Int) == 0) = b := hb
            clear hb
            have hb : Hid ((m.lo && ((k : Int) == 0)) = b) := Lib.hid (by rw [hlo, Bool.true_and]; exact e5)
            replace hlo := Lib.hid hlo
            have fA : Fr noB wr (wr.alloc (.cells #[.int .i64 k, .int .i64 m.t, .int .i64 m.j, .int .i64 x, .slice none 0 0, .bool b] 65)) := (Fr.refl _ _).alloc _
            have IA : ManI w (wr.alloc (.cells #[.int .i64 k, .int .i64 m.t, .int .i64 m.j, .int .i64 x, .slice none 0 0, .bool b] 65)) m ob (ob + 1) k np pa pc P := hI.out.frN fA
            have cn := news_at wr 65 [.int .i64 k, .int .i64 m.t, .int .i64 m.j, .int .i64 x, .slice none 0 0, .bool b]
            have hw8 : w.heap.size ≤ (wr.alloc (.cells #[.int .i64 k, .int .i64 m.t, .int .i64 m.j, .int .i64 x, .slice none 0 0, .bool b] 65)).heap.size := IA.fr.size
            have ow8 := IA.ow
            have hnp : np ≤ 20 := by have := IA.pk; omega
            have huc : (PU.mk ⟨k, m.t, m.j, m.xs.getD k 0, [], m.lo && ((k : Int) == 0)⟩ none 0).cs = [.int .i64 k, .int .i64 m.t, .int .i64 m.j, .int .i64 x, .slice none 0 0, .bool b] := by
              unfold PU.cs pnC PU.v
              simp only
              rw [hxx.out, hb.out]; rfl
            replace IA := Lib.hid IA
            replace huc := Lib.hid huc
            replace hw8 := Lib.hid hw8
            replace hnp := Lib.hid hnp
            clear fA
            go_wp2_with (first
              | (at_builtin; go_must (refine wpList_append_at _ rfl (.tmp 44) (.tmp 58) 57 rfl w.heap.size 65 i0 _ 6 64 Try.underlying57 hi0 hz0 hz1 hz2 rfl (by decide) _ np (P.flatMap PU.cs) rfl ow8 ⟨wr.heap.size, 0, none⟩ 1 1 [.int .i64 k, .int .i64 m.t, .int .i64 m.j, .int .i64 x, .slice none 0 0, .bool b] rfl rfl cn (by intro u hu; simp only [List.mem_cons, List.not_mem_nil, or_false] at hu; rcases hu with rfl | rfl | rfl | rfl | rfl | rfl <;> rfl) ?_ ?_ hw8.out ?_))
              | fail)
            · have := hnp.out; unfold maxLen; omega
            · have := hnp.out; omega
            intro v9 w9 o9 gr9 _
            obtain ⟨a9, c9, rfl⟩ := ownsRow_slice o9
            have f9 : Fr (rowB (.slice pa np pc)) (wr.alloc (.cells #[.int .i64 k, .int .i64 m.t, .int .i64 m.j, .int .i64 x, .slice none 0 0, .bool b] 65)) w9 := (Fr.refl _ _).grown gr9 (fun k hk _ => hk)
            rw [← huc.out] at o9
            have hfin := man_next IA.out _ rfl (by rw [hxx.out]; exact h0) o9 f9 (by omega) hobl.out
            have b9 := f9.blk IA.out.bm (fun q => row_not IA.out.ow IA.out.bm (by decide) q)
            have k9 : w9.cell? ⟨ob + 1, 3, none⟩ = some (.slice pa np pc) := b9.cell 3
            have z9 := b9.frozen 3
            replace hfin := Lib.hid hfin
            clear o9 gr9 f9 b9 cn ow8 IA hI
            go_wp2_with fail
            go_roundg (N - (k + 1))
            case rel => exact ⟨k + 1, np + 1, a9, c9, _, hkn2.out, by go_num, hfin⟩
            case measure => exact hmeas.out
        · have h0d : decide (0 ≤ x) = false := decide_eq_false h0
          have hfin := Lib.hid (hI.out.skip (by rw [hxx.out]; exact h0))
          replace hb := Lib.hid hb
          replace hlo := Lib.hid hlo
          go_wp2_with fail
          go_roundg (N - (k + 1))
          case rel => exact ⟨k + 1, np, pa, pc, P, hkn2.out, by go_num, hfin⟩
          case measure => exact hmeas.out
      · obtain rfl : k = N := by omega
        have r0 : wr.cell? ⟨ob + 1, 0, none⟩ = some (.int .i64 m.t) := hI.out.bm.cell 0
        have r1 : wr.cell? ⟨ob + 1, 1, none⟩ = some (.int .i64 m.j) := hI.out.bm.cell 1
        have r2 : wr.cell? ⟨ob + 1, 2, none⟩ = some (.int .i64 m.i) := hI.out.bm.cell 2
        go_wp2_with fail
        go_ret
        have hnp : (partsK m m.xs.length).length = np := by rw [hN.out, ← hI.out.pp, List.length_map]; exact hI.out.pl
        refine ⟨pa, pc, by rw [hnp]; rfl, ?_, hI.out.fr⟩
        rw [hnp, hN.out]
        exact RdPsD.of_own hI.out.ow (fun u hu => by
          obtain ⟨h1, h2, h3⟩ := hI.out.pn u hu
          unfold PU.v
          rw [h1, h2, h3]
          exact rdi_nil _) hI.out.pp hI.out.pl (by have := hI.out.pk; omega) (fun g h1 h2 => ⟨by omega, h2⟩) (parts_cr m _)
  · exact h7.elim

/-- where the rows of a call's message lie: in the call's own, or among blocks made since B -/
def MsB (w : World) (B : Nat) (m : OpA) (v : Value) : Prop :=
  (m.k = 6 → v = mChunk m.a m.t m.j m.i m.n (.slice m.sa m.sp.length m.sc)) ∧
  (m.k = 7 → ∃ a c, v = mManifest m.t m.j m.i (.slice a (partsK m m.xs.length).length c) ∧ RdPsD w (fun g => B ≤ g ∧ g < w.heap.size) (.slice a (partsK m m.xs.length).length c) (partsK m m.xs.length))
theorem messageC_any (m : OpA) (w : World) (hs : RdSp w (.slice m.sa m.sp.length m.sc) m.sp) (hx : RdI w (.slice m.ua m.xs.length m.uc) m.xs) (h20 : m.xs.length ≤ 20) :
    Calls Try.prog 9 #[.agg (opaC m).toArray] w fun e w' => ∃ v, e = .returned v ∧ MsO w' v m.ms ∧ MsB w' w.heap.size m v ∧ Fr noB w w' := by
  by_cases h7 : m.k = 7
  · refine (message7 m w h7 hs hx h20).mono ?_
    rintro e w' ⟨a, c, rfl, h1, f⟩
    refine ⟨_, rfl, ?_, ⟨fun q => by omega, fun _ => ⟨a, c, rfl, h1⟩⟩, f⟩
    rw [ms7 h7]
    exact ⟨_, rfl, h1.ps⟩
  · refine (messageB_any m w hs hx h20).mono ?_
    rintro e w' ⟨v, rfl, h1, h2, f⟩
    exact ⟨v, rfl, h1, ⟨h2, fun q => absurd q h7⟩, f⟩
theorem ms_pin {m : OpA} {p : Pn} (h : m.ms = some (.pinned p)) : p.cr = [] := by
  unfold OpA.ms at h
  repeat' (split at h)
  all_goals (first | (injection h with h; injection h with h; subst h; rfl) | (injection h with h; cases h; done) | (cases h; done))
/-- it stays what it is, whatever happens to other blocks -/
theorem MsB.keep {w w' : World} {B M0 : Nat} {S : Nat → Prop} {m : OpA} {v : Value} (h : MsB w B m v) (ho : MsO w v m.ms) (hs : RdSp w (.slice m.sa m.sp.length m.sc) m.sp) (hm : m.sp ≠ [] → ∀ g o, m.sa = some ⟨g, o, none⟩ → g < M0) (f : Fr S w w') (hS : ∀ g, (g < M0 ∨ B ≤ g) → ¬ S g) : MsO w' v m.ms ∧ Own6 m v := by
  refine ⟨?_, h.1⟩
  by_cases h6 : m.k = 6
  · rw [ms6 h6]
    exact ⟨_, h.1 h6, hs.fr1 f (fun hne g o n c e => hS g (Or.inl (hm hne g o (by injection e))))⟩
  · by_cases h7 : m.k = 7
    · obtain ⟨a, c, e, h1⟩ := h.2 h7
      rw [ms7 h7]
      exact ⟨_, e, (h1.fr f (fun g hg => hS g (Or.inr hg.1))).ps⟩
    · cases hx : m.ms with
      | none => rw [hx] at ho; exact ho
      | some x =>
        rw [hx] at ho
        cases x with
        | pinned p =>
          obtain ⟨u, e, hr⟩ := ho
          have hp := ms_pin hx
          refine ⟨u, e, hr.fr1 f (fun hne => absurd hp hne)⟩
        | chunk a t j i n sp =>
          exfalso
          unfold OpA.ms at hx
          repeat' (split at hx)
          all_goals (first | (injection hx with hx; cases hx; done) | (cases hx; done) | (simp_all; done))
        | manifest t j c ps =>
          exfalso
          unfold OpA.ms at hx
          repeat' (split at hx)
          all_goals (first | (injection hx with hx; cases hx; done) | (cases hx; done) | (simp_all; done))
        | _ => exact ho
end Go.Proofs.Ytdfkjigkpcgngaa
