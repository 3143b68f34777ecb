/-
  The message of a call.
-/
import Derived.Test.YtdfkjigkpcgngaaAsmMsg
set_option linter.unusedVariables false
set_option linter.unusedSimpArgs false
set_option maxRecDepth 100000
namespace Go.Proofs.Ytdfkjigkpcgngaa
open Go.RowKit Go Go.Maps Go.Lib

/-- the parts of a call's manifest, up to the k-th count -/
def partsK (m : OpA) (k : Nat) : List Pn := (List.range k).filterMap fun i => if 0 ≤ m.xs.getD i 0 then some ⟨i, m.t, m.j, m.xs.getD i 0, [], m.lo && ((i : Int) == 0)⟩ else none
theorem partsK_succ (m : OpA) (k : Nat) : partsK m (k + 1) = partsK m k ++ (if 0 ≤ m.xs.getD k 0 then [⟨k, m.t, m.j, m.xs.getD k 0, [], m.lo && ((k : Int) == 0)⟩] else []) := by
  unfold partsK
  rw [List.range_succ, List.filterMap_append]
  congr 1
  by_cases h : 0 ≤ m.xs.getD k 0
  · simp only [List.filterMap_cons, List.filterMap_nil, if_pos h]
  · simp only [List.filterMap_cons, List.filterMap_nil, if_neg h]
/-- the message of a call, plainly; none: no message -/
def OpA.ms (m : OpA) : Option Ms :=
  if m.k = 1 then some (.trigger m.a m.t m.i) else if m.k = 2 then some (.pin m.t m.j) else if m.k = 3 then some (.pinned ⟨m.a, m.t, m.j, m.n, [], m.lo⟩) else if m.k = 4 then some (.gone m.a m.t m.j)
  else if m.k = 5 then some (.collect m.t m.j) else if m.k = 6 then some (.chunk m.a m.t m.j m.i m.n m.sp) else if m.k = 7 then some (.manifest m.t m.j m.i (partsK m m.xs.length)) else if m.k = 8 then some (.stored m.t m.j)
  else if m.k = 9 then some (.unpin m.t m.j) else if m.k = 10 then some (.unpinned m.a m.t m.j) else none
def MsO (w : World) (v : Value) : Option Ms → Prop
  | none => v = .nilIface
  | some x => MsW w v x
theorem makeA_any (m : OpA) (w : World) (h7 : m.k ≠ 7) (hs : RdSp w (.slice m.sa m.sp.length m.sc) m.sp) :
    Calls Try.prog 22 #[.int .i64 m.k, .int .i64 m.a, .int .i64 m.t, .int .i64 m.j, .int .i64 m.i, .int .i64 m.n, .slice none 0 0, .bool m.lo, .slice m.sa m.sp.length m.sc] w fun e w' => ∃ v, e = .returned v ∧ MsO w' v m.ms ∧ Fr noB w w' := by
  unfold OpA.ms
  by_cases h0 : m.k < 1 ∨ 10 < m.k
  · iterate 10 rw [if_neg (by omega)]
    exact (make_0 m.k m.a m.t m.j m.i m.n none 0 0 m.lo m.sa _ m.sc w h0).mono fun e w' ⟨h1, h2⟩ => ⟨_, h1, rfl, h2⟩
  rcases (show m.k = 1 ∨ m.k = 2 ∨ m.k = 3 ∨ m.k = 4 ∨ m.k = 5 ∨ m.k = 6 ∨ m.k = 8 ∨ m.k = 9 ∨ m.k = 10 by omega) with h | h | h | h | h | h | h | h | h
  · rw [h]; exact (make_1 m.a m.t m.j m.i m.n none 0 0 m.lo m.sa _ m.sc w).mono fun e w' ⟨h1, h2⟩ => ⟨_, h1, rfl, h2⟩
  · rw [h]; exact (make_2 m.a m.t m.j m.i m.n none 0 0 m.lo m.sa _ m.sc w).mono fun e w' ⟨h1, h2⟩ => ⟨_, h1, rfl, h2⟩
  · rw [h]; exact (make_3 m.a m.t m.j m.i m.n none 0 0 m.lo m.sa _ m.sc w).mono fun e w' ⟨h1, h2⟩ => ⟨_, h1, ⟨_, rfl, rdi_nil _⟩, h2⟩
  · rw [h]; exact (make_4 m.a m.t m.j m.i m.n none 0 0 m.lo m.sa _ m.sc w).mono fun e w' ⟨h1, h2⟩ => ⟨_, h1, rfl, h2⟩
  · rw [h]; exact (make_5 m.a m.t m.j m.i m.n none 0 0 m.lo m.sa _ m.sc w).mono fun e w' ⟨h1, h2⟩ => ⟨_, h1, rfl, h2⟩
  · rw [h]; exact (make_6 m.a m.t m.j m.i m.n none 0 0 m.lo m.sa _ m.sc w).mono fun e w' ⟨h1, h2⟩ => ⟨_, h1, ⟨_, rfl, hs.frN h2⟩, h2⟩
  · rw [h]; exact (make_8 m.a m.t m.j m.i m.n none 0 0 m.lo m.sa _ m.sc w).mono fun e w' ⟨h1, h2⟩ => ⟨_, h1, rfl, h2⟩
  · rw [h]; exact (make_9 m.a m.t m.j m.i m.n none 0 0 m.lo m.sa _ m.sc w).mono fun e w' ⟨h1, h2⟩ => ⟨_, h1, rfl, h2⟩
  · rw [h]; exact (make_10 m.a m.t m.j m.i m.n none 0 0 m.lo m.sa _ m.sc w).mono fun e w' ⟨h1, h2⟩ => ⟨_, h1, rfl, h2⟩
/-- amid the loop over the counts: the manifest so far at block mb, np parts -/
structure ManI (w wr : World) (m : OpA) (ob mb k np : Nat) (pa : Option Addr) (pc : Nat) (P : List PU) : Prop where
  pl : P.length = np
  pk : np ≤ k
  pp : P.map PU.p = partsK m k
  pn : ∀ u ∈ P, u.a = none ∧ u.c = 0 ∧ u.p.cr = []
  bo : Blk wr ob 39 (opaC m)
  bm : Blk wr mb 59 [.int .i64 m.t, .int .i64 m.j, .int .i64 m.i, .slice pa np pc]
  ow : wr.ownsRow w.heap.size 65 6 (.slice pa np pc) np (P.flatMap PU.cs)
  fr : Fr noB w wr
theorem ManI.frN {w wr w' : World} {m : OpA} {ob mb k np : Nat} {pa : Option Addr} {pc : Nat} {P : List PU} (I : ManI w wr m ob mb k np pa pc P) (f : Fr noB wr w') : ManI w w' m ob mb k np pa pc P :=
  ⟨I.pl, I.pk, I.pp, I.pn, f.blk I.bo (fun q => q), f.blk I.bm (fun q => q), ownsRow_fr I.ow f (fun _ _ q => q), I.fr.seqN f⟩
theorem man_next {w w8 w9 : World} {m : OpA} {ob mb k np : Nat} {pa a9 : Option Addr} {pc c9 : Nat} {P : List PU} (I : ManI w w8 m ob mb k np pa pc P) (u : PU)
    (hu : u = ⟨⟨k, m.t, m.j, m.xs.getD k 0, [], m.lo && ((k : Int) == 0)⟩, none, 0⟩) (hx : 0 ≤ m.xs.getD k 0) (o9 : w9.ownsRow w.heap.size 65 6 (.slice a9 (np + 1) c9) (np + 1) (P.flatMap PU.cs ++ u.cs)) (f9 : Fr (rowB (.slice pa np pc)) w8 w9) (hb : ob ≠ mb) (hlo : w.heap.size ≤ mb) :
    ManI w (w9.setCell ⟨mb, 3, none⟩ (.slice a9 (np + 1) c9)) m ob mb (k + 1) (np + 1) a9 c9 (P ++ [u]) := by
  have bm9 := f9.blk I.bm (fun q => row_not I.ow I.bm (by decide) q)
  have bo9 := f9.blk I.bo (fun q => row_not I.ow I.bo (by decide) q)
  have bm10 := bm9.set 3 (.slice a9 (np + 1) c9)
  simp only [List.set_cons_zero, List.set_cons_succ] at bm10
  have s : Fr (onlyB mb) w9 (w9.setCell ⟨mb, 3, none⟩ (.slice a9 (np + 1) c9)) := (Fr.refl _ _).store (onlyB_self mb)
  refine ⟨by rw [List.length_append, I.pl]; rfl, by have := I.pk; omega, ?_, ?_, s.blk bo9 (fun q => hb q), bm10, ?_, ?_⟩
  · rw [List.map_append, I.pp, partsK_succ, if_pos hx, hu]; rfl
  · intro y hy
    rcases List.mem_append.1 hy with h | h
    · exact I.pn y h
    · obtain rfl := List.mem_singleton.1 h; subst hu; exact ⟨rfl, rfl, rfl⟩
  · rw [List.flatMap_append]
    have : [u].flatMap PU.cs = u.cs := by simp
    rw [this]
    exact ownsRow_fr o9 s (fun g hg q => row_not o9 bm9 (by decide) (by unfold onlyB at q; subst q; exact hg))
  · exact (I.fr.trans f9 (fun _ _ q => q) (fun i hi q => by have := (I.ow.lt i q).1; omega)).storeNew hlo
theorem ManI.skip {w wr : World} {m : OpA} {ob mb k np : Nat} {pa : Option Addr} {pc : Nat} {P : List PU} (I : ManI w wr m ob mb k np pa pc P) (hx : ¬ 0 ≤ m.xs.getD k 0) : ManI w wr m ob mb (k + 1) np pa pc P :=
  ⟨I.pl, by have := I.pk; omega, by rw [partsK_succ, if_neg hx, List.append_nil]; exact I.pp, I.pn, I.bo, I.bm, I.ow, I.fr⟩
theorem ManI.rd {w wr : World} {m : OpA} {ob mb k np : Nat} {pa : Option Addr} {pc : Nat} {P : List PU} (I : ManI w wr m ob mb k np pa pc P) (hk : np ≤ 1000000) : RdPs wr (.slice pa np pc) (partsK m k) :=
  RdPs.of_own I.ow (fun u hu => by
    obtain ⟨h1, h2, h3⟩ := I.pn u hu
    unfold PU.v
    rw [h1, h2, h3]
    exact ⟨rfl, Or.inl ⟨rfl, rfl⟩⟩) I.pp I.pl hk
set_option maxHeartbeats 8000000 in
theorem messageA_any (m : OpA) (w : World) (hs : RdSp w (.slice m.sa m.sp.length m.sc) m.sp) (hx : RdI w (.slice m.ua m.xs.length m.uc) m.xs) (h20 : m.xs.length ≤ 20) :
    Calls Try.prog 9 #[.agg (opaC m).toArray] w fun e w' => ∃ v, e = .returned v ∧ MsO w' v m.ms ∧ Fr noB w w' := by
  obtain ⟨ob, hob⟩ : ∃ ob, w.heap.size = ob := ⟨_, rfl⟩
  have f1 : Fr noB w (w.alloc (.cells (opaC m).toArray 39)) := (Fr.refl _ _).alloc _
  have b1 := Blk.new w 39 (opaC m)
  have hs1 : (w.alloc (.cells (opaC m).toArray 39)).heap.size = ob + 1 := by rw [size_alloc, hob]
  rw [hob] at b1
  by_cases h7 : m.k = 7
  · have e0 : m.ms = some (.manifest m.t m.j m.i (partsK m m.xs.length)) := by
      unfold OpA.ms
      iterate 6 rw [if_neg (by omega)]
      rw [if_pos h7]
    rw [e0]
    have fM : Fr noB (w.alloc (.cells (opaC m).toArray 39)) ((w.alloc (.cells (opaC m).toArray 39)).alloc (.cells #[.int .i64 m.t, .int .i64 m.j, .int .i64 m.i, .slice none 0 0] 59)) := (Fr.refl _ _).alloc _
    have bM := Blk.new (w.alloc (.cells (opaC m).toArray 39)) 59 [.int .i64 m.t, .int .i64 m.j, .int .i64 m.i, .slice none 0 0]
    rw [hs1] at bM
    have I0 : ManI w ((w.alloc (.cells (opaC m).toArray 39)).alloc (.cells #[.int .i64 m.t, .int .i64 m.j, .int .i64 m.i, .slice none 0 0] 59)) m ob (ob + 1) 0 0 none 0 [] := ⟨rfl, Nat.le_refl _, rfl, fun u hu => (by cases hu), fM.blk b1 (fun q => q), bM, ⟨rfl, Or.inl ⟨rfl, rfl⟩⟩, f1.seqN fM⟩
    have ek : ((7 : Int) != 7) = false := by decide
    have k7 : (w.alloc (.cells (opaC m).toArray 39)).cell? ⟨ob, 0, none⟩ = some (.int .i64 7) := by rw [← h7]; exact b1.cell 0
    obtain ⟨N, hN⟩ : ∃ N, m.xs.length = N := ⟨_, rfl⟩
    have hxc : ∀ w', Fr noB w w' → ∀ i, i < N → ∃ g o, m.ua = some ⟨g, o, none⟩ ∧ w'.cell? ⟨g, o + i, none⟩ = some (.int .i64 (m.xs.getD i 0)) := fun w' f i hi => by
      obtain ⟨a, c, e, _, _, h3⟩ := hx
      injection e with e1 _ _
      subst e1
      obtain ⟨g, o, e2, h4⟩ := h3 i (by omega)
      exact ⟨g, o, e2, f.cell h4 (fun q => q)⟩
    have hNc : N ≤ m.uc := by
      obtain ⟨a, c, e, _, h2, _⟩ := hx
      injection e with _ _ e3
      omega
    have o7 : ∀ k np pa pc P wr, ManI w wr m ob (ob + 1) k np pa pc P → wr.cell? ⟨ob, 2, none⟩ = some (.int .i64 m.t) ∧ wr.cell? ⟨ob, 3, none⟩ = some (.int .i64 m.j) ∧ wr.cell? ⟨ob, 4, none⟩ = some (.int .i64 m.i) ∧ wr.cell? ⟨ob, 7, none⟩ = some (.slice m.ua N m.uc) ∧ wr.cell? ⟨ob, 8, none⟩ = some (.bool m.lo) := fun k np pa pc P wr I => ⟨I.bo.cell 2, I.bo.cell 3, I.bo.cell 4, by rw [← hN]; exact I.bo.cell 7, I.bo.cell 8⟩
    obtain ⟨i0, hi0, hz0, hz1, hz2⟩ := info_parts infoPinC
    obtain ⟨p2, p3, p4, p7, p8⟩ := o7 _ _ _ _ _ _ I0
    have y2 : (w.alloc (.cells (opaC m).toArray 39)).cell? ⟨ob, 2, none⟩ = some (.int .i64 m.t) := b1.cell 2
    have y3 : (w.alloc (.cells (opaC m).toArray 39)).cell? ⟨ob, 3, none⟩ = some (.int .i64 m.j) := b1.cell 3
    have y4 : (w.alloc (.cells (opaC m).toArray 39)).cell? ⟨ob, 4, none⟩ = some (.int .i64 m.i) := b1.cell 4
    rw [hN] at h20
    have hone : ∀ u ∈ opaC m, u.oneCell' = true := by
      intro u hu
      unfold opaC at hu
      simp only [List.mem_cons, List.not_mem_nil, or_false] at hu
      rcases hu with rfl | rfl | rfl | rfl | rfl | rfl | rfl | rfl | rfl <;> rfl
    replace h7 := Lib.hid h7
    replace I0 := Lib.hid I0
    replace hxc := Lib.hid hxc
    replace o7 := Lib.hid o7
    replace hN := Lib.hid hN
    clear hs hx fM bM f1 e0
    unfold opaC
    unfold opaC at hs1 k7 p2 p3 p4 p7 p8 y2 y3 y4 I0
    obtain ⟨ua, hua⟩ : ∃ ua, m.ua = ua := ⟨_, rfl⟩
    rw [hua] at hs1 k7 p2 p3 p4 p7 p8 y2 y3 y4 I0 ⊢
    go_enter Try.func9, Try.ntmps9
    go_upto_region 4 with fail
    generalize ((w.alloc (.cells #[.int .i64 m.k, .int .i64 m.a, .int .i64 m.t, .int .i64 m.j, .int .i64 m.i, .int .i64 m.n, .slice m.sa m.sp.length m.sc, .slice ua m.xs.length m.uc, .bool m.lo] 39)).alloc (.cells #[.int .i64 m.t, .int .i64 m.j, .int .i64 m.i, .slice none 0 0] 59)) = w2 at *
    clear y2 y3 y4 k7 hs1 b1 p2 p3 p4 p8
    have hobl : Hid (w.heap.size ≤ ob + 1) := Lib.hid (by omega)
    replace hob := Lib.hid hob
    replace hua := Lib.hid hua
    go_wp2_with fail
    go_loopg [36] N (fun gk i wr => ∃ (k np : Nat) (pa : Option Addr) (pc : Nat) (P : List PU), k + gk = N ∧ i = .int .i64 k ∧ Hid (ManI w wr m ob (ob + 1) k np pa pc P))
    case atStart => exact ⟨0, 0, none, 0, [], Nat.zero_add _, rfl, I0⟩
    case round =>
      clear p7 I0
      obtain ⟨k, np, pa, pc, P, hk, rfl, hI⟩ := hrel
      obtain ⟨q2, q3, q4, q7, q8⟩ := o7.out _ _ _ _ _ _ hI.out
      have q13 : wr.cell? ⟨ob + 1, 3, none⟩ = some (.slice pa np pc) := hI.out.bm.cell 3
      by_cases hlt : k < N
      · obtain ⟨g, o, hua2, hcx⟩ := hxc.out wr hI.out.fr k hlt
        rw [hua.out] at hua2 q7
        subst hua2
        obtain ⟨x, hxx⟩ : ∃ x, m.xs.getD k 0 = x := ⟨_, rfl⟩
        obtain ⟨b, hb⟩ : ∃ b, (m.lo && ((k : Int) == 0)) = b := ⟨_, rfl⟩
        obtain ⟨lo, hlo⟩ : ∃ lo, m.lo = lo := ⟨_, rfl⟩
        rw [hxx] at hcx
        rw [hlo] at q8
        have hb1 : (k : Int) < N := by omega
        have hmeas : N - (k + 1) < gk := by omega
        have hkn2 : k + 1 + (N - (k + 1)) = N := by omega
        replace hxx := Lib.hid hxx
        replace hmeas := Lib.hid hmeas
        replace hkn2 := Lib.hid hkn2
        clear hk q4
        by_cases h0 : 0 ≤ x
        · have h0d : decide (0 ≤ x) = true := decide_eq_true h0
          cases lo with
          | false =>
            rw [hlo, Bool.false_and] at hb
            subst hb
            have hb : Hid ((m.lo && ((k : Int) == 0)) = false) := Lib.hid (by rw [hlo]; rfl)
            replace hlo := Lib.hid hlo
            have fA : Fr noB wr (wr.alloc (.cells #[.int .i64 k, .int .i64 m.t, .int .i64 m.j, .int .i64 x, .slice none 0 0, .bool false] 65)) := (Fr.refl _ _).alloc _
            have IA : ManI w (wr.alloc (.cells #[.int .i64 k, .int .i64 m.t, .int .i64 m.j, .int .i64 x, .slice none 0 0, .bool false] 65)) m ob (ob + 1) k np pa pc P := hI.out.frN fA
            have cn := news_at wr 65 [.int .i64 k, .int .i64 m.t, .int .i64 m.j, .int .i64 x, .slice none 0 0, .bool false]
            have hw8 : w.heap.size ≤ (wr.alloc (.cells #[.int .i64 k, .int .i64 m.t, .int .i64 m.j, .int .i64 x, .slice none 0 0, .bool false] 65)).heap.size := IA.fr.size
            have ow8 := IA.ow
            have hnp : np ≤ 20 := by have := IA.pk; omega
            have huc : (PU.mk ⟨k, m.t, m.j, m.xs.getD k 0, [], m.lo && ((k : Int) == 0)⟩ none 0).cs = [.int .i64 k, .int .i64 m.t, .int .i64 m.j, .int .i64 x, .slice none 0 0, .bool false] := by
              unfold PU.cs pnC PU.v
              simp only
              rw [hxx.out, hb.out]; rfl
            replace IA := Lib.hid IA
            replace huc := Lib.hid huc
            replace hw8 := Lib.hid hw8
            replace hnp := Lib.hid hnp
            clear fA
            go_wp2_with (first
              | (at_builtin; go_must (refine wpList_append_at _ rfl (.tmp 44) (.tmp 58) 57 rfl w.heap.size 65 i0 _ 6 64 Try.underlying57 hi0 hz0 hz1 hz2 rfl (by decide) _ np (P.flatMap PU.cs) rfl ow8 ⟨wr.heap.size, 0, none⟩ 1 1 [.int .i64 k, .int .i64 m.t, .int .i64 m.j, .int .i64 x, .slice none 0 0, .bool false] rfl rfl cn (by intro u hu; simp only [List.mem_cons, List.not_mem_nil, or_false] at hu; rcases hu with rfl | rfl | rfl | rfl | rfl | rfl <;> rfl) ?_ ?_ hw8.out ?_))
              | fail)
            · have := hnp.out; unfold maxLen; omega
            · have := hnp.out; omega
            intro v9 w9 o9 gr9 _
            obtain ⟨a9, c9, rfl⟩ := ownsRow_slice o9
            have f9 : Fr (rowB (.slice pa np pc)) (wr.alloc (.cells #[.int .i64 k, .int .i64 m.t, .int .i64 m.j, .int .i64 x, .slice none 0 0, .bool false] 65)) w9 := (Fr.refl _ _).grown gr9 (fun k hk _ => hk)
            rw [← huc.out] at o9
            have hfin := man_next IA.out _ rfl (by rw [hxx.out]; exact h0) o9 f9 (by omega) hobl.out
            have b9 := f9.blk IA.out.bm (fun q => row_not IA.out.ow IA.out.bm (by decide) q)
            have k9 : w9.cell? ⟨ob + 1, 3, none⟩ = some (.slice pa np pc) := b9.cell 3
            have z9 := b9.frozen 3
            replace hfin := Lib.hid hfin
            clear o9 gr9 f9 b9 cn ow8 IA hI
            go_wp2_with fail
            go_roundg (N - (k + 1))
            case rel => exact ⟨k + 1, np + 1, a9, c9, _, hkn2.out, by go_num, hfin⟩
            case measure => exact hmeas.out
          | true =>
            rw [hlo, Bool.true_and] at hb
            have e5 : ((k : Int) == 0) = b := hb
            clear hb
            have hb : Hid ((m.lo && ((k : Int) == 0)) = b) := Lib.hid (by rw [hlo, Bool.true_and]; exact e5)
            replace hlo := Lib.hid hlo
            have fA : Fr noB wr (wr.alloc (.cells #[.int .i64 k, .int .i64 m.t, .int .i64 m.j, .int .i64 x, .slice none 0 0, .bool b] 65)) := (Fr.refl _ _).alloc _
            have IA : ManI w (wr.alloc (.cells #[.int .i64 k, .int .i64 m.t, .int .i64 m.j, .int .i64 x, .slice none 0 0, .bool b] 65)) m ob (ob + 1) k np pa pc P := hI.out.frN fA
            have cn := news_at wr 65 [.int .i64 k, .int .i64 m.t, .int .i64 m.j, .int .i64 x, .slice none 0 0, .bool b]
            have hw8 : w.heap.size ≤ (wr.alloc (.cells #[.int .i64 k, .int .i64 m.t, .int .i64 m.j, .int .i64 x, .slice none 0 0, .bool b] 65)).heap.size := IA.fr.size
            have ow8 := IA.ow
            have hnp : np ≤ 20 := by have := IA.pk; omega
            have huc : (PU.mk ⟨k, m.t, m.j, m.xs.getD k 0, [], m.lo && ((k : Int) == 0)⟩ none 0).cs = [.int .i64 k, .int .i64 m.t, .int .i64 m.j, .int .i64 x, .slice none 0 0, .bool b] := by
              unfold PU.cs pnC PU.v
              simp only
              rw [hxx.out, hb.out]; rfl
            replace IA := Lib.hid IA
            replace huc := Lib.hid huc
            replace hw8 := Lib.hid hw8
            replace hnp := Lib.hid hnp
            clear fA
            go_wp2_with (first
              | (at_builtin; go_must (refine wpList_append_at _ rfl (.tmp 44) (.tmp 58) 57 rfl w.heap.size 65 i0 _ 6 64 Try.underlying57 hi0 hz0 hz1 hz2 rfl (by decide) _ np (P.flatMap PU.cs) rfl ow8 ⟨wr.heap.size, 0, none⟩ 1 1 [.int .i64 k, .int .i64 m.t, .int .i64 m.j, .int .i64 x, .slice none 0 0, .bool b] rfl rfl cn (by intro u hu; simp only [List.mem_cons, List.not_mem_nil, or_false] at hu; rcases hu with rfl | rfl | rfl | rfl | rfl | rfl <;> rfl) ?_ ?_ hw8.out ?_))
              | fail)
            · have := hnp.out; unfold maxLen; omega
            · have := hnp.out; omega
            intro v9 w9 o9 gr9 _
            obtain ⟨a9, c9, rfl⟩ := ownsRow_slice o9
            have f9 : Fr (rowB (.slice pa np pc)) (wr.alloc (.cells #[.int .i64 k, .int .i64 m.t, .int .i64 m.j, .int .i64 x, .slice none 0 0, .bool b] 65)) w9 := (Fr.refl _ _).grown gr9 (fun k hk _ => hk)
            rw [← huc.out] at o9
            have hfin := man_next IA.out _ rfl (by rw [hxx.out]; exact h0) o9 f9 (by omega) hobl.out
            have b9 := f9.blk IA.out.bm (fun q => row_not IA.out.ow IA.out.bm (by decide) q)
            have k9 : w9.cell? ⟨ob + 1, 3, none⟩ = some (.slice pa np pc) := b9.cell 3
            have z9 := b9.frozen 3
            replace hfin := Lib.hid hfin
            clear o9 gr9 f9 b9 cn ow8 IA hI
            go_wp2_with fail
            go_roundg (N - (k + 1))
            case rel => exact ⟨k + 1, np + 1, a9, c9, _, hkn2.out, by go_num, hfin⟩
            case measure => exact hmeas.out
        · have h0d : decide (0 ≤ x) = false := decide_eq_false h0
          have hfin := Lib.hid (hI.out.skip (by rw [hxx.out]; exact h0))
          replace hb := Lib.hid hb
          replace hlo := Lib.hid hlo
          go_wp2_with fail
          go_roundg (N - (k + 1))
          case rel => exact ⟨k + 1, np, pa, pc, P, hkn2.out, by go_num, hfin⟩
          case measure => exact hmeas.out
      · obtain rfl : k = N := by omega
        have r0 : wr.cell? ⟨ob + 1, 0, none⟩ = some (.int .i64 m.t) := hI.out.bm.cell 0
        have r1 : wr.cell? ⟨ob + 1, 1, none⟩ = some (.int .i64 m.j) := hI.out.bm.cell 1
        have r2 : wr.cell? ⟨ob + 1, 2, none⟩ = some (.int .i64 m.i) := hI.out.bm.cell 2
        go_wp2_with fail
        go_ret
        refine ⟨mManifest m.t m.j m.i (.slice pa np pc), rfl, ⟨.slice pa np pc, rfl, ?_⟩, hI.out.fr⟩
        rw [hN.out]
        exact hI.out.rd (by have := hI.out.pk; omega)
  · have hmk := makeA_any m (w.alloc (.cells (opaC m).toArray 39)) h7 (hs.frN f1)
    have ek : (m.k != 7) = true := by simpa using h7
    have y0 : (w.alloc (.cells (opaC m).toArray 39)).cell? ⟨ob, 0, none⟩ = some (.int .i64 m.k) := b1.cell 0
    have y1 : (w.alloc (.cells (opaC m).toArray 39)).cell? ⟨ob, 1, none⟩ = some (.int .i64 m.a) := b1.cell 1
    have y2 : (w.alloc (.cells (opaC m).toArray 39)).cell? ⟨ob, 2, none⟩ = some (.int .i64 m.t) := b1.cell 2
    have y3 : (w.alloc (.cells (opaC m).toArray 39)).cell? ⟨ob, 3, none⟩ = some (.int .i64 m.j) := b1.cell 3
    have y4 : (w.alloc (.cells (opaC m).toArray 39)).cell? ⟨ob, 4, none⟩ = some (.int .i64 m.i) := b1.cell 4
    have y5 : (w.alloc (.cells (opaC m).toArray 39)).cell? ⟨ob, 5, none⟩ = some (.int .i64 m.n) := b1.cell 5
    have y6 : (w.alloc (.cells (opaC m).toArray 39)).cell? ⟨ob, 6, none⟩ = some (.slice m.sa m.sp.length m.sc) := b1.cell 6
    have y8 : (w.alloc (.cells (opaC m).toArray 39)).cell? ⟨ob, 8, none⟩ = some (.bool m.lo) := b1.cell 8
    replace h7 := Lib.hid h7
    replace f1 := Lib.hid f1
    clear hs hx h20 b1 hs1
    unfold opaC at hmk y0 y1 y2 y3 y4 y5 y6 y8 ⊢
    replace hmk := Lib.hid hmk
    go_enter Try.func9, Try.ntmps9
    go_wp2_with fail
    go_fit hmk.out
    rintro e w1 ⟨v, rfl, hv, f2⟩
    have fz := Lib.hid (f1.out.seqN f2)
    replace hv := Lib.hid hv
    clear hmk f2
    go_wp2_with fail
    go_ret
    exact ⟨v, rfl, hv.out, fz.out⟩
end Go.Proofs.Ytdfkjigkpcgngaa
