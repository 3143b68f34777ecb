/-
  The document's pool, by definition: a trace is dropped.
-/
import Derived.Test.YtnecglghinpgmaaRefNew
import Derived.Shelf.RegionOpenPlain
set_option linter.unusedVariables false
set_option linter.unusedSimpArgs false
namespace Go.Proofs.Ytnecglghinpgmaa
open Go.RowKit Go Go.Maps Go.Lib

/-- What is read of a row by 'xs[:i]' and 'xs[i+1:]', wherever nothing old has turned. -/
theorem row_parts {w : World} {B e : Nat} {g c n : Nat} {cs : List Value} (h : w.ownsRow B e 1 (.slice (some ⟨g, 0, none⟩) n c) n cs) (i : Nat) (hi : i < n) :
    ∃ A : Addr, (if c = i + 1 then some (⟨g, 0, none⟩ : Addr) else some ⟨g, i + 1, none⟩) = some A ∧
    (∀ w', Fr noB w w' → ∀ j u, (cs.take i)[j]? = some u → w'.cell? ((⟨g, 0, none⟩ : Addr).add j) = some u) ∧
    (∀ w', Fr noB w w' → ∀ j u, (cs.drop (i + 1))[j]? = some u → w'.cell? (A.add j) = some u) := by
  have hc : ∀ w', Fr noB w w' → ∀ j u, cs[j]? = some u → w'.cell? ⟨g, j, none⟩ = some u := fun w' f j u hu => by
    have := h.cells rfl j u hu
    rw [Addr.add_lit, Nat.zero_add] at this
    exact f.cell this (fun q => q)
  have hl : cs.length = n := by have := h.1; omega
  by_cases hq : c = i + 1
  · refine ⟨⟨g, 0, none⟩, by simp [hq], fun w' f j u hu => ?_, fun w' f j u hu => ?_⟩
    · rw [Addr.add_lit, Nat.zero_add]
      exact hc w' f j u (by
        have := (List.getElem?_eq_some_iff.1 hu).1
        simp at this
        rwa [List.getElem?_take_of_lt (by omega)] at hu)
    · have h2 := (List.getElem?_eq_some_iff.1 hu).1
      have h3 : n ≤ c := by
        rcases h.2 with ⟨e1, _⟩ | ⟨_, _, _, e1, _, _, e4, _⟩
        · cases e1
        · cases e1; exact e4
      simp at h2
      omega
  · refine ⟨⟨g, i + 1, none⟩, by simp [hq], fun w' f j u hu => ?_, fun w' f j u hu => ?_⟩
    · rw [Addr.add_lit, Nat.zero_add]
      exact hc w' f j u (by
        have := (List.getElem?_eq_some_iff.1 hu).1
        simp at this
        rwa [List.getElem?_take_of_lt (by omega)] at hu)
    · rw [Addr.add_lit]
      rw [List.getElem?_drop] at hu
      exact hc w' f _ u hu
theorem row_cap {w : World} {B e k : Nat} {g c n : Nat} {cs : List Value} (h : w.ownsRow B e k (.slice (some ⟨g, 0, none⟩) n c) n cs) : n ≤ c ∧ c ≤ 9223372036854775807 := by
  rcases h.2 with ⟨e1, _⟩ | ⟨_, _, _, e1, _, _, e4, e5, _⟩
  · cases e1
  · cases e1; unfold maxLen at e5; exact ⟨e4, by omega⟩

theorem rpdrop_no (g B N : Nat) (P : TP) (vt vs : Value) (V : List Value) (t : Int) (w : World) (h : Rq w g B N P vt vs V) (hno : ∀ p ∈ P, p.1 ≠ t) :
    Calls Try.prog 36 #[.pointer (some ⟨g, 0, none⟩), .int .i64 t] w fun e w' => e = .returned (.int .i64 0) ∧ w' = w := by
  have hf := rfind_any g B N P vt vs V t (-1) w h (Or.inr ⟨hno, rfl⟩)
  clear h hno
  go_enter Try.func36, Try.ntmps36
  go_wp2_with fail
  refine hf.mono ?_
  rintro e w1 ⟨rfl, hw1⟩
  obtain rfl := hw1.symm
  clear hf hw1
  go_wp2_with fail
  go_ret
  exact ⟨rfl, rfl⟩

theorem VFrom.parts {D i j : Nat} {VA : List Value} : VFrom D VA (VA.take i ++ VA.drop j) := fun z hz => by
  rcases List.mem_append.1 hz with q | q
  · exact Or.inl (List.mem_of_mem_take q)
  · exact Or.inl (List.mem_of_mem_drop q)
set_option maxRecDepth 10000 in
set_option maxHeartbeats 4000000 in
theorem rpdrop_at (g B N : Nat) (P : TP) (vt vs : Value) (V : List Value) (S : Nat → Prop) (i : Nat) (p : Int × List ByteArray) (w : World) (h : Rq w g B N P vt vs V) (hS : ∀ q, rqS g vt vs V q → S q) (hip : P[i]? = some p) :
    Calls Try.prog 36 #[.pointer (some ⟨g, 0, none⟩), .int .i64 p.1] w fun e w' => (∃ m : Int, e = .returned (.int .i64 m)) ∧ Rp w' g B N (without P p.1) (nx S w w') ∧ Fr S w w' := by
  obtain ⟨i0, hi0, hz0, hz1, hz2⟩ : ∃ i0, Try.prog.info? 3 = some i0 ∧ i0.zero = some (.int .i64 0) ∧ i0.size = 1 ∧ i0.bytes = 8 := by
    have hI := infoIntR
    cases hq : Try.prog.info? 3 with
    | none => rw [hq] at hI; cases hI
    | some k => rw [hq] at hI; simp at hI; exact ⟨k, rfl, hI⟩
  obtain ⟨j0, hj0, hy0, hy1, hy2⟩ : ∃ i0, Try.prog.info? 48 = some i0 ∧ i0.zero = some (.slice none 0 0) ∧ i0.size = 1 ∧ i0.bytes = 24 := by
    have hI := infoSlSp
    cases hq : Try.prog.info? 48 with
    | none => rw [hq] at hI; cases hI
    | some k => rw [hq] at hI; simp at hI; exact ⟨k, rfl, hI⟩
  have hf := rfind_any g B N P vt vs V p.1 i w h (Or.inl ⟨i, p, hip, rfl, rfl⟩)
  have hil := (List.getElem?_eq_some_iff.1 hip).1
  obtain ⟨v, hv⟩ : ∃ v, V[i]? = some v := ⟨_, List.getElem?_eq_getElem (by rw [h.rd.1]; exact hil)⟩
  obtain ⟨va, vc, rfl⟩ := (h.rd.2 i p v hip hv).form
  have hbu := buffers_any p.2.length w (by have := h.xl (List.mem_of_getElem? hip); omega)
  have hVl : V.length = P.length := h.rd.1
  have hVsl : ∀ z ∈ V, z.oneCell' = true := fun z hz => by
    obtain ⟨j, hj, rfl⟩ := List.getElem_of_mem hz
    obtain ⟨a, c, e⟩ := (h.rd.2 j _ _ (List.getElem?_eq_getElem (show j < P.length by omega)) (List.getElem?_eq_getElem hj)).form
    rw [e]; rfl
  obtain ⟨aT, cT, rfl⟩ := ownsRow_slice h.rt
  obtain ⟨aS, cS, rfl⟩ := ownsRow_slice h.rs
  have hpl := h.pl
  obtain ⟨gT, rfl, _⟩ := own_at h.rt (i := i) (x := .int .i64 p.1) (by simp [rowV, hip])
  obtain ⟨gS, rfl, e1⟩ := own_at h.rs hv
  have hcapT := row_cap h.rt
  have hcapS := row_cap h.rs
  obtain ⟨A, hA, hr1, hr2⟩ := row_parts h.rt i hil
  have hew := erase_without h.ris hip
  have hbl := h.blk
  have hrt := h.rt
  have hrs := h.rs
  have hle' : Hid (used (without P p.1) ≤ N) := Lib.hid (by have := used_drop P p.1 h.ris; have := h.le; omega)
  have hris' := Lib.hid (ris_drop h.ris p.1)
  have hne' : Hid (∀ q ∈ without P p.1, q.2 ≠ []) := Lib.hid (fun q hq => h.ne q (mem_without.1 hq).1)
  have hgB := h.gB
  have hBw := h.Bw
  have hrd := Lib.hid (h.rd.erase hil)
  obtain ⟨X, hX⟩ : ∃ X, X = P.map (·.1) := ⟨_, rfl⟩
  rw [← hX] at hr1 hr2 hrt
  have hXl : X.length = P.length := by rw [hX]; simp
  have hXe : Hid (X.take i ++ X.drop (i + 1) = (without P p.1).map (·.1)) := Lib.hid (by rw [hX, ← hew, List.map_append, List.map_take, List.map_drop])
  have hnl : ((rowV X).take i).length = i * 1 ∧ ((rowV X).drop (i + 1)).length = (P.length - (i + 1)) * 1 := by unfold rowV; simp; omega
  have hone : (∀ u ∈ (rowV X).take i, u.oneCell' = true) ∧ (∀ u ∈ (rowV X).drop (i + 1), u.oneCell' = true) := by
    constructor <;> intro u hu
    · have := List.mem_of_mem_take hu; unfold rowV at this; simp at this; obtain ⟨_, _, rfl⟩ := this; rfl
    · have := List.mem_of_mem_drop hu; unfold rowV at this; simp at this; obtain ⟨_, _, rfl⟩ := this; rfl
  have hwl : Hid ((without P p.1).length = i + (P.length - (i + 1))) := Lib.hid (by rw [← hew]; simp; omega)
  obtain ⟨t, ht⟩ : ∃ t, t = p.1 := ⟨_, rfl⟩
  rw [← ht] at hf hle' hris' hne' hXe hwl ⊢
  obtain ⟨L, hL⟩ : ∃ L, L = p.2.length := ⟨_, rfl⟩
  rw [← hL] at hbu hv e1
  have hXe' : Hid ((rowV X).take i ++ (rowV X).drop (i + 1) = rowV ((without P t).map (·.1))) := Lib.hid (by rw [← hXe.out]; unfold rowV; rw [List.map_append, List.map_take, List.map_drop])
  have hVg : Hid (∀ z ∈ V, ∀ q, z.ownBlock = some q → q ≠ g) := Lib.hid (fun z hz q hq e => by
    subst e
    obtain ⟨j, hj, rfl⟩ := List.getElem_of_mem hz
    obtain ⟨cs, hc⟩ := row_typeR (h.rd.2 j _ _ (List.getElem?_eq_getElem (show j < P.length by have := h.rd.1; omega)) (List.getElem?_eq_getElem hj)) hq
    have hb0 := h.blk
    unfold Blk at hb0
    rw [hc] at hb0
    simp at hb0)
  have hew' : Hid (P.take i ++ P.drop (i + 1) = without P t) := Lib.hid (by rw [ht]; exact hew)
  obtain ⟨n, hn⟩ : ∃ n, n = P.length := ⟨_, rfl⟩
  rw [← hn] at hil hVl hpl hcapT hcapS hnl hwl hXl hrt hrs
  have c1 : w.cell? ⟨g, 1, none⟩ = some (.slice (some ⟨gT, 0, none⟩) n cT) := by rw [hn]; exact hbl.cell 1
  have c2 : w.cell? ⟨g, 2, none⟩ = some (.slice (some ⟨gS, 0, none⟩) n cS) := by rw [hn]; exact hbl.cell 2
  have bl := Lib.hid hbl
  replace hL := Lib.hid hL
  replace ht := Lib.hid ht
  replace hn := Lib.hid hn
  replace hX := Lib.hid hX
  replace hXl := Lib.hid hXl
  replace hr1 := Lib.hid hr1
  replace hr2 := Lib.hid hr2
  replace hnl := Lib.hid hnl
  replace hone := Lib.hid hone
  replace hVl := Lib.hid hVl
  replace hVsl := Lib.hid hVsl
  replace hrt := Lib.hid hrt
  replace hrs := Lib.hid hrs
  replace h := Lib.hid h
  replace hS := Lib.hid hS
  clear hew hv hip hbl
  have hO : (w.drew.alloc (.cells #[] 3)).ownsRow w.heap.size 3 1 (.slice (some ⟨w.heap.size, 0, none⟩) 0 0) 0 [] := own_new w.drew 3 [] 1 0 rfl (Nat.zero_le _)
  have fO : Fr noB w (w.drew.alloc (.cells #[] 3)) := (Fr.refl noB w).drew.alloc _
  have c1A : (w.alloc (.cells #[] 3)).cell? ⟨g, 1, none⟩ = some (.slice (some ⟨gT, 0, none⟩) n cT) := fO.cell c1 (fun q => q)
  have hwr : IntKind.i64.wrap ((i : Int) + 1) = (i : Int) + 1 := by rw [IntKind.wrap_i64]; omega
  have hic : i ≤ cT := by omega
  have hic1 : i + 1 ≤ cT := by omega
  have hin1 : (0 : Int) ≤ (i : Int) + 1 := by omega
  have hin2 : (i : Int) + 1 ≤ (n : Int) := by omega
  have hin0 : (0 : Int) ≤ (i : Int) := by omega
  have hin3 : (i : Int) < (n : Int) := by omega
  have hd : decide ((i : Int) < 0) = false := by simp
  have mixed : Try.prog.follows Departure.mixedOrders = true := by kernel_rfl
  go_enter Try.func36, Try.ntmps36
  go_wp2_with fail
  refine hf.mono ?_
  rintro e w1 ⟨rfl, hw1⟩
  obtain rfl := hw1.symm
  clear hf hw1
  go_wp2_with fail
  refine hbu.mono ?_
  rintro e w1 ⟨rfl, hw1⟩
  obtain rfl := hw1.symm
  clear hbu hw1 c2 e1
  go_wp2_with fail
  go_cut [] (fun wx => ∃ a2 k2, Blk wx g 55 [.int .i64 N, .slice a2 (i + (n - (i + 1))) k2, .slice (some ⟨gS, 0, none⟩) n cS] ∧ wx.ownsRow w.heap.size 3 1 (.slice a2 (i + (n - (i + 1))) k2) (i + (n - (i + 1))) ((rowV X).take i ++ (rowV X).drop (i + 1)) ∧ Fr (onlyB g) w wx)
  case first =>
    go_region_law_o (first
      | (refine step_append_at rfl (.tmp 22) (.tmp 28) 44 rfl w.heap.size 3 i0 _ 1 8 Try.underlying44 hi0 hz0 hz1 hz2 rfl (by omega) (.slice (some ⟨w.heap.size, 0, none⟩) 0 0) 0 [] (by simp [Act.eval, Act.put]) hO ⟨gT, 0, none⟩ i cT _ (by simp [Act.eval, Act.put]) hnl.out.1 (hr1.out _ fO) hone.out.1 (by unfold maxLen; omega) (by omega) fO.size ?_; intro v1 w1 o1 gr1 _mv1; have f1 := fO.grown gr1 (fun q hq hlt => by simp [Value.ownBlock] at hq; omega); have c01 : w1.cell? ⟨g, 1, none⟩ = some (.slice (some ⟨gT, 0, none⟩) n cT) := f1.cell c1 (fun q => q))
      | (refine step_append_at rfl (.tmp 29) (.tmp 36) 44 rfl w.heap.size 3 i0 _ 1 8 Try.underlying44 hi0 hz0 hz1 hz2 rfl (by omega) v1 _ _ (by simp [Act.eval, Act.put]) o1 A (n - (i + 1)) (cT - (i + 1)) _ (by simp [Act.eval, Act.put, hA]) hnl.out.2 (hr2.out _ f1) hone.out.2 (by unfold maxLen; omega) (by omega) f1.size ?_; intro v2 w2 o2 gr2 _mv2; obtain ⟨a2, k2, rfl⟩ := ownsRow_slice o2; have f2 := f1.grown gr2 (fun q hq hlt => by have := (o1.lt q hq).1; omega); have b2 := f2.blk bl.out (fun q => q); rw [← hn.out] at b2; have fz2 := b2.frozen 1; have c02 : w2.cell? ⟨g, 1, none⟩ = some (.slice (some ⟨gT, 0, none⟩) n cT) := b2.cell 1)
      | fail)
    all_goals (
      rw [Nat.zero_add, List.nil_append] at o2
      have b3 := b2.set 1 (.slice a2 (i + (n - (i + 1))) k2)
      have o3 := ownsRow_fr o2 ((Fr.refl (onlyB g) w2).store (g := g) (i := 1) (v := .slice a2 (i + (n - (i + 1))) k2) (onlyB_self g)) (fun q hq => by have := (o2.lt q hq).1; unfold onlyB; omega)
      have f3 : Fr (onlyB g) w _ := (f2.mono (fun _ _ z => False.elim z)).store (g := g) (i := 1) (v := .slice a2 (i + (n - (i + 1))) k2) (onlyB_self g)
      go_wp2_with fail
      go_meet
      exact ⟨_, _, b3, o3, f3⟩)
  case rest =>
    obtain ⟨a2, k2, b3, o3, f3⟩ := hcut
    obtain ⟨W, hW⟩ : ∃ x, x = wc := ⟨_, rfl⟩
    rw [← hW] at b3 o3 f3 ⊢
    clear hW
    clear c1 c1A hO fO hr1 hr2 hnl hone hA hd
    have c5 : W.cell? ⟨g, 2, none⟩ = some (.slice (some ⟨gS, 0, none⟩) n cS) := b3.cell 2
    have hgS : B ≤ gS := (hrs.out.lt gS rfl).1
    have oS := ownsRow_fr hrs.out f3 (fun q hq => by cases hq; show ¬ gS = g; omega)
    obtain ⟨A5, hA5, hr1, hr2⟩ := row_parts oS i hil
    have hnl : (V.take i).length = i * 1 ∧ (V.drop (i + 1)).length = (n - (i + 1)) * 1 := by have := hVl.out; rw [List.length_take, List.length_drop, this]; omega
    have hone : (∀ u ∈ V.take i, u.oneCell' = true) ∧ (∀ u ∈ V.drop (i + 1), u.oneCell' = true) := ⟨fun u hu => hVsl.out u (List.mem_of_mem_take hu), fun u hu => hVsl.out u (List.mem_of_mem_drop hu)⟩
    have hO : (W.drew.alloc (.cells #[] 48)).ownsRow W.heap.size 48 1 (.slice (some ⟨W.heap.size, 0, none⟩) 0 0) 0 [] := own_new W.drew 48 [] 1 0 rfl (Nat.zero_le _)
    have fO : Fr noB W (W.drew.alloc (.cells #[] 48)) := (Fr.refl noB W).drew.alloc _
    have c5A : (W.alloc (.cells #[] 48)).cell? ⟨g, 2, none⟩ = some (.slice (some ⟨gS, 0, none⟩) n cS) := fO.cell c5 (fun q => q)
    have hicS : i ≤ cS := by omega
    have hic1S : i + 1 ≤ cS := by omega
    have hWW : w.heap.size ≤ W.heap.size := f3.size
    replace hr1 := Lib.hid hr1
    replace hr2 := Lib.hid hr2
    replace hnl := Lib.hid hnl
    replace hone := Lib.hid hone
    replace b3 := Lib.hid b3
    replace o3 := Lib.hid o3
    replace oS := Lib.hid oS
    replace f3 := Lib.hid f3
    go_wp2_with fail
    go_cut [] (fun wx => ∃ a6 k6, Blk wx g 55 [.int .i64 N, .slice a2 (i + (n - (i + 1))) k2, .slice a6 (i + (n - (i + 1))) k6] ∧ wx.ownsRow W.heap.size 48 1 (.slice a6 (i + (n - (i + 1))) k6) (i + (n - (i + 1))) (V.take i ++ V.drop (i + 1)) ∧ Fr (onlyB g) W wx)
    case first =>
      go_region_law_o (first
        | (refine step_append_at rfl (.tmp 41) (.tmp 47) 53 rfl W.heap.size 48 j0 _ 1 24 Try.underlying53 hj0 hy0 hy1 hy2 rfl (by omega) (.slice (some ⟨W.heap.size, 0, none⟩) 0 0) 0 [] (by simp [Act.eval, Act.put]) hO ⟨gS, 0, none⟩ i cS _ (by simp [Act.eval, Act.put]) hnl.out.1 (hr1.out _ fO) hone.out.1 (by unfold maxLen; omega) (by omega) fO.size ?_; intro v1 w1 o1 gr1 _mv1; have f1 := fO.grown gr1 (fun q hq hlt => by simp [Value.ownBlock] at hq; omega); have c01 : w1.cell? ⟨g, 2, none⟩ = some (.slice (some ⟨gS, 0, none⟩) n cS) := f1.cell c5 (fun q => q))
        | (refine step_append_at rfl (.tmp 48) (.tmp 55) 53 rfl W.heap.size 48 j0 _ 1 24 Try.underlying53 hj0 hy0 hy1 hy2 rfl (by omega) v1 _ _ (by simp [Act.eval, Act.put]) o1 A5 (n - (i + 1)) (cS - (i + 1)) _ (by simp [Act.eval, Act.put, hA5]) hnl.out.2 (hr2.out _ f1) hone.out.2 (by unfold maxLen; omega) (by omega) f1.size ?_; intro v2 w2 o2 gr2 _mv2; obtain ⟨a6, k6, rfl⟩ := ownsRow_slice o2; have f2 := f1.grown gr2 (fun q hq hlt => by have := (o1.lt q hq).1; omega); have b2 := f2.blk b3.out (fun q => q); have fz2 := b2.frozen 2; have c02 : w2.cell? ⟨g, 2, none⟩ = some (.slice (some ⟨gS, 0, none⟩) n cS) := b2.cell 2)
        | fail)
      all_goals (
        rw [Nat.zero_add, List.nil_append] at o2
        have b6 := b2.set 2 (.slice a6 (i + (n - (i + 1))) k6)
        have o6 := ownsRow_fr o2 ((Fr.refl (onlyB g) w2).store (g := g) (i := 2) (v := .slice a6 (i + (n - (i + 1))) k6) (onlyB_self g)) (fun q hq => by have := (o2.lt q hq).1; unfold onlyB; omega)
        have f6 : Fr (onlyB g) W _ := (f2.mono (fun _ _ z => False.elim z)).store (g := g) (i := 2) (v := .slice a6 (i + (n - (i + 1))) k6) (onlyB_self g)
        go_wp2_with fail
        go_meet
        exact ⟨_, _, b6, o6, f6⟩)
    case rest =>
      obtain ⟨a6, k6, b6, o6, f6⟩ := hcut
      obtain ⟨Z, hZ⟩ : ∃ x, x = wc := ⟨_, rfl⟩
      rw [← hZ] at b6 o6 f6 ⊢
      clear hZ fO hO c5 c5A hr1 hr2 hnl hone
      have oT7 := ownsRow_fr o3.out f6 (fun q hq => by have := (o3.out.lt q hq).1; unfold onlyB; omega)
      have f9 : Fr (onlyB g) w Z := f3.out.seqB f6 (fun _ => rfl)
      have hbd : ∀ q, (Value.slice a2 (i + (n - (i + 1))) k2).ownBlock = some q → w.heap.size ≤ q := fun q hq => (o3.out.lt q hq).1
      have hbd6 : ∀ q, (Value.slice a6 (i + (n - (i + 1))) k6).ownBlock = some q → w.heap.size ≤ q := fun q hq => by have := (o6.lt q hq).1; omega
      rw [hXe'.out] at oT7
      rw [← hwl.out] at o6 oT7 b6 hbd hbd6
      have FS : Fr S w Z := f9.mono (fun q _ e => hS.out q (Or.inl e))
      have key : Rp Z g B N (without P t) (nx S w Z) := by
        refine ⟨_, _, V.take i ++ V.drop (i + 1), ⟨b6, ownsRow_mono oT7 (by omega), ownsRow_mono o6 (by omega), ?_, hgB, Nat.le_trans hBw f9.size, hris'.out, hne'.out, hle'.out, h.out.n16⟩, fun q hq => ?_⟩
        · rw [← hew'.out]
          exact hrd.out.fr f9 (fun z hz q hq e => by
            have hz2 : z ∈ V := by
              rcases List.mem_append.1 hz with q1 | q1
              · exact List.mem_of_mem_take q1
              · exact List.mem_of_mem_drop q1
            exact hVg.out z hz2 q hq e)
        · rcases hq with e | e | e | ⟨z, hz, e⟩
          · exact Or.inl (hS.out q (Or.inl e))
          · exact Or.inr ⟨hbd q e, (oT7.lt q e).2⟩
          · exact Or.inr ⟨hbd6 q e, (o6.lt q e).2⟩
          · refine Or.inl (hS.out q (Or.inr (Or.inr (Or.inr ⟨z, ?_, e⟩))))
            rcases List.mem_append.1 hz with q1 | q1
            · exact List.mem_of_mem_take q1
            · exact List.mem_of_mem_drop q1
      replace key := Lib.hid key
      replace FS := Lib.hid FS
      clear o6 oT7 b6 hbd hbd6 f6 f9
      go_wp2_with fail
      go_ret
      exact ⟨⟨_, rfl⟩, key.out, FS.out⟩
end Go.Proofs.Ytnecglghinpgmaa
