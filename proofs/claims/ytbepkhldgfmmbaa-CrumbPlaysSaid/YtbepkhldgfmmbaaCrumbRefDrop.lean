/-
  The document's answer by definition: a trace's names are dropped.
-/
import Derived.Test.YtbepkhldgfmmbaaCrumbRefOf
set_option linter.unusedVariables false
set_option linter.unusedSimpArgs false
namespace Go.Proofs.Ytbepkhldgfmmbaa
open Go.RowKit Go Go.Maps Go.Lib

theorem infoSlR : (Try.prog.info? 27).map (fun i => (i.zero, i.size, i.bytes)) = some (some (.slice none 0 0), 1, 24) := by kernel_rfl
theorem row_typeR {w : World} {B : Nat} {e : TypeId} {k n : Nat} {v : Value} {xs : List Value} (h : w.ownsRow B e k v n xs) {q : Nat} (hq : v.ownBlock = some q) : ∃ cs, w.heap[q]? = some (.cells cs e (0, 0)) := by
  rcases h.2 with ⟨rfl, _⟩ | ⟨g, cap, cur, rfl, _, hg, _⟩
  · cases hq
  · cases hq; exact ⟨_, hg⟩
/-- rows of two types lie in two blocks -/
theorem rows_apart {w : World} {B B' : Nat} {e e' : TypeId} {k k' n n' : Nat} {v v' : Value} {xs xs' : List Value} (h : w.ownsRow B e k v n xs) (h' : w.ownsRow B' e' k' v' n' xs') (he : e ≠ e') : ∀ g, v.ownBlock = some g → v'.ownBlock ≠ some g := fun g hg hg' => by
  obtain ⟨c, hc⟩ := row_typeR h hg
  obtain ⟨c', hc'⟩ := row_typeR h' hg'
  rw [hc] at hc'
  simp only [Option.some.injEq, Obj.cells.injEq] at hc'
  exact he hc'.2.1

theorem without_snoc {α : Type} (l : List (Int × α)) (t : Int) (m : Int × α) : without (l ++ [m]) t = without l t ++ if m.1 = t then [] else [m] := by
  unfold without
  rw [List.filter_append]
  by_cases h : m.1 = t <;> simp [h]

/-- what has been kept so far -/
structure Kp (w : World) (E : List (Int × List Int)) (t : Int) (k : Nat) (F : List (Int × List Int)) (V : List Value) : Prop where
  eq : F = without (E.take k) t
  len : V.length = F.length
  rd : ∀ i, i < F.length → RdI w (V.getD i (.slice none 0 0)) (F.getD i (0, [])).2
theorem Kp.skip {w : World} {E : List (Int × List Int)} {t : Int} {k : Nat} {F : List (Int × List Int)} {V : List Value} {m : Int × List Int} (h : Kp w E t k F V) (hm : E[k]? = some m) (ht : m.1 = t) : Kp w E t (k + 1) F V := by
  obtain ⟨hk, e⟩ := List.getElem?_eq_some_iff.1 hm
  refine ⟨?_, h.len, h.rd⟩
  rw [List.take_succ_eq_append_getElem hk, without_snoc, e, if_pos ht, List.append_nil]; exact h.eq
theorem Kp.take {w : World} {E : List (Int × List Int)} {t : Int} {k : Nat} {F : List (Int × List Int)} {V : List Value} {m : Int × List Int} {u : Value} (h : Kp w E t k F V) (hm : E[k]? = some m) (ht : m.1 ≠ t) (hu : RdI w u m.2) : Kp w E t (k + 1) (F ++ [m]) (V ++ [u]) := by
  obtain ⟨hk, e⟩ := List.getElem?_eq_some_iff.1 hm
  refine ⟨?_, by simp [h.len], fun i hi => ?_⟩
  · rw [List.take_succ_eq_append_getElem hk, without_snoc, e, if_neg ht, ← h.eq]
  · by_cases hi2 : i < F.length
    · have := h.rd i hi2
      simp only [List.getD, List.getElem?_append_left hi2, List.getElem?_append_left (show i < V.length by rw [h.len]; exact hi2)] at this ⊢
      exact this
    · have : i = F.length := by simp at hi; omega
      subst this
      have h3 : (V ++ [u])[F.length]? = some u := by rw [← h.len]; simp
      simp only [List.getD, h3, Option.getD_some]
      simpa using hu
theorem Kp.len_le {w : World} {E : List (Int × List Int)} {t : Int} {k : Nat} {F : List (Int × List Int)} {V : List Value} (h : Kp w E t k F V) : F.length ≤ k := by
  rw [h.eq]
  exact Nat.le_trans (List.length_filter_le _ _) (List.length_take_le _ _)
theorem one_rd {w : World} {u : Value} {xs : List Int} (h : RdI w u xs) : ∀ z ∈ [u], z.oneCell' = true := by
  obtain ⟨a, c, rfl, _⟩ := h
  intro z hz; simp at hz; subst hz; rfl

set_option maxHeartbeats 1000000 in
set_option maxRecDepth 10000 in
theorem rdrop_any (r B : Nat) (N t : Int) (E : List (Int × List Int)) (aT : Option Addr) (cT : Nat) (aA : Option Addr) (cA : Nat) (VA : List Value) (w : World) (h : Rc w r B N E aT cT aA cA VA) (hE : E.length ≤ 1000000) :
    Calls Try.prog 12 #[.pointer (some ⟨r, 0, none⟩), .int .i64 t] w fun e w' => e = .returned (.tuple #[]) ∧ (∃ aT cT aA cA V, Rc w' r w.heap.size N (without E t) aT cT aA cA V ∧ ∀ z ∈ V, z ∈ VA) ∧ Fr (onlyB r) w w' := by
  obtain ⟨i0, hi0, hz0, hz1, hz2⟩ : ∃ i0, Try.prog.info? 3 = some i0 ∧ i0.zero = some (.int .i64 0) ∧ i0.size = 1 ∧ i0.bytes = 8 := by
    have hI := infoIntR
    cases hq : Try.prog.info? 3 with
    | none => rw [hq] at hI; cases hI
    | some k => rw [hq] at hI; simp at hI; exact ⟨k, rfl, hI⟩
  obtain ⟨j0, hj0, hy0, hy1, hy2⟩ : ∃ i0, Try.prog.info? 27 = some i0 ∧ i0.zero = some (.slice none 0 0) ∧ i0.size = 1 ∧ i0.bytes = 24 := by
    have hI := infoSlR
    cases hq : Try.prog.info? 27 with
    | none => rw [hq] at hI; cases hI
    | some k => rw [hq] at hI; simp at hI; exact ⟨k, rfl, hI⟩
  obtain ⟨hb, hrT, hrA, hrd, hap, hrB, hBw⟩ := h
  replace hap := Lib.hid hap
  have hVl : VA.length = E.length := by simpa using hrA.1
  generalize hn : E.length = n at *
  replace hn := Lib.hid hn
  replace hVl := Lib.hid hVl
  replace hb := Lib.hid hb
  replace hrT := Lib.hid hrT
  replace hrA := Lib.hid hrA
  replace hrd := Lib.hid hrd
  generalize hD : w.heap.size = D at *
  replace hD := Lib.hid hD
  go_enter Try.func12, Try.ntmps12
  go_wp2_with fail
  go_loopw [4, 5, 6] (fun tv av i wr => ∃ (k : Nat) (F : List (Int × List Int)) (V : List Value), k ≤ n ∧ i = .int .i64 k ∧ wr.ownsRow D 3 1 tv F.length (rowV (F.map (·.1))) ∧ wr.ownsRow D 27 1 av F.length V ∧ Hid (Kp w E t k F V) ∧ Hid (∀ z ∈ V, z ∈ VA) ∧ Fr noB w wr) (fun _ _ i _ => n - (RowKit.intOf i).toNat)
  case atStart => exact ⟨0, [], [], by omega, rfl, World.ownsRow_nil _ _ _ _, World.ownsRow_nil _ _ _ _, Lib.hid ⟨by simp [without], rfl, fun i hi => by simp at hi⟩, Lib.hid (by simp), Fr.refl _ _⟩
  case round =>
    obtain ⟨k, F, V, hk, rfl, oT, oA, hK, hsub, fr⟩ := hrel
    have c1 : wr.cell? ⟨r, 1, none⟩ = some (.slice aT n cT) := (fr.blk hb.out (fun q => q)).cell 1
    have c2 : wr.cell? ⟨r, 2, none⟩ = some (.slice aA n cA) := (fr.blk hb.out (fun q => q)).cell 2
    have hFl := hK.out.len_le
    have hDr : D ≤ wr.heap.size := by rw [← hD.out]; exact fr.size
    by_cases hlt : k < n
    · obtain ⟨m, hm⟩ : ∃ m, E[k]? = some m := ⟨_, List.getElem?_eq_getElem (by rw [hn.out]; exact hlt)⟩
      obtain ⟨u, hu⟩ : ∃ u, VA[k]? = some u := ⟨_, List.getElem?_eq_getElem (by rw [hVl.out]; exact hlt)⟩
      obtain ⟨gT, rfl, e1⟩ := own_at hrT.out (i := k) (x := .int .i64 m.1) (by simp [rowV, hm])
      obtain ⟨gA, rfl, e2⟩ := own_at hrA.out hu
      have hru : RdI w u m.2 := by
        have := hrd.out k hlt
        simpa [List.getD, hm, hu] using this
      have e3 := fr.cell e1 (fun q => q)
      have e4 := fr.cell e2 (fun q => q)
      have hone := one_rd hru
      by_cases hmt : m.1 = t
      · have hb1 : (m.1 != t) = false := by simpa using hmt
        have hK1 := Lib.hid (hK.out.skip hm hmt)
        clear hK hm hu e1 e2 hru hone e4
        generalize m.1 = x at *
        clear hmt
        go_wp2_with fail
        go_roundw
        case rel => exact ⟨k + 1, F, V, by omega, by go_num, oT, oA, hK1, hsub, fr⟩
        case measure => simp [RowKit.intOf]; omega
      · have hb1 : (m.1 != t) = true := by simpa using hmt
        have hK1 := Lib.hid (hK.out.take hm hmt hru)
        have hmap : rowV ((F ++ [m]).map (·.1)) = rowV (F.map (·.1)) ++ [.int .i64 m.1] := by simp [rowV]
        replace hmap := Lib.hid hmap
        replace hone := Lib.hid hone
        have hle : (F ++ [m]).length = F.length + 1 := by simp
        replace hle := Lib.hid hle
        generalize F ++ [m] = F1 at *
        have hsub1 : Hid (∀ z ∈ V ++ [u], z ∈ VA) := Lib.hid (fun z hz => (List.mem_append.1 hz).elim (hsub.out z) (fun q => by rw [List.mem_singleton.1 q]; exact List.mem_of_getElem? hu))
        replace e2 := Lib.hid e2
        obtain ⟨au, lu, cu, rfl⟩ : ∃ au lu cu, u = .slice au lu cu := by obtain ⟨a, c, h, _⟩ := hru; exact ⟨a, _, c, h⟩
        clear hK hm hu e1 hru
        generalize m.1 = x at *
        clear hmt
        have hA : (wr.alloc (.cells #[.int .i64 x] 3)).ownsRow D 3 1 u4 F.length (rowV (F.map (·.1))) := ownsRow_fr oT ((Fr.refl noB wr).alloc _) (fun _ _ q => q)
        have hN := cell_new wr (.int .i64 x) 3
        go_wp2_with (first
          | (at_builtin; go_must (refine wpList_append_at _ rfl (.tmp 25) (.tmp 33) 27 rfl D 3 i0 _ 1 8 Try.underlying27 hi0 hz0 hz1 hz2 rfl (by omega) _ F.length _ rfl hA ⟨wr.heap.size, 0, none⟩ 1 1 [.int .i64 x] rfl rfl hN (one_int _ _) ?_ ?_ ?_ ?_))
          | fail)
        · unfold maxLen; omega
        · omega
        · have := ((Fr.refl noB wr).alloc (.cells #[.int .i64 x] 3)).size; omega
        intro v' w1 o1 gr1 _
        have fX := (Fr.refl noB wr).alloc (.cells #[.int .i64 x] 3)
        have oAX := ownsRow_fr oA fX (fun _ _ q => q)
        have oA1 := ownsRow_other oAX gr1 (rows_apart oAX hA (by decide))
        have fr1 : Fr noB w w1 := (fr.alloc _).grown gr1 (fun q hq hlt => by have := (hA.lt q hq).1; have := hD.out; omega)
        have d2 : w1.cell? ⟨r, 2, none⟩ = some (.slice (some ⟨gA, 0, none⟩) n cA) := (fr1.blk hb.out (fun q => q)).cell 2
        have e5 := fr1.cell e2.out (fun q => q)
        clear oAX gr1 e3 e4 hN
        have hA2 : (w1.alloc (.cells #[.slice au lu cu] 27)).ownsRow D 27 1 u5 F.length V := ownsRow_fr oA1 ((Fr.refl noB w1).alloc _) (fun _ _ q => q)
        have hN2 := cell_new w1 (.slice au lu cu) 27
        have hD1 : D ≤ w1.heap.size := by rw [← hD.out]; exact fr1.size
        clear hA fX
        go_wp2_with (first
          | (at_builtin; go_must (refine wpList_append_at _ rfl (.tmp 35) (.tmp 43) 28 rfl D 27 j0 _ 1 24 Try.underlying28 hj0 hy0 hy1 hy2 rfl (by omega) _ F.length _ rfl hA2 ⟨w1.heap.size, 0, none⟩ 1 1 [.slice au lu cu] rfl rfl hN2 hone.out ?_ ?_ ?_ ?_))
          | fail)
        · unfold maxLen; omega
        · omega
        · have := ((Fr.refl noB w1).alloc (.cells #[.slice au lu cu] 27)).size; omega
        intro v2 w2 o2 gr2 _
        have oTX := ownsRow_fr o1 ((Fr.refl noB w1).alloc (.cells #[.slice au lu cu] 27)) (fun _ _ q => q)
        have oT2 := ownsRow_other oTX gr2 (rows_apart oTX hA2 (by decide))
        have fr2 : Fr noB w w2 := (fr1.alloc _).grown gr2 (fun q hq hlt => by have := (hA2.lt q hq).1; have := hD.out; omega)
        rw [← hle.out] at o2
        rw [← hmap.out, ← hle.out] at oT2
        clear oTX gr2 hA2 hN2 o1 e5 d2 hle hmap c1 c2
        go_wp2_with fail
        go_roundw
        case rel => exact ⟨k + 1, F1, V ++ [.slice au lu cu], by omega, by go_num, oT2, o2, hK1, hsub1, fr2⟩
        case measure => simp [RowKit.intOf]; omega
    · obtain rfl : k = n := by omega
      have hF : F = without E t := by
        have := hK.out.eq
        rwa [List.take_of_length_le (by have := hn.out; omega)] at this
      obtain ⟨aT', cT', rfl⟩ := ownsRow_slice oT
      obtain ⟨aA', cA', rfl⟩ := ownsRow_slice oA
      have b0 := fr.blk hb.out (fun q => q)
      have z0 := b0.frozen 1
      have b1 := b0.set 1 (.slice aT' F.length cT')
      have z1 := b1.frozen 2
      have b2 := b1.set 2 (.slice aA' F.length cA')
      have c3 : (wr.setCell ⟨r, 1, none⟩ (.slice aT' F.length cT')).cell? ⟨r, 2, none⟩ = some (.slice aA k cA) := b1.cell 2
      have g1 : Fr (onlyB r) wr (wr.setCell ⟨r, 1, none⟩ (.slice aT' F.length cT')) := (Fr.refl _ _).store rfl
      have g2 : Fr (onlyB r) (wr.setCell ⟨r, 1, none⟩ (.slice aT' F.length cT')) ((wr.setCell ⟨r, 1, none⟩ (.slice aT' F.length cT')).setCell ⟨r, 2, none⟩ (.slice aA' F.length cA')) := (Fr.refl _ _).store rfl
      have g3 := g1.seqB g2 (fun _ => rfl)
      have hout : (∃ aT cT aA cA V, Rc ((wr.setCell ⟨r, 1, none⟩ (.slice aT' F.length cT')).setCell ⟨r, 2, none⟩ (.slice aA' F.length cA')) r D N (without E t) aT cT aA cA V ∧ ∀ z ∈ V, z ∈ VA) ∧ Fr (onlyB r) w ((wr.setCell ⟨r, 1, none⟩ (.slice aT' F.length cT')).setCell ⟨r, 2, none⟩ (.slice aA' F.length cA')) := by
        have hrD : ∀ q, D ≤ q → ¬ onlyB r q := fun q hq z => by unfold onlyB at z; have := hD.out; omega
        have fw : Fr (onlyB r) w ((wr.setCell ⟨r, 1, none⟩ (.slice aT' F.length cT')).setCell ⟨r, 2, none⟩ (.slice aA' F.length cA')) := (fr.mono (fun _ _ q => False.elim q)).seqB g3 (fun _ => rfl)
        refine ⟨⟨aT', cT', aA', cA', V, ?_, hsub.out⟩, fw⟩
        rw [← hF]
        have hDB : B ≤ D := hBw
        refine ⟨by simpa using b2, ownsRow_fr oT g3 (fun q hq => hrD q (oT.lt q hq).1), ownsRow_fr oA g3 (fun q hq => hrD q (oA.lt q hq).1), fun i hi => (hK.out.rd i hi).fr fw (fun g o n c e => ?_), fun u hu g o n c e => ?_, by omega, by have := fw.size; have := hD.out; omega⟩
        rotate_left
        · have h9 := hap.out u (hsub.out u hu) g o n c e
          exact ⟨h9.1, by have := fw.size; have := hD.out; omega⟩
        have hi2 : i < V.length := by rw [hK.out.len]; exact hi
        have hm9 : V.getD i (.slice none 0 0) ∈ V := List.mem_of_getElem? (show V[i]? = some (V.getD i (.slice none 0 0)) by simp [List.getD, hi2])
        exact (hap.out _ (hsub.out _ hm9) g o n c e).1
      replace hout := Lib.hid hout
      clear b0 b1 b2 g1 g2 g3 hF
      go_wp2_with fail
      go_end0
      exact ⟨rfl, hout.out⟩
end Go.Proofs.Ytbepkhldgfmmbaa
