/-
  The plain leases that the law of the stage plays beside the leases.
-/
import Derived.Test.YtomgkegjdkkhoaaInts
import Derived.OwnWalk
import Derived.Deep.DeepMust
set_option linter.unusedVariables false
set_option linter.unusedSimpArgs false
namespace Go.Proofs.Ytomgkegjdkkhoaa
open Go.RowKit Go Go.Lib

/-- a plain lease: trace, job, left -/
abbrev PL := Int × Int × Int
def plV (m : PL) : List Value := [.int .i64 m.1, .int .i64 m.2.1, .int .i64 m.2.2]
def plC (l : List PL) : List Value := l.flatMap plV
theorem plC_len (l : List PL) : (plC l).length = l.length * 3 := by
  induction l with
  | nil => rfl
  | cons m r ih => rw [show plC (m :: r) = plV m ++ plC r from rfl, List.length_append, ih]; simp [plV]; omega
theorem plC_append (a b : List PL) : plC (a ++ b) = plC a ++ plC b := List.flatMap_append
theorem plC_get (l : List PL) (i : Nat) (m : PL) (h : l[i]? = some m) : (plC l)[i * 3]? = some (.int .i64 m.1) ∧ (plC l)[i * 3 + 1]? = some (.int .i64 m.2.1) ∧ (plC l)[i * 3 + 2]? = some (.int .i64 m.2.2) := by
  induction l generalizing i with
  | nil => simp at h
  | cons x r ih =>
    rw [show plC (x :: r) = plV x ++ plC r from rfl]
    cases i with
    | zero => simp at h; subst h; simp [plV]
    | succ i =>
      have := ih i (by simpa using h)
      have h3 : (plV x).length = 3 := rfl
      rw [List.getElem?_append_right (by rw [h3]; omega), List.getElem?_append_right (by rw [h3]; omega), List.getElem?_append_right (by rw [h3]; omega), h3]
      rw [show (i + 1) * 3 - 3 = i * 3 by omega, show (i + 1) * 3 + 1 - 3 = i * 3 + 1 by omega, show (i + 1) * 3 + 2 - 3 = i * 3 + 2 by omega]
      exact this
theorem plC_set (l : List PL) (i : Nat) (m : PL) (v : Int) (h : l[i]? = some m) : (plC l).set (i * 3 + 2) (.int .i64 v) = plC (l.set i (m.1, m.2.1, v)) := by
  induction l generalizing i with
  | nil => simp at h
  | cons x r ih =>
    rw [show plC (x :: r) = plV x ++ plC r from rfl]
    cases i with
    | zero => simp at h; subst h; simp [plV, plC]
    | succ i =>
      have h3 : (plV x).length = 3 := rfl
      rw [List.set_append_right _ _ (by rw [h3]; omega), h3, show (i + 1) * 3 + 2 - 3 = i * 3 + 2 by omega, ih i (by simpa using h)]
      rfl
/-- Plain leases at block r; their rows lie from B on. -/
structure Rl (w : World) (r B : Nat) (T : Int) (L O : List PL) : Prop where
  ex : ∃ aL cL aO cO, Blk w r 31 [.int .i64 T, .slice aL L.length cL, .slice aO O.length cO] ∧ w.ownsRow B 40 3 (.slice aL L.length cL) L.length (plC L) ∧ w.ownsRow B 40 3 (.slice aO O.length cO) O.length (plC O) ∧
    (∀ g, (Value.slice aL L.length cL).ownBlock = some g → (Value.slice aO O.length cO).ownBlock ≠ some g)
  rB : r < B
  Bw : B ≤ w.heap.size
  lL : L.length ≤ 100000
  lO : O.length ≤ 1000000
/-- what the plain leases' calls may write -/
def touchL (w : World) (r B : Nat) : Nat → Prop := fun k => k = r ∨ (B ≤ k ∧ ∃ cs, w.heap[k]? = some (.cells cs 40 (0, 0)))
theorem row_type {w : World} {B e k n : Nat} {v : Value} {xs : List Value} (h : w.ownsRow B e k v n xs) {q : Nat} (hq : v.ownBlock = some q) : ∃ cs, w.heap[q]? = some (.cells cs e (0, 0)) := by
  rcases h.2 with ⟨rfl, _⟩ | ⟨g, cap, cur, rfl, _, h3, _⟩
  · cases hq
  · cases hq; exact ⟨_, h3⟩
theorem Rl.fr {w w' : World} {r B : Nat} {T : Int} {L O : List PL} {S : Nat → Prop} (h : Rl w r B T L O) (hf : Fr S w w') (hr : ¬ S r) (hS : ∀ k, B ≤ k → k < w.heap.size → (∃ cs, w.heap[k]? = some (.cells cs 40 (0, 0))) → ¬ S k) : Rl w' r B T L O := by
  obtain ⟨⟨aL, cL, aO, cO, hb, h1, h2, h3⟩, rB, Bw, lL, lO⟩ := h
  exact ⟨⟨aL, cL, aO, cO, hf.blk hb hr, ownsRow_fr h1 hf (fun g hg => hS g (h1.lt g hg).1 (h1.lt g hg).2 (row_type h1 hg)), ownsRow_fr h2 hf (fun g hg => hS g (h2.lt g hg).1 (h2.lt g hg).2 (row_type h2 hg)), h3⟩, rB, Nat.le_trans Bw hf.size, lL, lO⟩
theorem Rl.frN {w w' : World} {r B : Nat} {T : Int} {L O : List PL} (h : Rl w r B T L O) (hf : Fr noB w w') : Rl w' r B T L O := h.fr hf (fun q => q) (fun _ _ _ _ q => q)

theorem Try.infoPL : (Try.prog.info? 40).map (fun i => (i.zero, i.size, i.bytes)) = some (some (.agg #[.int .i64 0, .int .i64 0, .int .i64 0]), 3, 24) := by kernel_rfl
theorem Try.infoIntR : (Try.prog.info? 3).map (fun i => (i.zero, i.size, i.bytes)) = some (some (.int .i64 0), 1, 8) := by kernel_rfl
theorem infoPL : ∃ i0, Try.prog.info? 40 = some i0 ∧ i0.zero = some (.agg #[.int .i64 0, .int .i64 0, .int .i64 0]) ∧ i0.size = 3 ∧ i0.bytes = 24 := by
  have hI := Try.infoPL
  cases hq : Try.prog.info? 40 with
  | none => rw [hq] at hI; cases hI
  | some k => rw [hq] at hI; simp at hI; exact ⟨k, rfl, hI⟩
theorem cell_new3 (w : World) (x y z : Value) (t : TypeId) : ∀ j u, [x, y, z][j]? = some u → (w.alloc (.cells #[x, y, z] t)).cell? ((⟨w.heap.size, 0, none⟩ : Addr).add j) = some u := by
  intro j u hj
  rw [Addr.add_lit, Nat.zero_add]
  exact ((Blk.new w t [x, y, z]).cell j).trans hj
theorem one_pl (m : PL) : ∀ u ∈ plV m, u.oneCell' = true := by intro u hu; simp [plV] at hu; rcases hu with rfl | rfl | rfl <;> rfl
/-- an element of a row -/
theorem pl_at {w : World} {B n : Nat} {a : Option Addr} {c : Nat} {l : List PL} (h : w.ownsRow B 40 3 (.slice a n c) n (plC l)) {i : Nat} {m : PL} (hm : l[i]? = some m) :
    ∃ g, a = some ⟨g, 0, none⟩ ∧ B ≤ g ∧ w.cell? ⟨g, i * 3, none⟩ = some (.int .i64 m.1) ∧ w.cell? ⟨g, i * 3 + 1, none⟩ = some (.int .i64 m.2.1) ∧ w.cell? ⟨g, i * 3 + 2, none⟩ = some (.int .i64 m.2.2) := by
  have hl : l.length = n := by have := h.1; rw [plC_len] at this; omega
  have hi : i < l.length := by
    rcases Nat.lt_or_ge i l.length with h1 | h1
    · exact h1
    · rw [List.getElem?_eq_none h1] at hm; cases hm
  obtain ⟨g, cap, hv, hg⟩ := ownsRow_some h (by omega)
  cases hv
  obtain ⟨m0, m1, m2⟩ := plC_get l i m hm
  have e0 := h.cells rfl _ _ m0
  have e1 := h.cells rfl _ _ m1
  have e2 := h.cells rfl _ _ m2
  rw [Addr.add_lit, Nat.zero_add] at e0 e1 e2
  exact ⟨g, rfl, hg, e0, e1, e2⟩

theorem take_filter_snoc {α : Type} (l : List α) (p : α → Bool) (i : Nat) (m : α) (h : l[i]? = some m) : (l.take (i + 1)).filter p = (l.take i).filter p ++ if p m then [m] else [] := by
  have hi : i < l.length := by
    rcases Nat.lt_or_ge i l.length with h1 | h1
    · exact h1
    · rw [List.getElem?_eq_none h1] at h; cases h
  rw [List.getElem?_eq_getElem hi] at h
  cases h
  rw [List.take_succ_eq_append_getElem hi, List.filter_append]
  by_cases hp : p l[i] <;> simp [hp]

set_option maxHeartbeats 1000000 in
set_option maxRecDepth 10000 in
theorem rend_any (r B : Nat) (T t : Int) (L O : List PL) (w : World) (h : Rl w r B T L O) :
    Calls Try.prog 11 #[.pointer (some ⟨r, 0, none⟩), .int .i64 t] w fun e w' => e = .returned (.tuple #[]) ∧ Rl w' r B T (L.filter fun m => decide (m.1 ≠ t)) O ∧ Fr (onlyB r) w w' := by
  obtain ⟨⟨aL, cL, aO, cO, hb, h1, h2, h3⟩, rB, Bw, lL, lO⟩ := h
  obtain ⟨i0, hi, hz0, hz1, hz2⟩ := infoPL
  generalize hn : L.length = n at *
  replace hn := Lib.hid hn
  have c1 : w.cell? ⟨r, 1, none⟩ = some (.slice aL n cL) := hb.cell 1
  go_enter Try.func11, Try.ntmps11
  go_wp2_with fail
  go_loopw [4, 5] (fun v i wr => ∃ k : Nat, k ≤ n ∧ i = .int .i64 k ∧ Fr noB w wr ∧ wr.ownsRow w.heap.size 40 3 v ((L.take k).filter fun m => decide (m.1 ≠ t)).length (plC ((L.take k).filter fun m => decide (m.1 ≠ t)))) (fun _ i _ => n - (RowKit.intOf i).toNat)
  case atStart => exact ⟨0, by omega, rfl, Fr.refl _ _, by simpa [plC] using World.ownsRow_nil _ _ _ _⟩
  case round =>
    obtain ⟨k, hk, rfl, fr, ho⟩ := hrel
    have d1 : wr.cell? ⟨r, 1, none⟩ = some (.slice aL n cL) := fr.cell c1 (fun q => q)
    have hlen : ((L.take k).filter fun m => decide (m.1 ≠ t)).length ≤ k := by
      have := List.length_filter_le (fun m : PL => decide (m.1 ≠ t)) (L.take k)
      have : (L.take k).length ≤ k := List.length_take_le _ _
      omega
    by_cases hlt : k < n
    · obtain ⟨m, hm⟩ : ∃ m, L[k]? = some m := ⟨_, List.getElem?_eq_getElem (by rw [hn.out]; exact hlt)⟩
      obtain ⟨g, rfl, hg, e0, e1, e2⟩ := pl_at h1 hm
      have e0' := fr.cell e0 (fun q => q)
      have e1' := fr.cell e1 (fun q => q)
      have e2' := fr.cell e2 (fun q => q)
      have hsn := take_filter_snoc L (fun m => decide (m.1 ≠ t)) k m hm
      clear e0 e1 e2
      generalize ((L.take k).filter fun m => decide (m.1 ≠ t)) = F at *
      by_cases hmt : m.1 = t
      · have hb2 : (m.1 != t) = false := by simpa using hmt
        rw [if_neg (by simpa using hmt), List.append_nil] at hsn
        replace hsn := Lib.hid hsn
        replace hm := Lib.hid hm
        obtain ⟨m1, m2, m3⟩ := m
        replace hmt := Lib.hid hmt
        simp only [] at e0' e1' e2' hb2
        go_wp2_with fail
        go_roundw
        case rel => exact ⟨k + 1, by omega, by go_num, fr, by rw [hsn.out]; exact ho⟩
        case measure => simp [RowKit.intOf]; omega
      · have hb2 : (m.1 != t) = true := by simpa using hmt
        rw [if_pos (by simpa using hmt)] at hsn
        replace hsn := Lib.hid hsn
        replace hm := Lib.hid hm
        obtain ⟨m1, m2, m3⟩ := m
        simp only [] at e0' e1' e2' hb2 hmt
        have hA : (wr.alloc (.cells #[.int .i64 m1, .int .i64 m2, .int .i64 m3] 40)).ownsRow w.heap.size 40 3 u4 F.length (plC F) := ownsRow_fr ho ((Fr.refl noB wr).alloc _) (fun _ _ q => q)
        have hN := cell_new3 wr (.int .i64 m1) (.int .i64 m2) (.int .i64 m3) 40
        have hone := one_pl (m1, m2, m3)
        have fsz := fr.size
        go_wp2_with (first
          | (at_builtin; go_must (refine wpList_append_at _ rfl (.tmp 25) (.tmp 33) 29 rfl w.heap.size 40 i0 _ 3 24 Try.underlying29 hi hz0 hz1 hz2 rfl (by omega) _ F.length _ rfl hA ⟨wr.heap.size, 0, none⟩ 1 1 [.int .i64 m1, .int .i64 m2, .int .i64 m3] rfl rfl hN hone ?_ ?_ ?_ ?_))
          | fail)
        · unfold maxLen; omega
        · omega
        · simp; omega
        intro v' w1 o1 gr1 _
        have f1 : Fr noB w w1 := fr.trans (((Fr.refl (fun k => w.heap.size ≤ k) wr).alloc (.cells #[.int .i64 m1, .int .i64 m2, .int .i64 m3] 40)).grown gr1 (fun q hq _ => (hA.lt q hq).1)) (fun _ _ q => q) (fun i hi q => by omega)
        have o2 : w1.ownsRow w.heap.size 40 3 v' (F ++ [(m1, m2, m3)]).length (plC (F ++ [(m1, m2, m3)])) := by rw [plC_append]; simpa [plC, plV] using o1
        clear hA hN o1 gr1
        go_wp2_with fail
        go_roundw
        case rel => exact ⟨k + 1, by omega, by go_num, f1, by rw [hsn.out]; exact o2⟩
        case measure => simp [RowKit.intOf]; omega
    · obtain rfl : k = n := by omega
      have hFL : (L.take k) = L := List.take_of_length_le (by have := hn.out; omega)
      rw [hFL] at ho hlen
      generalize hF : (L.filter fun m => decide (m.1 ≠ t)) = F at *
      have fr2 := fr.blk hb (fun q => q)
      have fz : wr.frozen? ⟨r, 1, none⟩ = false := fr2.frozen 1
      obtain ⟨a9, c9, hv⟩ := ownsRow_slice ho
      subst hv
      go_wp2_with fail
      go_end0
      have b2 := fr2.set 1 (.slice a9 F.length c9)
      have fs := (Fr.refl (onlyB r) wr).store (g := r) (i := 1) (v := .slice a9 F.length c9) (onlyB_self r)
      have hrw : r < w.heap.size := hb.lt
      subst hF
      refine ⟨rfl, ⟨⟨a9, c9, aO, cO, b2, ownsRow_mono (ownsRow_fr ho fs (fun q hq => by have := (ho.lt q hq).1; unfold onlyB; omega)) Bw, ownsRow_fr (ownsRow_fr h2 fr (fun _ _ q => q)) fs (fun q hq => by have := (h2.lt q hq).1; unfold onlyB; omega), ?_⟩, rB, ?_, by omega, lO⟩, ?_⟩
      · intro q hq hq2
        have := (ho.lt q hq).1
        have := (h2.lt q hq2).2
        omega
      · have := fr.size; simp [World.setCell]; omega
      · exact (fr.mono (fun _ _ q => False.elim q)).trans fs (fun _ _ q => q) (fun _ _ q => q)

/-- the first lease of a trace; none: zero -/
def ofL (L : List PL) (t : Int) : PL := (L.find? fun m => decide (m.1 = t)).getD (0, 0, 0)
theorem find_take (L : List PL) (t : Int) (k : Nat) (m : PL) (hm : L[k]? = some m) (h : (L.take k).find? (fun m => decide (m.1 = t)) = none) (hmt : m.1 = t) : ofL L t = m := by
  have hi : k < L.length := by
    rcases Nat.lt_or_ge k L.length with h1 | h1
    · exact h1
    · rw [List.getElem?_eq_none h1] at hm; cases hm
  unfold ofL
  have h1 := List.take_append_drop k L
  rw [List.getElem?_eq_getElem hi] at hm
  have hm2 : L[k] = m := by simpa using hm
  rw [List.drop_eq_getElem_cons hi, hm2] at h1
  have h2 : L.find? (fun m => decide (m.1 = t)) = (L.take k ++ m :: L.drop (k + 1)).find? (fun m => decide (m.1 = t)) := by rw [h1]
  rw [h2, List.find?_append, h]
  simp [hmt]

set_option maxHeartbeats 1000000 in
set_option maxRecDepth 10000 in
theorem rof_any (r B : Nat) (T t : Int) (L O : List PL) (w : World) (h : Rl w r B T L O) :
    Calls Try.prog 15 #[.pointer (some ⟨r, 0, none⟩), .int .i64 t] w fun e w' => e = .returned (.agg #[.int .i64 (ofL L t).1, .int .i64 (ofL L t).2.1, .int .i64 (ofL L t).2.2]) ∧ Fr noB w w' := by
  obtain ⟨⟨aL, cL, aO, cO, hb, h1, h2, h3⟩, rB, Bw, lL, lO⟩ := h
  generalize hn : L.length = n at *
  replace hn := Lib.hid hn
  have c1 : w.cell? ⟨r, 1, none⟩ = some (.slice aL n cL) := hb.cell 1
  have hrw : r < w.heap.size := hb.lt
  go_enter Try.func15, Try.ntmps15
  go_wp2_with fail
  have fa := (Fr.refl noB w).alloc (.cells #[.int .i64 0, .int .i64 0, .int .i64 0] 40)
  have ba := Blk.new w 40 [.int .i64 0, .int .i64 0, .int .i64 0]
  obtain ⟨ob, hob⟩ : ∃ ob, ob = w.heap.size := ⟨_, rfl⟩
  rw [← hob] at ba ⊢
  generalize (w.alloc (.cells #[.int .i64 0, .int .i64 0, .int .i64 0] 40)) = wa at *
  replace hob := Lib.hid hob
  go_loopw [5] (fun i wr => ∃ k : Nat, k ≤ n ∧ i = .int .i64 k ∧ wr = wa ∧ Hid ((L.take k).find? (fun m => decide (m.1 = t)) = none)) (fun i _ => n - (RowKit.intOf i).toNat)
  case atStart => exact ⟨0, by omega, rfl, rfl, Lib.hid rfl⟩
  case round =>
    obtain ⟨k, hk, rfl, hw, hf⟩ := hrel
    subst hw
    have d1 : wr.cell? ⟨r, 1, none⟩ = some (.slice aL n cL) := fa.cell c1 (fun q => q)
    by_cases hlt : k < n
    · obtain ⟨m, hm⟩ : ∃ m, L[k]? = some m := ⟨_, List.getElem?_eq_getElem (by rw [hn.out]; exact hlt)⟩
      obtain ⟨g, rfl, hg, e0, e1, e2⟩ := pl_at h1 hm
      have e0' := fa.cell e0 (fun q => q)
      have e1' := fa.cell e1 (fun q => q)
      have e2' := fa.cell e2 (fun q => q)
      clear e0 e1 e2
      by_cases hmt : m.1 = t
      · have hb2 : (m.1 == t) = true := by simpa using hmt
        have hfin := find_take L t k m hm hf.out hmt
        replace hm := Lib.hid hm
        obtain ⟨m1, m2, m3⟩ := m
        replace hmt := Lib.hid hmt
        replace hfin := Lib.hid hfin
        simp only [] at e0' e1' e2' hb2
        have z0 : wr.cell? ⟨ob, 0, none⟩ = some (.int .i64 0) := ba.cell 0
        have z1 : wr.cell? ⟨ob, 1, none⟩ = some (.int .i64 0) := ba.cell 1
        have z2 : wr.cell? ⟨ob, 2, none⟩ = some (.int .i64 0) := ba.cell 2
        have y0 : wr.frozen? ⟨ob, 0, none⟩ = false := ba.frozen 0
        have y1 : wr.frozen? ⟨ob, 1, none⟩ = false := ba.frozen 1
        have y2 : wr.frozen? ⟨ob, 2, none⟩ = false := ba.frozen 2
        go_wp2_with fail
        have bd := ((ba.set 0 (.int .i64 m1)).set 1 (.int .i64 m2)).set 2 (.int .i64 m3)
        simp only [List.set_cons_zero, List.set_cons_succ] at bd
        have hoo : w.heap.size ≤ ob := by have := hob.out; omega
        have fd := ((fa.storeNew (g := ob) (i := 0) (v := .int .i64 m1) hoo).storeNew (g := ob) (i := 1) (v := .int .i64 m2) hoo).storeNew (g := ob) (i := 2) (v := .int .i64 m3) hoo
        generalize ((wr.setCell ⟨ob, 0, none⟩ (.int .i64 m1)).setCell ⟨ob, 1, none⟩ (.int .i64 m2)).setCell ⟨ob, 2, none⟩ (.int .i64 m3) = W at *
        have q0 : W.cell? ⟨ob, 0, none⟩ = some (.int .i64 m1) := bd.cell 0
        have q1 : W.cell? ⟨ob, 1, none⟩ = some (.int .i64 m2) := bd.cell 1
        have q2 : W.cell? ⟨ob, 2, none⟩ = some (.int .i64 m3) := bd.cell 2
        exact bodyPost_ret (v := .agg #[.int .i64 m1, .int .i64 m2, .int .i64 m3]) (by simp [results, Try.results15, go_sem, q0, q1, q2]) rfl ⟨by rw [hfin.out], fd⟩
      · have hb2 : (m.1 == t) = false := by simpa using hmt
        have hf2 : Hid ((L.take (k + 1)).find? (fun m => decide (m.1 = t)) = none) := Lib.hid (by
          have hi : k < L.length := by rw [hn.out]; exact hlt
          rw [List.getElem?_eq_getElem hi] at hm
          cases hm
          rw [List.take_succ_eq_append_getElem hi, List.find?_append, hf.out]
          simp [hmt])
        replace hm := Lib.hid hm
        obtain ⟨m1, m2, m3⟩ := m
        simp only [] at e0' e1' e2' hb2 hmt
        go_wp2_with fail
        go_roundw
        case rel => exact ⟨k + 1, by omega, by go_num, by first | trivial | rfl, hf2⟩
        case measure => simp [RowKit.intOf]; omega
    · obtain rfl : k = n := by omega
      have hfin : ofL L t = (0, 0, 0) := by
        have := hf.out
        rw [List.take_of_length_le (by have := hn.out; omega)] at this
        unfold ofL; rw [this]; rfl
      replace hfin := Lib.hid hfin
      have z0 : wr.cell? ⟨ob, 0, none⟩ = some (.int .i64 0) := ba.cell 0
      have z1 : wr.cell? ⟨ob, 1, none⟩ = some (.int .i64 0) := ba.cell 1
      have z2 : wr.cell? ⟨ob, 2, none⟩ = some (.int .i64 0) := ba.cell 2
      have y0 : wr.frozen? ⟨ob, 0, none⟩ = false := ba.frozen 0
      have y1 : wr.frozen? ⟨ob, 1, none⟩ = false := ba.frozen 1
      have y2 : wr.frozen? ⟨ob, 2, none⟩ = false := ba.frozen 2
      go_wp2_with fail
      have bd := ((ba.set 0 (.int .i64 0)).set 1 (.int .i64 0)).set 2 (.int .i64 0)
      simp only [List.set_cons_zero, List.set_cons_succ] at bd
      have hoo : w.heap.size ≤ ob := by have := hob.out; omega
      have fd := ((fa.storeNew (g := ob) (i := 0) (v := .int .i64 0) hoo).storeNew (g := ob) (i := 1) (v := .int .i64 0) hoo).storeNew (g := ob) (i := 2) (v := .int .i64 0) hoo
      generalize ((wr.setCell ⟨ob, 0, none⟩ (.int .i64 0)).setCell ⟨ob, 1, none⟩ (.int .i64 0)).setCell ⟨ob, 2, none⟩ (.int .i64 0) = W at *
      have q0 : W.cell? ⟨ob, 0, none⟩ = some (.int .i64 0) := bd.cell 0
      have q1 : W.cell? ⟨ob, 1, none⟩ = some (.int .i64 0) := bd.cell 1
      have q2 : W.cell? ⟨ob, 2, none⟩ = some (.int .i64 0) := bd.cell 2
      exact bodyPost_ret (v := .agg #[.int .i64 0, .int .i64 0, .int .i64 0]) (by simp [results, Try.results15, go_sem, q0, q1, q2]) rfl ⟨by rw [hfin.out], fd⟩

/-- the greatest job of a trace among those that ran out -/
def lastL (O : List PL) (t : Int) : Int := O.foldl (fun n m => if m.1 = t ∧ n < m.2.1 then m.2.1 else n) 0
set_option maxHeartbeats 1000000 in
set_option maxRecDepth 10000 in
theorem rlast_any (r B : Nat) (T t : Int) (L O : List PL) (w : World) (h : Rl w r B T L O) :
    Calls Try.prog 19 #[.pointer (some ⟨r, 0, none⟩), .int .i64 t] w fun e w' => e = .returned (.int .i64 (lastL O t)) ∧ w' = w := by
  obtain ⟨⟨aL, cL, aO, cO, hb, h1, h2, h3⟩, rB, Bw, lL, lO⟩ := h
  generalize hn : O.length = n at *
  replace hn := Lib.hid hn
  have c1 : w.cell? ⟨r, 2, none⟩ = some (.slice aO n cO) := hb.cell 2
  go_enter Try.func19, Try.ntmps19
  go_wp2_with fail
  go_loop [5, 6] (fun v i => ∃ k : Nat, k ≤ n ∧ i = .int .i64 k ∧ v = .int .i64 (lastL (O.take k) t)) (fun _ i => n - (RowKit.intOf i).toNat)
  case atStart => exact ⟨0, by omega, rfl, rfl⟩
  case round =>
    obtain ⟨k, hk, rfl, rfl⟩ := hrel
    by_cases hlt : k < n
    · obtain ⟨m, hm⟩ : ∃ m, O[k]? = some m := ⟨_, List.getElem?_eq_getElem (by rw [hn.out]; exact hlt)⟩
      obtain ⟨g, rfl, hg, e0, e1, e2⟩ := pl_at h2 hm
      have hsn : lastL (O.take (k + 1)) t = if m.1 = t ∧ lastL (O.take k) t < m.2.1 then m.2.1 else lastL (O.take k) t := by
        have hi : k < O.length := by rw [hn.out]; exact hlt
        rw [List.getElem?_eq_getElem hi] at hm
        cases hm
        rw [List.take_succ_eq_append_getElem hi]
        unfold lastL
        rw [List.foldl_append]
        rfl
      generalize lastL (O.take k) t = old at *
      replace hm := Lib.hid hm
      obtain ⟨m1, m2, m3⟩ := m
      simp only [] at e0 e1 e2 hsn
      by_cases hmt : m1 = t ∧ old < m2
      · rw [if_pos hmt] at hsn
        obtain ⟨rfl, hlt2⟩ := hmt
        replace hsn := Lib.hid hsn
        have hd2 : decide (old < m2) = true := by simp; omega
        go_wp2_with fail
        go_round
        case rel => exact ⟨k + 1, by omega, by go_num, by rw [hsn.out]⟩
        case measure => simp [RowKit.intOf]; omega
      · rw [if_neg hmt] at hsn
        replace hsn := Lib.hid hsn
        by_cases hmt1 : m1 = t
        · subst hmt1
          have hd2 : decide (old < m2) = false := by simp; omega
          go_wp2_with fail
          go_round
          case rel => exact ⟨k + 1, by omega, by go_num, by rw [hsn.out]⟩
          case measure => simp [RowKit.intOf]; omega
        · have hb2 : (m1 == t) = false := by simpa using hmt1
          clear hmt
          go_wp2_with fail
          go_round
          case rel => exact ⟨k + 1, by omega, by go_num, by rw [hsn.out]⟩
          case measure => simp [RowKit.intOf]; omega
    · obtain rfl : k = n := by omega
      rw [List.take_of_length_le (by have := hn.out; omega)]
      go_wp2_with fail
      go_ret
      exact ⟨rfl, rfl⟩

/-- a lease, in order -/
def insL (l : List PL) (x : PL) : List PL := l.takeWhile (fun m => !decide (x.1 < m.1)) ++ x :: l.dropWhile (fun m => !decide (x.1 < m.1))
def anyL (l : List PL) (x : PL) : Bool := l.any fun m => decide (x.1 < m.1)
def midL (l : List PL) (x : PL) : List PL := if anyL l x then insL l x else l
theorem insL_none {l : List PL} {x : PL} (h : anyL l x = false) (r : List PL) : (l ++ r).takeWhile (fun m => !decide (x.1 < m.1)) = l ++ r.takeWhile (fun m => !decide (x.1 < m.1)) ∧ (l ++ r).dropWhile (fun m => !decide (x.1 < m.1)) = r.dropWhile (fun m => !decide (x.1 < m.1)) := by
  induction l with
  | nil => exact ⟨rfl, rfl⟩
  | cons y l ih =>
    unfold anyL at h ih
    simp only [List.any_cons, Bool.or_eq_false_iff] at h
    have := ih h.2
    simp [List.takeWhile_cons, List.dropWhile_cons, h.1, this]
theorem midL_end (l : List PL) (x : PL) : insL l x = if anyL l x then midL l x else l ++ [x] := by
  by_cases h : anyL l x = true
  · rw [if_pos h, midL, if_pos h]
  · have h2 : anyL l x = false := by simpa using h
    rw [if_neg h]
    have := insL_none h2 []
    simp at this
    unfold insL
    rw [this.1, this.2]
theorem midL_step (l : List PL) (x m : PL) : midL (l ++ [m]) x = if anyL l x then midL l x ++ [m] else if x.1 < m.1 then l ++ [x] ++ [m] else l ++ [m] := by
  by_cases h : anyL l x = true
  · rw [if_pos h]
    have h3 : anyL (l ++ [m]) x = true := by unfold anyL at *; simp [h]
    unfold midL
    rw [if_pos h3, if_pos h]
    unfold insL
    unfold anyL at h
    rw [List.any_eq_true] at h
    obtain ⟨y, hy, hxy⟩ := h
    have t1 : (l ++ [m]).takeWhile (fun m => !decide (x.1 < m.1)) = l.takeWhile (fun m => !decide (x.1 < m.1)) ∧ (l ++ [m]).dropWhile (fun m => !decide (x.1 < m.1)) = l.dropWhile (fun m => !decide (x.1 < m.1)) ++ [m] := by
      clear h3
      induction l with
      | nil => cases hy
      | cons z l ih =>
        by_cases hz : x.1 < z.1
        · simp [List.takeWhile_cons, List.dropWhile_cons, hz]
        · have hy2 : y ∈ l := by
            rcases List.mem_cons.1 hy with rfl | h
            · simp at hxy; omega
            · exact h
          have := ih hy2
          simp [List.takeWhile_cons, List.dropWhile_cons, hz, this]
    rw [t1.1, t1.2]
    simp
  · have h2 : anyL l x = false := by simpa using h
    rw [if_neg h]
    by_cases hm : x.1 < m.1
    · rw [if_pos hm]
      have h3 : anyL (l ++ [m]) x = true := by unfold anyL; simp [hm]
      unfold midL
      rw [if_pos h3]
      have := insL_none h2 [m]
      simp [hm] at this
      unfold insL
      rw [this.1, this.2]
      simp
    · rw [if_neg hm]
      have h3 : anyL (l ++ [m]) x = false := by unfold anyL at *; simp [h2]; omega
      unfold midL
      rw [h3]; simp
theorem anyL_step (l : List PL) (x m : PL) : anyL (l ++ [m]) x = (anyL l x || decide (x.1 < m.1)) := by simp [anyL]
theorem midL_len (l : List PL) (x : PL) : (midL l x).length ≤ l.length + 1 := by
  unfold midL insL
  split
  · have := congrArg List.length (List.takeWhile_append_dropWhile (p := fun m : PL => !decide (x.1 < m.1)) (l := l))
    simp only [List.length_append, List.length_cons] at *
    omega
  · omega

set_option maxHeartbeats 2000000 in
set_option maxRecDepth 10000 in
theorem rgrant_any (r B : Nat) (T t j : Int) (L O : List PL) (w : World) (h : Rl w r B T L O) (hl5 : L.length < 100000) :
    Calls Try.prog 9 #[.pointer (some ⟨r, 0, none⟩), .int .i64 t, .int .i64 j] w fun e w' => e = .returned (.tuple #[]) ∧ Rl w' r B T (insL (L.filter fun m => decide (m.1 ≠ t)) (t, j, T)) O ∧ Fr (onlyB r) w w' := by
  have hLl := List.length_filter_le (fun m : PL => decide (m.1 ≠ t)) L
  have hend := rend_any r B T t L O w h
  have hbw : r < w.heap.size := by obtain ⟨⟨aL, cL, aO, cO, hb, _⟩, _⟩ := h; exact hb.lt
  clear h
  generalize (L.filter fun m => decide (m.1 ≠ t)) = M at *
  obtain ⟨i0, hi, hz0, hz1, hz2⟩ := infoPL
  go_enter Try.func9, Try.ntmps9
  go_wp2_with fail
  refine hend.mono ?_
  rintro e w1 ⟨rfl, h, f1⟩
  obtain ⟨⟨aL, cL, aO, cO, hb, h1, h2, h3⟩, rB, Bw, lL, lO⟩ := h
  generalize hn : M.length = n at *
  replace hn := Lib.hid hn
  have c0 : w1.cell? ⟨r, 0, none⟩ = some (.int .i64 T) := hb.cell 0
  go_wp2_with fail
  have fa := (Fr.refl noB w1).alloc (.cells #[.int .i64 t, .int .i64 j, .int .i64 T] 40)
  have ba := Blk.new w1 40 [.int .i64 t, .int .i64 j, .int .i64 T]
  have sa : (w1.alloc (.cells #[.int .i64 t, .int .i64 j, .int .i64 T] 40)).heap.size = w1.heap.size + 1 := by simp
  obtain ⟨ob, hob⟩ : ∃ ob, ob = w1.heap.size := ⟨_, rfl⟩
  rw [← hob] at ba sa ⊢
  generalize (w1.alloc (.cells #[.int .i64 t, .int .i64 j, .int .i64 T] 40)) = wa at *
  replace hob := Lib.hid hob
  obtain ⟨BB, hBB⟩ : ∃ BB, BB = wa.heap.size := ⟨_, rfl⟩
  have hBa : BB ≤ wa.heap.size := by omega
  have hoB : ob < BB := by omega
  have hBa2 : wa.heap.size ≤ BB := by omega
  clear sa c0
  replace hBB := Lib.hid hBB
  have ca : wa.cell? ⟨r, 1, none⟩ = some (.slice aL n cL) := fa.cell (hb.cell 1) (fun q => q)
  go_loopw [6, 7, 9] (fun v d i wr => ∃ k : Nat, k ≤ n ∧ i = .int .i64 k ∧ d = .bool (anyL (M.take k) (t, j, T)) ∧ Fr noB wa wr ∧ wr.ownsRow BB 40 3 v (midL (M.take k) (t, j, T)).length (plC (midL (M.take k) (t, j, T)))) (fun _ _ i _ => n - (RowKit.intOf i).toNat)
  case atStart => exact ⟨0, by omega, rfl, rfl, Fr.refl _ _, by simpa [midL, anyL, plC] using World.ownsRow_nil _ _ _ _⟩
  case round =>
    obtain ⟨k, hk, rfl, rfl, fr, ho⟩ := hrel
    have d1 : wr.cell? ⟨r, 1, none⟩ = some (.slice aL n cL) := fr.cell ca (fun q => q)
    have br := fr.blk ba (fun q => q)
    have x0 : wr.cell? ⟨ob, 0, none⟩ = some (.int .i64 t) := br.cell 0
    have x1 : wr.cell? ⟨ob, 1, none⟩ = some (.int .i64 j) := br.cell 1
    have x2 : wr.cell? ⟨ob, 2, none⟩ = some (.int .i64 T) := br.cell 2
    have hlen := midL_len (M.take k) (t, j, T)
    have hlen2 : (M.take k).length ≤ k := List.length_take_le _ _
    by_cases hlt : k < n
    · obtain ⟨m, hm⟩ : ∃ m, M[k]? = some m := ⟨_, List.getElem?_eq_getElem (by rw [hn.out]; exact hlt)⟩
      obtain ⟨g, rfl, hg, e0, e1, e2⟩ := pl_at h1 hm
      have e0h := fun (W : World) (fb : Fr noB wa W) => fb.cell (fa.cell e0 (fun q => q)) (fun q => q)
      have e1h := fun (W : World) (fb : Fr noB wa W) => fb.cell (fa.cell e1 (fun q => q)) (fun q => q)
      have e2h := fun (W : World) (fb : Fr noB wa W) => fb.cell (fa.cell e2 (fun q => q)) (fun q => q)
      have e0' := fr.cell (fa.cell e0 (fun q => q)) (fun q => q)
      have e1' := fr.cell (fa.cell e1 (fun q => q)) (fun q => q)
      have e2' := fr.cell (fa.cell e2 (fun q => q)) (fun q => q)
      have htk : M.take (k + 1) = M.take k ++ [m] := by
        have hi : k < M.length := by rw [hn.out]; exact hlt
        rw [List.getElem?_eq_getElem hi] at hm
        cases hm
        exact List.take_succ_eq_append_getElem hi
      have hs1 := midL_step (M.take k) (t, j, T) m
      have hs2 := anyL_step (M.take k) (t, j, T) m
      rw [← htk] at hs1 hs2
      have hnl : anyL (M.take k) (t, j, T) = false → M.take k = midL (M.take k) (t, j, T) := fun h => by unfold midL; rw [h]; simp
      replace htk := Lib.hid htk
      clear e0 e1 e2
      generalize M.take k = F0 at *
      generalize hD : anyL F0 (t, j, T) = D at *
      generalize midL F0 (t, j, T) = F at *
      replace hD := Lib.hid hD
      replace hm := Lib.hid hm
      have hFl : F.length ≤ 100002 := by omega
      clear hlen hlen2
      obtain ⟨m1, m2, m3⟩ := m
      simp only [] at e0' e1' e2' e0h e1h e2h hs1 hs2
      replace e0h := Lib.hid e0h
      replace e1h := Lib.hid e1h
      replace e2h := Lib.hid e2h
      cases D with
      | true =>
        replace hs1 : Hid (midL (M.take (k + 1)) (t, j, T) = F ++ [(m1, m2, m3)]) := Lib.hid (by simpa using hs1)
        replace hs2 : Hid (anyL (M.take (k + 1)) (t, j, T) = true) := Lib.hid (by simpa using hs2)
        clear hnl
        have hA : (wr.alloc (.cells #[.int .i64 m1, .int .i64 m2, .int .i64 m3] 40)).ownsRow BB 40 3 u6 F.length (plC F) := ownsRow_fr ho ((Fr.refl noB wr).alloc _) (fun _ _ q => q)
        have hN := cell_new3 wr (.int .i64 m1) (.int .i64 m2) (.int .i64 m3) 40
        have hone := one_pl (m1, m2, m3)
        go_wp2_with (first
          | (at_builtin; go_must (refine wpList_append_at _ rfl (.tmp 47) (.tmp 55) 29 rfl BB 40 i0 _ 3 24 Try.underlying29 hi hz0 hz1 hz2 rfl (by omega) _ F.length _ rfl hA ⟨wr.heap.size, 0, none⟩ 1 1 [.int .i64 m1, .int .i64 m2, .int .i64 m3] rfl rfl hN hone ?_ ?_ ?_ ?_))
          | fail)
        · unfold maxLen; omega
        · omega
        · have := fr.size; simp; omega
        intro v5 w5 o5 gr5 _
        have f5 : Fr noB wa w5 := fr.trans (((Fr.refl (fun k => BB ≤ k) wr).alloc (.cells #[.int .i64 m1, .int .i64 m2, .int .i64 m3] 40)).grown gr5 (fun q hq _ => (hA.lt q hq).1)) (fun _ _ q => q) (fun i hi q => by omega)
        have p5 : w5.ownsRow BB 40 3 v5 (F ++ [(m1, m2, m3)]).length (plC (F ++ [(m1, m2, m3)])) := by rw [plC_append]; simpa [plC, plV] using o5
        clear hA hN hone o5 gr5
        go_wp2_with fail
        go_roundw
        case rel => exact ⟨k + 1, by omega, by go_num, by rw [hs2.out], f5, by rw [hs1.out]; exact p5⟩
        case measure => simp [RowKit.intOf]; omega
      | false =>
        obtain rfl := hnl rfl
        by_cases htm : t < m1
        · have hd3 : decide (t < m1) = true := by simpa using htm
          replace hs1 : Hid (midL (M.take (k + 1)) (t, j, T) = F0 ++ [(t, j, T)] ++ [(m1, m2, m3)]) := Lib.hid (by rw [hs1]; simp [htm])
          replace hs2 : Hid (anyL (M.take (k + 1)) (t, j, T) = true) := Lib.hid (by rw [hs2]; simp [htm])
          have hA : (wr.alloc (.cells #[.int .i64 t, .int .i64 j, .int .i64 T] 40)).ownsRow BB 40 3 u6 F0.length (plC F0) := ownsRow_fr ho ((Fr.refl noB wr).alloc _) (fun _ _ q => q)
          have hN := cell_new3 wr (.int .i64 t) (.int .i64 j) (.int .i64 T) 40
          have hone := one_pl (t, j, T)
          go_wp2_with (first
            | (at_builtin; go_must (refine wpList_append_at _ rfl (.tmp 43) (.tmp 45) 29 rfl BB 40 i0 _ 3 24 Try.underlying29 hi hz0 hz1 hz2 rfl (by omega) _ F0.length _ rfl hA ⟨wr.heap.size, 0, none⟩ 1 1 [.int .i64 t, .int .i64 j, .int .i64 T] rfl rfl hN hone ?_ ?_ ?_ ?_))
            | fail)
          · unfold maxLen; omega
          · omega
          · have := fr.size; simp; omega
          intro v4 w4 o4 gr4 _
          have f4 : Fr noB wa w4 := fr.trans (((Fr.refl (fun k => BB ≤ k) wr).alloc (.cells #[.int .i64 t, .int .i64 j, .int .i64 T] 40)).grown gr4 (fun q hq _ => (hA.lt q hq).1)) (fun _ _ q => q) (fun i hi q => by omega)
          have p4 : w4.ownsRow BB 40 3 v4 (F0 ++ [(t, j, T)]).length (plC (F0 ++ [(t, j, T)])) := by rw [plC_append]; simpa [plC, plV] using o4
          clear hA hN hone o4 gr4
          have fb := f4
          have d1b : w4.cell? ⟨r, 1, none⟩ = some (.slice (some ⟨g, 0, none⟩) n cL) := fb.cell ca (fun q => q)
          have e0b : w4.cell? ⟨g, k * 3, none⟩ = some (.int .i64 m1) := e0h.out w4 fb
          have e1b : w4.cell? ⟨g, k * 3 + 1, none⟩ = some (.int .i64 m2) := e1h.out w4 fb
          have e2b : w4.cell? ⟨g, k * 3 + 2, none⟩ = some (.int .i64 m3) := e2h.out w4 fb
          obtain ⟨FF, hFF⟩ : ∃ FF, FF = F0 ++ [(t, j, T)] := ⟨_, rfl⟩
          rw [← hFF] at p4 hs1
          have hFFl : FF.length ≤ 100003 := by rw [hFF]; simp; omega
          clear hFF
          have hA : (w4.alloc (.cells #[.int .i64 m1, .int .i64 m2, .int .i64 m3] 40)).ownsRow BB 40 3 v4 FF.length (plC FF) := ownsRow_fr p4 ((Fr.refl noB w4).alloc _) (fun _ _ q => q)
          have hN := cell_new3 w4 (.int .i64 m1) (.int .i64 m2) (.int .i64 m3) 40
          have hone := one_pl (m1, m2, m3)
          go_wp2_with (first
            | (at_builtin; go_must (refine wpList_append_at _ rfl (.tmp 47) (.tmp 55) 29 rfl BB 40 i0 _ 3 24 Try.underlying29 hi hz0 hz1 hz2 rfl (by omega) _ FF.length _ rfl hA ⟨w4.heap.size, 0, none⟩ 1 1 [.int .i64 m1, .int .i64 m2, .int .i64 m3] rfl rfl hN hone ?_ ?_ ?_ ?_))
            | fail)
          · unfold maxLen; omega
          · omega
          · have := fb.size; simp; omega
          intro v5 w5 o5 gr5 _
          have f5 : Fr noB wa w5 := fb.trans (((Fr.refl (fun k => BB ≤ k) w4).alloc (.cells #[.int .i64 m1, .int .i64 m2, .int .i64 m3] 40)).grown gr5 (fun q hq _ => (hA.lt q hq).1)) (fun _ _ q => q) (fun i hi q => by omega)
          have p5 : w5.ownsRow BB 40 3 v5 (FF ++ [(m1, m2, m3)]).length (plC (FF ++ [(m1, m2, m3)])) := by rw [plC_append]; simpa [plC, plV] using o5
          clear hA hN hone o5 gr5
          go_wp2_with fail
          go_roundw
          case rel => exact ⟨k + 1, by omega, by go_num, by rw [hs2.out], f5, by rw [hs1.out]; exact p5⟩
          case measure => simp [RowKit.intOf]; omega
        · have hd3 : decide (t < m1) = false := by simpa using htm
          replace hs1 : Hid (midL (M.take (k + 1)) (t, j, T) = F0 ++ [(m1, m2, m3)]) := Lib.hid (by rw [hs1]; simp [htm]; exact htk.out)
          replace hs2 : Hid (anyL (M.take (k + 1)) (t, j, T) = false) := Lib.hid (by rw [hs2]; simp [htm])
          have hA : (wr.alloc (.cells #[.int .i64 m1, .int .i64 m2, .int .i64 m3] 40)).ownsRow BB 40 3 u6 F0.length (plC F0) := ownsRow_fr ho ((Fr.refl noB wr).alloc _) (fun _ _ q => q)
          have hN := cell_new3 wr (.int .i64 m1) (.int .i64 m2) (.int .i64 m3) 40
          have hone := one_pl (m1, m2, m3)
          go_wp2_with (first
            | (at_builtin; go_must (refine wpList_append_at _ rfl (.tmp 47) (.tmp 55) 29 rfl BB 40 i0 _ 3 24 Try.underlying29 hi hz0 hz1 hz2 rfl (by omega) _ F0.length _ rfl hA ⟨wr.heap.size, 0, none⟩ 1 1 [.int .i64 m1, .int .i64 m2, .int .i64 m3] rfl rfl hN hone ?_ ?_ ?_ ?_))
            | fail)
          · unfold maxLen; omega
          · omega
          · have := fr.size; simp; omega
          intro v5 w5 o5 gr5 _
          have f5 : Fr noB wa w5 := fr.trans (((Fr.refl (fun k => BB ≤ k) wr).alloc (.cells #[.int .i64 m1, .int .i64 m2, .int .i64 m3] 40)).grown gr5 (fun q hq _ => (hA.lt q hq).1)) (fun _ _ q => q) (fun i hi q => by omega)
          have p5 : w5.ownsRow BB 40 3 v5 (F0 ++ [(m1, m2, m3)]).length (plC (F0 ++ [(m1, m2, m3)])) := by rw [plC_append]; simpa [plC, plV] using o5
          clear hA hN hone o5 gr5
          go_wp2_with fail
          go_roundw
          case rel => exact ⟨k + 1, by omega, by go_num, by rw [hs2.out], f5, by rw [hs1.out]; exact p5⟩
          case measure => simp [RowKit.intOf]; omega
    · obtain rfl : k = n := by omega
      have hFL : (M.take k) = M := List.take_of_length_le (by have := hn.out; omega)
      rw [hFL] at ho hlen ⊢
      have hE := midL_end M (t, j, T)
      have hiL : (insL M (t, j, T)).length ≤ 100000 := by
        have := congrArg List.length (List.takeWhile_append_dropWhile (p := fun m : PL => !decide ((t, j, T).1 < m.1)) (l := M))
        have h9 := hn.out
        unfold insL
        simp only [List.length_append, List.length_cons] at *
        omega
      have hnl : anyL M (t, j, T) = false → M = midL M (t, j, T) := fun h => by unfold midL; rw [h]; simp
      generalize hFi : insL M (t, j, T) = Fi at *
      replace hFi := Lib.hid hFi
      generalize hD : anyL M (t, j, T) = D at *
      generalize midL M (t, j, T) = F at *
      replace hD := Lib.hid hD
      have hFl : F.length ≤ 100002 := by have := hn.out; omega
      clear hlen hlen2
      have fin : ∀ (v : Value) (w5 : World), Fr noB wa w5 → w5.ownsRow BB 40 3 v Fi.length (plC Fi) → ∃ a9 c9, v = .slice a9 Fi.length c9 ∧ w5.frozen? ⟨r, 1, none⟩ = false ∧ w5.cell? ⟨r, 1, none⟩ = some (.slice aL k cL) ∧ (Rl (w5.setCell ⟨r, 1, none⟩ v) r B T (insL M (t, j, T)) O ∧ Fr (onlyB r) w (w5.setCell ⟨r, 1, none⟩ v)) := by
        intro v w5 f5 o5
        obtain ⟨a9, c9, rfl⟩ := ownsRow_slice o5
        have b5 := (fa.seqN f5).blk hb (fun q => q)
        have b6 := b5.set 1 (.slice a9 Fi.length c9)
        have fs := (Fr.refl (onlyB r) w5).store (g := r) (i := 1) (v := .slice a9 Fi.length c9) (onlyB_self r)
        have f6 := fa.seqN f5
        have hw1 := f1.size
        refine ⟨a9, c9, rfl, b5.frozen 1, b5.cell 1, ?_, ?_⟩
        · rw [hFi.out]
          refine ⟨⟨a9, c9, aO, cO, b6, ownsRow_mono (ownsRow_fr o5 fs (fun q hq => by have := (o5.lt q hq).1; have := hob.out; unfold onlyB; omega)) (by have := hob.out; omega), ownsRow_fr (ownsRow_fr h2 f6 (fun _ _ q => q)) fs (fun q hq => by have := (h2.lt q hq).1; unfold onlyB; omega), ?_⟩, rB, ?_, hiL, lO⟩
          · intro q hq hq2
            have := (o5.lt q hq).1
            have := (h2.lt q hq2).2
            have := hob.out
            omega
          · have := f6.size; have := fs.size; omega
        · exact f1.trans ((f6.mono (fun _ _ q => False.elim q)).trans fs (fun _ _ q => q) (fun _ _ q => q)) (fun _ _ q => q) (fun _ _ q => q)
      replace fin := Lib.hid fin
      cases D with
      | true =>
        replace hE : Hid (Fi = F) := Lib.hid (by simpa using hE)
        obtain ⟨a9, c9, hv, fz, fc, R1, R2⟩ := fin.out _ _ fr (by rw [hE.out]; exact ho)
        subst hv
        go_wp2_with fail
        go_end0
        exact ⟨rfl, R1, R2⟩
      | false =>
        obtain rfl := hnl rfl
        replace hE : Hid (Fi = M ++ [(t, j, T)]) := Lib.hid (by simpa using hE)
        have hA : (wr.alloc (.cells #[.int .i64 t, .int .i64 j, .int .i64 T] 40)).ownsRow BB 40 3 u6 M.length (plC M) := ownsRow_fr ho ((Fr.refl noB wr).alloc _) (fun _ _ q => q)
        have hN := cell_new3 wr (.int .i64 t) (.int .i64 j) (.int .i64 T) 40
        have hone := one_pl (t, j, T)
        go_wp2_with (first
          | (at_builtin; go_must (refine wpList_append_at _ rfl (.tmp 59) (.tmp 61) 29 rfl BB 40 i0 _ 3 24 Try.underlying29 hi hz0 hz1 hz2 rfl (by omega) _ M.length _ rfl hA ⟨wr.heap.size, 0, none⟩ 1 1 [.int .i64 t, .int .i64 j, .int .i64 T] rfl rfl hN hone ?_ ?_ ?_ ?_))
          | fail)
        · unfold maxLen; omega
        · omega
        · have := fr.size; simp; omega
        intro v5 w5 o5 gr5 _
        have f5 : Fr noB wa w5 := fr.trans (((Fr.refl (fun k => BB ≤ k) wr).alloc (.cells #[.int .i64 t, .int .i64 j, .int .i64 T] 40)).grown gr5 (fun q hq _ => (hA.lt q hq).1)) (fun _ _ q => q) (fun i hi q => by omega)
        have p5 : w5.ownsRow BB 40 3 v5 (M ++ [(t, j, T)]).length (plC (M ++ [(t, j, T)])) := by rw [plC_append]; simpa [plC, plV] using o5
        clear hA hN hone o5 gr5
        obtain ⟨a9, c9, hv, fz, fc, R1, R2⟩ := fin.out _ _ f5 (by rw [hE.out]; exact p5)
        subst hv
        go_wp2_with fail
        go_end0
        exact ⟨rfl, R1, R2⟩
end Go.Proofs.Ytomgkegjdkkhoaa
