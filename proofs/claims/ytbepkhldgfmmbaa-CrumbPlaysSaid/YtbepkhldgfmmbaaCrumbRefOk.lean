/-
  The document's answer by definition: an agent is named: a pair is put in order of the traces.
-/
import Derived.Test.YtbepkhldgfmmbaaCrumbRefAdd
set_option linter.unusedVariables false
set_option linter.unusedSimpArgs false
namespace Go.Proofs.Ytbepkhldgfmmbaa
open Go.RowKit Go Go.Maps Go.Lib

/-- a trace with its names, put in order of the traces -/
def insP : List (Int × List Int) → Int × List Int → List (Int × List Int)
  | [], x => [x]
  | a :: r, x => if x.1 < a.1 then x :: a :: r else a :: insP r x
def anyP (l : List (Int × List Int)) (x : Int) : Bool := l.any fun y => decide (x < y.1)
theorem insP_none {l : List (Int × List Int)} {x : Int × List Int} (h : anyP l x.1 = false) : insP l x = l ++ [x] := by
  induction l with
  | nil => rfl
  | cons a r ih =>
    simp only [anyP, List.any_cons, Bool.or_eq_false_iff, decide_eq_false_iff_not] at h
    unfold insP
    rw [if_neg h.1, ih h.2]; rfl
theorem insP_snoc {l : List (Int × List Int)} {x : Int × List Int} (y : Int × List Int) (h : anyP l x.1 = true) : insP (l ++ [y]) x = insP l x ++ [y] := by
  induction l with
  | nil => simp [anyP] at h
  | cons a r ih =>
    by_cases ha : x.1 < a.1
    · simp [insP, ha]
    · simp only [anyP, List.any_cons, Bool.or_eq_true, decide_eq_true_eq] at h
      have := ih (h.resolve_left ha)
      simp only [List.cons_append, insP, if_neg ha, this]
theorem insP_here {l : List (Int × List Int)} {x y : Int × List Int} (h : anyP l x.1 = false) (hy : x.1 < y.1) : insP (l ++ [y]) x = l ++ [x] ++ [y] := by
  induction l with
  | nil => simp [insP, hy]
  | cons a r ih =>
    simp only [anyP, List.any_cons, Bool.or_eq_false_iff, decide_eq_false_iff_not] at h
    have := ih h.2
    simp only [List.cons_append, insP, if_neg h.1, this]
theorem anyP_snoc (l : List (Int × List Int)) (x : Int) (y : Int × List Int) : anyP (l ++ [y]) x = (anyP l x || decide (x < y.1)) := by simp [anyP]
def outP (l : List (Int × List Int)) (x : Int × List Int) : List (Int × List Int) := if anyP l x.1 then insP l x else l
theorem insP_len (l : List (Int × List Int)) (x : Int × List Int) : (insP l x).length = l.length + 1 := by
  induction l with
  | nil => rfl
  | cons a r ih => unfold insP; split <;> simp_all
theorem outP_len (l : List (Int × List Int)) (x : Int × List Int) : (outP l x).length ≤ l.length + 1 := by
  unfold outP; split
  · exact Nat.le_of_eq (insP_len l x)
  · exact Nat.le_succ _

/-- what has been put so far -/
structure Pt (w : World) (E : List (Int × List Int)) (p : Int × List Int) (k : Nat) (d : Bool) (F : List (Int × List Int)) (V : List Value) : Prop where
  any : d = anyP (E.take k) p.1
  eq : F = outP (E.take k) p
  len : V.length = F.length
  rd : ∀ i, i < F.length → RdI w (V.getD i (.slice none 0 0)) (F.getD i (0, [])).2

theorem rd_snoc {w : World} {F : List (Int × List Int)} {V : List Value} {m : Int × List Int} {u : Value} (hl : V.length = F.length) (h : ∀ i, i < F.length → RdI w (V.getD i (.slice none 0 0)) (F.getD i (0, [])).2) (hu : RdI w u m.2) :
    (V ++ [u]).length = (F ++ [m]).length ∧ ∀ i, i < (F ++ [m]).length → RdI w ((V ++ [u]).getD i (.slice none 0 0)) ((F ++ [m]).getD i (0, [])).2 := by
  refine ⟨by simp [hl], fun i hi => ?_⟩
  by_cases hi2 : i < F.length
  · have := h i hi2
    simp only [List.getD, List.getElem?_append_left hi2, List.getElem?_append_left (show i < V.length by rw [hl]; exact hi2)] at this ⊢
    exact this
  · have : i = F.length := by simp at hi; omega
    subst this
    have h3 : (V ++ [u])[F.length]? = some u := by rw [← hl]; simp
    simp only [List.getD, h3, Option.getD_some]
    simpa using hu
theorem take_next {α : Type} {E : List α} {k : Nat} {m : α} (hm : E[k]? = some m) : E.take (k + 1) = E.take k ++ [m] := by
  obtain ⟨hk, e⟩ := List.getElem?_eq_some_iff.1 hm
  rw [List.take_succ_eq_append_getElem hk, e]
theorem Pt.yes {w : World} {E : List (Int × List Int)} {p m : Int × List Int} {k : Nat} {F : List (Int × List Int)} {V : List Value} {u : Value} (h : Pt w E p k true F V) (hm : E[k]? = some m) (hu : RdI w u m.2) : Pt w E p (k + 1) true (F ++ [m]) (V ++ [u]) := by
  obtain ⟨h1, h2, h3, h4⟩ := h
  obtain ⟨h5, h6⟩ := rd_snoc h3 h4 hu
  have h7 : anyP (E.take k ++ [m]) p.1 = true := by rw [anyP_snoc, ← h1]; rfl
  refine ⟨by rw [take_next hm, h7], ?_, h5, h6⟩
  rw [take_next hm]
  unfold outP at h2 ⊢
  rw [h2, if_pos h1.symm, if_pos h7, insP_snoc m h1.symm]
theorem Pt.here {w : World} {E : List (Int × List Int)} {p m : Int × List Int} {k : Nat} {F : List (Int × List Int)} {V : List Value} {u l : Value} (h : Pt w E p k false F V) (hm : E[k]? = some m) (hp : p.1 < m.1) (hu : RdI w u m.2) (hl : RdI w l p.2) : Pt w E p (k + 1) true (F ++ [p] ++ [m]) (V ++ [l] ++ [u]) := by
  obtain ⟨h1, h2, h3, h4⟩ := h
  obtain ⟨h5, h6⟩ := rd_snoc h3 h4 hl
  obtain ⟨h5, h6⟩ := rd_snoc h5 h6 hu
  have h7 : anyP (E.take k ++ [m]) p.1 = true := by rw [anyP_snoc]; simp [hp]
  refine ⟨by rw [take_next hm, h7], ?_, h5, h6⟩
  rw [take_next hm]
  unfold outP at h2 ⊢
  rw [← h1] at h2
  simp only [Bool.false_eq_true, if_false] at h2
  rw [h2, if_pos h7, insP_here h1.symm hp]
theorem Pt.no {w : World} {E : List (Int × List Int)} {p m : Int × List Int} {k : Nat} {F : List (Int × List Int)} {V : List Value} {u : Value} (h : Pt w E p k false F V) (hm : E[k]? = some m) (hp : ¬ p.1 < m.1) (hu : RdI w u m.2) : Pt w E p (k + 1) false (F ++ [m]) (V ++ [u]) := by
  obtain ⟨h1, h2, h3, h4⟩ := h
  obtain ⟨h5, h6⟩ := rd_snoc h3 h4 hu
  have h7 : anyP (E.take k ++ [m]) p.1 = false := by rw [anyP_snoc, ← h1]; simp; omega
  refine ⟨by rw [take_next hm, h7], ?_, h5, h6⟩
  rw [take_next hm]
  unfold outP at h2 ⊢
  rw [← h1] at h2
  rw [h7]
  simp only [Bool.false_eq_true, if_false] at h2 ⊢
  rw [h2]
theorem Pt.len_le {w : World} {E : List (Int × List Int)} {p : Int × List Int} {k : Nat} {d : Bool} {F : List (Int × List Int)} {V : List Value} (h : Pt w E p k d F V) : F.length ≤ k + 1 := by
  rw [h.eq]; exact Nat.le_trans (outP_len _ _) (by have := List.length_take_le k E; omega)
theorem Pt.done_yes {w : World} {E : List (Int × List Int)} {p : Int × List Int} {F : List (Int × List Int)} {V : List Value} (h : Pt w E p E.length true F V) : F = insP E p := by
  obtain ⟨h1, h2, h3, h4⟩ := h
  rw [List.take_length] at h1 h2
  unfold outP at h2
  rw [h2, if_pos h1.symm]
theorem Pt.done_no {w : World} {E : List (Int × List Int)} {p : Int × List Int} {F : List (Int × List Int)} {V : List Value} (h : Pt w E p E.length false F V) : F ++ [p] = insP E p := by
  obtain ⟨h1, h2, h3, h4⟩ := h
  rw [List.take_length] at h1 h2
  unfold outP at h2
  rw [← h1] at h2
  rw [insP_none h1.symm, h2]; rfl

theorem growT {w wr w1 : World} {D n x : Nat} {tv av : Value} {xs V : List Value} {o : Obj} (hD : Hid (w.heap.size = D)) (fr : Fr noB w wr) (hA : (wr.alloc o).ownsRow D 3 1 tv n xs) (oA : wr.ownsRow D 27 1 av x V) (gr : (wr.alloc o).grownBy w1 tv.ownBlock) :
    w1.ownsRow D 27 1 av x V ∧ Fr noB w w1 := by
  have oAX := ownsRow_fr oA ((Fr.refl noB wr).alloc o) (fun _ _ q => q)
  exact ⟨ownsRow_other oAX gr (rows_apart oAX hA (by decide)), (fr.alloc _).grown gr (fun q hq hlt => by have := (hA.lt q hq).1; have := hD.out; omega)⟩
theorem growA {w wr w1 : World} {D n x : Nat} {tv av : Value} {xs V : List Value} {o : Obj} (hD : Hid (w.heap.size = D)) (fr : Fr noB w wr) (hA : (wr.alloc o).ownsRow D 27 1 av n V) (oT : wr.ownsRow D 3 1 tv x xs) (gr : (wr.alloc o).grownBy w1 av.ownBlock) :
    w1.ownsRow D 3 1 tv x xs ∧ Fr noB w w1 := by
  have oTX := ownsRow_fr oT ((Fr.refl noB wr).alloc o) (fun _ _ q => q)
  exact ⟨ownsRow_other oTX gr (rows_apart oTX hA (by decide)), (fr.alloc _).grown gr (fun q hq hlt => by have := (hA.lt q hq).1; have := hD.out; omega)⟩
theorem snoc_row {w : World} {D : Nat} {tv av : Value} {F : List (Int × List Int)} {V : List Value} {m : Int × List Int} {u : Value} (h1 : w.ownsRow D 3 1 tv (F.length + 1) (rowV (F.map (·.1)) ++ [.int .i64 m.1])) (h2 : w.ownsRow D 27 1 av (F.length + 1) (V ++ [u])) :
    w.ownsRow D 3 1 tv (F ++ [m]).length (rowV ((F ++ [m]).map (·.1))) ∧ w.ownsRow D 27 1 av (F ++ [m]).length (V ++ [u]) := by
  have e1 : (F ++ [m]).length = F.length + 1 := by simp
  have e2 : rowV ((F ++ [m]).map (·.1)) = rowV (F.map (·.1)) ++ [.int .i64 m.1] := by simp [rowV]
  rw [e1, e2]; exact ⟨h1, h2⟩

theorem RdI.lt {w : World} {g o n c : Nat} {xs : List Int} (h : RdI w (.slice (some ⟨g, o, none⟩) n c) xs) (hx : xs ≠ []) : g < w.heap.size := by
  obtain ⟨a, c2, e, h1, h2, h3⟩ := h
  obtain ⟨g2, o2, e2, h4⟩ := h3 0 (List.length_pos_iff.2 hx)
  simp only [Value.slice.injEq] at e
  obtain ⟨e, _, _⟩ := e
  rw [← e] at e2
  cases e2
  exact lt_of_cell h4

/-- the loop that puts a pair in order, and what follows it -/
def PutsP (r D B : Nat) (N t : Int) (Y : List Int) (E : List (Int × List Int)) (l : Value) (VA : List Value) (w w' : World) : Prop :=
  (∃ aT cT aA cA V, Rc w' r D N (insP E (t, Y)) aT cT aA cA V ∧ ∀ z ∈ V, z ∈ VA ∨ z = l) ∧ Fr (onlyB r) w w'

theorem puts_fin {r D B cT cA : Nat} {aT aA aT' aA' : Option Addr} {cT' cA' : Nat} {N t : Int} {Y : List Int} {E F : List (Int × List Int)} {l : Value} {VA V : List Value} {w wr : World} (hrB : r < D) (hD : w.heap.size = D)
    (hb : Blk w r 30 [.int .i64 N, .slice aT E.length cT, .slice aA E.length cA])
    (hap : ∀ u ∈ VA, ∀ g o n c, u = .slice (some ⟨g, o, none⟩) n c → g ≠ r ∧ g < w.heap.size) (hlp : ∀ g o n c, l = .slice (some ⟨g, o, none⟩) n c → g ≠ r ∧ g < w.heap.size)
    (hF : F = insP E (t, Y)) (hlen : V.length = F.length) (hrd : ∀ i, i < F.length → RdI w (V.getD i (.slice none 0 0)) (F.getD i (0, [])).2) (hsub : ∀ z ∈ V, z ∈ VA ∨ z = l)
    (oT : wr.ownsRow D 3 1 (.slice aT' F.length cT') F.length (rowV (F.map (·.1)))) (oA : wr.ownsRow D 27 1 (.slice aA' F.length cA') F.length V) (fr : Fr noB w wr) :
    PutsP r D B N t Y E l VA w ((wr.setCell ⟨r, 1, none⟩ (.slice aT' F.length cT')).setCell ⟨r, 2, none⟩ (.slice aA' F.length cA')) := by
  have b0 := fr.blk hb (fun q => q)
  have b2 := (b0.set 1 (.slice aT' F.length cT')).set 2 (.slice aA' F.length cA')
  have g1 : Fr (onlyB r) wr (wr.setCell ⟨r, 1, none⟩ (.slice aT' F.length cT')) := (Fr.refl _ _).store rfl
  have g2 : Fr (onlyB r) (wr.setCell ⟨r, 1, none⟩ (.slice aT' F.length cT')) ((wr.setCell ⟨r, 1, none⟩ (.slice aT' F.length cT')).setCell ⟨r, 2, none⟩ (.slice aA' F.length cA')) := (Fr.refl _ _).store rfl
  have g3 := g1.seqB g2 (fun _ => rfl)
  have hrD : ∀ q, D ≤ q → ¬ onlyB r q := fun q hq z => by unfold onlyB at z; omega
  have fw : Fr (onlyB r) w ((wr.setCell ⟨r, 1, none⟩ (.slice aT' F.length cT')).setCell ⟨r, 2, none⟩ (.slice aA' F.length cA')) := (fr.mono (fun _ _ q => False.elim q)).seqB g3 (fun _ => rfl)
  have hall : ∀ u ∈ V, ∀ g o n c, u = .slice (some ⟨g, o, none⟩) n c → g ≠ r ∧ g < w.heap.size := fun u hu => by
    rcases hsub u hu with h | rfl
    · exact hap u h
    · exact hlp
  refine ⟨⟨aT', cT', aA', cA', V, ?_, hsub⟩, fw⟩
  rw [← hF]
  refine ⟨by simpa using b2, ownsRow_fr oT g3 (fun q hq => hrD q (oT.lt q hq).1), ownsRow_fr oA g3 (fun q hq => hrD q (oA.lt q hq).1), fun i hi => (hrd i hi).fr fw (fun g o n c e => ?_), fun u hu g o n c e => ?_, by omega, by have := fw.size; omega⟩
  · have hi2 : i < V.length := by rw [hlen]; exact hi
    have hm9 : V.getD i (.slice none 0 0) ∈ V := List.mem_of_getElem? (show V[i]? = some (V.getD i (.slice none 0 0)) by simp [List.getD, hi2])
    exact (hall _ hm9 g o n c e).1
  · have h9 := hall u hu g o n c e
    exact ⟨h9.1, by have := fw.size; omega⟩

set_option maxHeartbeats 4000000 in
set_option maxRecDepth 10000 in
theorem radd_ok (r B : Nat) (N t a : Int) (E0 : List (Int × List Int)) (aT0 : Option Addr) (cT0 : Nat) (aA0 : Option Addr) (cA0 : Nat) (VA0 : List Value) (w0 : World) (h : Rc w0 r B N E0 aT0 cT0 aA0 cA0 VA0) (hE : E0.length ≤ 1000000) (ht1 : 1 ≤ t) (ht2 : t ≤ 65535) (ha0 : 0 ≤ a) (ha1 : a < N) (hm : a ∉ (look E0 t).getD []) (hX : ((look E0 t).getD []).length ≤ 1000000) :
    Calls Try.prog 10 #[.pointer (some ⟨r, 0, none⟩), .int .i64 t, .int .i64 a] w0 fun e w' => e = .returned (.int .i64 0) ∧ (∃ aT cT aA cA V, Rc w' r w0.heap.size N (insP (without E0 t) (t, insG ((look E0 t).getD []) a)) aT cT aA cA V ∧ ∀ z ∈ V, z ∈ VA0 ∨ ∀ g o n c, z = .slice (some ⟨g, o, none⟩) n c → w0.heap.size ≤ g) ∧ Fr (onlyB r) w0 w' := by
  obtain ⟨i0, hi0, hz0, hz1, hz2⟩ : ∃ i0, Try.prog.info? 3 = some i0 ∧ i0.zero = some (.int .i64 0) ∧ i0.size = 1 ∧ i0.bytes = 8 := by
    have hI := infoIntR
    cases hq : Try.prog.info? 3 with
    | none => rw [hq] at hI; cases hI
    | some k => rw [hq] at hI; simp at hI; exact ⟨k, rfl, hI⟩
  obtain ⟨j0, hj0, hy0, hy1, hy2⟩ : ∃ i0, Try.prog.info? 27 = some i0 ∧ i0.zero = some (.slice none 0 0) ∧ i0.size = 1 ∧ i0.bytes = 24 := by
    have hI := infoSlR
    cases hq : Try.prog.info? 27 with
    | none => rw [hq] at hI; cases hI
    | some k => rw [hq] at hI; simp at hI; exact ⟨k, rfl, hI⟩
  have c0 : w0.cell? ⟨r, 0, none⟩ = some (.int .i64 N) := h.blk.cell 0
  have hrw9 : r < w0.heap.size := Nat.lt_of_lt_of_le h.rB h.Bw
  have h2 : decide (t < 1) = false := by simp; omega
  have h3 : decide (65535 < t) = false := by simp; omega
  have h4 : decide (a < 0) = false := by simp; omega
  have h5 : decide (N ≤ a) = false := by simp; omega
  have hof := rof_any r B N t E0 aT0 cT0 aA0 cA0 VA0 w0 h hE
  have hd : decide (a ∈ (look E0 t).getD []) = false := by simpa using hm
  clear hm
  obtain ⟨X, hXe⟩ : ∃ X, X = (look E0 t).getD [] := ⟨_, rfl⟩
  rw [← hXe] at hX hd hof ⊢
  replace hXe := Lib.hid hXe
  go_enter Try.func10, Try.ntmps10
  go_wp2_with fail
  refine hof.mono ?_
  rintro e w1 ⟨v, rfl, hr, q, hw1⟩
  have f1 : Fr noB w0 w1 := by rw [hw1]; exact (Fr.refl noB w0).drewN q
  have k1 : Rc w1 r B N E0 aT0 cT0 aA0 cA0 VA0 := by rw [hw1]; exact h.drewN q
  have hr1 : RdI w1 v X := by rw [hw1]; exact hr.drewN q
  clear hw1 hr hof c0 h
  go_wp2_with fail
  refine (rin_any v X a w1 hr1).mono ?_
  rintro e w2 ⟨rfl, q2, hw2⟩
  rw [hd]
  have f2 : Fr noB w0 w2 := f1.seqN (by rw [hw2]; exact (Fr.refl noB w1).drewN q2)
  have k2 : Rc w2 r B N E0 aT0 cT0 aA0 cA0 VA0 := by rw [hw2]; exact k1.drewN q2
  clear hw2 f1 hr1 k1 hd h2 h3 h4 h5
  have hof := rof_any r B N t E0 aT0 cT0 aA0 cA0 VA0 w2 k2 hE
  rw [← hXe.out] at hof
  go_wp2_with fail
  refine hof.mono ?_
  rintro e w1 ⟨v2, rfl, hr, q, hw1⟩
  have f1 : Fr noB w0 w1 := by rw [hw1]; exact f2.drewN q
  have k1 : Rc w1 r B N E0 aT0 cT0 aA0 cA0 VA0 := by rw [hw1]; exact k2.drewN q
  have hr1 : RdI w1 v2 X := by rw [hw1]; exact hr.drewN q
  clear hw1 hr hof f2 k2
  go_wp2_with fail
  refine (rinsert_any v2 X a w1 hr1 hX).mono ?_
  rintro e w2 ⟨lv, rfl, hlo, fI⟩
  have f2 : Fr noB w0 w2 := f1.seqN fI
  have k2 : Rc w2 r B N E0 aT0 cT0 aA0 cA0 VA0 := k1.frN fI
  have hlw : w0.heap.size ≤ w1.heap.size := f1.size
  obtain ⟨al, cl, rfl⟩ := ownsRow_slice hlo
  have hrw1 : r < w1.heap.size := by have := k1.rB; have := k1.Bw; omega
  have hlI : RdI w2 (.slice al (insG X a).length cl) (insG X a) := RdI.of_own hlo
  have hln : insG X a ≠ [] := fun e => by have := insG_len X a; rw [e] at this; cases this
  have hlb : ∀ g o n c, Value.slice al (insG X a).length cl = .slice (some ⟨g, o, none⟩) n c → w1.heap.size ≤ g ∧ g < w2.heap.size := fun g o n c e => by
    simp only [Value.slice.injEq] at e
    obtain ⟨rfl, rfl, rfl⟩ := e
    exact hlo.lt g rfl
  clear fI k1 f1 hr1
  obtain ⟨Y, hY⟩ : ∃ Y, Y = insG X a := ⟨_, rfl⟩
  rw [← hY] at hlo hlI hln hlb
  obtain ⟨ln, hln9⟩ : ∃ ln, ln = Y.length := ⟨_, rfl⟩
  rw [← hY, ← hln9]
  rw [← hln9] at hlo hlI hlb
  replace hY := Lib.hid hY
  replace hln9 := Lib.hid hln9
  clear hlo
  replace hlI := Lib.hid hlI
  replace hlb := Lib.hid hlb
  go_wp2_with fail
  refine (rdrop_any r B N t E0 aT0 cT0 aA0 cA0 VA0 w2 k2 hE).mono ?_
  rintro e w ⟨rfl, ⟨aT, cT, aA, cA, VA, hR, hVA⟩, fD⟩
  have hEl : (without E0 t).length ≤ 1000000 := Nat.le_trans (List.length_filter_le _ _) hE
  have hl9 : RdI w (.slice al ln cl) Y := hlI.out.fr fD (fun g o n c e => by have := hlb.out g o n c e; unfold onlyB; omega)
  have hlp : ∀ g o n c, Value.slice al ln cl = .slice (some ⟨g, o, none⟩) n c → g ≠ r ∧ g < w.heap.size := fun g o n c e => by have := hlb.out g o n c e; have := fD.size; omega
  have hlw9 : ∀ g o n c, Value.slice al ln cl = .slice (some ⟨g, o, none⟩) n c → w0.heap.size ≤ g := fun g o n c e => by have := hlb.out g o n c e; omega
  have f9 : Fr (onlyB r) w0 w := (f2.mono (fun _ _ q => False.elim q)).seqB fD (fun _ => rfl)
  have hs9 : w0.heap.size ≤ w.heap.size := f9.size
  clear hlI hlb hXe f2 k2 fD
  obtain ⟨E, hE9⟩ : ∃ E, E = without E0 t := ⟨_, rfl⟩
  rw [← hE9] at hR hEl
  replace hE9 := Lib.hid hE9
  replace hlp := Lib.hid hlp
  replace hlw9 := Lib.hid hlw9
  replace hVA := Lib.hid hVA
  replace f9 := Lib.hid f9
  replace hln := Lib.hid hln
  obtain ⟨hb, hrT, hrA, hrd, hap, hrB, hBw⟩ := hR
  replace hap := Lib.hid hap
  have hVl : VA.length = E.length := by simpa using hrA.1
  generalize hn : E.length = n at *
  replace hn := Lib.hid hn
  replace hVl := Lib.hid hVl
  replace hb := Lib.hid hb
  replace hrT := Lib.hid hrT
  replace hrA := Lib.hid hrA
  replace hrd := Lib.hid hrd
  have honl : Hid (∀ z ∈ [Value.slice al ln cl], z.oneCell' = true) := Lib.hid (one_rd hl9)
  replace hl9 := Lib.hid hl9
  generalize hD : w.heap.size = D at *
  replace hD := Lib.hid hD
  have hfin : ∀ w', PutsP r D B N t Y E (.slice al ln cl) VA w w' → (∃ aT cT aA cA V, Rc w' r w0.heap.size N (insP (without E0 t) (t, insG X a)) aT cT aA cA V ∧ ∀ z ∈ V, z ∈ VA0 ∨ ∀ g o n c, z = .slice (some ⟨g, o, none⟩) n c → w0.heap.size ≤ g) ∧ Fr (onlyB r) w0 w' := by
    rw [← hE9.out, ← hY.out]
    rintro w' ⟨⟨aT, cT, aA, cA, V, hR, hV⟩, f⟩
    refine ⟨⟨aT, cT, aA, cA, V, ⟨hR.blk, ownsRow_mono hR.rT hs9, ownsRow_mono hR.rA hs9, hR.rd, hR.ap, hrw9, by have := f.size; have := hD.out; omega⟩, fun z hz => (hV z hz).imp (fun q => hVA.out z q) (fun q => by rw [q]; exact hlw9.out)⟩, f9.out.seqB f (fun _ => rfl)⟩
  replace hfin := Lib.hid hfin
  clear hVA hlw9 f9
  go_wp2_with fail
  go_loopw [8, 9, 10, 11] (fun tv av dn i wr => ∃ (k : Nat) (F : List (Int × List Int)) (V : List Value) (d : Bool), k ≤ n ∧ i = .int .i64 k ∧ dn = .bool d ∧ wr.ownsRow D 3 1 tv F.length (rowV (F.map (·.1))) ∧ wr.ownsRow D 27 1 av F.length V ∧ Hid (Pt w E (t, Y) k d F V) ∧ Hid (∀ z ∈ V, z ∈ VA ∨ z = .slice al ln cl) ∧ Fr noB w wr) (fun _ _ _ i _ => n - (RowKit.intOf i).toNat)
  case atStart => exact ⟨0, [], [], false, by omega, rfl, rfl, World.ownsRow_nil _ _ _ _, World.ownsRow_nil _ _ _ _, Lib.hid ⟨by simp [anyP], by simp [outP, anyP], rfl, fun i hi => by simp at hi⟩, Lib.hid (by simp), Fr.refl _ _⟩
  case round =>
    obtain ⟨k, F, V, d, hk, rfl, rfl, oT, oA, hK, hsub, fr⟩ := hrel
    have c1 : wr.cell? ⟨r, 1, none⟩ = some (.slice aT n cT) := (fr.blk hb.out (fun q => q)).cell 1
    have c2 : wr.cell? ⟨r, 2, none⟩ = some (.slice aA n cA) := (fr.blk hb.out (fun q => q)).cell 2
    have hFl := hK.out.len_le
    by_cases hlt : k < n
    · obtain ⟨m, hm⟩ : ∃ m, E[k]? = some m := ⟨_, List.getElem?_eq_getElem (by rw [hn.out]; exact hlt)⟩
      obtain ⟨u, hu⟩ : ∃ u, VA[k]? = some u := ⟨_, List.getElem?_eq_getElem (by rw [hVl.out]; exact hlt)⟩
      obtain ⟨gT, rfl, e1⟩ := own_at hrT.out (i := k) (x := .int .i64 m.1) (by simp [rowV, hm])
      obtain ⟨gA, rfl, e2⟩ := own_at hrA.out hu
      have hru : RdI w u m.2 := by
        have := hrd.out k hlt
        simpa [List.getD, hm, hu] using this
      have e3 := fr.cell e1 (fun q => q)
      obtain ⟨au, lu, cu, rfl⟩ : ∃ au lu cu, u = .slice au lu cu := by obtain ⟨a, c, h, _⟩ := hru; exact ⟨a, _, c, h⟩
      have hone := Lib.hid (one_rd hru)
      have huV : Value.slice au lu cu ∈ VA := List.mem_of_getElem? hu
      have hsubm : ∀ W : List Value, (∀ z ∈ W, z ∈ VA ∨ z = .slice al ln cl) → Hid (∀ z ∈ W ++ [.slice au lu cu], z ∈ VA ∨ z = .slice al ln cl) := fun W hW => Lib.hid (fun z hz => (List.mem_append.1 hz).elim (hW z) (fun q => by rw [List.mem_singleton.1 q]; exact Or.inl huV))
      have hsubl : ∀ W : List Value, (∀ z ∈ W, z ∈ VA ∨ z = .slice al ln cl) → (∀ z ∈ W ++ [.slice al ln cl], z ∈ VA ∨ z = .slice al ln cl) := fun W hW => fun z hz => (List.mem_append.1 hz).elim (hW z) (fun q => by rw [List.mem_singleton.1 q]; exact Or.inr rfl)
      replace hsubm := Lib.hid hsubm
      replace hsubl := Lib.hid hsubl
      replace e1 := Lib.hid e1
      replace e2 := Lib.hid e2
      replace hu := Lib.hid hu
      clear huV
      cases d with
      | true =>
        have hK1 := Lib.hid (hK.out.yes hm hru)
        have hs1 := hsubm.out V hsub.out
        clear hm hru hK
        obtain ⟨x, y⟩ := m
        simp only at e3
        have hA : (wr.alloc (.cells #[.int .i64 x] 3)).ownsRow D 3 1 u8 F.length (rowV (F.map (·.1))) := ownsRow_fr oT ((Fr.refl noB wr).alloc _) (fun _ _ q => q)
        have hN := cell_new wr (.int .i64 x) 3
        have hDW : D ≤ wr.heap.size := by rw [← hD.out]; exact fr.size
        go_wp2_with (first
          | (at_builtin; go_must (refine wpList_append_at _ rfl (.tmp 71) (.tmp 79) 27 rfl D 3 i0 _ 1 8 Try.underlying27 hi0 hz0 hz1 hz2 rfl (by omega) _ F.length _ rfl hA ⟨wr.heap.size, 0, none⟩ 1 1 [.int .i64 x] rfl rfl hN (one_int _ _) ?_ ?_ ?_ ?_))
          | fail)
        · unfold maxLen; omega
        · omega
        · have := ((Fr.refl noB wr).alloc (.cells #[.int .i64 x] 3)).size; omega
        intro tvw1 w1 oTw1 grw1 _
        obtain ⟨oAw1, frw1⟩ := growT hD fr hA oA grw1
        clear hA hN grw1 hDW c1 c2 e3
        have dw1 : w1.cell? ⟨r, 2, none⟩ = some (.slice (some ⟨gA, 0, none⟩) n cA) := (frw1.blk hb.out (fun q => q)).cell 2
        have ew1 := frw1.cell e2.out (fun q => q)
        have hA : (w1.alloc (.cells #[.slice au lu cu] 27)).ownsRow D 27 1 u9 F.length V := ownsRow_fr oAw1 ((Fr.refl noB w1).alloc _) (fun _ _ q => q)
        have hN := cell_new w1 (.slice au lu cu) 27
        have hDW : D ≤ w1.heap.size := by rw [← hD.out]; exact frw1.size
        go_wp2_with (first
          | (at_builtin; go_must (refine wpList_append_at _ rfl (.tmp 81) (.tmp 89) 28 rfl D 27 j0 _ 1 24 Try.underlying28 hj0 hy0 hy1 hy2 rfl (by omega) _ F.length _ rfl hA ⟨w1.heap.size, 0, none⟩ 1 1 [.slice au lu cu] rfl rfl hN hone.out ?_ ?_ ?_ ?_))
          | fail)
        · unfold maxLen; omega
        · omega
        · have := ((Fr.refl noB w1).alloc (.cells #[.slice au lu cu] 27)).size; omega
        intro avw2 w2 oAw2 grw2 _
        obtain ⟨oTw2, frw2⟩ := growA hD frw1 hA oTw1 grw2
        clear hA hN grw2 hDW oTw1 oAw1 dw1 ew1
        obtain ⟨pTw2, pAw2⟩ := snoc_row (m := (x, y)) oTw2 oAw2
        clear oTw2 oAw2
        go_wp2_with fail
        go_roundw
        case rel => exact ⟨k + 1, F ++ [(x, y)], V ++ [.slice au lu cu], true, by omega, by go_num, rfl, pTw2, pAw2, hK1, hs1, frw2⟩
        case measure => simp [RowKit.intOf]; omega
      | false =>
        by_cases hxy : t < m.1
        · have hb1 : decide (t < m.1) = true := by simpa using hxy
          have hK1 := Lib.hid (hK.out.here hm hxy hru hl9.out)
          have hs1 := hsubm.out _ (hsubl.out V hsub.out)
          clear hm hru hK hxy
          obtain ⟨x, y⟩ := m
          simp only at e3 hb1
          have hA : (wr.alloc (.cells #[.int .i64 t] 3)).ownsRow D 3 1 u8 F.length (rowV (F.map (·.1))) := ownsRow_fr oT ((Fr.refl noB wr).alloc _) (fun _ _ q => q)
          have hN := cell_new wr (.int .i64 t) 3
          have hDW : D ≤ wr.heap.size := by rw [← hD.out]; exact fr.size
          go_wp2_with (first
            | (at_builtin; go_must (refine wpList_append_at _ rfl (.tmp 63) (.tmp 65) 27 rfl D 3 i0 _ 1 8 Try.underlying27 hi0 hz0 hz1 hz2 rfl (by omega) _ F.length _ rfl hA ⟨wr.heap.size, 0, none⟩ 1 1 [.int .i64 t] rfl rfl hN (one_int _ _) ?_ ?_ ?_ ?_))
            | fail)
          · unfold maxLen; omega
          · omega
          · have := ((Fr.refl noB wr).alloc (.cells #[.int .i64 t] 3)).size; omega
          intro tvw1 w1 oTw1 grw1 _
          obtain ⟨oAw1, frw1⟩ := growT hD fr hA oA grw1
          clear hA hN grw1 hDW c1 c2 e3
          have hA : (w1.alloc (.cells #[.slice al ln cl] 27)).ownsRow D 27 1 u9 F.length V := ownsRow_fr oAw1 ((Fr.refl noB w1).alloc _) (fun _ _ q => q)
          have hN := cell_new w1 (.slice al ln cl) 27
          have hDW : D ≤ w1.heap.size := by rw [← hD.out]; exact frw1.size
          go_wp2_with (first
            | (at_builtin; go_must (refine wpList_append_at _ rfl (.tmp 67) (.tmp 69) 28 rfl D 27 j0 _ 1 24 Try.underlying28 hj0 hy0 hy1 hy2 rfl (by omega) _ F.length _ rfl hA ⟨w1.heap.size, 0, none⟩ 1 1 [.slice al ln cl] rfl rfl hN honl.out ?_ ?_ ?_ ?_))
            | fail)
          · unfold maxLen; omega
          · omega
          · have := ((Fr.refl noB w1).alloc (.cells #[.slice al ln cl] 27)).size; omega
          intro avw2 w2 oAw2 grw2 _
          obtain ⟨oTw2, frw2⟩ := growA hD frw1 hA oTw1 grw2
          clear hA hN grw2 hDW oTw1 oAw1
          obtain ⟨pTw2, pAw2⟩ := snoc_row (m := (t, Y)) oTw2 oAw2
          clear oTw2 oAw2
          have hP1 : (F ++ [(t, Y)]).length ≤ k + 2 := by simp; omega
          have c1 : w2.cell? ⟨r, 1, none⟩ = some (.slice (some ⟨gT, 0, none⟩) n cT) := (frw2.blk hb.out (fun q => q)).cell 1
          have e3 := frw2.cell e1.out (fun q => q)
          generalize hP : F ++ [(t, Y)] = P at *
          generalize hO : V ++ [Value.slice al ln cl] = O at *
          replace hP := Lib.hid hP
          replace hO := Lib.hid hO
          have hA : (w2.alloc (.cells #[.int .i64 x] 3)).ownsRow D 3 1 tvw1 P.length (rowV (P.map (·.1))) := ownsRow_fr pTw2 ((Fr.refl noB w2).alloc _) (fun _ _ q => q)
          have hN := cell_new w2 (.int .i64 x) 3
          have hDW : D ≤ w2.heap.size := by rw [← hD.out]; exact frw2.size
          go_wp2_with (first
            | (at_builtin; go_must (refine wpList_append_at _ rfl (.tmp 71) (.tmp 79) 27 rfl D 3 i0 _ 1 8 Try.underlying27 hi0 hz0 hz1 hz2 rfl (by omega) _ P.length _ rfl hA ⟨w2.heap.size, 0, none⟩ 1 1 [.int .i64 x] rfl rfl hN (one_int _ _) ?_ ?_ ?_ ?_))
            | fail)
          · unfold maxLen; omega
          · omega
          · have := ((Fr.refl noB w2).alloc (.cells #[.int .i64 x] 3)).size; omega
          intro tvw3 w3 oTw3 grw3 _
          obtain ⟨oAw3, frw3⟩ := growT hD frw2 hA pAw2 grw3
          clear hA hN grw3 hDW c1 e3
          have dw3 : w3.cell? ⟨r, 2, none⟩ = some (.slice (some ⟨gA, 0, none⟩) n cA) := (frw3.blk hb.out (fun q => q)).cell 2
          have ew3 := frw3.cell e2.out (fun q => q)
          have hA : (w3.alloc (.cells #[.slice au lu cu] 27)).ownsRow D 27 1 avw2 P.length O := ownsRow_fr oAw3 ((Fr.refl noB w3).alloc _) (fun _ _ q => q)
          have hN := cell_new w3 (.slice au lu cu) 27
          have hDW : D ≤ w3.heap.size := by rw [← hD.out]; exact frw3.size
          go_wp2_with (first
            | (at_builtin; go_must (refine wpList_append_at _ rfl (.tmp 81) (.tmp 89) 28 rfl D 27 j0 _ 1 24 Try.underlying28 hj0 hy0 hy1 hy2 rfl (by omega) _ P.length _ rfl hA ⟨w3.heap.size, 0, none⟩ 1 1 [.slice au lu cu] rfl rfl hN hone.out ?_ ?_ ?_ ?_))
            | fail)
          · unfold maxLen; omega
          · omega
          · have := ((Fr.refl noB w3).alloc (.cells #[.slice au lu cu] 27)).size; omega
          intro avw4 w4 oAw4 grw4 _
          obtain ⟨oTw4, frw4⟩ := growA hD frw3 hA oTw3 grw4
          clear hA hN grw4 hDW oTw3 oAw3 dw3 ew3
          obtain ⟨pTw4, pAw4⟩ := snoc_row (m := (x, y)) oTw4 oAw4
          clear oTw4 oAw4
          go_wp2_with fail
          go_roundw
          case rel => exact ⟨k + 1, P ++ [(x, y)], O ++ [.slice au lu cu], true, by omega, by go_num, rfl, pTw4, pAw4, hK1, hs1, frw4⟩
          case measure => simp [RowKit.intOf]; omega
        · have hb1 : decide (t < m.1) = false := by simpa using hxy
          have hK1 := Lib.hid (hK.out.no hm hxy hru)
          have hs1 := hsubm.out V hsub.out
          clear hm hru hK hxy
          obtain ⟨x, y⟩ := m
          simp only at e3 hb1
          have hA : (wr.alloc (.cells #[.int .i64 x] 3)).ownsRow D 3 1 u8 F.length (rowV (F.map (·.1))) := ownsRow_fr oT ((Fr.refl noB wr).alloc _) (fun _ _ q => q)
          have hN := cell_new wr (.int .i64 x) 3
          have hDW : D ≤ wr.heap.size := by rw [← hD.out]; exact fr.size
          go_wp2_with (first
            | (at_builtin; go_must (refine wpList_append_at _ rfl (.tmp 71) (.tmp 79) 27 rfl D 3 i0 _ 1 8 Try.underlying27 hi0 hz0 hz1 hz2 rfl (by omega) _ F.length _ rfl hA ⟨wr.heap.size, 0, none⟩ 1 1 [.int .i64 x] rfl rfl hN (one_int _ _) ?_ ?_ ?_ ?_))
            | fail)
          · unfold maxLen; omega
          · omega
          · have := ((Fr.refl noB wr).alloc (.cells #[.int .i64 x] 3)).size; omega
          intro tvw1 w1 oTw1 grw1 _
          obtain ⟨oAw1, frw1⟩ := growT hD fr hA oA grw1
          clear hA hN grw1 hDW c1 c2 e3
          have dw1 : w1.cell? ⟨r, 2, none⟩ = some (.slice (some ⟨gA, 0, none⟩) n cA) := (frw1.blk hb.out (fun q => q)).cell 2
          have ew1 := frw1.cell e2.out (fun q => q)
          have hA : (w1.alloc (.cells #[.slice au lu cu] 27)).ownsRow D 27 1 u9 F.length V := ownsRow_fr oAw1 ((Fr.refl noB w1).alloc _) (fun _ _ q => q)
          have hN := cell_new w1 (.slice au lu cu) 27
          have hDW : D ≤ w1.heap.size := by rw [← hD.out]; exact frw1.size
          go_wp2_with (first
            | (at_builtin; go_must (refine wpList_append_at _ rfl (.tmp 81) (.tmp 89) 28 rfl D 27 j0 _ 1 24 Try.underlying28 hj0 hy0 hy1 hy2 rfl (by omega) _ F.length _ rfl hA ⟨w1.heap.size, 0, none⟩ 1 1 [.slice au lu cu] rfl rfl hN hone.out ?_ ?_ ?_ ?_))
            | fail)
          · unfold maxLen; omega
          · omega
          · have := ((Fr.refl noB w1).alloc (.cells #[.slice au lu cu] 27)).size; omega
          intro avw2 w2 oAw2 grw2 _
          obtain ⟨oTw2, frw2⟩ := growA hD frw1 hA oTw1 grw2
          clear hA hN grw2 hDW oTw1 oAw1 dw1 ew1
          obtain ⟨pTw2, pAw2⟩ := snoc_row (m := (x, y)) oTw2 oAw2
          clear oTw2 oAw2
          go_wp2_with fail
          go_roundw
          case rel => exact ⟨k + 1, F ++ [(x, y)], V ++ [.slice au lu cu], false, by omega, by go_num, rfl, pTw2, pAw2, hK1, hs1, frw2⟩
          case measure => simp [RowKit.intOf]; omega
    · obtain rfl : k = n := by omega
      cases d with
      | true =>
        have hF : F = insP E (t, Y) := (show Pt w E (t, Y) E.length true F V by rw [hn.out]; exact hK.out).done_yes
        obtain ⟨aT', cT', rfl⟩ := ownsRow_slice oT
        obtain ⟨aA', cA', rfl⟩ := ownsRow_slice oA
        have hout := puts_fin (B := B) (show r < D by omega) hD.out (by rw [hn.out]; exact hb.out) (by rw [hD.out]; exact hap.out) (by rw [hD.out]; exact hlp.out) hF hK.out.len hK.out.rd hsub.out oT oA fr
        have z0 := (fr.blk hb.out (fun q => q)).frozen 1
        have z1 := ((fr.blk hb.out (fun q => q)).set 1 (.slice aT' F.length cT')).frozen 2
        replace hout := Lib.hid hout
        clear hF hK
        go_wp2_with fail
        go_ret
        exact ⟨rfl, hfin.out _ hout.out⟩
      | false =>
        have hF : F ++ [(t, Y)] = insP E (t, Y) := (show Pt w E (t, Y) E.length false F V by rw [hn.out]; exact hK.out).done_no
        have hK1 := Lib.hid (rd_snoc (m := (t, Y)) hK.out.len hK.out.rd hl9.out)
        have hsub1 : Hid (∀ z ∈ V ++ [.slice al ln cl], z ∈ VA ∨ z = .slice al ln cl) := Lib.hid (fun z hz => (List.mem_append.1 hz).elim (hsub.out z) (fun q => by rw [List.mem_singleton.1 q]; exact Or.inr rfl))
        replace hF := Lib.hid hF
        clear hK
        have hA : (wr.alloc (.cells #[.int .i64 t] 3)).ownsRow D 3 1 u8 F.length (rowV (F.map (·.1))) := ownsRow_fr oT ((Fr.refl noB wr).alloc _) (fun _ _ q => q)
        have hN := cell_new wr (.int .i64 t) 3
        have hDW : D ≤ wr.heap.size := by rw [← hD.out]; exact fr.size
        go_wp2_with (first
          | (at_builtin; go_must (refine wpList_append_at _ rfl (.tmp 93) (.tmp 95) 27 rfl D 3 i0 _ 1 8 Try.underlying27 hi0 hz0 hz1 hz2 rfl (by omega) _ F.length _ rfl hA ⟨wr.heap.size, 0, none⟩ 1 1 [.int .i64 t] rfl rfl hN (one_int _ _) ?_ ?_ ?_ ?_))
          | fail)
        · unfold maxLen; omega
        · omega
        · have := ((Fr.refl noB wr).alloc (.cells #[.int .i64 t] 3)).size; omega
        intro tvw1 w1 oTw1 grw1 _
        obtain ⟨oAw1, frw1⟩ := growT hD fr hA oA grw1
        clear hA hN grw1 hDW c1 c2
        have hA : (w1.alloc (.cells #[.slice al ln cl] 27)).ownsRow D 27 1 u9 F.length V := ownsRow_fr oAw1 ((Fr.refl noB w1).alloc _) (fun _ _ q => q)
        have hN := cell_new w1 (.slice al ln cl) 27
        have hDW : D ≤ w1.heap.size := by rw [← hD.out]; exact frw1.size
        go_wp2_with (first
          | (at_builtin; go_must (refine wpList_append_at _ rfl (.tmp 97) (.tmp 99) 28 rfl D 27 j0 _ 1 24 Try.underlying28 hj0 hy0 hy1 hy2 rfl (by omega) _ F.length _ rfl hA ⟨w1.heap.size, 0, none⟩ 1 1 [.slice al ln cl] rfl rfl hN honl.out ?_ ?_ ?_ ?_))
          | fail)
        · unfold maxLen; omega
        · omega
        · have := ((Fr.refl noB w1).alloc (.cells #[.slice al ln cl] 27)).size; omega
        intro avw2 w2 oAw2 grw2 _
        obtain ⟨oTw2, frw2⟩ := growA hD frw1 hA oTw1 grw2
        clear hA hN grw2 hDW oTw1 oAw1
        obtain ⟨pTw2, pAw2⟩ := snoc_row (m := (t, Y)) oTw2 oAw2
        clear oTw2 oAw2
        generalize hP : F ++ [(t, Y)] = P at *
        generalize hO : V ++ [Value.slice al ln cl] = O at *
        obtain ⟨aT', cT', rfl⟩ := ownsRow_slice pTw2
        obtain ⟨aA', cA', rfl⟩ := ownsRow_slice pAw2
        have hout := puts_fin (B := B) (show r < D by omega) hD.out (by rw [hn.out]; exact hb.out) (by rw [hD.out]; exact hap.out) (by rw [hD.out]; exact hlp.out) hF.out hK1.out.1 hK1.out.2 hsub1.out pTw2 pAw2 frw2
        have z0 := (frw2.blk hb.out (fun q => q)).frozen 1
        have c1 : w2.cell? ⟨r, 1, none⟩ = some (.slice aT k cT) := (frw2.blk hb.out (fun q => q)).cell 1
        have c2 : (w2.setCell ⟨r, 1, none⟩ (.slice aT' P.length cT')).cell? ⟨r, 2, none⟩ = some (.slice aA k cA) := ((frw2.blk hb.out (fun q => q)).set 1 (.slice aT' P.length cT')).cell 2
        have z1 := ((frw2.blk hb.out (fun q => q)).set 1 (.slice aT' P.length cT')).frozen 2
        replace hout := Lib.hid hout
        replace hP := Lib.hid hP
        replace hO := Lib.hid hO
        clear hF hK1
        go_wp2_with fail
        go_ret
        exact ⟨rfl, hfin.out _ hout.out⟩
end Go.Proofs.Ytbepkhldgfmmbaa
