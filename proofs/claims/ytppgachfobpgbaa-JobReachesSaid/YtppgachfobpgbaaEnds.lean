/-
  What the law JobEnds walks: a job that is told all that it asks for is over behind so many rounds.
-/
import Derived.Test.YtppgachfobpgbaaEndsL
import Derived.Test.YtppgachfobpgbaaJobTwice
set_option linter.unusedVariables false
set_option linter.unusedSimpArgs false
namespace Go.Proofs.Ytppgachfobpgbaa
open Go.RowKit Go Go.Lib

/-- one row of names that came in -/
def IsNmJ (w : World) (cs : List Value) (xs : List Int) : Prop := ∃ sa sl sc, cs = [.slice sa sl sc] ∧ RdI w (.slice sa sl sc) xs
theorem nmj_open {H : Type} {enc : TypeId × Value → H} {w : World} {base : Nat} {held : Bool} (n : Nat) (cs : List Value) (y : DataW H × List MemPlace) (hl : cs.length = 1)
    (h : DataW.trod enc Try.prog w base (fun _ => true) held n 31 cs = some y) : ∃ xs, IsNmJ w cs xs := by
  match cs, hl with
  | [u], _ =>
    obtain ⟨xs, a, l, c, rfl, hr⟩ := row_open n u y h
    exact ⟨xs, a, l, c, rfl, hr⟩

/-- the agents below k that are named, rising -/
def lN (G : List Int) (k : Nat) : List Int := ((List.range k).filter fun (a : Nat) => decide ((a : Int) ∈ G)).map Int.ofNat
def l4 (G : List Int) (k q : Nat) : List Int := lN G k ++ (if (k : Int) ∈ G.take q then [(k : Int)] else [])
theorem lN_succ (G : List Int) (k : Nat) : lN G (k + 1) = l4 G k G.length := by
  unfold l4 lN
  rw [List.range_succ, List.filter_append, List.map_append, List.take_length]
  congr 1
  by_cases h : (k : Int) ∈ G
  · rw [if_pos h]; simp [h]
  · rw [if_neg h]; simp [h]
theorem l4_zero (G : List Int) (k : Nat) : l4 G k 0 = lN G k := by unfold l4; simp
theorem lN_mem {G : List Int} {k : Nat} {x : Int} (h : x ∈ lN G k) : 0 ≤ x ∧ x < k := by
  unfold lN at h
  obtain ⟨i, hi, rfl⟩ := List.mem_map.1 h
  have := List.mem_range.1 (List.mem_filter.1 hi).1
  have e : Int.ofNat i = (i : Int) := rfl
  rw [e]; omega
theorem lN_len (G : List Int) (k : Nat) : (lN G k).length ≤ k := by
  unfold lN
  rw [List.length_map]
  exact Nat.le_trans (List.length_filter_le _ _) (by simp)
theorem l4_len (G : List Int) (k q : Nat) : (l4 G k q).length ≤ k + 1 := by
  unfold l4
  rw [List.length_append]
  have := lN_len G k
  split <;> simp <;> omega
theorem l4_skip {G : List Int} {k q : Nat} (hq : q < G.length) (h : G.getD q 0 ≠ (k : Int) ∨ (k : Int) ∈ G.take q) : l4 G k (q + 1) = l4 G k q := by
  unfold l4
  have e : G.take (q + 1) = G.take q ++ [G.getD q 0] := by rw [List.take_succ_eq_append_getElem hq]; simp [List.getD, hq]
  by_cases hm : (k : Int) ∈ G.take q
  · rw [if_pos hm, if_pos (by rw [e]; exact List.mem_append_left _ hm)]
  · rcases h with h | h
    · rw [if_neg hm, if_neg]
      rw [e, List.mem_append]
      rintro (h1 | h1)
      · exact hm h1
      · simp at h1; exact h h1.symm
    · exact absurd h hm
theorem l4_add {G : List Int} {k q : Nat} (hq : q < G.length) (h : G.getD q 0 = (k : Int)) (hm : (k : Int) ∉ G.take q) : l4 G k q = lN G k ∧ l4 G k (q + 1) = lN G k ++ [(k : Int)] := by
  unfold l4
  have e : G.take (q + 1) = G.take q ++ [G.getD q 0] := by rw [List.take_succ_eq_append_getElem hq]; simp [List.getD, hq]
  rw [if_neg hm, if_pos (by rw [e, h]; simp)]
  exact ⟨by simp, rfl⟩
theorem l4_has {G : List Int} {k q : Nat} (hm : (k : Int) ∈ G.take q) : l4 G k q = lN G k ++ [(k : Int)] := by unfold l4; rw [if_pos hm]
theorem lN_ris (G : List Int) : ∀ (k : Nat), k ≤ 4 → ∀ l : Int, l < 0 → risB l (lN G k) = true := by
  have key : ∀ (xs : List Int) (l : Int), xs.Pairwise (· < ·) → (∀ x ∈ xs, l < x ∧ 0 ≤ x ∧ x ≤ 3) → risB l xs = true := by
    intro xs
    induction xs with
    | nil => intro l _ _; rfl
    | cons x r ih =>
      intro l hp hm
      obtain ⟨h1, h2, h3⟩ := hm x (List.mem_cons_self ..)
      rw [List.pairwise_cons] at hp
      unfold risB inB
      rw [ih x hp.2 (fun y hy => ⟨hp.1 y hy, (hm y (List.mem_cons_of_mem _ hy)).2⟩), decide_eq_true h1, decide_eq_true h2, decide_eq_true h3]
      rfl
  intro k hk l hl
  refine key _ l ?_ (fun x hx => by have := lN_mem hx; omega)
  unfold lN
  refine List.Pairwise.map Int.ofNat (R := fun a b => a < b) (fun a b h => Int.ofNat_lt.2 h) ?_
  exact List.Pairwise.sublist List.filter_sublist List.pairwise_lt_range

theorem outC_get (L : List Int) (m : Value) : ∀ (i : Nat), i < L.length → (outC L m)[i * 2]? = some (.int .i64 (L.getD i 0)) ∧ (outC L m)[i * 2 + 1]? = some m := by
  induction L with
  | nil => intro i h; simp at h
  | cons x r ih =>
    intro i h
    have e : outC (x :: r) m = .int .i64 x :: m :: outC r m := rfl
    match i with
    | 0 => rw [e]; exact ⟨rfl, rfl⟩
    | i + 1 =>
      obtain ⟨h1, h2⟩ := ih i (by simpa using h)
      rw [e, show (i + 1) * 2 = i * 2 + 1 + 1 by omega]
      exact ⟨by simpa using h1, by simpa using h2⟩

theorem outs1_jg (p L : Nat) (j : JS) (X : Nat → List Int) (w : World) (h : JG w p L j X) (hp : j.ph = 1) :
    Calls Try.prog 17 #[.pointer (some ⟨p, 0, none⟩)] w fun e w' => ∃ u, e = .returned u ∧ w'.ownsRow w.heap.size 58 2 u (whichL (fun v => !v.p) j 4).length (outC (whichL (fun v => !v.p) j 4) (mPin j.tr j.id)) ∧ Fr noB w w' := by
  obtain ⟨j', hJ, rfl, hag, hT⟩ := h
  rw [which_nm (fun v => !v.p) (fun v => rfl) j']
  exact outs_1 p j' w hJ hp
theorem outs3_jg (p L : Nat) (j : JS) (X : Nat → List Int) (w : World) (h : JG w p L j X) (hp : j.ph = 3) :
    Calls Try.prog 17 #[.pointer (some ⟨p, 0, none⟩)] w fun e w' => ∃ u, e = .returned u ∧ w'.ownsRow w.heap.size 58 2 u (whichL (fun v => !v.f) j 4).length (outC (whichL (fun v => !v.f) j 4) (mUnpin j.tr j.id)) ∧ Fr noB w w' := by
  obtain ⟨j', hJ, rfl, hag, hT⟩ := h
  rw [which_nm (fun v => !v.f) (fun v => rfl) j']
  exact outs_3 p j' w hJ hp
theorem outs4_jg (p L : Nat) (j : JS) (X : Nat → List Int) (w : World) (h : JG w p L j X) (hp : j.ph = 4) :
    Calls Try.prog 17 #[.pointer (some ⟨p, 0, none⟩)] w fun e w' => e = .returned (.slice none 0 0) ∧ w' = w := by
  obtain ⟨j', hJ, rfl, hag, hT⟩ := h
  exact outs_4 p j' w hJ hp
theorem outs2_jg (p L : Nat) (j : JS) (X : Nat → List Int) (w : World) (h : JG w p L j X) (hp : j.ph = 2) (hn : noneL (fun v => !v.p) j = true) :
    Calls Try.prog 17 #[.pointer (some ⟨p, 0, none⟩)] w fun e w' => ∃ u mf, e = .returned u ∧ w'.ownsRow w.heap.size 58 2 u ((whichL (fun _ => true) j 4).length + 1) ([.int .i64 (-1), .iface 62 (.agg mf)] ++ outC (whichL (fun _ => true) j 4) (mCollect j.tr j.id)) ∧ Fr noB w w' := by
  obtain ⟨j', hJ, rfl, hag, hT⟩ := h
  rw [none_nm _ (fun v => rfl)] at hn
  rw [which_nm (fun _ => true) (fun v => rfl) j']
  refine (outs_2 p j' w hJ hp hn (fun a ha => ⟨_, (hT a ha).1, by have := (hT a ha).2.1; omega⟩)).mono ?_
  rintro e w' ⟨u, pa, pc, rfl, o, f⟩
  exact ⟨u, _, rfl, o, f⟩
/-- told what it asked for -/
theorem hear_pin0 (p L : Nat) (j : JS) (X : Nat → List Int) (b : Nat) (t ct : Int) (lo : Bool) (sa : Option Addr) (sc : Nat) (xs : List Int) (w : World) (h : JG w p L j X) (hL : L ≤ w.heap.size) (hpL : p < L)
    (hx : RdI w (.slice sa xs.length sc) xs) (hb : pinB b t 1 ct xs = true) (hxp : ∀ g o, sa = some ⟨g, o, none⟩ → g ≠ p) (ht : t = j.tr) (hj : 1 = j.id) (h1 : j.ph = 1) (h2 : (j.at b).v = true) (h3 : (j.at b).p = false) :
    Calls Try.prog 14 #[.pointer (some ⟨p, 0, none⟩), mPinned b t 1 ct (.slice sa xs.length sc) lo] w fun e w' => e = .returned (.tuple #[]) ∧ (∃ tt X', tt.a = none ∧ tt.c = 0 ∧ JG w' p L (j.pin b tt xs) X') ∧ Fr (onlyB p) w w' := by
  obtain ⟨j', hJ, rfl, hag, hT⟩ := h
  obtain ⟨⟨ha0, ha3⟩, _, hl4⟩ := pinB_facts hb
  refine (hear_Pinned p j' b t 1 ct sa sc lo xs w hJ hx hb hag hxp ht hj).mono ?_
  rintro e w' ⟨rfl, f, w1, f1, hq⟩
  rw [at_nm] at h2 h3
  obtain ⟨ta, tc, hrd, hta, hJ'⟩ := hq.yes h1 h2 h3
  refine ⟨rfl, ⟨⟨b, t, 1, ct, none, xs.length, 0, lo⟩, fun k => if k = b then xs else X k, rfl, rfl, _, hJ', pin_nm j' _ _ _, by rw [pin_ag]; exact hag, fun k hk4 => ?_⟩, f⟩
  rw [show Int.toNat (b : Int) = b from rfl, pin_told j' b k _ _ (by omega) hk4]
  by_cases hba : k = b
  · rw [if_pos hba]
    simp only [if_pos hba]
    exact ⟨hrd, hl4, fun g o e => by have := hta g o e; have := f1.size; omega⟩
  · rw [if_neg hba]
    simp only [if_neg hba]
    obtain ⟨k1, k2, k3⟩ := hT k hk4
    exact ⟨k1.fr f (fun g o n c e q => by have := k3 g o (by injection e); unfold onlyB at q; omega), k2, k3⟩
theorem hear_sto0 (p L : Nat) (j : JS) (X : Nat → List Int) (t : Int) (w : World) (h : JG w p L j X) (hpL : p < L) (hb : bStored t 1 = true) (ht : t = j.tr) (hj : 1 = j.id) :
    Calls Try.prog 14 #[.pointer (some ⟨p, 0, none⟩), mStored t 1] w fun e w' => e = .returned (.tuple #[]) ∧ JG w' p L j.sto X ∧ Fr (onlyB p) w w' := by
  obtain ⟨j', hJ, rfl, hag, hT⟩ := h
  refine (hear_Stored p j' t 1 w hJ hb ht hj).mono ?_
  rintro e w' ⟨rfl, f, hq⟩
  rw [← sto_nm]
  exact ⟨rfl, JG.turn hT hpL hq f (by rw [sto_ag]; exact hag) (fun a => sto_told j' a), f⟩
theorem hear_unp0 (p L : Nat) (j : JS) (X : Nat → List Int) (b : Nat) (t : Int) (w : World) (h : JG w p L j X) (hpL : p < L) (hb : bUnpinned b t 1 = true) (ht : t = j.tr) (hj : 1 = j.id) :
    Calls Try.prog 14 #[.pointer (some ⟨p, 0, none⟩), mUnpinned b t 1] w fun e w' => e = .returned (.tuple #[]) ∧ JG w' p L (j.unp b) X ∧ Fr (onlyB p) w w' := by
  obtain ⟨j', hJ, rfl, hag, hT⟩ := h
  refine (hear_Unpinned p j' b t 1 w hJ hb ht hj).mono ?_
  rintro e w' ⟨rfl, f, hq⟩
  rw [← unp_nm]
  exact ⟨rfl, JG.turn hT hpL hq f (by rw [unp_ag]; exact hag) (fun a => unp_told j' _ a), f⟩
end Go.Proofs.Ytppgachfobpgbaa
