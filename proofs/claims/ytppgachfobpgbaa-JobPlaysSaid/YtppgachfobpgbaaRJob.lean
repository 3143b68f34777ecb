/-
  The reference's job by its numbers: visited, Visited.
-/
import Derived.Test.YtppgachfobpgbaaBase
import Derived.Test.YtppgachfobpgbaaAppend
import Derived.Test.YtppgachfobpgbaaInts
import Derived.Test.YtppgachfobpgbaaJob
import Derived.Deep.QuietTactic
import Derived.BigQuiet
set_option linter.unusedVariables false
set_option linter.unusedSimpArgs false
set_option maxRecDepth 100000
set_option maxRecDepth 10000
namespace Go.Proofs.Ytppgachfobpgbaa
open Go.RowKit Go Go.Lib

/-- a part of the reference's: who, its trace, job, count, the row of names (a slice's words), was something lost -/
structure RPt where
  a : Int
  t : Int
  j : Int
  c : Int
  ua : Option Addr
  un : Nat
  uc : Nat
  lo : Bool
def RPt.cs (p : RPt) : List Value := [.int .i64 p.a, .int .i64 p.t, .int .i64 p.j, .int .i64 p.c, .slice p.ua p.un p.uc, .bool p.lo]
/-- the reference's job -/
structure RJ where
  id : Int
  tr : Int
  cl : Int
  ph : Int
  S : List Int
  P : List RPt
  F : List Bool
  fu : Bool
  ke : Bool
def RJ.cs (q : RJ) (gs gp gf : Nat) : List Value := [.int .i64 q.id, .int .i64 q.tr, .int .i64 q.cl, .int .i64 q.ph, .slice (some ⟨gs, 0, none⟩) q.S.length q.S.length, .slice (some ⟨gp, 0, none⟩) q.S.length q.S.length, .slice (some ⟨gf, 0, none⟩) q.S.length q.S.length, .bool q.fu, .bool q.ke]
/-- it lies so -/
structure Rj (w : World) (r gs gp gf : Nat) (q : RJ) : Prop where
  blk : Blk w r 54 (q.cs gs gp gf)
  bs : Blk w gs 3 (q.S.map (Value.int .i64))
  bp : Blk w gp 33 (q.P.flatMap RPt.cs)
  bf : Blk w gf 4 (q.F.map Value.bool)
  lp : q.P.length = q.S.length
  lf : q.F.length = q.S.length
  n4 : q.S.length ≤ 4
  ne : r ≠ gs ∧ r ≠ gp ∧ r ≠ gf ∧ gs ≠ gp ∧ gs ≠ gf ∧ gp ≠ gf
/-- its blocks -/
def rjB (r gs gp gf : Nat) : Nat → Prop := fun q => q = r ∨ q = gs ∨ q = gp ∨ q = gf
theorem Rj.fr {w w' : World} {r gs gp gf : Nat} {q : RJ} {S : Nat → Prop} (h : Rj w r gs gp gf q) (f : Fr S w w') (hS : ∀ x, rjB r gs gp gf x → ¬ S x) : Rj w' r gs gp gf q :=
  ⟨f.blk h.blk (hS _ (Or.inl rfl)), f.blk h.bs (hS _ (Or.inr (Or.inl rfl))), f.blk h.bp (hS _ (Or.inr (Or.inr (Or.inl rfl)))), f.blk h.bf (hS _ (Or.inr (Or.inr (Or.inr rfl)))), h.lp, h.lf, h.n4, h.ne⟩
theorem Rj.frN {w w' : World} {r gs gp gf : Nat} {q : RJ} (h : Rj w r gs gp gf q) (f : Fr noB w w') : Rj w' r gs gp gf q := h.fr f (fun _ _ q => q)
theorem Rj.s {w : World} {r gs gp gf : Nat} {q : RJ} (h : Rj w r gs gp gf q) {k : Nat} (hk : k < q.S.length) : w.cell? ⟨gs, k, none⟩ = some (.int .i64 (q.S.getD k 0)) := by
  rw [h.bs.cell]
  simp [List.getD, hk]
theorem Rj.f {w : World} {r gs gp gf : Nat} {q : RJ} (h : Rj w r gs gp gf q) {k : Nat} (hk : k < q.S.length) : w.cell? ⟨gf, k, none⟩ = some (.bool (q.F.getD k false)) := by
  rw [h.bf.cell]
  have := h.lf
  simp [List.getD, show k < q.F.length by omega]
def RJ.vis (q : RJ) (a : Int) : Bool := decide (0 ≤ a) && (decide (a < q.S.length) && decide (0 < q.S.getD a.toNat 0))

set_option maxHeartbeats 1000000 in
theorem rvis_any (r gs gp gf : Nat) (q : RJ) (a : Int) (w : World) (h : Rj w r gs gp gf q) : Calls Try.prog 34 #[.pointer (some ⟨r, 0, none⟩), .int .i64 a] w fun e w' => e = .returned (.bool (q.vis a)) ∧ w' = w := by
  have c4 : w.cell? ⟨r, 4, none⟩ = some (.slice (some ⟨gs, 0, none⟩) q.S.length q.S.length) := h.blk.cell 4
  have hs := fun (k : Nat) (hk : k < q.S.length) => h.s hk
  have hn4 := h.n4
  unfold RJ.vis
  clear h
  by_cases h0 : 0 ≤ a
  · obtain ⟨k, rfl⟩ : ∃ k : Nat, a = k := ⟨a.toNat, by omega⟩
    by_cases h1 : k < q.S.length
    · have s0 := hs k h1
      rw [show ((k : Int)).toNat = k by omega]
      generalize q.S.getD k 0 = x at *
      generalize hl : q.S.length = l at *
      replace hl := Lib.hid hl
      replace hs := Lib.hid hs
      have d1 : decide ((k : Int) < l) = true := by simp; omega
      have d0 : decide ((0 : Int) ≤ (k : Int)) = true := by simp
      rw [d1, d0]
      by_cases hx : 0 < x
      · have dx : decide (0 < x) = true := by simpa using hx
        rw [dx]
        go_enter Try.func34, Try.ntmps34
        go_wp2_with fail
        go_ret
        exact ⟨rfl, rfl⟩
      · have dx : decide (0 < x) = false := by simpa using hx
        rw [dx]
        go_enter Try.func34, Try.ntmps34
        go_wp2_with fail
        go_ret
        exact ⟨rfl, rfl⟩
    · generalize hl : q.S.length = l at *
      replace hl := Lib.hid hl
      replace hs := Lib.hid hs
      have d1 : decide ((k : Int) < l) = false := by simp; omega
      have d0 : decide ((0 : Int) ≤ (k : Int)) = true := by simp
      rw [d1, d0]
      go_enter Try.func34, Try.ntmps34
      go_wp2_with fail
      go_ret
      exact ⟨rfl, rfl⟩
  · have d0 : decide (0 ≤ a) = false := by simpa using h0
    rw [d0]
    replace hs := Lib.hid hs
    clear c4 hs hn4
    go_enter Try.func34, Try.ntmps34
    go_wp2_with fail
    go_ret
    exact ⟨rfl, rfl⟩

/-- who is visited -/
def visL (S : List Int) : Nat → List Int
  | 0 => []
  | k + 1 => visL S k ++ if 0 < S.getD k 0 then [(k : Int)] else []
theorem visL_len (S : List Int) (k : Nat) : (visL S k).length ≤ k := by
  induction k with
  | zero => simp [visL]
  | succ k ih =>
    unfold visL
    rw [List.length_append]
    split
    · simp; omega
    · simp; omega
set_option maxHeartbeats 1000000 in
theorem rvisited_any (r gs gp gf : Nat) (q : RJ) (w : World) (h : Rj w r gs gp gf q) : Calls Try.prog 22 #[.pointer (some ⟨r, 0, none⟩)] w fun e w' => ∃ u, e = .returned u ∧ w'.ownsRow w.heap.size 3 1 u (visL q.S q.S.length).length (rowV (visL q.S q.S.length)) ∧ Fr noB w w' := by
  obtain ⟨i0, hi0, hz0, hz1, hz2⟩ : ∃ i0, Try.prog.info? 3 = some i0 ∧ i0.zero = some (.int .i64 0) ∧ i0.size = 1 ∧ i0.bytes = 8 := by
    have hI := infoIntR
    cases hq : Try.prog.info? 3 with
    | none => rw [hq] at hI; cases hI
    | some k => rw [hq] at hI; simp at hI; exact ⟨k, rfl, hI⟩
  have hn4 := h.n4
  have hR := Lib.hid h
  obtain ⟨l, hl⟩ : ∃ l, q.S.length = l := ⟨_, rfl⟩
  have hcell : ∀ w', Fr noB w w' → w'.cell? ⟨r, 4, none⟩ = some (.slice (some ⟨gs, 0, none⟩) l l) := fun w' f => by
    rw [← hl]; exact (h.frN f).blk.cell 4
  have hs : ∀ w' (k : Nat), Fr noB w w' → k < l → w'.cell? ⟨gs, k, none⟩ = some (.int .i64 (q.S.getD k 0)) := fun w' k f hk => (h.frN f).s (by rw [hl]; exact hk)
  rw [hl] at hn4 ⊢
  have c4 := hcell w (Fr.refl _ _)
  clear h
  generalize hB : w.heap.size = B at *
  replace hB := Lib.hid hB
  replace hcell := Lib.hid hcell
  replace hs := Lib.hid hs
  replace hl := Lib.hid hl
  go_enter Try.func22, Try.ntmps22
  go_wp2_with fail
  go_loopw [3, 4] (fun ov i wr => ∃ k : Nat, k ≤ l ∧ i = .int .i64 k ∧ wr.ownsRow B 3 1 ov (visL q.S k).length (rowV (visL q.S k)) ∧ Fr noB w wr) (fun _ i _ => l - (RowKit.intOf i).toNat)
  case atStart => exact ⟨0, by omega, rfl, World.ownsRow_nil _ _ _ _, Fr.refl _ _⟩
  case round =>
    obtain ⟨k, hk, rfl, own, fr⟩ := hrel
    have c4' := hcell.out wr fr
    clear c4
    by_cases hlt : k < l
    · have s0 := hs.out wr k fr hlt
      have hvl := visL_len q.S k
      have hx1 : visL q.S (k + 1) = visL q.S k ++ if 0 < q.S.getD k 0 then [(k : Int)] else [] := rfl
      have hBr : B ≤ wr.heap.size := by rw [← hB.out]; exact fr.size
      generalize q.S.getD k 0 = x at *
      generalize visL q.S k = O at *
      by_cases hx : 0 < x
      · rw [if_pos hx] at hx1
        replace hx1 := Lib.hid hx1
        have hA : (wr.alloc (.cells #[.int .i64 (k : Int)] 3)).ownsRow B 3 1 u3 O.length (rowV O) := ownsRow_fr own ((Fr.refl noB wr).alloc _) (fun _ _ q => q)
        have hN := cell_new wr (.int .i64 (k : Int)) 3
        have dx : decide (0 < x) = true := by simpa using hx
        go_wp2_with (first
          | (at_builtin; go_must (refine wpList_append_at _ rfl (.tmp 22) (.tmp 24) 31 rfl B 3 i0 _ 1 8 Try.underlying31 hi0 hz0 hz1 hz2 rfl (by omega) _ O.length _ rfl hA ⟨wr.heap.size, 0, none⟩ 1 1 [.int .i64 (k : Int)] rfl rfl hN (one_int _ _) ?_ ?_ ?_ ?_))
          | fail)
        · unfold maxLen; omega
        · omega
        · have := ((Fr.refl noB wr).alloc (.cells #[.int .i64 (k : Int)] 3)).size; omega
        intro v' w1 o1 gr1 _
        have own1 : w1.ownsRow B 3 1 v' (O ++ [(k : Int)]).length (rowV (O ++ [(k : Int)])) := by rw [List.length_append]; simpa [rowV] using o1
        have fr1 : Fr noB w w1 := (fr.alloc _).grown gr1 (fun q hq hlt => by
          have := (hA.lt q hq).1
          have := hB.out
          omega)
        rw [← hx1.out] at own1
        clear hA hN o1 gr1 own fr c4' s0
        go_wp2_with fail
        go_roundw
        case rel => exact ⟨k + 1, by omega, by go_num, own1, fr1⟩
        case measure => simp [RowKit.intOf]; omega
      · rw [if_neg hx, List.append_nil] at hx1
        rw [← hx1] at own
        replace hx1 := Lib.hid hx1
        have dx : decide (0 < x) = false := by simpa using hx
        go_wp2_with fail
        go_roundw
        case rel => exact ⟨k + 1, by omega, by go_num, own, fr⟩
        case measure => simp [RowKit.intOf]; omega
    · obtain rfl : k = l := by omega
      go_wp2_with fail
      go_ret
      exact ⟨_, rfl, own, fr⟩
end Go.Proofs.Ytppgachfobpgbaa
