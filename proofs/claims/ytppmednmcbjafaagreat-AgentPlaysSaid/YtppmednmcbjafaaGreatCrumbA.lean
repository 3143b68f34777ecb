/-
  The crumbs' calls: a map from traces to rows of agents.
-/
import Derived.Test.YtppmednmcbjafaaGreatKeep
import Derived.OwnWalk
import Derived.Deep.DeepMust
set_option linter.unusedVariables false
set_option linter.unusedSimpArgs false
set_option maxRecDepth 100000
namespace Go.Proofs.YtppmednmcbjafaaGreat
open Go.RowKit Go Go.Lib

/-- a slice's three words -/
abbrev SV := Option Addr × Nat × Nat
def mkS (s : SV) : Value := .slice s.1 s.2.1 s.2.2
theorem mkS_inj (x y : SV) (h : mkS x = mkS y) : x = y := by obtain ⟨a, b, c⟩ := x; obtain ⟨d, e, f⟩ := y; simp only [mkS, Value.slice.injEq] at h; obtain ⟨rfl, rfl, rfl⟩ := h; rfl
theorem zeroSl (w : World) : (zeroValue 57).run Tryz.prog w = .ok (mkS (none, 0, 0)) w := by kernel_rfl
/-- Crumbs at block g, their map at bm, the agents' rows from B on: X tells them, trace by trace; M is the map. -/
structure Cm (w : World) (g bm B n : Nat) (N : Int) (X : Int → List Int) (M : List (Int × SV)) : Prop where
  blk : Blk w g 147 [.int .i64 N, .map (some bm)]
  mp : Mp Tryz.prog 3 klI mkS w bm n M
  row : ∀ p ∈ M, w.ownsRow B 3 1 (mkS p.2) (X p.1).length (rowV (X p.1)) ∧ X p.1 ≠ []
  non : ∀ k, look M k = Option.none → X k = []
  apart : ∀ p ∈ M, ∀ q ∈ M, p.1 ≠ q.1 → ∀ b, (mkS p.2).ownBlock = some b → (mkS q.2).ownBlock ≠ some b
  sorted : ∀ k, (X k).Pairwise (· < ·)
  range : ∀ k, ∀ a ∈ X k, 0 ≤ a ∧ a < N
  gB : g < B
  mB : bm < B
  ne : bm ≠ g
  Bw : B ≤ w.heap.size
  N0 : 1 ≤ N
  N1 : N ≤ 4
theorem Cm.lenX {w : World} {g bm B n : Nat} {N : Int} {X : Int → List Int} {M : List (Int × SV)} (h : Cm w g bm B n N X M) (k : Int) : (X k).length ≤ 4 := by
  have h1 : (X k).Nodup := (h.sorted k).imp (fun hab => by omega)
  have h2 := nodup_le (l := X k) (G := [0, 1, 2, 3]) h1 (fun a ha => by have := h.range k a ha; have := h.N1; simp; omega)
  simpa using h2
/-- what the crumbs' calls may write: their blocks, and their rows' -/
def cmB (w : World) (g bm B : Nat) (M : List (Int × SV)) : Nat → Prop := fun k => k = g ∨ k = bm ∨ ∃ p ∈ M, (mkS p.2).ownBlock = some k
theorem Cm.fr {w w' : World} {g bm B n : Nat} {N : Int} {X : Int → List Int} {M : List (Int × SV)} {S : Nat → Prop} (h : Cm w g bm B n N X M) (hf : Fr S w w') (hS : ∀ k, cmB w g bm B M k → ¬ S k) : Cm w' g bm B n N X M :=
  ⟨hf.blk h.blk (hS _ (Or.inl rfl)), h.mp.fr hf (hS _ (Or.inr (Or.inl rfl))), fun p hp => ⟨ownsRow_fr (h.row p hp).1 hf (fun q hq => hS _ (Or.inr (Or.inr ⟨p, hp, hq⟩))), (h.row p hp).2⟩, h.non, h.apart, h.sorted, h.range, h.gB, h.mB, h.ne, Nat.le_trans h.Bw hf.size, h.N0, h.N1⟩
theorem Cm.frN {w w' : World} {g bm B n : Nat} {N : Int} {X : Int → List Int} {M : List (Int × SV)} (h : Cm w g bm B n N X M) (hf : Fr noB w w') : Cm w' g bm B n N X M := h.fr hf (fun _ _ q => q)

theorem cnew_no (N : Int) (w : World) (h : N < 1 ∨ 4 < N) : Calls Tryz.prog 40 #[.int .i64 N] w fun e w' => e = .returned (.pointer none) ∧ w' = w := by
  rcases h with h | h
  · go_enter Tryz.func40, Tryz.ntmps40
    go_wp2
    go_ret
    exact ⟨rfl, rfl⟩
  · have h2 : ¬ N < 1 := by omega
    go_enter Tryz.func40, Tryz.ntmps40
    go_wp2
    go_ret
    exact ⟨rfl, rfl⟩
theorem cnew_any (N : Int) (w : World) (h0 : 1 ≤ N) (h1 : N ≤ 4) : Calls Tryz.prog 40 #[.int .i64 N] w fun e w' => e = .returned (.pointer (some ⟨w.heap.size + 1, 0, none⟩)) ∧ Cm w' (w.heap.size + 1) w.heap.size (w.heap.size + 2) 0 N (fun _ => []) [] ∧ Fr noB w w' := by
  have hmm := @run_makeMap Tryz.prog
  go_enter Tryz.func40, Tryz.ntmps40
  go_wp2
  go_ret
  have f1 := (Fr.refl noB w).alloc (.map #[] 0)
  have f2 := (Fr.refl noB (w.alloc (.map #[] 0))).alloc (.cells #[.int .i64 N, .map (some w.heap.size)] 147)
  have s1 : (w.alloc (.map #[] 0)).heap.size = w.heap.size + 1 := by simp
  have b2 := Blk.new (w.alloc (.map #[] 0)) 147 [.int .i64 N, .map (some w.heap.size)]
  rw [s1] at b2
  have m1 : Mp Tryz.prog 3 klI mkS _ _ 0 [] := Mp.made w
  exact ⟨rfl, ⟨b2, m1.fr f2 (fun q => q), by simp, fun _ _ => rfl, by simp, fun _ => List.Pairwise.nil, by simp, by omega, by omega, by omega, by simp, h0, h1⟩, f1.seqN f2⟩

theorem cdrop_nil (t : Int) (w : World) : Calls Tryz.prog 133 #[.pointer none, .int .i64 t] w fun e w' => e = .returned (.tuple #[]) ∧ w' = w := by
  go_enter Tryz.func133, Tryz.ntmps133
  go_wp2
  go_end0
  exact ⟨rfl, rfl⟩
theorem cdrop_any (g bm B n : Nat) (N t : Int) (X : Int → List Int) (M : List (Int × SV)) (w : World) (h : Cm w g bm B n N X M) (ht : okI t) :
    Calls Tryz.prog 133 #[.pointer (some ⟨g, 0, none⟩), .int .i64 t] w fun e w' => e = .returned (.tuple #[]) ∧ Cm w' g bm B n N (fun k => if k = t then [] else X k) (without M t) ∧ Fr (onlyB bm) w w' := by
  have c1 : w.cell? ⟨g, 1, none⟩ = some (.map (some bm)) := h.blk.cell 1
  have mp := h.mp
  go_enter Tryz.func133, Tryz.ntmps133
  go_wp2_with (first
    | (at_delete; refine wpList_del_mp _ rfl _ _ 145 3 rfl KI Tryz.underlying145 mp t ht rfl rfl ?_; intro w5 m5 f5)
    | fail)
  go_wp2
  go_end0
  refine ⟨rfl, ⟨f5.blk h.blk (fun q => h.ne q.symm), m5, fun p hp => ?_, fun k hk => ?_, fun p hp q hq => h.apart p (mem_without.1 hp).1 q (mem_without.1 hq).1, fun k => ?_, fun k a ha => ?_, h.gB, h.mB, h.ne, Nat.le_trans h.Bw f5.size, h.N0, h.N1⟩, f5⟩
  · obtain ⟨hp1, hp2⟩ := mem_without.1 hp
    simp only [if_neg hp2]
    exact ⟨ownsRow_fr (h.row p hp1).1 f5 (fun q hq => by have := ((h.row p hp1).1.lt q hq).1; have := h.mB; unfold onlyB; omega), (h.row p hp1).2⟩
  · by_cases hkt : k = t
    · simp [hkt]
    · simp only [if_neg hkt]
      rw [look_without_other _ hkt] at hk
      exact h.non k hk
  · by_cases hkt : k = t
    · simp only [if_pos hkt]; exact List.Pairwise.nil
    · simp only [if_neg hkt]; exact h.sorted k
  · by_cases hkt : k = t
    · simp [hkt] at ha
    · simp only [if_neg hkt] at ha; exact h.range k a ha

theorem cof_nil (t : Int) (w : World) : Calls Tryz.prog 76 #[.pointer none, .int .i64 t] w fun e w' => e = .returned (.slice none 0 0) ∧ w' = w := by
  go_enter Tryz.func76, Tryz.ntmps76
  go_wp2
  go_ret
  exact ⟨rfl, rfl⟩
/-- the row at a key, as a slice's words -/
theorem Cm.at_key {w : World} {g bm B n : Nat} {N : Int} {X : Int → List Int} {M : List (Int × SV)} (h : Cm w g bm B n N X M) (t : Int) :
    (X t = [] ∧ (look M t).getD (none, 0, 0) = (none, 0, 0)) ∨ ∃ b c, (look M t) = some (some ⟨b, 0, none⟩, (X t).length, c) ∧ w.ownsRow B 3 1 (.slice (some ⟨b, 0, none⟩) (X t).length c) (X t).length (rowV (X t)) ∧ X t ≠ [] := by
  cases hl : look M t with
  | none => exact Or.inl ⟨h.non t hl, rfl⟩
  | some s =>
    obtain ⟨h1, h2⟩ := h.row _ (look_some hl)
    simp only at h1 h2
    obtain ⟨b, c, hv, _⟩ := ownsRow_some h1 (List.length_pos_iff.2 h2)
    obtain ⟨s1, s2, s3⟩ := s
    rw [hv] at h1
    simp only [mkS, Value.slice.injEq] at hv
    obtain ⟨rfl, rfl, rfl⟩ := hv
    exact Or.inr ⟨b, _, rfl, h1, h2⟩
theorem own_cells {w : World} {B b n c : Nat} {e : TypeId} {X : List Int} (h : w.ownsRow B e 1 (.slice (some ⟨b, 0, none⟩) n c) n (rowV X)) : ∀ j, j < X.length → w.cell? ⟨b, 0 + j, none⟩ = some (.int .i64 (X.getD j 0)) := fun j hj => by
  have := h.cells (g := b) rfl j (.int .i64 (X.getD j 0)) (by simp [rowV, List.getD, hj])
  rwa [Addr.add_lit] at this
theorem cof_any (g bm B n : Nat) (N t : Int) (X : Int → List Int) (M : List (Int × SV)) (w : World) (h : Cm w g bm B n N X M) (ht : okI t) :
    Calls Tryz.prog 76 #[.pointer (some ⟨g, 0, none⟩), .int .i64 t] w fun e w' => ∃ v, e = .returned v ∧ w'.ownsRow w.heap.size 3 1 v (X t).length (rowV (X t)) ∧ Fr noB w w' := by
  have c1 : w.cell? ⟨g, 1, none⟩ = some (.map (some bm)) := h.blk.cell 1
  have hrun := h.mp.run_look KI Tryz.underlying145 (zeroSl w) mkS_inj t ht
  rcases h.at_key t with ⟨hx, hl⟩ | ⟨b, c, hl, ho, hne⟩
  · rw [hl] at hrun
    rw [hx]
    unfold mkS kvI at hrun
    replace hx := Lib.hid hx
    replace hl := Lib.hid hl
    go_enter Tryz.func76, Tryz.ntmps76
    go_wp2_with fail
    refine (Tryz.slices_Clone_int_nil 0 0 w).mono ?_
    rintro e w' ⟨rfl, hw⟩
    obtain rfl := hw.symm
    go_wp2
    go_ret
    exact ⟨_, rfl, World.ownsRow_nil _ _ _ _, Fr.refl _ _⟩
  · rw [hl] at hrun
    have hcl := own_cells ho
    have h4 := h.lenX t
    have hcall := Tryz.slices_Clone_int b 0 (X t).length c (X t) w (Nat.le_refl _) (by omega) hcl
    rw [List.take_length] at hcall
    unfold mkS kvI at hrun
    simp only [Option.getD_some] at hrun
    generalize hn : (X t).length = m at *
    replace hl := Lib.hid hl
    replace hn := Lib.hid hn
    clear hcl ho
    go_enter Tryz.func76, Tryz.ntmps76
    go_wp2_with fail
    refine hcall.mono ?_
    rintro e w' ⟨v', rfl, ow, _, hb⟩
    go_wp2
    go_ret
    exact ⟨_, rfl, ow, Fr.of_below hb⟩
end Go.Proofs.YtppmednmcbjafaaGreat
