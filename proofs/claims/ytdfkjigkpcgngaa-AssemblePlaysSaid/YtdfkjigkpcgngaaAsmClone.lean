/-
  slices.Clone of ints, and of parts; the parts of a manifest copied whole.
-/
import Derived.Test.YtdfkjigkpcgngaaAsmL
import Derived.Test.YtdfkjigkpcgngaaShelf
import Derived.Deep.LoopGhost
set_option linter.unusedVariables false
set_option linter.unusedSimpArgs false
set_option maxRecDepth 100000
set_option maxRecDepth 100000
namespace Go.Proofs.Ytdfkjigkpcgngaa
open Go.RowKit Go Go.Maps Go.Lib

theorem addr_own {w : World} {B e k n c : Nat} {a : Option Addr} {xs : List Value} (h : w.ownsRow B e k (.slice a n c) n xs) {g o : Nat} (ha : a = some ⟨g, o, none⟩) : B ≤ g := by
  subst ha
  exact (h.lt g rfl).1
theorem clonei_any (v : Value) (xs : List Int) (w : World) (hv : RdI w v xs) (hl : xs.length ≤ 1000000) :
    Calls Try.prog 30 #[v] w fun e w' => ∃ ta tc, e = .returned (.slice ta xs.length tc) ∧ RdI w' (.slice ta xs.length tc) xs ∧ (∀ g o, ta = some ⟨g, o, none⟩ → w.heap.size ≤ g) ∧ Fr noB w w' := by
  obtain ⟨a, c, rfl, h1, h2, h3⟩ := hv
  by_cases h0 : xs.length = 0
  · have hx : xs = [] := List.eq_nil_of_length_eq_zero h0
    subst hx
    cases a with
    | none =>
      refine (Try.slices_Clone_int_nil _ c w).mono ?_
      rintro e w' ⟨rfl, rfl⟩
      exact ⟨none, 0, rfl, ⟨none, 0, rfl, by simp, by simp, fun i hi => by simp at hi⟩, fun g o e => by (cases e), Fr.refl _ _⟩
    | some ad =>
      refine (Try.slices_Clone_int_zero ad c w).mono ?_
      rintro e w' ⟨v', rfl, ow, _, hb⟩
      obtain ⟨a', c', rfl⟩ := ownsRow_slice ow
      exact ⟨a', c', rfl, RdI.of_own (n := 0) (by simpa using ow), fun g o e => by (subst e; exact (addr_own ow rfl)), Fr.of_below hb⟩
  · obtain ⟨g, o, rfl, _⟩ := h3 0 (by omega)
    have hc : ∀ j, j < xs.length → w.cell? ⟨g, o + j, none⟩ = some (.int .i64 (xs.getD j 0)) := fun j hj => by
      obtain ⟨g2, o2, e2, h4⟩ := h3 j hj
      cases e2
      exact h4
    refine (Try.slices_Clone_int g o xs.length c xs w (Nat.le_refl _) (by omega) hc).mono ?_
    rintro e w' ⟨v', rfl, ow, _, hb⟩
    rw [List.take_length] at ow
    obtain ⟨a', c', rfl⟩ := ownsRow_slice ow
    exact ⟨a', c', rfl, RdI.of_own ow, fun g o e => by (subst e; exact (addr_own ow rfl)), Fr.of_below hb⟩
theorem infoPinC : (Try.prog.info? 65).map (fun i => (i.zero, i.size, i.bytes)) = some (some (.agg #[.int .i64 0, .int .i64 0, .int .i64 0, .int .i64 0, .slice none 0 0, .bool false]), 6, 64) := by kernel_rfl
theorem clonep_any (ad : Addr) (n c : Nat) (X : List Value) (w : World) (hnc : n ≤ c) (hn : n ≤ 1000000) (hX : X.length = n * 6) (hsrc : ∀ j u, X[j]? = some u → w.cell? (ad.add j) = some u) (hone : ∀ u ∈ X, u.oneCell' = true) :
    Calls Try.prog 47 #[.slice (some ad) n c] w fun e w' => ∃ v', e = .returned v' ∧ w'.ownsRow w.heap.size 65 6 v' n X ∧ Fr noB w w' := by
  obtain ⟨i0, hi, hz0, hz1, hz2⟩ := info_parts infoPinC
  have f1 : Fr noB w (w.alloc (.cells #[] 65)) := (Fr.refl _ _).alloc _
  have own1 := own_new w 65 [] 6 0 rfl (Nat.zero_le _)
  have hs2 : ∀ j u, X[j]? = some u → (w.alloc (.cells #[] 65)).cell? (ad.add j) = some u := fun j u q => cell?_alloc_some _ (hsrc j u q)
  replace hsrc := Lib.hid hsrc
  replace hs2 := Lib.hid hs2
  have hq : ∀ w, (binOp .eql 57 (.slice (some ad) n c) (.slice none 0 0)).run Try.prog w = .ok (.bool false) w := fun w => Go.Lib.run_eql_slice_nil w _ 65 _ _ _ _ _ Try.underlying57
  go_enter Try.func47, Try.ntmps47
  go_wp2_with (first
    | (at_builtin; go_must (refine wpList_append_at _ rfl (.tmp 5) (.tmp 6) 57 rfl w.heap.size 65 i0 _ 6 64 Try.underlying57 hi hz0 hz1 hz2 rfl (by decide) _ 0 [] rfl own1 ad n c X rfl hX hs2.out hone ?_ ?_ ?_ ?_))
    | fail)
  · unfold maxLen; omega
  · omega
  · have := f1.size; omega
  intro v8 w8 o8 gr8 _
  try rw [Nat.zero_add, List.nil_append] at o8
  have f8 : Fr (rowB (.slice (some ⟨w.heap.size, 0, none⟩) 0 0)) (w.alloc (.cells #[] 65)) w8 := (Fr.refl _ _).grown gr8 (fun k hk _ => hk)
  have fr8 : Fr noB w w8 := f1.rowN own1 (Nat.le_refl _) f8
  clear gr8 f8
  go_wp2_with fail
  go_ret
  exact ⟨_, rfl, o8, fr8⟩
end Go.Proofs.Ytdfkjigkpcgngaa
