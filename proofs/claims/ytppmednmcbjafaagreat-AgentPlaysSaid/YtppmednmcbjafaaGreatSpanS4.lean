/-
  span: Clone of spans, Chunks.
-/
import Derived.Test.YtppmednmcbjafaaGreatSpanS1
import Derived.Lib.SliceRun
set_option linter.unusedVariables false
set_option linter.unusedSimpArgs false
set_option maxRecDepth 100000
set_option maxRecDepth 100000
namespace Go.Proofs.YtppmednmcbjafaaGreat
open Go.RowKit Go Go.Lib
theorem Tryz.infoSpan : (Tryz.prog.info? 38).map (fun i => (i.zero, i.size, i.bytes)) = some (some (.agg #[.int .i64 0, .int .i64 0, .string (ByteArray.mk #[])]), 3, 32) := by kernel_rfl

theorem RdSp.src {w : World} {ad : Addr} {n c : Nat} {L : List Sp} (h : RdSp w (.slice (some ad) n c) L) : ∀ j u, (L.flatMap spC)[j]? = some u → w.cell? (ad.add j) = some u := by
  obtain ⟨a, c', hv, hl, hc, hn, h1⟩ := h
  cases hv
  intro j u hj
  have hj1 : j < (L.flatMap spC).length := (List.getElem?_eq_some_iff.1 hj).1
  rw [flat_lenS] at hj1
  obtain ⟨s, hs⟩ : ∃ s, L[j / 3]? = some s := ⟨L[j / 3]'(by omega), List.getElem?_eq_getElem (by omega)⟩
  have hg := flat_getS L (j / 3) (j % 3) s hs (by omega)
  rw [show j / 3 * 3 + j % 3 = j by omega, hj] at hg
  obtain ⟨g, o, e, c0, c1, c2⟩ := h1 _ s hs
  injection e with e
  subst e
  rw [add_none]
  have h3 : j % 3 = 0 ∨ j % 3 = 1 ∨ j % 3 = 2 := by omega
  rcases h3 with h3 | h3 | h3 <;> rw [h3] at hg <;> simp [spC] at hg <;> subst hg
  · rw [show o + j = o + j / 3 * 3 by omega]; exact c0
  · rw [show o + j = o + j / 3 * 3 + 1 by omega]; exact c1
  · rw [show o + j = o + j / 3 * 3 + 2 by omega]; exact c2
theorem own_apart {w : World} {B B' e e' k k' n m : Nat} {v u : Value} {xs ys : List Value} (h : w.ownsRow B e k v n xs) (h' : w.ownsRow B' e' k' u m ys) (he : e ≠ e') : ∀ g, v.ownBlock = some g → ¬ rowB u g := by
  intro g hg q
  unfold rowB at q
  rcases h.2 with ⟨rfl, _⟩ | ⟨g1, cap, cur, rfl, _, hh, _⟩
  · simp [Value.ownBlock] at hg
  rcases h'.2 with ⟨rfl, _⟩ | ⟨g2, cap2, cur2, rfl, _, hh2, _⟩
  · simp [Value.ownBlock] at q
  simp [Value.ownBlock] at hg q
  subst hg
  subst q
  rw [hh] at hh2
  simp only [Option.some.injEq, Obj.cells.injEq] at hh2
  exact he hh2.2.1

set_option maxHeartbeats 1000000 in
theorem clone_any (v : Value) (L : List Sp) (w : World) (hv : RdSp w v L) (hl : L.length ≤ 1000000) :
    Calls Tryz.prog 167 #[v] w fun e w' => ∃ v', e = .returned v' ∧ w'.ownsRow w.heap.size 38 3 v' L.length (L.flatMap spC) ∧ Fr noB w w' := by
  have hv0 := hv
  obtain ⟨a, c, rfl, h1, h2, h3, h4⟩ := hv
  cases a with
  | none =>
    have hc := h3 rfl
    subst hc
    have hL : L = [] := List.eq_nil_of_length_eq_zero (by omega)
    subst hL
    have hq : ∀ w, (binOp .eql 71 (.slice none 0 0) (.slice none 0 0)).run Tryz.prog w = .ok (.bool true) w := fun w => Go.Lib.run_eql_slice_nil w _ 38 _ _ _ _ _ Tryz.underlying71
    go_enter Tryz.func167, Tryz.ntmps167
    go_wp2_with fail
    go_ret
    exact ⟨_, rfl, World.ownsRow_nil _ _ _ _, Fr.refl _ _⟩
  | some ad =>
    have hsrc := hv0.src
    have hfl := flat_lenS L
    have hone := flat_one L
    obtain ⟨i0, hi, hz0, hz1, hz2⟩ := info_parts Tryz.infoSpan
    have f1 : Fr noB w (w.alloc (.cells #[] 38)) := (Fr.refl _ _).alloc _
    have own1 := own_new w 38 [] 3 0 rfl (Nat.zero_le _)
    have hs2 : ∀ j u, (L.flatMap spC)[j]? = some u → (w.alloc (.cells #[] 38)).cell? (ad.add j) = some u := fun j u q => cell?_alloc_some _ (hsrc j u q)
    generalize hX : L.flatMap spC = X at *
    generalize L.length = n at *
    replace hX := Lib.hid hX
    replace hsrc := Lib.hid hsrc
    replace hs2 := Lib.hid hs2
    replace hv0 := Lib.hid hv0
    clear h4
    have hq : ∀ w, (binOp .eql 71 (.slice (some ad) n c) (.slice none 0 0)).run Tryz.prog w = .ok (.bool false) w := fun w => Go.Lib.run_eql_slice_nil w _ 38 _ _ _ _ _ Tryz.underlying71
    go_enter Tryz.func167, Tryz.ntmps167
    go_wp2_with (first
      | (at_builtin; go_must (refine wpList_append_at _ rfl (.tmp 5) (.tmp 6) 71 rfl w.heap.size 38 i0 _ 3 32 Tryz.underlying71 hi hz0 hz1 hz2 rfl (by decide) _ 0 [] rfl own1 ad n c X rfl hfl hs2.out hone ?_ ?_ ?_ ?_))
      | fail)
    · unfold maxLen; omega
    · omega
    · have := f1.size; omega
    intro v8 w8 o8 gr8 _
    try rw [Nat.zero_add, List.nil_append] at o8
    have f8 : Fr (rowB (.slice (some ⟨w.heap.size, 0, none⟩) 0 0)) (w.alloc (.cells #[] 38)) w8 := (Fr.refl _ _).grown gr8 (fun k hk _ => hk)
    have fr8 : Fr noB w w8 := f1.rowN own1 (Nat.le_refl _) f8
    clear gr8 f8
    go_wp2_with fail
    go_ret
    exact ⟨_, rfl, o8, fr8⟩

/-- rows that are owned, each with its spans -/
def OwnP (w : World) (B : Nat) (P : List (Value × List Sp)) : Prop := ∀ p ∈ P, w.ownsRow B 38 3 p.1 p.2.length (p.2.flatMap spC)
theorem RdSp.take2 {w : World} {ad : Addr} {n c : Nat} {L : List Sp} (h : RdSp w (.slice (some ad) n c) L) (h2 : 2 ≤ n) : RdSp w (.slice (some ad) 2 c) (L.take 2) := by
  obtain ⟨a, c', hv, hl, hc, hn, h1⟩ := h
  cases hv
  refine ⟨some ad, c, by rw [List.length_take, Nat.min_eq_left h2], by rw [List.length_take]; omega, hc, (fun q => by cases q), fun i s hs => h1 i s ?_⟩
  rw [List.getElem?_take] at hs
  split at hs
  · exact hs
  · cases hs
theorem RdSp.drop2 {w : World} {g o n c : Nat} {L : List Sp} (h : RdSp w (.slice (some ⟨g, o, none⟩) n c) L) (h2 : 2 ≤ n) : RdSp w (.slice (some ⟨g, o + 6, none⟩) (n - 2) (c - 2)) (L.drop 2) := by
  obtain ⟨a, c', hv, hl, hc, hn, h1⟩ := h
  cases hv
  refine ⟨_, c - 2, by rw [List.length_drop], by rw [List.length_drop]; omega, by omega, (fun q => by cases q), fun i s hs => ?_⟩
  rw [List.getElem?_drop] at hs
  obtain ⟨g', o', e, c0, c1, c2⟩ := h1 _ s hs
  cases e
  refine ⟨g, o + 6, rfl, ?_, ?_, ?_⟩
  · rw [← c0]; congr 2; omega
  · rw [← c1]; congr 2; omega
  · rw [← c2]; congr 2; omega
end Go.Proofs.YtppmednmcbjafaaGreat
