/-
  What goes, is worth least; what is pinned, stays: plain mathematics.
-/
import Derived.Test.YtnecglghinpgmaaAllL
set_option linter.unusedVariables false
set_option linter.unusedSimpArgs false
namespace Go.Proofs.Ytnecglghinpgmaa
open Go.RowKit Go Go.Maps Go.Lib

theorem least_not (seed : Int) (l : List Int) (n : Int) (hn : n ∈ l) : lessB seed n (leastS seed l) = false := by
  cases l with
  | nil => cases hn
  | cons x r => exact minP_min seed x r n (by simpa using hn)
theorem key_add {P : TP} {t u : Int} {x : ByteArray} (h : u ∈ (addT P t x).map (·.1)) : u = t ∨ u ∈ P.map (·.1) := by
  obtain ⟨p, hp, rfl⟩ := List.mem_map.1 h
  rcases mem_add P t x p hp with e | e
  · exact Or.inl e
  · exact Or.inr (List.mem_map.2 ⟨p, e, rfl⟩)
theorem key_drop {P : TP} {t u : Int} (h : u ∈ (without P t).map (·.1)) : u ∈ P.map (·.1) ∧ u ≠ t := by
  obtain ⟨p, hp, rfl⟩ := List.mem_map.1 h
  obtain ⟨h1, h2⟩ := mem_without.1 hp
  exact ⟨List.mem_map.2 ⟨p, h1, rfl⟩, h2⟩
/-- what a call makes go -/
def nowGone (N : Nat) (K : KS) (m : OpE) : List Int :=
  if m.k = 1 ∧ mayB m.t m.s = true ∧ m.t ∉ K.loss ∧ m.t ∉ K.pins ∧ noRoom N K.P m.t ∧ (mayL K).isEmpty = false then [goes K m.t] else []
structure Coh (N : Nat) (K : KS) (m : OpE) (G : List Int) : Prop where
  gone : (K.op N m).gone = K.gone ++ G
  free : ∀ g ∈ G, g ∉ K.pins
  lost : ∀ g ∈ G, g ∈ (K.op N m).loss
  least : ∀ g ∈ G, ∀ t ∈ (K.op N m).P.map (·.1), ¬ (t ∈ K.P.map (·.1) ∧ t ∈ K.pins) → lessB K.sd t g = false
  stay : m.k ≠ 4 → ∀ t ∈ K.pins, txt (K.op N m).P t = txt K.P t
theorem coh_wr {N : Nat} {K : KS} {m : OpE} (h1 : m.k = 1) : Coh N K m (nowGone N K m) := by
  have hop : K.op N m = K.wr N m.t m.s := if_pos h1
  by_cases hb : mayB m.t m.s = false
  · have hw : K.op N m = K := hop.trans (if_pos hb)
    have hg : nowGone N K m = [] := if_neg (fun q => by rw [hb] at q; exact absurd q.2.1 (by decide))
    rw [hg]
    refine ⟨by rw [hw]; simp, (fun g hg => by cases hg), (fun g hg => by cases hg), (fun g hg => by cases hg), fun _ t _ => by rw [hw]⟩
  have hb' : mayB m.t m.s = true := by simpa using hb
  by_cases hl : m.t ∈ K.loss
  · have hw : K.op N m = K := hop.trans ((if_neg hb).trans (if_pos hl))
    have hg : nowGone N K m = [] := if_neg (fun q => q.2.2.1 hl)
    rw [hg]
    refine ⟨by rw [hw]; simp, (fun g hg => by cases hg), (fun g hg => by cases hg), (fun g hg => by cases hg), fun _ t _ => by rw [hw]⟩
  by_cases hp : m.t ∈ K.pins
  · have hw : K.op N m = K := hop.trans ((if_neg hb).trans ((if_neg hl).trans (if_pos hp)))
    have hg : nowGone N K m = [] := if_neg (fun q => q.2.2.2.1 hp)
    rw [hg]
    refine ⟨by rw [hw]; simp, (fun g hg => by cases hg), (fun g hg => by cases hg), (fun g hg => by cases hg), fun _ t _ => by rw [hw]⟩
  by_cases hn : noRoom N K.P m.t
  · by_cases he : (mayL K).isEmpty = true
    · have hw : K.op N m = { K with loss := K.loss ++ [m.t] } := hop.trans ((if_neg hb).trans ((if_neg hl).trans ((if_neg hp).trans ((if_pos hn).trans (if_pos he)))))
      have hg : nowGone N K m = [] := if_neg (fun q => by rw [he] at q; exact absurd q.2.2.2.2.2 (by decide))
      rw [hg]
      refine ⟨by rw [hw]; simp, (fun g hg => by cases hg), (fun g hg => by cases hg), (fun g hg => by cases hg), fun _ t _ => by rw [hw]⟩
    · have he' : (mayL K).isEmpty = false := by simpa using he
      have hg : nowGone N K m = [goes K m.t] := if_pos ⟨h1, hb', hl, hp, hn, he'⟩
      have hfree : goes K m.t ∉ K.pins := by
        rcases goes_mem K m.t with q | q
        · exact (mayL_mem q).2
        · rw [q]; exact hp
      have hcand : ∀ t, t ∈ K.P.map (·.1) ∨ t = m.t → ¬ (t ∈ K.P.map (·.1) ∧ t ∈ K.pins) → lessB K.sd t (goes K m.t) = false := fun t ht hnp => by
        refine least_not K.sd (mayL K ++ [m.t]) t ?_
        rcases ht with ht | ht
        · refine List.mem_append_left _ ?_
          unfold mayL
          rw [List.mem_filter]
          exact ⟨ht, by simpa using fun q => hnp ⟨ht, q⟩⟩
        · rw [ht]; simp
      rw [hg]
      by_cases hgo : goes K m.t = m.t
      · have hw : K.op N m = { K with P := without K.P m.t, loss := K.loss ++ [m.t], gone := K.gone ++ [m.t] } := hop.trans ((if_neg hb).trans ((if_neg hl).trans ((if_neg hp).trans ((if_pos hn).trans ((if_neg he).trans (if_pos hgo))))))
        refine ⟨by rw [hw, hgo], (fun g hg => by rw [List.mem_singleton.1 hg]; exact hfree), (fun g hg => by rw [List.mem_singleton.1 hg, hw, hgo]; simp), (fun g hg t ht hnp => ?_), fun _ t ht => ?_⟩
        · rw [List.mem_singleton.1 hg]
          rw [hw] at ht
          exact hcand t (Or.inl (key_drop ht).1) hnp
        · rw [hw]
          exact txt_drop_other K.P (fun e => hp (e ▸ ht))
      · have hw : K.op N m = { K with P := addT (without K.P (goes K m.t)) m.t m.s, loss := K.loss ++ [goes K m.t], gone := K.gone ++ [goes K m.t] } := hop.trans ((if_neg hb).trans ((if_neg hl).trans ((if_neg hp).trans ((if_pos hn).trans ((if_neg he).trans (if_neg hgo))))))
        refine ⟨by rw [hw], (fun g hg => by rw [List.mem_singleton.1 hg]; exact hfree), (fun g hg => by rw [List.mem_singleton.1 hg, hw]; simp), (fun g hg t ht hnp => ?_), fun _ t ht => ?_⟩
        · rw [List.mem_singleton.1 hg]
          rw [hw] at ht
          refine hcand t ?_ hnp
          rcases key_add ht with e | e
          · exact Or.inr e
          · exact Or.inl (key_drop e).1
        · rw [hw]
          refine (txt_add_other _ _ _ _ (fun e : t = m.t => hp (e ▸ ht))).trans ?_
          exact txt_drop_other K.P (fun e => hfree (e ▸ ht))
  · have hw : K.op N m = { K with P := addT K.P m.t m.s } := hop.trans ((if_neg hb).trans ((if_neg hl).trans ((if_neg hp).trans (if_neg hn))))
    have hg : nowGone N K m = [] := if_neg (fun q => hn q.2.2.2.2.1)
    rw [hg]
    refine ⟨by rw [hw]; simp, (fun g hg => by cases hg), (fun g hg => by cases hg), (fun g hg => by cases hg), fun _ t ht => ?_⟩
    rw [hw]
    exact txt_add_other _ _ _ _ (fun e : t = m.t => hp (e ▸ ht))
theorem coh_op (N : Nat) (K : KS) (m : OpE) : Coh N K m (nowGone N K m) := by
  by_cases h1 : m.k = 1
  · exact coh_wr h1
  have hg : nowGone N K m = [] := if_neg (fun q => h1 q.1)
  have hgone : (K.op N m).gone = K.gone := by
    unfold KS.op
    rw [if_neg h1]
    repeat' split
    all_goals rfl
  rw [hg]
  refine ⟨by rw [hgone]; simp, (fun g hg => by cases hg), (fun g hg => by cases hg), (fun g hg => by cases hg), fun h4 t _ => ?_⟩
  unfold KS.op
  rw [if_neg h1]
  repeat' split
  all_goals first | rfl | contradiction
theorem nowGone_len (N : Nat) (K : KS) (m : OpE) : (nowGone N K m).length ≤ 1 := by unfold nowGone; split <;> simp
end Go.Proofs.Ytnecglghinpgmaa
