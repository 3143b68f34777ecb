/-
  Plain: what a reader makes of a message's text, whole and cut off.
-/
import Derived.Test.YtbmafogjmdilkaaGreatDoorMsRead3
set_option linter.unusedVariables false
set_option linter.unusedSimpArgs false
set_option maxRecDepth 100000
set_option maxRecDepth 100000
namespace Go.Proofs.YtbmafogjmdilkaaGreatDoor
open Go.RowKit Go Go.Lib

/-- what is left is a beginning of T, not all of it; or something was wrong -/
def Ct (st : Option (List UInt8)) (T : List UInt8) : Prop := st = none ∨ ∃ q x, st = some q ∧ x ≠ [] ∧ q ++ x = T
theorem Ct.nil {st : Option (List UInt8)} (h : Ct st []) : st = none := by
  rcases h with h | ⟨q, x, _, hx, h⟩
  · exact h
  · exact absurd (List.append_eq_nil_iff.1 h).2 hx
theorem ct_int {st : Option (List UInt8)} {a lo hi : Int} {T : List UInt8} (h : Ct st (numL a.toNat ++ T)) (h0 : 0 ≤ a) (hlo : lo ≤ a) (hhi : a ≤ hi) (hb : a ≤ 9007199254740992) :
    (st.bind (intS lo hi) = none) ∨ ∃ q, st.bind (intS lo hi) = some (a.toNat, q) ∧ Ct (some q) T := by
  rcases h with rfl | ⟨q, x, rfl, hx, h⟩
  · exact Or.inl rfl
  · simp only [Option.bind_some]
    cases hq : intS lo hi q with
    | none => exact Or.inl rfl
    | some r =>
      obtain ⟨n, t⟩ := r
      right
      have h1 : numS 0 q = some (n, t) := by
        unfold intS at hq
        cases hn : numS 0 q with
        | none => rw [hn] at hq; cases hq
        | some y =>
          rw [hn] at hq
          obtain ⟨n', t'⟩ := y
          simp only at hq
          split at hq
          · cases hq
          · split at hq
            · cases hq
            · exact hq
      obtain ⟨h2, h3⟩ := num_inv h1
      rw [h2, List.append_assoc] at h
      obtain ⟨h4, h5⟩ := num_pre h3 (by omega) h
      subst h4
      exact ⟨t, rfl, Or.inr ⟨t, x, rfl, hx, h5⟩⟩
theorem full_int {a lo hi : Int} (T : List UInt8) (h0 : 0 ≤ a) (hlo : lo ≤ a) (hhi : a ≤ hi) (hb : a ≤ 9007199254740992) : (some (numL a.toNat ++ T)).bind (intS lo hi) = some (a.toNat, T) := by
  simp only [Option.bind_some]
  exact int_back a.toNat lo hi T (by omega) (by omega) (by omega)
theorem ct_n {st : Option (List UInt8)} {a : Int} {T : List UInt8} (h : Ct st (numL a.toNat ++ T)) (h0 : 0 ≤ a) (h1 : a ≤ 1073741824) : Ct (nS st) T := by
  unfold nS
  rcases ct_int (lo := 0) (hi := 1073741824) h h0 h0 h1 (by omega) with e | ⟨q, e, hc⟩
  · rw [e]; exact Or.inl rfl
  · rw [e]; exact hc
theorem full_n {a : Int} (T : List UInt8) (h0 : 0 ≤ a) (h1 : a ≤ 1073741824) : nV (some (numL a.toNat ++ T)) = a ∧ nS (some (numL a.toNat ++ T)) = some T := by
  unfold nV nS
  rw [full_int T h0 h0 h1 (by omega)]
  exact ⟨by simp [vI]; omega, rfl⟩
theorem ct_c {st : Option (List UInt8)} {a : Int} {T : List UInt8} (h : Ct st (numL a.toNat ++ T)) (h0 : 0 ≤ a) (h1 : a ≤ 4) : (cV st = 0 ∧ cS st = none) ∨ (cV st = a ∧ Ct (cS st) T) := by
  unfold cV cS
  rcases ct_int (lo := 0) (hi := 4) h h0 h0 h1 (by omega) with e | ⟨q, e, hc⟩
  · rw [e]; exact Or.inl ⟨rfl, rfl⟩
  · rw [e]; exact Or.inr ⟨by simp [vI]; omega, hc⟩
theorem full_c {a : Int} (T : List UInt8) (h0 : 0 ≤ a) (h1 : a ≤ 4) : cV (some (numL a.toNat ++ T)) = a ∧ cS (some (numL a.toNat ++ T)) = some T := by
  unfold cV cS
  rw [full_int T h0 h0 h1 (by omega)]
  exact ⟨by simp [vI]; omega, rfl⟩
theorem ct_b {st : Option (List UInt8)} {a : Int} {T : List UInt8} (h : Ct st (numL a.toNat ++ T)) (h0 : 0 ≤ a) (h1 : a ≤ 1) : Ct (bS st) T := by
  unfold bS
  rcases ct_int (lo := 0) (hi := 1) h h0 h0 h1 (by omega) with e | ⟨q, e, hc⟩
  · rw [e]; exact Or.inl rfl
  · rw [e]; exact hc
theorem full_b {a : Int} (T : List UInt8) (h0 : 0 ≤ a) (h1 : a ≤ 1) : bV (some (numL a.toNat ++ T)) = a ∧ bS (some (numL a.toNat ++ T)) = some T := by
  unfold bV bS
  rw [full_int T h0 h0 h1 (by omega)]
  exact ⟨by simp [vI]; omega, rfl⟩
theorem nums_cons (x : Int) (xs : List Int) : numsL (x :: xs) = numL x.toNat ++ numsL xs := by unfold numsL; rw [List.flatMap_cons]
theorem nums_nil : numsL [] = [] := rfl
theorem crL_none : ∀ k, (crL k none).2 = none
  | 0 => rfl
  | k + 1 => by simp only [crL]; rw [crL_none k]; rfl
theorem nums_drop (xs : List Int) (k : Nat) (x : Int) (h : xs[k]? = some x) : numsL (xs.drop k) = numL x.toNat ++ numsL (xs.drop (k + 1)) := by
  obtain ⟨hk, rfl⟩ := List.getElem?_eq_some_iff.1 h
  rw [List.drop_eq_getElem_cons hk, nums_cons]
theorem ct_cr (xs : List Int) (T : List UInt8) (st : Option (List UInt8)) (h : Ct st (numsL xs ++ T)) (hx : ∀ x ∈ xs, 0 ≤ x ∧ x ≤ 3) : ∀ k, k ≤ xs.length → Ct (crL k st).2 (numsL (xs.drop k) ++ T)
  | 0, _ => by rw [List.drop_zero]; exact h
  | k + 1, hk => by
    have ih := ct_cr xs T st h hx k (by omega)
    have hq : xs[k]? = some xs[k] := List.getElem?_eq_getElem (by omega)
    have hb := hx xs[k] (List.getElem_mem _)
    rw [nums_drop xs k _ hq, List.append_assoc] at ih
    exact ct_n ih hb.1 (by omega)
theorem full_cr (xs : List Int) (T : List UInt8) (hx : ∀ x ∈ xs, 0 ≤ x ∧ x ≤ 3) : ∀ k, k ≤ xs.length → crL k (some (numsL xs ++ T)) = (xs.take k, some (numsL (xs.drop k) ++ T))
  | 0, _ => by rw [List.drop_zero]; rfl
  | k + 1, hk => by
    have ih := full_cr xs T hx k (by omega)
    have hq : xs[k]? = some xs[k] := List.getElem?_eq_getElem (by omega)
    have hb := hx xs[k] (List.getElem_mem _)
    simp only [crL]
    rw [ih]
    simp only
    rw [nums_drop xs k _ hq, List.append_assoc]
    obtain ⟨h1, h2⟩ := full_n (a := xs[k]) (numsL (xs.drop (k + 1)) ++ T) hb.1 (by omega)
    rw [h1, h2, List.take_add_one, hq]
    rfl
theorem bool01 (b : Bool) : 0 ≤ boolI b ∧ boolI b ≤ 1 ∧ (boolI b == 1) = b := by cases b <;> decide
theorem pinT_eq (p : Pn) (T : List UInt8) : pinT p ++ T = numL p.a.toNat ++ (numL p.t.toNat ++ (numL p.j.toNat ++ (numL p.n.toNat ++ (numL ((p.cr.length : Int)).toNat ++ (numsL p.cr ++ (numL (boolI p.lo).toNat ++ T)))))) := by
  unfold pinT
  simp only [nums_cons, nums_nil, List.append_nil, List.append_assoc]
theorem ct_pin (p : Pn) (T : List UInt8) (st : Option (List UInt8)) (hp : PnOk p) (h : Ct st (pinT p ++ T)) : Ct (pinR st).2 T := by
  rw [pinT_eq] at h
  have := hp.a; have := hp.t; have := hp.j; have := hp.n; have := hp.l
  have h1 := ct_n h (by omega) (by omega)
  have h2 := ct_n h1 (by omega) (by omega)
  have h3 := ct_n h2 (by omega) (by omega)
  have h4 := ct_n h3 (by omega) (by omega)
  have hb := bool01 p.lo
  show Ct (bS (crL (cV (nS (nS (nS (nS st))))).toNat (cS (nS (nS (nS (nS st)))))).2) T
  rcases ct_c h4 (by omega) (by omega) with ⟨e1, e2⟩ | ⟨e1, e2⟩
  · rw [e1, e2]; exact Or.inl rfl
  · rw [e1]
    have h5 := ct_cr p.cr _ _ e2 hp.c p.cr.length (Nat.le_refl _)
    rw [List.drop_length] at h5
    rw [show ((p.cr.length : Int)).toNat = p.cr.length by omega]
    exact ct_b h5 hb.1 hb.2.1
theorem full_pin (p : Pn) (T : List UInt8) (hp : PnOk p) : pinR (some (pinT p ++ T)) = (p, some T) := by
  rw [pinT_eq]
  have := hp.a; have := hp.t; have := hp.j; have := hp.n; have := hp.l
  have hb := bool01 p.lo
  unfold pinR
  rw [(full_n _ (by omega) (by omega)).1, (full_n _ (by omega) (by omega)).2, (full_n _ (by omega) (by omega)).1, (full_n _ (by omega) (by omega)).2, (full_n _ (by omega) (by omega)).1, (full_n _ (by omega) (by omega)).2, (full_n _ (by omega) (by omega)).1, (full_n _ (by omega) (by omega)).2, (full_c _ (by omega) (by omega)).1, (full_c _ (by omega) (by omega)).2]
  rw [show ((p.cr.length : Int)).toNat = p.cr.length by omega, full_cr p.cr _ hp.c p.cr.length (Nat.le_refl _), List.take_length, List.drop_length]
  simp only [nums_nil, List.nil_append]
  rw [(full_b _ hb.1 hb.2.1).1, (full_b _ hb.1 hb.2.1).2, hb.2.2]
theorem psL_none : ∀ k, (psL k none).2 = none
  | 0 => rfl
  | k + 1 => by
    simp only [psL]
    rw [psL_none k]
    have h : (pinR none).2 = bS (crL (cV none).toNat (cS none)).2 := rfl
    rw [h]
    rfl
theorem parts_drop (ps : List Pn) (k : Nat) (p : Pn) (h : ps[k]? = some p) : (ps.drop k).flatMap pinT = pinT p ++ (ps.drop (k + 1)).flatMap pinT := by
  obtain ⟨hk, rfl⟩ := List.getElem?_eq_some_iff.1 h
  rw [List.drop_eq_getElem_cons hk, List.flatMap_cons]
theorem ct_ps (ps : List Pn) (T : List UInt8) (st : Option (List UInt8)) (h : Ct st (ps.flatMap pinT ++ T)) (hp : ∀ p ∈ ps, PnOk p) : ∀ k, k ≤ ps.length → Ct (psL k st).2 ((ps.drop k).flatMap pinT ++ T)
  | 0, _ => by rw [List.drop_zero]; exact h
  | k + 1, hk => by
    have ih := ct_ps ps T st h hp k (by omega)
    have hq : ps[k]? = some ps[k] := List.getElem?_eq_getElem (by omega)
    rw [parts_drop ps k _ hq, List.append_assoc] at ih
    exact ct_pin _ _ _ (hp _ (List.getElem_mem _)) ih
theorem full_ps (ps : List Pn) (T : List UInt8) (hp : ∀ p ∈ ps, PnOk p) : ∀ k, k ≤ ps.length → psL k (some (ps.flatMap pinT ++ T)) = (ps.take k, some ((ps.drop k).flatMap pinT ++ T))
  | 0, _ => by rw [List.drop_zero]; rfl
  | k + 1, hk => by
    have ih := full_ps ps T hp k (by omega)
    have hq : ps[k]? = some ps[k] := List.getElem?_eq_getElem (by omega)
    simp only [psL]
    rw [ih]
    simp only
    rw [parts_drop ps k _ hq, List.append_assoc, full_pin _ _ (hp _ (List.getElem_mem _)), List.take_add_one, hq]
    rfl
theorem ct_text {st : Option (List UInt8)} {s : List UInt8} {m : Int} {T : List UInt8} (h : Ct st (textL s ++ T)) (hq : (quoteL s).length ≤ 9007199254740992) (hm : m ≤ 1000000) :
    st.bind (textS m) = none ∨ ∃ q, st.bind (textS m) = some (s, q) ∧ Ct (some q) T := by
  rcases h with rfl | ⟨q, x, rfl, hx, h⟩
  · exact Or.inl rfl
  · simp only [Option.bind_some]
    cases hr : textS m q with
    | none => exact Or.inl rfl
    | some r =>
      obtain ⟨s', t⟩ := r
      right
      obtain ⟨h2, h3⟩ := text_inv hr
      rw [h2, List.append_assoc] at h
      have hq' : (quoteL s').length ≤ 9007199254740992 := by
        have h4 := quote_len s'
        omega
      obtain ⟨h4, h5⟩ := text_pre hq' hq h
      subst h4
      exact ⟨t, rfl, Or.inr ⟨t, x, rfl, hx, h5⟩⟩
end Go.Proofs.YtbmafogjmdilkaaGreatDoor
