/-
  Plain mathematics: spans as texts, rows, chunks.
-/
import Derived.Test.YtppmednmcbjafaaGreatKeepOp
set_option linter.unusedVariables false
set_option linter.unusedSimpArgs false
set_option maxRecDepth 100000
namespace Go.Proofs.YtppmednmcbjafaaGreat
open Go.RowKit Go Go.Lib
def rowB (v : Value) : Nat → Prop := fun k => v.ownBlock = some k
def hiB (B : Nat) : Nat → Prop := fun k => B ≤ k
theorem Fr.hi {B : Nat} {S : Nat → Prop} {a b c : World} (h : Fr (hiB B) a b) (k : Fr S b c) (hS : ∀ i, i < B → ¬ S i) : Fr (hiB B) a c :=
  h.trans k (fun _ _ q => q) (fun i _ q => Nat.le_of_not_lt (fun hlt => hS i hlt q))
theorem Fr.hiN {a b : World} (h : Fr (hiB a.heap.size) a b) : Fr noB a b := ⟨h.os, h.tape, h.output, h.size, fun k hk _ => h.block k hk (by unfold hiB; omega)⟩
theorem Fr.hi0 {B : Nat} {a b c : World} (h : Fr (hiB B) a b) (k : Fr noB b c) : Fr (hiB B) a c := h.hi k (fun _ _ q => q)
theorem Fr.rowN {w w1 w2 : World} {base e k n : Nat} {v : Value} {xs : List Value} (f : Fr noB w w1) (h : w1.ownsRow base e k v n xs) (hb : w.heap.size ≤ base) (f2 : Fr (rowB v) w1 w2) : Fr noB w w2 :=
  f.trans f2 (fun _ _ q => q) (fun i hi q => by have := (h.lt i q).1; omega)
theorem ret_bool {a b : Bool} (h : a = b) : Ending.returned (.bool a) = .returned (.bool b) := by rw [h]

theorem flat_one (L : List Sp) : ∀ v ∈ L.flatMap spC, v.oneCell' = true := by
  intro v hv
  obtain ⟨s, _, h⟩ := List.mem_flatMap.1 hv
  exact spC_one s v h
theorem flat_lenS (L : List Sp) : (L.flatMap spC).length = L.length * 3 := by
  induction L with
  | nil => rfl
  | cons s L ih => rw [List.flatMap_cons, List.length_append, ih, spC_len, List.length_cons]; omega
theorem flat_getS : ∀ (L : List Sp) (i q : Nat) (m : Sp), L[i]? = some m → q < 3 → (L.flatMap spC)[i * 3 + q]? = (spC m)[q]?
  | [], i, q, m, h, _ => by simp at h
  | x :: r, 0, q, m, h, hq => by
    simp at h; subst h
    rw [List.flatMap_cons, List.getElem?_append_left (by rw [spC_len]; omega)]
    congr 1; omega
  | x :: r, i + 1, q, m, h, hq => by
    rw [List.flatMap_cons, List.getElem?_append_right (by rw [spC_len]; omega), spC_len, show (i + 1) * 3 + q - 3 = i * 3 + q by omega]
    exact flat_getS r i q m (by simpa using h) hq

/-- a slice of spans that can be read -/
def RdSp (w : World) (v : Value) (L : List Sp) : Prop := ∃ a c, v = .slice a L.length c ∧ L.length ≤ c ∧ c ≤ maxLen ∧ (a = none → c = 0) ∧ ∀ i s, L[i]? = some s → ∃ g o, a = some ⟨g, o, none⟩ ∧ w.cell? ⟨g, o + i * 3, none⟩ = some (.int .i64 s.t) ∧ w.cell? ⟨g, o + i * 3 + 1, none⟩ = some (.int .i64 s.q) ∧ w.cell? ⟨g, o + i * 3 + 2, none⟩ = some (.string s.x)
theorem RdSp.fr {w w' : World} {v : Value} {L : List Sp} {S : Nat → Prop} (h : RdSp w v L) (hf : Fr S w w') (hS : ∀ g o n c, v = .slice (some ⟨g, o, none⟩) n c → ¬ S g) : RdSp w' v L := by
  obtain ⟨a, c, rfl, hl, hc, hn, h1⟩ := h
  refine ⟨a, c, rfl, hl, hc, hn, fun i s hi => ?_⟩
  obtain ⟨g, o, rfl, c0, c1, c2⟩ := h1 i s hi
  have := hS g o _ _ rfl
  exact ⟨g, o, rfl, hf.cell c0 this, hf.cell c1 this, hf.cell c2 this⟩
theorem RdSp.frN {w w' : World} {v : Value} {L : List Sp} (h : RdSp w v L) (hf : Fr noB w w') : RdSp w' v L := h.fr hf (fun _ _ _ _ _ q => q)
theorem RdSp.of_own {w : World} {B n : Nat} {v : Value} {L : List Sp} (h : w.ownsRow B 38 3 v n (L.flatMap spC)) (hn : L.length = n) : RdSp w v L := by
  subst hn
  rcases h.2 with ⟨rfl, h1⟩ | ⟨g, cap, cur, rfl, hb, hg, hnc, hcm, hcs, htake⟩
  · exact ⟨none, 0, by rw [h1], by omega, by simp [maxLen], fun _ => rfl, fun i s hi => by
      rw [List.eq_nil_of_length_eq_zero h1] at hi; simp at hi⟩
  · refine ⟨_, cap, rfl, hnc, hcm, (fun q => by cases q), fun i s hi => ⟨g, 0, rfl, ?_⟩⟩
    have key : ∀ j, j < 3 → w.cell? ⟨g, 0 + i * 3 + j, none⟩ = (spC s)[j]? := fun j hj => by
      have h1 := flat_getS L i j s hi hj
      have h2 : j < (spC s).length := hj
      rw [List.getElem?_eq_getElem h2] at h1
      have := h.cells (g := g) rfl (i * 3 + j) _ h1
      rw [add_none] at this
      rw [Nat.add_assoc, this, List.getElem?_eq_getElem h2]
    exact ⟨key 0 (by omega), key 1 (by omega), key 2 (by omega)⟩

/-! ### right ones, and their text -/
def rightS (s : Sp) : Bool := decide (1 ≤ s.t) && decide (s.t ≤ 65535) && decide (1 ≤ s.q) && decide (s.q ≤ 2147483648) && decide (s.x.size ≤ 40)
theorem right_iff (s : Sp) : rightS s = true ↔ (1 ≤ s.t ∧ s.t ≤ 65535 ∧ 1 ≤ s.q ∧ s.q ≤ 2147483648 ∧ s.x.size ≤ 40) := by
  unfold rightS
  simp [and_assoc]
/-! ### rows, chunks -/
def rowF (tr : Int) : Nat → List Sp → Bool
  | _, [] => true
  | k, s :: l => s.t == tr && s.q == (k : Int) + 1 && rowF tr (k + 1) l
theorem row_drop (tr : Int) (L : List Sp) (k : Nat) (s : Sp) (h : L[k]? = some s) : rowF tr k (L.drop k) = (s.t == tr && s.q == (k : Int) + 1 && rowF tr (k + 1) (L.drop (k + 1))) := by
  obtain ⟨hk, rfl⟩ := List.getElem?_eq_some_iff.1 h
  rw [List.drop_eq_getElem_cons hk]
  rfl
def chkF : Nat → List Sp → List (List Sp)
  | 0, L => [L]
  | f + 1, L => if 2 < L.length then L.take 2 :: chkF f (L.drop 2) else [L]
def chkL (L : List Sp) : List (List Sp) := chkF L.length L
theorem chkF_fuel : ∀ (f g : Nat) (L : List Sp), L.length ≤ f → L.length ≤ g → chkF f L = chkF g L
  | 0, g, L, h1, h2 => by
    cases g with
    | zero => rfl
    | succ g => simp only [chkF]; rw [if_neg (by omega)]
  | f + 1, 0, L, h1, h2 => by simp only [chkF]; rw [if_neg (by omega)]
  | f + 1, g + 1, L, h1, h2 => by
    simp only [chkF]
    by_cases h : 2 < L.length
    · rw [if_pos h, if_pos h, chkF_fuel f g _ (by rw [List.length_drop]; omega) (by rw [List.length_drop]; omega)]
    · rw [if_neg h, if_neg h]
theorem chk_step (L : List Sp) (h : 2 < L.length) : chkL L = L.take 2 :: chkL (L.drop 2) := by
  unfold chkL
  conv => lhs; rw [show L.length = (L.length - 1) + 1 by omega]; unfold chkF
  rw [if_pos h, chkF_fuel (L.length - 1) (L.drop 2).length _ (by rw [List.length_drop]; omega) (Nat.le_refl _)]
theorem chk_end (L : List Sp) (h : ¬ 2 < L.length) : chkL L = [L] := by
  unfold chkL
  cases hl : L.length with
  | zero => rfl
  | succ n => simp only [chkF]; rw [if_neg (by omega)]
theorem chk_props : ∀ (n : Nat) (L : List Sp), L.length = n → (chkL L).flatten = L ∧ (chkL L).length = max ((L.length + 1) / 2) 1 ∧ ∀ i c, (chkL L)[i]? = some c → c.length ≤ 2 ∧ (i + 1 < (chkL L).length → c.length = 2) ∧ (c.length = 0 → (chkL L).length = 1) := by
  intro n
  induction n using Nat.strongRecOn with
  | ind n ih =>
    intro L hl
    by_cases h : 2 < L.length
    · obtain ⟨i1, i2, i3⟩ := ih (L.drop 2).length (by rw [List.length_drop]; omega) _ rfl
      rw [chk_step L h]
      refine ⟨by rw [List.flatten_cons, i1, List.take_append_drop], by rw [List.length_cons, i2, List.length_drop]; omega, fun i c hc => ?_⟩
      cases i with
      | zero =>
        simp at hc
        subst hc
        have : (L.take 2).length = 2 := by rw [List.length_take]; omega
        exact ⟨by omega, fun _ => this, fun q => by omega⟩
      | succ i =>
        rw [List.getElem?_cons_succ] at hc
        obtain ⟨j1, j2, j3⟩ := i3 i c hc
        refine ⟨j1, fun q => j2 (by rw [List.length_cons] at q; omega), fun q => ?_⟩
        have h4 := j3 q
        exfalso
        -- one chunk alone, of none: then the rest were none
        rw [i2, List.length_drop] at h4
        have h5 := congrArg List.length i1
        have hi : i < (chkL (L.drop 2)).length := (List.getElem?_eq_some_iff.1 hc).1
        rw [i2, List.length_drop] at hi
        have hlen1 : (chkL (L.drop 2)).length = 1 := by rw [i2, List.length_drop]; exact h4
        match hm : chkL (L.drop 2), hlen1 with
        | [d], _ =>
          rw [hm] at h5 hc
          have hi0 : i = 0 := by omega
          subst hi0
          simp at hc h5
          subst hc
          omega
    · rw [chk_end L h]
      refine ⟨by simp, by rw [List.length_singleton]; omega, fun i c hc => ?_⟩
      cases i with
      | zero => simp at hc; subst hc; exact ⟨by omega, fun q => by simp at q, fun _ => rfl⟩
      | succ i => simp at hc
end Go.Proofs.YtppmednmcbjafaaGreat
