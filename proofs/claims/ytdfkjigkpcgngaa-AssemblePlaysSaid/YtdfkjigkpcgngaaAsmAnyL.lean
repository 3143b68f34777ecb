/-
  Rows of spans in chunks, and their manifest: plainly, what hearing all of them leaves.
-/
import Derived.Test.YtdfkjigkpcgngaaAsmV
set_option linter.unusedVariables false
set_option linter.unusedSimpArgs false
set_option maxRecDepth 100000
namespace Go.Proofs.Ytdfkjigkpcgngaa
open Go.RowKit Go Go.Maps Go.Lib

/-- how many chunks a row has -/
def nCh (l : List Sp) : Nat := max ((l.length + 1) / 2) 1
/-- its k-th chunk -/
def chOf (l : List Sp) (k : Nat) : List Sp := (l.drop (2 * k)).take 2
def chM (i k : Nat) (l : List Sp) : Ms := .chunk i 7 1 k (nCh l) (chOf l k)
def rowM (i : Nat) (l : List Sp) : List Ms := (List.range (nCh l)).map fun k => chM i k l
def partM (i : Nat) (l : List Sp) : Pn := ⟨i, 7, 1, l.length, [], false⟩
/-- the parts, the messages of the rows from the i-th on -/
def partsM : Nat → List (List Sp) → List Pn
  | _, [] => []
  | i, l :: r => partM i l :: partsM (i + 1) r
def chunksM : Nat → List (List Sp) → List Ms
  | _, [] => []
  | i, l :: r => rowM i l ++ chunksM (i + 1) r
def allM (R : List (List Sp)) : List Ms := chunksM 0 R ++ [.manifest 7 1 0 (partsM 0 R)]
theorem flat_ch (l : List Sp) : ∀ n, ((List.range n).map fun k => chOf l k).flatten = l.take (2 * n)
  | 0 => by simp
  | n + 1 => by
    rw [List.range_succ, List.map_append, List.flatten_append, flat_ch l n]
    show _ ++ [chOf l n].flatten = _
    rw [show [chOf l n].flatten = chOf l n by simp]
    unfold chOf
    rw [show 2 * (n + 1) = 2 * n + 2 by omega, List.take_add]
theorem flat_all (l : List Sp) : ((List.range (nCh l)).map fun k => chOf l k).flatten = l := by
  rw [flat_ch]
  exact List.take_of_length_le (by unfold nCh; omega)
/-- a row that the law plays -/
def rowOk (l : List Sp) : Prop := l.length ≤ 40 ∧ rowF 7 0 l = true ∧ ∀ s ∈ l, rightS s = true
theorem rowF_t (tr : Int) : ∀ (L : List Sp) (k : Nat), rowF tr k L = true → ∀ s ∈ L, s.t = tr
  | [], k, _, s, hs => by cases hs
  | x :: r, k, h, s, hs => by
    unfold rowF at h
    simp only [Bool.and_eq_true, beq_iff_eq] at h
    rcases List.mem_cons.1 hs with rfl | hs
    · exact h.1.1
    · exact rowF_t tr r (k + 1) h.2 s hs
theorem chM_ok {i k : Nat} {l : List Sp} (h : rowOk l) (hi : i < 4) (hk : k < nCh l) : (chM i k l).ok = true := by
  obtain ⟨h1, h2, h3⟩ := h
  have hn : nCh l ≤ 20 := by unfold nCh; omega
  have hc : (chOf l k).length ≤ 2 := by unfold chOf; rw [List.length_take]; omega
  have hs : spsB 7 (chOf l k) = true := by
    unfold spsB
    rw [List.all_eq_true]
    intro s hs
    have hm : s ∈ l := by unfold chOf at hs; exact List.mem_of_mem_drop (List.mem_of_mem_take hs)
    rw [h3 s hm, rowF_t 7 l 0 h2 s hm]
    rfl
  unfold chM Ms.ok chunkB inB
  simp only [hs, Bool.and_true, Bool.and_eq_true, decide_eq_true_eq]
  omega
theorem pnB_part {i : Nat} {l : List Sp} (h : l.length ≤ 40) (hi : i < 4) : pnB (partM i l) = true := by
  unfold pnB pinB inB partM risB
  simp only [Bool.and_true, Bool.and_eq_true, decide_eq_true_eq]
  omega
theorem manF_parts : ∀ (R : List (List Sp)) (i : Nat), (∀ l ∈ R, l.length ≤ 40) → i + R.length ≤ 4 → manF 7 1 ((i : Int) - 1) (partsM i R) = true
  | [], i, _, _ => rfl
  | l :: r, i, h, hi => by
    rw [List.length_cons] at hi
    unfold partsM manF
    rw [pnB_part (h l (List.mem_cons_self ..)) (by omega)]
    have := manF_parts r (i + 1) (fun x hx => h x (List.mem_cons_of_mem _ hx)) (by omega)
    rw [show ((i + 1 : Nat) : Int) - 1 = (i : Int) by omega] at this
    have e : (partM i l).a = (i : Int) := rfl
    rw [e, this]
    simp [partM]
    omega
theorem partsM_len : ∀ (R : List (List Sp)) (i : Nat), (partsM i R).length = R.length
  | [], i => rfl
  | l :: r, i => by unfold partsM; rw [List.length_cons, List.length_cons, partsM_len r (i + 1)]
theorem partsM_get : ∀ (R : List (List Sp)) (i k : Nat) (l : List Sp), R[k]? = some l → (partsM i R)[k]? = some (partM (i + k) l)
  | [], i, k, l, h => by simp at h
  | x :: r, i, 0, l, h => by unfold partsM; injection h with h; subst h; rfl
  | x :: r, i, k + 1, l, h => by
    unfold partsM
    have := partsM_get r (i + 1) k l (by simpa using h)
    rw [show i + 1 + k = i + (k + 1) by omega] at this
    simpa using this
theorem man_ok {R : List (List Sp)} (h : ∀ l ∈ R, l.length ≤ 40) (h1 : 1 ≤ R.length) (h4 : R.length ≤ 4) : manB 7 1 0 (partsM 0 R) = true := by
  have := manF_parts R 0 h (by omega)
  unfold manB inB
  rw [show ((0 : Nat) : Int) - 1 = -1 by omega] at this
  rw [this, partsM_len]
  simp
  omega
/-- the state is made of these messages alone -/
structure OkS (R : List (List Sp)) (s : PS) : Prop where
  tr : s.tr = 7
  jb : s.jb = 1
  man : s.man = none ∨ s.man = some (0, partsM 0 R)
  C : ∀ a t L, look s.C a = some (t, L) → ∃ (i : Nat) (l : List Sp), a = i ∧ R[i]? = some l ∧ t = nCh l ∧ ∀ k sp, look L k = some sp → ∃ j : Nat, k = j ∧ sp = chOf l j
/-- a message is in it -/
def InS (s : PS) : Ms → Prop
  | .chunk a _ _ k _ _ => ∃ t L, look s.C a = some (t, L) ∧ (look L k).isSome = true
  | .manifest .. => s.man.isSome = true
  | _ => True
theorem look_upd (C : CH) (a : Int) (f : Int × List (Int × List Sp) → Int × List (Int × List Sp)) (b : Int) : look (C.map fun c => if c.1 = a then (c.1, f c.2) else c) b = if b = a then (look C b).map f else look C b := by
  induction C with
  | nil => unfold look; simp
  | cons c r ih =>
    unfold look at ih ⊢
    rw [List.map_cons, List.find?_cons, List.find?_cons]
    by_cases hc : c.1 = b
    · by_cases hb : b = a
      · subst hb; simp [hc]
      · have : ¬ c.1 = a := by rw [hc]; exact hb
        simp [hc, hb, this]
    · by_cases ha : c.1 = a
      · have hba : ¬ b = a := by intro e; exact hc (ha.trans e.symm)
        simp only [if_pos ha, hc, decide_false]
        rw [ih]
      · simp only [if_neg ha, hc, decide_false]
        rw [ih]
theorem look_cons {α : Type} (k : Int) (x : α) (L : List (Int × α)) (j : Int) : look ((k, x) :: L) j = if k = j then some x else look L j := by
  unfold look
  rw [List.find?_cons]
  by_cases h : k = j
  · simp [h]
  · simp [h]
theorem chM_in {R : List (List Sp)} : ∀ (R' : List (List Sp)) (i : Nat) (m : Ms), m ∈ chunksM i R' → ∃ (j k : Nat) (l : List Sp), R'[j]? = some l ∧ k < nCh l ∧ m = chM (i + j) k l
  | [], i, m, h => by cases h
  | l :: r, i, m, h => by
    unfold chunksM at h
    rcases List.mem_append.1 h with h | h
    · unfold rowM at h
      obtain ⟨k, hk, rfl⟩ := List.mem_map.1 h
      exact ⟨0, k, l, rfl, List.mem_range.1 hk, rfl⟩
    · obtain ⟨j, k, l', h1, h2, rfl⟩ := chM_in (R := R) r (i + 1) m h
      exact ⟨j + 1, k, l', by simpa using h1, h2, by rw [show i + 1 + j = i + (j + 1) by omega]⟩
theorem chM_mem : ∀ (R' : List (List Sp)) (i j k : Nat) (l : List Sp), R'[j]? = some l → k < nCh l → chM (i + j) k l ∈ chunksM i R'
  | [], i, j, k, l, h, _ => by simp at h
  | x :: r, i, 0, k, l, h, hk => by
    injection h with h
    subst h
    unfold chunksM
    exact List.mem_append_left _ (List.mem_map.2 ⟨k, List.mem_range.2 hk, rfl⟩)
  | x :: r, i, j + 1, k, l, h, hk => by
    unfold chunksM
    have := chM_mem r (i + 1) j k l (by simpa using h) hk
    rw [show i + 1 + j = i + (j + 1) by omega] at this
    exact List.mem_append_right _ this
end Go.Proofs.Ytdfkjigkpcgngaa
