/-
  Hearing one of these messages; when all were heard.
-/
import Derived.Test.YtdfkjigkpcgngaaAsmAnyL
set_option linter.unusedVariables false
set_option linter.unusedSimpArgs false
set_option maxRecDepth 100000
namespace Go.Proofs.Ytdfkjigkpcgngaa
open Go.RowKit Go Go.Maps Go.Lib

def RowsOk (R : List (List Sp)) : Prop := 1 ≤ R.length ∧ R.length ≤ 4 ∧ ∀ l ∈ R, rowOk l
theorem InS.man {s s' : PS} {t j c : Int} {ps : List Pn} (h : InS s (.manifest t j c ps)) (hm : s'.man = s.man) : InS s' (.manifest t j c ps) := by
  unfold InS at h ⊢; rw [hm]; exact h
/-- a chunk comes to such a state -/
theorem chunkC_ok {R : List (List Sp)} {s : PS} (hR : RowsOk R) (h : OkS R s) {i k : Nat} {l : List Sp} (hi : R[i]? = some l) (hk : k < nCh l) :
    OkS R ⟨s.tr, s.jb, s.man, (chunkC s.C i k (nCh l) (chOf l k)).2⟩ ∧ (∃ t L, look (chunkC s.C i k (nCh l) (chOf l k)).2 (i : Int) = some (t, L) ∧ (look L (k : Int)).isSome = true) ∧
    ∀ a b : Int, (∃ t L, look s.C a = some (t, L) ∧ (look L b).isSome = true) → ∃ t L, look (chunkC s.C i k (nCh l) (chOf l k)).2 a = some (t, L) ∧ (look L b).isSome = true := by
  unfold chunkC
  cases hl : look s.C (i : Int) with
  | none =>
    refine ⟨⟨h.tr, h.jb, h.man, fun a t L hq => ?_⟩, ⟨_, _, by rw [look_cons, if_pos rfl], by rw [look_cons, if_pos rfl]; rfl⟩, fun a b hq => ?_⟩
    · rw [look_cons] at hq
      by_cases e : (i : Int) = a
      · rw [if_pos e] at hq
        injection hq with hq
        injection hq with hq1 hq2
        subst hq1 hq2
        refine ⟨i, l, e.symm, hi, rfl, fun q sp hs => ?_⟩
        rw [look_cons] at hs
        by_cases e2 : (k : Int) = q
        · rw [if_pos e2] at hs; injection hs with hs; exact ⟨k, e2.symm, hs.symm⟩
        · rw [if_neg e2] at hs; cases hs
      · rw [if_neg e] at hq; exact h.C a t L hq
    · obtain ⟨t, L, h1, h2⟩ := hq
      refine ⟨t, L, ?_, h2⟩
      rw [look_cons, if_neg]
      · exact h1
      · intro e; rw [← e, hl] at h1; cases h1
  | some x =>
    obtain ⟨t, L⟩ := x
    obtain ⟨i', l', e1, e2, e3, e4⟩ := h.C _ _ _ hl
    have ei : i' = i := by omega
    subst ei
    have el : l' = l := by rw [hi] at e2; injection e2 with e2; exact e2.symm
    subst el
    by_cases hq : (look L (k : Int)).isSome = true ∨ (nCh l' : Int) ≠ t
    · dsimp only
      rw [if_pos hq]
      have hs : (look L (k : Int)).isSome = true := hq.resolve_right (fun e => e e3.symm)
      exact ⟨⟨h.tr, h.jb, h.man, h.C⟩, ⟨t, L, hl, hs⟩, fun a b q => q⟩
    · dsimp only
      rw [if_neg hq]
      have hlk : ∀ b : Int, look (s.C.map fun c => if c.1 = (i' : Int) then (c.1, c.2.1, ((k : Int), chOf l' k) :: c.2.2) else c) b = if b = (i' : Int) then (look s.C b).map (fun x => (x.1, ((k : Int), chOf l' k) :: x.2)) else look s.C b := fun b => look_upd s.C (i' : Int) (fun x => (x.1, ((k : Int), chOf l' k) :: x.2)) b
      refine ⟨⟨h.tr, h.jb, h.man, fun a t0 L0 hq0 => ?_⟩, ⟨t, (((k : Int), chOf l' k) :: L), ?_, by rw [look_cons, if_pos rfl]; rfl⟩, fun a b hq0 => ?_⟩
      · have hq1 : look (s.C.map fun c => if c.1 = (i' : Int) then (c.1, c.2.1, ((k : Int), chOf l' k) :: c.2.2) else c) a = some (t0, L0) := hq0
        rw [hlk] at hq1
        by_cases ea : a = (i' : Int)
        · rw [if_pos ea, ea, hl] at hq1
          injection hq1 with hq1
          injection hq1 with hq1 hq2
          subst hq1 hq2
          refine ⟨i', l', ea, hi, e3, fun q sp hs => ?_⟩
          have hs' : look (((k : Int), chOf l' k) :: L) q = some sp := hs
          rw [look_cons] at hs'
          by_cases e5 : (k : Int) = q
          · rw [if_pos e5] at hs'; injection hs' with hs'; exact ⟨k, e5.symm, hs'.symm⟩
          · rw [if_neg e5] at hs'; exact e4 q sp hs'
        · rw [if_neg ea] at hq1; exact h.C a t0 L0 hq1
      · show look (s.C.map fun c => if c.1 = (i' : Int) then (c.1, c.2.1, ((k : Int), chOf l' k) :: c.2.2) else c) _ = _
        rw [hlk, if_pos rfl, hl]; rfl
      · show ∃ t L, look (s.C.map fun c => if c.1 = (i' : Int) then (c.1, c.2.1, ((k : Int), chOf l' k) :: c.2.2) else c) _ = _ ∧ _
        obtain ⟨t0, L0, h1, h2⟩ := hq0
        rw [hlk]
        by_cases ea : a = (i' : Int)
        · rw [if_pos ea, h1]
          refine ⟨_, _, rfl, ?_⟩
          show (look (((k : Int), chOf l' k) :: L0) b).isSome = true
          rw [look_cons]
          by_cases e5 : (k : Int) = b
          · rw [if_pos e5]; rfl
          · rw [if_neg e5]; exact h2
        · rw [if_neg ea]; exact ⟨t0, L0, h1, h2⟩
theorem all_cases {R : List (List Sp)} {m : Ms} (h : m ∈ allM R) : (∃ (j k : Nat) (l : List Sp), R[j]? = some l ∧ k < nCh l ∧ m = chM j k l) ∨ m = .manifest 7 1 0 (partsM 0 R) := by
  unfold allM at h
  rcases List.mem_append.1 h with h | h
  · obtain ⟨j, k, l, h1, h2, h3⟩ := chM_in (R := R) R 0 m h
    exact Or.inl ⟨j, k, l, h1, h2, by rw [h3, Nat.zero_add]⟩
  · exact Or.inr (List.mem_singleton.1 h)
/-- one of these messages comes -/
theorem hear_ok {R : List (List Sp)} {s : PS} (hR : RowsOk R) (h : OkS R s) {m : Ms} (hm : m ∈ allM R) :
    OkS R (s.hear m).2 ∧ InS (s.hear m).2 m ∧ ∀ m' ∈ allM R, InS s m' → InS (s.hear m).2 m' := by
  obtain ⟨r1, r4, rok⟩ := hR
  have hR : RowsOk R := ⟨r1, r4, rok⟩
  rcases all_cases hm with ⟨j, k, l, h1, h2, rfl⟩ | rfl
  · have hj : j < R.length := (List.getElem?_eq_some_iff.1 h1).1
    have hok := chM_ok (rok l (List.mem_of_getElem? h1)) (show j < 4 by omega) h2
    have he : s.hear (chM j k l) = ((chunkC s.C j k (nCh l) (chOf l k)).1, ⟨s.tr, s.jb, s.man, (chunkC s.C j k (nCh l) (chOf l k)).2⟩) := by
      unfold PS.hear PS.hears
      rw [hok, h.tr, h.jb]
      rfl
    rw [he]
    obtain ⟨k1, k2, k3⟩ := chunkC_ok hR h h1 h2
    refine ⟨k1, k2, fun m' hm' hin => ?_⟩
    rcases all_cases hm' with ⟨j', k', l', _, _, rfl⟩ | rfl
    · exact k3 _ _ hin
    · exact InS.man hin rfl
  · have hok : Ms.ok (.manifest 7 1 0 (partsM 0 R)) = true := man_ok (fun l hl => (rok l hl).1) r1 r4
    have he : s.hear (.manifest 7 1 0 (partsM 0 R)) = ((takeM s.man s.C (.manifest 7 1 0 (partsM 0 R))).1, ⟨s.tr, s.jb, (takeM s.man s.C (.manifest 7 1 0 (partsM 0 R))).2.1, (takeM s.man s.C (.manifest 7 1 0 (partsM 0 R))).2.2⟩) := by
      unfold PS.hear PS.hears
      rw [hok, h.tr, h.jb]
      rfl
    rw [he]
    unfold takeM
    rcases h.man with hn | hs
    · rw [hn]
      refine ⟨⟨h.tr, h.jb, Or.inr rfl, h.C⟩, rfl, fun m' hm' hin => ?_⟩
      rcases all_cases hm' with ⟨j', k', l', _, _, rfl⟩ | rfl
      · exact hin
      · rfl
    · rw [hs]
      refine ⟨⟨h.tr, h.jb, Or.inr rfl, h.C⟩, rfl, fun m' hm' hin => ?_⟩
      rcases all_cases hm' with ⟨j', k', l', _, _, rfl⟩ | rfl
      · exact hin
      · rfl
def pairsM : Nat → List (List Sp) → List (Pn × List Sp)
  | _, [] => []
  | i, l :: r => (partM i l, l) :: pairsM (i + 1) r
theorem parts_mem : ∀ (R' : List (List Sp)) (i : Nat) (p : Pn), p ∈ partsM i R' → ∃ (j : Nat) (l : List Sp), R'[j]? = some l ∧ p = partM (i + j) l
  | [], i, p, h => by cases h
  | l :: r, i, p, h => by
    unfold partsM at h
    rcases List.mem_cons.1 h with rfl | h
    · exact ⟨0, l, rfl, rfl⟩
    · obtain ⟨j, l', h1, rfl⟩ := parts_mem r (i + 1) p h
      exact ⟨j + 1, l', by simpa using h1, by rw [show i + 1 + j = i + (j + 1) by omega]⟩
theorem part_all {R : List (List Sp)} {s : PS} (hR : RowsOk R) (h : OkS R s) (hall : ∀ m ∈ allM R, InS s m) {i : Nat} {l : List Sp} (hi : R[i]? = some l) : partOf s.tr s.C (partM i l) = some l := by
  obtain ⟨_, _, rok⟩ := hR
  obtain ⟨hl40, hrow, _⟩ := rok l (List.mem_of_getElem? hi)
  have hin : ∀ k, k < nCh l → ∃ t L, look s.C (i : Int) = some (t, L) ∧ (look L (k : Int)).isSome = true := fun k hk => by
    have := hall (chM i k l) (List.mem_append_left _ (by have := chM_mem R 0 i k l hi hk; rw [Nat.zero_add] at this; exact this))
    exact this
  obtain ⟨t, L, hl, _⟩ := hin 0 (by unfold nCh; omega)
  obtain ⟨i', l', e1, e2, e3, e4⟩ := h.C _ _ _ hl
  have ei : i' = i := by omega
  subst ei
  have el : l' = l := by rw [hi] at e2; injection e2 with e2; exact e2.symm
  subst el
  have hk : ∀ k, k < nCh l' → look L (k : Int) = some (chOf l' k) := fun k hk => by
    obtain ⟨t2, L2, h1, h2⟩ := hin k hk
    rw [hl] at h1
    injection h1 with h1
    injection h1 with _ h1
    subst h1
    cases hq : look L (k : Int) with
    | none => rw [hq] at h2; cases h2
    | some sp =>
      obtain ⟨j, ej, rfl⟩ := e4 _ _ hq
      have : j = k := by omega
      rw [this]
  have hlen : nCh l' ≤ L.length := by
    have hnd : ((List.range (nCh l')).map Int.ofNat).Nodup := List.Pairwise.map Int.ofNat (fun a b hab e => hab (Int.ofNat.inj e)) List.nodup_range
    have := nodup_le (G := L.map (·.1)) hnd (fun x hx => by
      obtain ⟨k, hk', rfl⟩ := List.mem_map.1 hx
      exact List.mem_map.2 ⟨_, look_some (hk k (List.mem_range.1 hk')), rfl⟩)
    simpa using this
  have hrows : rowsOf L (nCh l') = (List.range (nCh l')).map fun k => chOf l' k := by
    unfold rowsOf
    refine List.map_congr_left fun k hk' => ?_
    rw [hk k (List.mem_range.1 hk')]; rfl
  unfold partOf
  rw [show (partM i' l').a = (i' : Int) from rfl, hl]
  show (if _ then _ else _) = _
  rw [if_neg (by rw [e3]; omega), e3, show ((nCh l' : Int)).toNat = nCh l' by omega, hrows, flat_all, h.tr, if_pos ⟨rfl, hrow⟩]
theorem pairs_eq (tr : Int) (C : CH) : ∀ (R' : List (List Sp)) (i : Nat), (∀ (j : Nat) (l : List Sp), R'[j]? = some l → partOf tr C (partM (i + j) l) = some l) → (partsM i R').map (pairOf tr C) = pairsM i R'
  | [], i, _ => rfl
  | l :: r, i, h => by
    unfold partsM pairsM
    rw [List.map_cons, pairs_eq tr C r (i + 1) (fun j l' hj => by rw [show i + 1 + j = i + (j + 1) by omega]; exact h (j + 1) l' (by simpa using hj))]
    congr 1
    unfold pairOf
    have := h 0 l rfl
    rw [Nat.add_zero] at this
    rw [this]; rfl
/-- all of them were heard -/
theorem recd_all {R : List (List Sp)} {s : PS} (hR : RowsOk R) (h : OkS R s) (hall : ∀ m ∈ allM R, InS s m) : s.recd = some (0, pairsM 0 R) ∧ wholeL (pairsM 0 R) = true := by
  have hman : s.man = some (0, partsM 0 R) := by
    rcases h.man with hn | hs
    · have : InS s (.manifest 7 1 0 (partsM 0 R)) := hall _ (List.mem_append_right _ (List.mem_singleton.2 rfl))
      unfold InS at this
      rw [hn] at this
      cases this
    · exact hs
  have hp : ∀ (j : Nat) (l : List Sp), R[j]? = some l → partOf s.tr s.C (partM j l) = some l := fun j l hj => part_all hR h hall hj
  refine ⟨?_, ?_⟩
  · unfold PS.recd
    rw [hman]
    show Option.map _ (recL s.tr s.C (partsM 0 R)) = _
    unfold recL
    rw [if_pos, pairs_eq s.tr s.C R 0 (fun j l hj => by rw [Nat.zero_add]; exact hp j l hj)]
    · rfl
    · rw [List.all_eq_true]
      intro q hq
      obtain ⟨j, l, hj, rfl⟩ := parts_mem R 0 q hq
      rw [Nat.zero_add, hp j l hj]; rfl
  · have : ∀ (R' : List (List Sp)) (i : Nat), wholeL (pairsM i R') = true := by
      intro R'
      induction R' with
      | nil => intro i; rfl
      | cons l r ih => intro i; unfold pairsM wholeL; rw [List.all_cons]; have := ih (i + 1); unfold wholeL at this; rw [this]; rfl
    exact this R 0
theorem pairsM_get : ∀ (R : List (List Sp)) (i k : Nat) (l : List Sp), R[k]? = some l → (pairsM i R)[k]? = some (partM (i + k) l, l)
  | [], i, k, l, h => by simp at h
  | x :: r, i, 0, l, h => by unfold pairsM; injection h with h; subst h; rfl
  | x :: r, i, k + 1, l, h => by
    unfold pairsM
    have := pairsM_get r (i + 1) k l (by simpa using h)
    rw [show i + 1 + k = i + (k + 1) by omega] at this
    simpa using this
theorem pairsM_len : ∀ (R : List (List Sp)) (i : Nat), (pairsM i R).length = R.length
  | [], i => rfl
  | l :: r, i => by unfold pairsM; rw [List.length_cons, List.length_cons, pairsM_len r (i + 1)]
end Go.Proofs.Ytdfkjigkpcgngaa
