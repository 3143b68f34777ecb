/-
  Crumbs, and the law's own map of maps beside them.
-/
import Derived.Test.YtbepkhldgfmmbaaCrumbAwake
import Derived.Test.YtbepkhldgfmmbaaArgs
set_option linter.unusedVariables false
set_option linter.unusedSimpArgs false
namespace Go.Proofs.Ytbepkhldgfmmbaa
open Go.RowKit Go Go.Maps Go.Lib

def mkO (b : Option Nat) : Value := .map b
theorem mkO_inj (x y : Option Nat) (h : mkO x = mkO y) : x = y := by simpa [mkO] using h
def mkT (b : Bool) : Value := .bool b
theorem mkT_inj (x y : Bool) (h : mkT x = mkT y) : x = y := by simpa [mkT] using h
theorem zeroM (w : World) : (zeroValue 42).run Try.prog w = .ok (mkO none) w := by kernel_rfl
theorem zeroB (w : World) : (zeroValue 4).run Try.prog w = .ok (mkT false) w := by kernel_rfl

/-- the inner map at block b tells just the numbers of X -/
def In (w : World) (b : Nat) (X : List Int) : Prop := ∃ L : List (Int × Bool), Mp Try.prog 3 klI mkT w b 4 L ∧ L.length = X.length ∧ ∀ a, look L a = if a ∈ X then some true else none
theorem In.fr {w w' : World} {b : Nat} {X : List Int} {S : Nat → Prop} (h : In w b X) (hf : Fr S w w') (hb : ¬ S b) : In w' b X := by
  obtain ⟨L, h1, h2⟩ := h
  exact ⟨L, h1.fr hf hb, h2⟩
theorem In.lt {w : World} {b : Nat} {X : List Int} (h : In w b X) : b < w.heap.size := by
  obtain ⟨L, h1, h2⟩ := h
  exact h1.lt

/-- Crumbs, and the law's map. -/
structure Kt (w0 w : World) (g bm B n om m : Nat) (N : Int) (X : Int → List Int) (M : List (Int × SV)) (W : List (Int × Option Nat)) : Prop where
  cm : Cm w g bm B n N X M
  wm : Mp Try.prog 3 klI mkO w om m W
  inn : ∀ p ∈ W, ∃ b, p.2 = some b ∧ In w b (X p.1) ∧ b ≠ om ∧ w0.heap.size ≤ b
  key : ∀ t, look W t = none ↔ X t = []
  apart : ∀ p ∈ W, ∀ q ∈ W, p.1 ≠ q.1 → p.2 ≠ q.2
  off : ∀ k, cmB w g bm B M k → k ≠ om ∧ ∀ p ∈ W, p.2 ≠ some k
  low : ∀ k, cmB w g bm B M k → w0.heap.size ≤ k
  o0 : w0.heap.size ≤ om
  fr : Fr noB w0 w

theorem Kt.frN {w0 w w' : World} {g bm B n om m : Nat} {N : Int} {X : Int → List Int} {M : List (Int × SV)} {W : List (Int × Option Nat)} (h : Kt w0 w g bm B n om m N X M W) (hf : Fr noB w w') : Kt w0 w' g bm B n om m N X M W :=
  ⟨h.cm.frN hf, h.wm.fr hf (fun q => q), fun p hp => by obtain ⟨b, h1, h2, h3⟩ := h.inn p hp; exact ⟨b, h1, h2.fr hf (fun q => q), h3⟩, h.key, h.apart, h.off, h.low, h.o0, h.fr.seqN hf⟩
theorem Cm.key' {w : World} {g bm B n : Nat} {N : Int} {X : Int → List Int} {M : List (Int × SV)} (h : Cm w g bm B n N X M) (k : Int) : k ∈ M.map (·.1) ↔ X k ≠ [] := by
  constructor
  · intro hk
    obtain ⟨p, hp, rfl⟩ := List.mem_map.1 hk
    exact (h.row p hp).2
  · intro hk
    cases hl : look M k with
    | none => exact absurd (h.non k hl) hk
    | some s => exact List.mem_map.2 ⟨_, look_some hl, rfl⟩
theorem Kt.len {w0 w : World} {g bm B n om m : Nat} {N : Int} {X : Int → List Int} {M : List (Int × SV)} {W : List (Int × Option Nat)} (h : Kt w0 w g bm B n om m N X M W) : M.length = W.length := by
  have hm : ∀ k, k ∈ M.map (·.1) ↔ k ∈ W.map (·.1) := fun k => by
    rw [h.cm.key' k]
    constructor
    · intro hx
      cases hl : look W k with
      | none => exact absurd ((h.key k).1 hl) hx
      | some s => exact List.mem_map.2 ⟨_, look_some hl, rfl⟩
    · intro hk hx
      obtain ⟨p, hp, rfl⟩ := List.mem_map.1 hk
      exact look_none ((h.key p.1).2 hx) p hp rfl
  have hp : (M.map (·.1)).Perm (W.map (·.1)) := (List.perm_ext_iff_of_nodup h.cm.mp.nodup h.wm.nodup).2 hm
  simpa using hp.length_eq
theorem Kt.start {w0 w2 : World} {g bm B : Nat} {N : Int} (l2 : Cm w2 g bm B 0 N (fun _ => []) []) (h1 : w0.heap.size ≤ bm) (h2 : bm ≤ g) (h3 : bm ≤ B) (fr : Fr noB w0 w2) : Kt w0 (w2.alloc (.map #[] 0)) g bm B 0 w2.heap.size 0 N (fun _ => []) [] [] := by
  have fA := (Fr.refl noB w2).alloc (.map #[] 0)
  have wm2 : Mp Try.prog 3 klI mkO (w2.alloc (.map #[] 0)) w2.heap.size 0 [] := Mp.made w2
  refine ⟨l2.frN fA, wm2, by simp, fun t => by simp [look], by simp, fun k hk => ⟨?_, by simp⟩, fun k hk => ?_, fr.size, fr.seqN fA⟩
  · have : k < w2.heap.size := by
      rcases hk with rfl | rfl | ⟨p, hp, hk⟩
      · exact l2.blk.lt
      · exact l2.mp.lt
      · cases hp
    omega
  · have := cmB_low (L := bm) l2 h2 (Nat.le_refl _) h3 k hk; omega
/-- the inner map at a key -/
theorem Kt.at_key {w0 w : World} {g bm B n om m : Nat} {N : Int} {X : Int → List Int} {M : List (Int × SV)} {W : List (Int × Option Nat)} (h : Kt w0 w g bm B n om m N X M W) (t : Int) :
    (X t = [] ∧ look W t = none) ∨ ∃ b, look W t = some (some b) ∧ In w b (X t) ∧ X t ≠ [] ∧ b ≠ om ∧ w0.heap.size ≤ b := by
  cases hl : look W t with
  | none => exact Or.inl ⟨(h.key t).1 hl, rfl⟩
  | some s =>
    obtain ⟨b, h1, h2, h3, h4⟩ := h.inn _ (look_some hl)
    simp only at h1 h2
    subst h1
    exact Or.inr ⟨b, rfl, h2, fun e => (by rw [(h.key t).2 e] at hl; cases hl), h3, h4⟩

theorem In.put {w : World} {b m : Nat} {X : List Int} {L : List (Int × Bool)} {a : Int} {i : Nat} (hm : Mp Try.prog 3 klI mkT w b m (withKey L a true)) (hL : L.length = X.length) (hl : ∀ a, look L a = if a ∈ X then some true else none) (ha : a ∉ X) (hi : i ≤ X.length) (h4 : X.length + 1 ≤ 4) : In w b (insAt X i a) := by
  have hlen : (withKey L a true).length = X.length + 1 := by
    have hn : look L a = none := by rw [hl a, if_neg ha]
    unfold withKey
    have : without L a = L := by
      unfold without
      rw [List.filter_eq_self]
      intro p hp
      simpa using look_none hn p hp
    rw [this, List.length_cons, hL]
  refine ⟨_, hm.tight (by omega), by rw [hlen, insAt_len _ _ _ hi], fun k => ?_⟩
  by_cases hk : k = a
  · subst hk; rw [look_withKey_same, if_pos (mem_insAt.2 (Or.inl rfl))]
  · rw [look_withKey_other _ _ hk, hl k]
    by_cases hx : k ∈ X
    · rw [if_pos hx, if_pos (mem_insAt.2 (Or.inr hx))]
    · rw [if_neg hx, if_neg (fun q => (mem_insAt.1 q).elim hk hx)]
theorem addX_len {w : World} {g bm B n : Nat} {N t a : Int} {X : Int → List Int} {M : List (Int × SV)} (h : Cm w g bm B n N (addX X t a) M) : (X t).length + 1 ≤ 4 := by
  have := h.lenX t
  simp only [addX, if_true] at this
  rwa [insAt_len _ _ _ (placeI_le _ _)] at this
theorem addX_ne (X : Int → List Int) (t a : Int) : insAt (X t) (placeI (X t) a) a ≠ [] := fun e => by
  have := congrArg List.length e
  rw [insAt_len _ _ _ (placeI_le _ _)] at this
  simp at this

/-- one more is named: the inner map was there -/
theorem Kt.add_old {w0 w w1 w2 : World} {g bm B n om m b : Nat} {N t a : Int} {X : Int → List Int} {M : List (Int × SV)} {s : SV} {W : List (Int × Option Nat)} (h : Kt w0 w g bm B n om m N X M W) (ha : a ∉ X t)
    (c1 : Cm w1 g bm B (n + 1) N (addX X t a) (withKey M t s)) (hs : ∀ b, (mkS s).ownBlock = some b → cmB w g bm B M b ∨ w.heap.size ≤ b) (f1 : Fr (cmB w g bm B M) w w1)
    (hb : look W t = some (some b)) {L : List (Int × Bool)} {m4 : Nat} (hL : L.length = (X t).length) (hl : ∀ a, look L a = if a ∈ X t then some true else none)
    (m2 : Mp Try.prog 3 klI mkT w2 b m4 (withKey L a true)) (f2 : Fr (onlyB b) w1 w2) : Kt w0 w2 g bm B (n + 1) om m N (addX X t a) (withKey M t s) W := by
  obtain ⟨b', h1, h2, h3, h4⟩ := h.inn _ (look_some hb)
  simp only [Option.some.injEq] at h1 h2
  subst h1
  have hbw := h2.lt
  have hin : ∀ k, cmB w1 g bm B (withKey M t s) k → cmB w g bm B M k ∨ w.heap.size ≤ k := fun k hk => by
    rcases hk with hk | hk | ⟨p, hp, hk⟩
    · exact Or.inl (Or.inl hk)
    · exact Or.inl (Or.inr (Or.inl hk))
    · rcases List.mem_cons.1 hp with rfl | hp
      · exact hs k hk
      · exact Or.inl (Or.inr (Or.inr ⟨p, (mem_without.1 hp).1, hk⟩))
  have hoff : ∀ k, cmB w1 g bm B (withKey M t s) k → k ≠ om ∧ ∀ p ∈ W, p.2 ≠ some k := fun k hk => by
    rcases hin k hk with q | q
    · exact h.off k q
    · refine ⟨fun e => ?_, fun p hp e => ?_⟩
      · have := h.wm.lt; omega
      · obtain ⟨b', h1, h2, _⟩ := h.inn p hp
        rw [h1] at e; cases e
        have := h2.lt; omega
  have hom1 : ¬ cmB w g bm B M om := fun q => (h.off om q).1 rfl
  refine ⟨c1.fr f2 (fun k hk q => (hoff k hk).2 _ (look_some hb) (by unfold onlyB at q; rw [q])), (h.wm.fr f1 hom1).fr f2 (fun q => h3 q.symm), fun p hp => ?_, fun k => ?_, h.apart, hoff, fun k hk => ?_, h.o0, ?_⟩
  · by_cases hpt : p.1 = t
    · have hp2 : look W p.1 = some p.2 := look_mem h.wm.nodup hp
      rw [hpt, hb] at hp2
      refine ⟨b, by simpa using hp2.symm, ?_, h3, h4⟩
      rw [hpt]
      simp only [addX, if_true]
      exact In.put m2 hL hl ha (placeI_le _ _) (addX_len c1)
    · obtain ⟨b', q1, q2, q3⟩ := h.inn p hp
      refine ⟨b', q1, ?_, q3⟩
      simp only [addX, if_neg hpt]
      refine (q2.fr f1 (fun q => (h.off b' q).2 p hp q1)).fr f2 (fun q => ?_)
      unfold onlyB at q
      exact h.apart p hp _ (look_some hb) hpt (by rw [q1, q])
  · by_cases hk : k = t
    · subst hk
      simp only [addX, if_true]
      exact ⟨fun q => (by rw [hb] at q; cases q), fun q => absurd q (addX_ne X k a)⟩
    · simp only [addX, if_neg hk]; exact h.key k
  · rcases hin k hk with q | q
    · exact h.low k q
    · have := h.fr.size; omega
  · refine (h.fr.trans f1 (fun _ _ q => q) (fun i hi q => ?_)).trans f2 (fun _ _ q => q) (fun i hi q => ?_)
    · have := h.low i q; omega
    · unfold onlyB at q; omega

/-- one more is named: the inner map is new -/
theorem Kt.add_new {w0 w w1 w2 w3 : World} {g bm B n om m : Nat} {N t a : Int} {X : Int → List Int} {M : List (Int × SV)} {s : SV} {W : List (Int × Option Nat)} (h : Kt w0 w g bm B n om m N X M W)
    (c1 : Cm w1 g bm B (n + 1) N (addX X t a) (withKey M t s)) (hs : ∀ b, (mkS s).ownBlock = some b → cmB w g bm B M b ∨ w.heap.size ≤ b) (f1 : Fr (cmB w g bm B M) w w1)
    (hb : look W t = none) (m2 : Mp Try.prog 3 klI mkO w2 om (m + 1) (withKey W t (some w1.heap.size))) (f2 : Fr (onlyB om) (w1.alloc (.map #[] 0)) w2) {m4 : Nat}
    (m3 : Mp Try.prog 3 klI mkT w3 w1.heap.size m4 (withKey [] a true)) (f3 : Fr (onlyB w1.heap.size) w2 w3) : Kt w0 w3 g bm B (n + 1) om (m + 1) N (addX X t a) (withKey M t s) (withKey W t (some w1.heap.size)) := by
  have hXt : X t = [] := (h.key t).1 hb
  have hw01 : w.heap.size ≤ w1.heap.size := f1.size
  have fA : Fr noB w1 (w1.alloc (.map #[] 0)) := (Fr.refl noB w1).alloc _
  have hsA : (w1.alloc (.map #[] 0)).heap.size = w1.heap.size + 1 := by simp
  have hin : ∀ k, cmB w1 g bm B (withKey M t s) k → cmB w g bm B M k ∨ w.heap.size ≤ k := fun k hk => by
    rcases hk with hk | hk | ⟨p, hp, hk⟩
    · exact Or.inl (Or.inl hk)
    · exact Or.inl (Or.inr (Or.inl hk))
    · rcases List.mem_cons.1 hp with rfl | hp
      · exact hs k hk
      · exact Or.inl (Or.inr (Or.inr ⟨p, (mem_without.1 hp).1, hk⟩))
  have hoff : ∀ k, cmB w1 g bm B (withKey M t s) k → k ≠ om ∧ ∀ p ∈ W, p.2 ≠ some k := fun k hk => by
    rcases hin k hk with q | q
    · exact h.off k q
    · refine ⟨fun e => ?_, fun p hp e => ?_⟩
      · have := h.wm.lt; omega
      · obtain ⟨b', h1, h2, _⟩ := h.inn p hp
        rw [h1] at e; cases e
        have := h2.lt; omega
  have hlt : ∀ k, cmB w1 g bm B (withKey M t s) k → k < w1.heap.size := fun k hk => by
    rcases hk with rfl | rfl | ⟨p, hp, hk⟩
    · exact c1.blk.lt
    · exact c1.mp.lt
    · exact ((c1.row p hp).1.lt k hk).2
  have homw : om < w.heap.size := h.wm.lt
  have hW : without W t = W := by
    unfold without
    rw [List.filter_eq_self]
    intro p hp
    simpa using look_none hb p hp
  refine ⟨((c1.frN fA).fr f2 (fun k hk q => (hoff k hk).1 q)).fr f3 (fun k hk q => by have := hlt k hk; unfold onlyB at q; omega), m2.fr f3 (fun q => by unfold onlyB at q; omega), fun p hp => ?_, fun k => ?_, fun p hp q hq hpq => ?_, fun k hk => ⟨(hoff k hk).1, fun p hp => ?_⟩, fun k hk => ?_, h.o0, ?_⟩
  · rcases List.mem_cons.1 hp with rfl | hp
    · refine ⟨_, rfl, ?_, by omega, by have := h.fr.size; omega⟩
      simp only [addX, if_true]
      exact In.put m3 (by rw [hXt]; rfl) (fun k => by rw [hXt]; simp [look]) (by rw [hXt]; simp) (placeI_le _ _) (addX_len c1)
    · obtain ⟨hp1, hp2⟩ := mem_without.1 hp
      obtain ⟨b', q1, q2, q3, q4⟩ := h.inn p hp1
      have q2l := q2.lt
      refine ⟨b', q1, ?_, q3, q4⟩
      simp only [addX, if_neg hp2]
      exact (((q2.fr f1 (fun q => (h.off b' q).2 p hp1 q1)).fr fA (fun q => q)).fr f2 (fun q => q3 q)).fr f3 (fun q => by unfold onlyB at q; omega)
  · by_cases hk : k = t
    · subst hk
      rw [look_withKey_same]
      simp only [addX, if_true]
      exact ⟨fun q => (by cases q), fun q => absurd q (addX_ne X k a)⟩
    · rw [look_withKey_other _ _ hk]
      simp only [addX, if_neg hk]; exact h.key k
  · have hnew : ∀ p ∈ W, p.2 ≠ some w1.heap.size := fun p hp e => by
      obtain ⟨b', q1, q2, _⟩ := h.inn p hp
      rw [q1] at e; cases e
      have := q2.lt; omega
    rcases List.mem_cons.1 hp with rfl | hp
    · rcases List.mem_cons.1 hq with rfl | hq
      · exact absurd rfl hpq
      · exact fun e => hnew q (mem_without.1 hq).1 e.symm
    · rcases List.mem_cons.1 hq with rfl | hq
      · exact hnew p (mem_without.1 hp).1
      · exact h.apart p (mem_without.1 hp).1 q (mem_without.1 hq).1 hpq
  · rcases List.mem_cons.1 hp with rfl | hp
    · intro e
      simp only [Option.some.injEq] at e
      have := hlt k hk; omega
    · exact (hoff k hk).2 p (mem_without.1 hp).1
  · rcases hin k hk with q | q
    · exact h.low k q
    · have := h.fr.size; omega
  · refine (((h.fr.trans f1 (fun _ _ q => q) (fun i hi q => ?_)).seqN fA).trans f2 (fun _ _ q => q) (fun i hi q => ?_)).trans f3 (fun _ _ q => q) (fun i hi q => ?_)
    · have := h.low i q; omega
    · have := h.o0; unfold onlyB at q; omega
    · have := h.fr.size; unfold onlyB at q; omega

theorem Kt.drop {w0 w w1 w2 : World} {g bm B n om m : Nat} {N t : Int} {X : Int → List Int} {M : List (Int × SV)} {W : List (Int × Option Nat)} (h : Kt w0 w g bm B n om m N X M W)
    (c1 : Cm w1 g bm B n N (fun k => if k = t then [] else X k) (without M t)) (f1 : Fr (onlyB bm) w w1) (m2 : Mp Try.prog 3 klI mkO w2 om m (without W t)) (f2 : Fr (onlyB om) w1 w2) :
    Kt w0 w2 g bm B n om m N (fun k => if k = t then [] else X k) (without M t) (without W t) := by
  have hin : ∀ k, cmB w2 g bm B (without M t) k → cmB w g bm B M k := fun k hk => by
    rcases hk with hk | hk | ⟨p, hp, hk⟩
    · exact Or.inl hk
    · exact Or.inr (Or.inl hk)
    · exact Or.inr (Or.inr ⟨p, (mem_without.1 hp).1, hk⟩)
  refine ⟨c1.fr f2 (fun k hk q => (h.off k (hin k hk)).1 q), m2, fun p hp => ?_, fun k => ?_, fun p hp q hq => h.apart p (mem_without.1 hp).1 q (mem_without.1 hq).1, fun k hk => ⟨(h.off k (hin k hk)).1, fun p hp => (h.off k (hin k hk)).2 p (mem_without.1 hp).1⟩, fun k hk => h.low k (hin k hk), h.o0, ?_⟩
  · obtain ⟨hp1, hp2⟩ := mem_without.1 hp
    obtain ⟨b', q1, q2, q3, q4⟩ := h.inn p hp1
    simp only [if_neg hp2]
    exact ⟨b', q1, (q2.fr f1 (fun q => (h.off bm (Or.inr (Or.inl rfl))).2 p hp1 (by unfold onlyB at q; rw [q1, q]))).fr f2 q3, q3, q4⟩
  · by_cases hk : k = t
    · subst hk; rw [look_without_same]; simp
    · rw [look_without_other _ hk]; simp only [if_neg hk]; exact h.key k
  · refine (h.fr.trans f1 (fun _ _ q => q) (fun i hi q => ?_)).trans f2 (fun _ _ q => q) (fun i hi q => ?_)
    · have := h.low bm (Or.inr (Or.inl rfl)); unfold onlyB at q; omega
    · have := h.o0; unfold onlyB at q; omega

/-- 'want[t][a]' where nothing is -/
theorem look_nil (a : Int) (w : World) : (Instr.lookup 42 (.map none) (.int .i64 a) false).run Try.prog w = .ok (.bool false) w := by kernel_rfl
theorem In.run_look {w : World} {b : Nat} {X : List Int} (h : In w b X) (a : Int) (ha : okI a) : (Instr.lookup 42 (.map (some b)) (.int .i64 a) false).run Try.prog w = .ok (.bool (decide (a ∈ X))) w := by
  obtain ⟨L, h1, h2, h3⟩ := h
  have := h1.run_look KI Try.underlying42 (zeroB w) mkT_inj a ha
  unfold kvI at this
  rw [this, h3 a]
  by_cases hx : a ∈ X <;> simp [hx, mkT]
theorem In.run_len {w : World} {b : Nat} {X : List Int} (h : In w b X) (ty : TypeId) : (Builtin.len_ #[42] ty #[.map (some b)]).run Try.prog w = .ok (.int .i64 X.length) w := by
  obtain ⟨L, h1, h2, h3⟩ := h
  rw [h1.run_len Try.underlying42 ty, h2]
theorem Kt.run_look {w0 w : World} {g bm B n om m : Nat} {N : Int} {X : Int → List Int} {M : List (Int × SV)} {W : List (Int × Option Nat)} (h : Kt w0 w g bm B n om m N X M W) (t : Int) (ht : okI t) :
    (Instr.lookup 47 (.map (some om)) (.int .i64 t) false).run Try.prog w = .ok (.map ((look W t).getD none)) w :=
  h.wm.run_look KI Try.underlying47 (zeroM w) mkO_inj t ht

/-- an element: two ints -/
def I64 (n : Int) : Prop := -9223372036854775808 ≤ n ∧ n ≤ 9223372036854775807
def IsP (cs : List Value) (o : Int × Int) : Prop := cs = [.int .i64 o.1, .int .i64 o.2] ∧ I64 o.1 ∧ I64 o.2
theorem pair_open {H : Type} {enc : TypeId × Value → H} {w : World} {base : Nat} {held : Bool} (n : Nat) (cs : List Value) (y : DataW H × List MemPlace) (hl : cs.length = 2)
    (h : DataW.trod enc Try.prog w base (fun _ => true) held n 48 cs = some y) : ∃ o, IsP cs o := by
  obtain ⟨xs, m, _, _, _, hxl, hx⟩ := DataW.trod_array Try.underlying48 h
  have hc : Program.cellsOf Try.prog 3 = 1 := by kernel_rfl
  have h0 := hx 0 (by omega)
  have h1 := hx 1 (by omega)
  rw [hc, List.getElem?_eq_getElem (by omega)] at h0 h1
  rw [list2 hl] at h0 h1 ⊢
  simp only [Nat.zero_mul, List.drop_zero, Nat.one_mul, List.drop_succ_cons, List.take_succ_cons, List.take_zero] at h0 h1
  obtain ⟨a, ha, _, wa⟩ := DataW.trod_int Try.underlying3 h0
  obtain ⟨b, hb, _, wb⟩ := DataW.trod_int Try.underlying3 h1
  exact ⟨(a, b), by simp only [List.cons.injEq, and_true] at ha hb; rw [ha, hb], wf_i64 wa, wf_i64 wb⟩
end Go.Proofs.Ytbepkhldgfmmbaa
