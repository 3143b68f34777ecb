/-
  Crumbs, and the document's crumbs beside them: what each call leaves.
-/
import Derived.Test.YtbepkhldgfmmbaaCrumbRefOk
import Derived.Test.YtbepkhldgfmmbaaCrumbSame
import Derived.Test.YtbepkhldgfmmbaaCrumbAwake
import Derived.Test.YtbepkhldgfmmbaaArgs
set_option linter.unusedVariables false
set_option linter.unusedSimpArgs false
namespace Go.Proofs.Ytbepkhldgfmmbaa
open Go.RowKit Go Go.Maps Go.Lib

theorem look_cons {α : Type} (a : Int × α) (r : List (Int × α)) (k : Int) : look (a :: r) k = if a.1 = k then some a.2 else look r k := by
  unfold look
  by_cases h : a.1 = k <;> simp [h]
theorem look_insP {E : List (Int × List Int)} {p : Int × List Int} (hp : ∀ m ∈ E, m.1 ≠ p.1) (k : Int) : look (insP E p) k = if k = p.1 then some p.2 else look E k := by
  induction E with
  | nil =>
    unfold insP
    rw [look_cons]
    by_cases h : k = p.1
    · rw [if_pos h.symm, if_pos h]
    · rw [if_neg (fun q => h q.symm), if_neg h]
  | cons a r ih =>
    have ih := ih (fun m hm => hp m (List.mem_cons_of_mem _ hm))
    have ha := hp a List.mem_cons_self
    unfold insP
    by_cases h1 : p.1 < a.1
    · rw [if_pos h1, look_cons]
      by_cases h : k = p.1
      · rw [if_pos h.symm, if_pos h]
      · rw [if_neg (fun q => h q.symm), if_neg h]
    · rw [if_neg h1, look_cons, look_cons, ih]
      by_cases h : k = p.1
      · rw [if_pos h, if_pos h, if_neg (fun q => ha (by rw [q, h]))]
      · rw [if_neg h, if_neg h]
theorem mem_insP {E : List (Int × List Int)} {p m : Int × List Int} : m ∈ insP E p ↔ m = p ∨ m ∈ E := by
  induction E with
  | nil => simp [insP]
  | cons a r ih =>
    unfold insP
    split
    · simp
    · rw [List.mem_cons, ih, List.mem_cons]
      constructor
      · rintro (h | h | h)
        · exact Or.inr (Or.inl h)
        · exact Or.inl h
        · exact Or.inr (Or.inr h)
      · rintro (h | h | h)
        · exact Or.inr (Or.inl h)
        · exact Or.inl h
        · exact Or.inr (Or.inr h)
theorem sorted_insP {E : List (Int × List Int)} {p : Int × List Int} (hs : E.Pairwise (fun a b => a.1 < b.1)) (hp : ∀ m ∈ E, m.1 ≠ p.1) : (insP E p).Pairwise (fun a b => a.1 < b.1) := by
  induction E with
  | nil => exact List.pairwise_singleton _ _
  | cons a r ih =>
    have hc := List.pairwise_cons.1 hs
    unfold insP
    split
    · rename_i h1
      refine List.pairwise_cons.2 ⟨fun y hy => ?_, hs⟩
      rcases List.mem_cons.1 hy with rfl | hy
      · exact h1
      · have := hc.1 y hy; omega
    · rename_i h1
      refine List.pairwise_cons.2 ⟨fun y hy => ?_, ih hc.2 (fun m hm => hp m (List.mem_cons_of_mem _ hm))⟩
      rcases mem_insP.1 hy with rfl | hy
      · have := hp a List.mem_cons_self; omega
      · exact hc.1 y hy

/-- no row of the reference's lies in a block of the crumbs -/
def Off (C : Nat → Prop) (r : Nat) (aT aA : Option Addr) (VA : List Value) : Prop :=
  ∀ k, C k → k ≠ r ∧ (∀ o, aT ≠ some ⟨k, o, none⟩) ∧ (∀ o, aA ≠ some ⟨k, o, none⟩) ∧ ∀ u ∈ VA, ∀ o n c, u ≠ .slice (some ⟨k, o, none⟩) n c

theorem Rc.fr {w w' : World} {r B : Nat} {N : Int} {E : List (Int × List Int)} {aT : Option Addr} {cT : Nat} {aA : Option Addr} {cA : Nat} {VA : List Value} {S : Nat → Prop} (h : Rc w r B N E aT cT aA cA VA) (hf : Fr S w w') (hS : Off S r aT aA VA) : Rc w' r B N E aT cT aA cA VA := by
  have hown : ∀ (a : Option Addr) (e : TypeId) (n c q : Nat) (xs : List Value), w.ownsRow B e 1 (.slice a n c) n xs → (Value.slice a n c).ownBlock = some q → ∃ o, a = some ⟨q, o, none⟩ := fun a e n c q xs ho hq => by
    rcases ho.2 with ⟨h1, _⟩ | ⟨g, cap, cur, h1, _⟩
    · cases h1; cases hq
    · cases h1; cases hq; exact ⟨0, rfl⟩
  refine ⟨hf.blk h.blk (fun q => (hS r q).1 rfl), ownsRow_fr h.rT hf (fun q hq z => ?_), ownsRow_fr h.rA hf (fun q hq z => ?_), fun i hi => (h.rd i hi).fr hf (fun g o n c e z => ?_), fun u hu g o n c e => ⟨(h.ap u hu g o n c e).1, Nat.lt_of_lt_of_le (h.ap u hu g o n c e).2 hf.size⟩, h.rB, Nat.le_trans h.Bw hf.size⟩
  · obtain ⟨o, e⟩ := hown _ _ _ _ _ _ h.rT hq
    exact (hS q z).2.1 o e
  · obtain ⟨o, e⟩ := hown _ _ _ _ _ _ h.rA hq
    exact (hS q z).2.2.1 o e
  · have hVl : VA.length = E.length := by simpa using h.rA.1
    have hm9 : VA.getD i (.slice none 0 0) ∈ VA := List.mem_of_getElem? (show VA[i]? = some (VA.getD i (.slice none 0 0)) by simp [List.getD, hVl, hi])
    exact (hS g z).2.2.2 _ hm9 o n c e

/-- Crumbs and the document's crumbs. -/
structure Ct (w0 w : World) (g bm B r n : Nat) (N : Int) (X : Int → List Int) (M : List (Int × SV)) (E : List (Int × List Int)) : Prop where
  cm : Cm w g bm B n N X M
  rc : ∃ D aT cT aA cA VA, Rc w r D N E aT cT aA cA VA ∧ Off (cmB w g bm B M) r aT aA VA
  srt : E.Pairwise (fun a b => a.1 < b.1)
  lk : ∀ k, look E k = if X k = [] then none else some (X k)
  low : ∀ k, cmB w g bm B M k → w0.heap.size ≤ k
  r0 : w0.heap.size ≤ r
  fr : Fr noB w0 w

theorem Ct.frN {w0 w w' : World} {g bm B r n : Nat} {N : Int} {X : Int → List Int} {M : List (Int × SV)} {E : List (Int × List Int)} (h : Ct w0 w g bm B r n N X M E) (hf : Fr noB w w') : Ct w0 w' g bm B r n N X M E := by
  obtain ⟨D, aT, cT, aA, cA, VA, hR, hO⟩ := h.rc
  exact ⟨h.cm.frN hf, ⟨D, aT, cT, aA, cA, VA, hR.frN hf, hO⟩, h.srt, h.lk, h.low, h.r0, h.fr.seqN hf⟩
theorem Ct.of {w0 w : World} {g bm B r n : Nat} {N : Int} {X : Int → List Int} {M : List (Int × SV)} {E : List (Int × List Int)} (h : Ct w0 w g bm B r n N X M E) (t : Int) : (look E t).getD [] = X t := by
  rw [h.lk t]
  by_cases hx : X t = []
  · rw [if_pos hx, hx]; rfl
  · rw [if_neg hx]; rfl
theorem Cm.key {w : World} {g bm B n : Nat} {N : Int} {X : Int → List Int} {M : List (Int × SV)} (h : Cm w g bm B n N X M) (k : Int) : k ∈ M.map (·.1) ↔ X k ≠ [] := by
  constructor
  · intro hk
    obtain ⟨p, hp, rfl⟩ := List.mem_map.1 hk
    exact (h.row p hp).2
  · intro hk
    cases hl : look M k with
    | none => exact absurd (h.non k hl) hk
    | some s => exact List.mem_map.2 ⟨_, look_some hl, rfl⟩
theorem Ct.traces {w0 w : World} {g bm B r n : Nat} {N : Int} {X : Int → List Int} {M : List (Int × SV)} {E : List (Int × List Int)} (h : Ct w0 w g bm B r n N X M E) : sortI (M.map (·.1)) = E.map (·.1) ∧ M.length = E.length := by
  have hE : (E.map (·.1)).Pairwise (· < ·) := List.pairwise_map.2 h.srt
  have hEn : (E.map (·.1)).Nodup := hE.imp (fun q => by omega)
  have hm : ∀ k, k ∈ M.map (·.1) ↔ k ∈ E.map (·.1) := fun k => by
    rw [h.cm.key k]
    have hl := h.lk k
    constructor
    · intro hx
      rw [if_neg hx] at hl
      exact List.mem_map.2 ⟨_, look_some hl, rfl⟩
    · intro hk hx
      rw [if_pos hx] at hl
      obtain ⟨p, hp, rfl⟩ := List.mem_map.1 hk
      exact look_none hl p hp rfl
  have hp : (M.map (·.1)).Perm (E.map (·.1)) := (List.perm_ext_iff_of_nodup h.cm.mp.nodup hEn).2 hm
  exact ⟨sortI_eq (hE.imp (fun q => by omega)) hp, by simpa using hp.length_eq⟩
theorem Ct.lenE {w0 w : World} {g bm B r n : Nat} {N : Int} {X : Int → List Int} {M : List (Int × SV)} {E : List (Int × List Int)} (h : Ct w0 w g bm B r n N X M E) : E.length ≤ n := by
  have := h.cm.mp.length
  have := h.traces.2
  omega
/-- blocks of the crumbs lie in the heap -/
theorem Cm.blt {w : World} {g bm B n : Nat} {N : Int} {X : Int → List Int} {M : List (Int × SV)} (h : Cm w g bm B n N X M) (k : Nat) (hk : cmB w g bm B M k) : k < w.heap.size := by
  rcases hk with rfl | rfl | ⟨p, hp, hk⟩
  · exact h.blk.lt
  · exact h.mp.lt
  · exact ((h.row p hp).1.lt k hk).2
theorem Off.mono {C C' : Nat → Prop} {r : Nat} {aT aA : Option Addr} {VA : List Value} (h : Off C r aT aA VA) (hs : ∀ k, C' k → C k) : Off C' r aT aA VA := fun k hk => h k (hs k hk)
theorem cmB_without {w w' : World} {g bm B : Nat} {M : List (Int × SV)} {t : Int} (k : Nat) (h : cmB w' g bm B (without M t) k) : cmB w g bm B M k := by
  rcases h with h | h | ⟨p, hp, hk⟩
  · exact Or.inl h
  · exact Or.inr (Or.inl h)
  · exact Or.inr (Or.inr ⟨p, (mem_without.1 hp).1, hk⟩)
theorem addr_of {w : World} {D e k n c : Nat} {a : Option Addr} {xs : List Value} (h : w.ownsRow D e k (.slice a n c) n xs) {q o : Nat} (ha : a = some ⟨q, o, none⟩) : D ≤ q := by
  rcases h.2 with ⟨h1, _⟩ | ⟨g, cap, cur, h1, h2, _⟩
  · subst ha; cases h1
  · subst ha; cases h1; exact h2

theorem Ct.drop {w0 w w1 w2 : World} {g bm B r n : Nat} {N t : Int} {X : Int → List Int} {M : List (Int × SV)} {E : List (Int × List Int)} (h : Ct w0 w g bm B r n N X M E)
    (c1 : Cm w1 g bm B n N (fun k => if k = t then [] else X k) (without M t)) (f1 : Fr (onlyB bm) w w1) {aT0 aA0 : Option Addr} {VA0 : List Value} (hO : Off (cmB w g bm B M) r aT0 aA0 VA0)
    (h2 : ∃ aT cT aA cA V, Rc w2 r w1.heap.size N (without E t) aT cT aA cA V ∧ ∀ z ∈ V, z ∈ VA0) (f2 : Fr (onlyB r) w1 w2) : Ct w0 w2 g bm B r n N (fun k => if k = t then [] else X k) (without M t) (without E t) := by
  obtain ⟨aT, cT, aA, cA, V, hR, hV⟩ := h2
  have hr : ∀ k, cmB w1 g bm B (without M t) k → k ≠ r := fun k hk => (hO k (cmB_without k hk)).1
  refine ⟨c1.fr f2 (fun k hk q => hr k hk q), ⟨w1.heap.size, aT, cT, aA, cA, V, hR, fun k hk => ⟨hr k hk, fun o e => ?_, fun o e => ?_, fun u hu => (hO k (cmB_without k hk)).2.2.2 u (hV u hu)⟩⟩, h.srt.sublist List.filter_sublist, fun k => ?_, fun k hk => h.low k (cmB_without k hk), h.r0, ?_⟩
  · have := addr_of hR.rT e; have := c1.blt k hk; omega
  · have := addr_of hR.rA e; have := c1.blt k hk; omega
  · by_cases hk : k = t
    · subst hk; rw [look_without_same]; simp
    · rw [look_without_other _ hk, h.lk k]; simp only [if_neg hk]
  · refine (h.fr.trans f1 (fun _ _ q => q) (fun i hi q => ?_)).trans f2 (fun _ _ q => q) (fun i hi q => ?_)
    · have := h.low bm (Or.inr (Or.inl rfl)); unfold onlyB at q; omega
    · have := h.r0; unfold onlyB at q; omega

theorem Ct.add {w0 w w1 w2 : World} {g bm B r n : Nat} {N t a : Int} {X : Int → List Int} {M : List (Int × SV)} {s : SV} {E : List (Int × List Int)} (h : Ct w0 w g bm B r n N X M E) (ha : a ∉ X t)
    (c1 : Cm w1 g bm B (n + 1) N (addX X t a) (withKey M t s)) (hs : ∀ b, (mkS s).ownBlock = some b → cmB w g bm B M b ∨ w.heap.size ≤ b) (f1 : Fr (cmB w g bm B M) w w1) {D0 cT0 cA0 : Nat} {aT0 aA0 : Option Addr} {VA0 : List Value} (hR0 : Rc w r D0 N E aT0 cT0 aA0 cA0 VA0) (hO : Off (cmB w g bm B M) r aT0 aA0 VA0)
    (h2 : ∃ aT cT aA cA V, Rc w2 r w1.heap.size N (insP (without E t) (t, insG ((look E t).getD []) a)) aT cT aA cA V ∧ ∀ z ∈ V, z ∈ VA0 ∨ ∀ g o n c, z = .slice (some ⟨g, o, none⟩) n c → w1.heap.size ≤ g) (f2 : Fr (onlyB r) w1 w2) :
    Ct w0 w2 g bm B r (n + 1) N (addX X t a) (withKey M t s) (insP (without E t) (t, insG (X t) a)) := by
  obtain ⟨aT, cT, aA, cA, V, hR, hV⟩ := h2
  rw [h.of t] at hR
  have hin : ∀ k, cmB w1 g bm B (withKey M t s) k → cmB w g bm B M k ∨ w.heap.size ≤ k := fun k hk => by
    rcases hk with hk | hk | ⟨p, hp, hk⟩
    · exact Or.inl (Or.inl hk)
    · exact Or.inl (Or.inr (Or.inl hk))
    · rcases List.mem_cons.1 hp with rfl | hp
      · exact hs k hk
      · exact Or.inl (Or.inr (Or.inr ⟨p, (mem_without.1 hp).1, hk⟩))
  have hrw : r < w.heap.size := Nat.lt_of_lt_of_le hR0.rB hR0.Bw
  have hr : ∀ k, cmB w1 g bm B (withKey M t s) k → k ≠ r := fun k hk => by
    rcases hin k hk with q | q
    · exact (hO k q).1
    · omega
  have hw : ∀ m ∈ without E t, m.1 ≠ t := fun m hm => (mem_without.1 hm).2
  refine ⟨c1.fr f2 (fun k hk q => hr k hk q), ⟨w1.heap.size, aT, cT, aA, cA, V, hR, fun k hk => ⟨hr k hk, fun o e => ?_, fun o e => ?_, fun u hu o n c e => ?_⟩⟩, sorted_insP (h.srt.sublist List.filter_sublist) hw, fun k => ?_, fun k hk => ?_, h.r0, ?_⟩
  · have := addr_of hR.rT e; have := c1.blt k hk; omega
  · have := addr_of hR.rA e; have := c1.blt k hk; omega
  · rcases hV u hu with q | q
    · rcases hin k hk with z | z
      · exact (hO k z).2.2.2 u q o n c e
      · have := (hR0.ap u q k o n c e).2; omega
    · have := q k o n c e; have := c1.blt k hk; omega
  · rw [look_insP hw k]
    have hsorted := h.cm.sorted t
    by_cases hk : k = t
    · subst hk
      have hne : insAt (X k) (placeI (X k) a) a ≠ [] := fun e => by
        have := congrArg List.length e
        rw [insAt_len _ _ _ (placeI_le _ _)] at this
        simp at this
      rw [if_pos rfl, insG_insAt hsorted ha]
      simp only [addX, if_true, if_neg hne]
    · rw [if_neg hk, look_without_other _ hk, h.lk k]
      simp only [addX, if_neg hk]
  · rcases hin k hk with q | q
    · exact h.low k q
    · have := h.fr.size; omega
  · refine (h.fr.trans f1 (fun _ _ q => q) (fun i hi q => ?_)).trans f2 (fun _ _ q => q) (fun i hi q => ?_)
    · have := h.low i q; omega
    · have := h.r0; unfold onlyB at q; omega

theorem sameInts_same (v u : Value) (xs : List Int) (w : World) (hv : RdI w v xs) (hu : RdI w u xs) :
    Calls Try.prog 13 #[v, u] w fun e w' => e = .returned (.bool true) ∧ Fr noB w w' := by
  refine (sameInts_any v u xs xs w hv hu).mono ?_
  rintro e w' ⟨rfl, q, rfl⟩
  exact ⟨by simp, (Fr.refl noB w).drewN q⟩
end Go.Proofs.Ytbepkhldgfmmbaa
