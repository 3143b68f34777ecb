/-
  Whom a job visits: all whom the first one comes to. And may its manifest be?
-/
import Derived.Test.YtppgachfobpgbaaReachRef
import Derived.Test.YtppgachfobpgbaaJobMan
import Derived.Test.YtppgachfobpgbaaEndsW
set_option linter.unusedVariables false
set_option linter.unusedSimpArgs false
namespace Go.Proofs.Ytppgachfobpgbaa
open Go.RowKit Go Go.Lib

theorem up_eq : ∀ (A B : List Int), A.Pairwise (· < ·) → B.Pairwise (· < ·) → (∀ i, i ∈ A ↔ i ∈ B) → A = B
  | [], [], _, _, _ => rfl
  | [], y :: s, _, _, h => by have := (h y).2 (List.mem_cons_self ..); cases this
  | x :: r, [], _, _, h => by have := (h x).1 (List.mem_cons_self ..); cases this
  | x :: r, y :: s, ha, hb, h => by
    rw [List.pairwise_cons] at ha hb
    have hxy : x = y := by
      rcases List.mem_cons.1 ((h x).1 (List.mem_cons_self ..)) with q | q
      · exact q
      · rcases List.mem_cons.1 ((h y).2 (List.mem_cons_self ..)) with q2 | q2
        · exact q2.symm
        · have := hb.1 x q; have := ha.1 y q2; omega
    subst hxy
    congr 1
    refine up_eq r s ha.2 hb.2 (fun i => ⟨fun q => ?_, fun q => ?_⟩)
    · rcases List.mem_cons.1 ((h i).1 (List.mem_cons_of_mem _ q)) with e | e
      · have := ha.1 i q; omega
      · exact e
    · rcases List.mem_cons.1 ((h i).2 (List.mem_cons_of_mem _ q)) with e | e
      · have := hb.1 i q; omega
      · exact e
theorem which_sorted (so : Vis → Bool) (j : JS) : (whichL so j 4).Pairwise (· < ·) := by
  unfold whichL
  refine List.Pairwise.map Int.ofNat (R := fun a b => a < b) (fun a b h => Int.ofNat_lt.2 h) ?_
  exact List.Pairwise.sublist List.filter_sublist List.pairwise_lt_range

/-- What a job that is told by H knows. -/
structure RInv (n A : Nat) (t : Int) (H : List (List Int)) (j : JS) (X : Nat → List Int) : Prop where
  rch : ∀ b : Nat, b < 4 → (j.at b).v = true → Rch H A b
  st : (j.at A).v = true
  cl : ∀ b : Nat, b < 4 → (j.at b).p = true → ∀ x ∈ H.getD b [], 0 ≤ x → x < n → (j.at x.toNat).v = true
  told : ∀ b : Nat, b < 4 → (j.at b).p = true → (j.at b).t = ⟨b, t, 1, 0, none, (H.getD b []).length, 0, false⟩ ∧ X b = H.getD b []
theorem RInv.pin {n A : Nat} {t : Int} {H : List (List Int)} {j : JS} {X : Nat → List Int} (h : RInv n A t H j X) (hE : EInv n j) (hH : H.length = n) (hn : n ≤ 4) (hA : A < 4) {b : Nat} (hb : b < 4) (hv : (j.at b).v = true)
    (hx : ∀ x ∈ H.getD b [], 0 ≤ x ∧ x ≤ 3) : RInv n A t H (j.pin b ⟨b, t, 1, 0, none, (H.getD b []).length, 0, false⟩ (H.getD b [])) (fun k => if k = b then H.getD b [] else X k) := by
  have k := fun (c : Nat) (hc : c < 4) => pin1_at j b c ⟨b, t, 1, 0, none, (H.getD b []).length, 0, false⟩ (H.getD b []) hb hc hx
  refine ⟨fun c hc q => ?_, ?_, fun c hc q x hxm h0 hxn => ?_, fun c hc q => ?_⟩
  · rw [pin_at, (k c hc).1] at q
    simp only [Bool.or_eq_true, decide_eq_true_eq] at q
    rcases q with q | ⟨q1, q2⟩
    · exact h.rch c hc q
    · rw [hE.ag] at q2
      exact Rch.step (h.rch b hb hv) (by simpa using q1) (by omega) (by rw [hH]; omega)
  · rw [pin_at, (k A hA).1, h.st]; rfl
  · have hx4 : x.toNat < 4 := by omega
    rw [pin_at, (k c hc).2.1] at q
    rw [pin_at, (k x.toNat hx4).1]
    simp only [Bool.or_eq_true, decide_eq_true_eq] at q ⊢
    rcases q with q | q
    · exact Or.inl (h.cl c hc q x hxm h0 hxn)
    · subst q
      refine Or.inr ⟨?_, by rw [hE.ag]; omega⟩
      rw [show ((x.toNat : Nat) : Int) = x by omega]; exact hxm
  · rw [pin_at, (k c hc).2.1] at q
    simp only [Bool.or_eq_true, decide_eq_true_eq] at q
    rw [pin_told j b c _ _ hb hc]
    by_cases hcb : c = b
    · subst hcb
      rw [if_pos rfl]
      exact ⟨rfl, if_pos rfl⟩
    · rw [if_neg hcb]
      simp only [if_neg hcb]
      exact h.told c hc (q.resolve_right hcb)
theorem RInv.new (t c : Int) (n A : Nat) (H : List (List Int)) (X : Nat → List Int) (hA : A < n) (hn : n ≤ 4) (hH : H.length = n) : RInv n A t H (JS.new 1 t c n A) X := by
  have hat : ∀ b, b < 4 → (JS.new 1 t c n A).at b = if b = A then { vis0 with v := true } else vis0 := by
    intro b hb
    unfold JS.new
    rw [at_upd _ A b _ (by omega) hb]
    rcases (show b = 0 ∨ b = 1 ∨ b = 2 ∨ b = 3 by omega) with rfl | rfl | rfl | rfl <;> rfl
  have hp : ∀ b, b < 4 → ((JS.new 1 t c n A).at b).p = true → False := fun b hb q => by
    rw [hat b hb] at q
    by_cases h : b = A
    · rw [if_pos h] at q; cases q
    · rw [if_neg h] at q; cases q
  refine ⟨fun b hb q => ?_, by rw [hat A (by omega), if_pos rfl], fun b hb q => (hp b hb q).elim, fun b hb q => (hp b hb q).elim⟩
  rw [hat b hb] at q
  by_cases h : b = A
  · subst h; exact Rch.base (by omega) (by rw [hH]; omega)
  · rw [if_neg h] at q; cases q
theorem RInv.all {n A : Nat} {t : Int} {H : List (List Int)} {j : JS} {X : Nat → List Int} (h : RInv n A t H j X) (hn : n ≤ 4) (hH : H.length = n) (hA : A < n) (hall : noneL (fun v => !v.p) j = true) {L : List Int} (hs : L.Pairwise (· < ·)) (hL : ∀ i, i ∈ L ↔ Rch H A i) :
    whichL (fun _ => true) j 4 = L := by
  refine up_eq _ _ (which_sorted _ _) hs (fun i => ?_)
  rw [hL i, which_mem]
  constructor
  · rintro ⟨b, hb, rfl, hv, _⟩
    exact h.rch b hb hv
  · intro q
    have key : ∀ i, Rch H A i → 0 ≤ i ∧ i < n ∧ (j.at i.toNat).v = true := by
      intro i q
      induction q with
      | base a b => exact ⟨by omega, by omega, by simpa using h.st⟩
      | step hi hx h0 h1 ih =>
        obtain ⟨i0, i1, iv⟩ := ih
        have hp := none_iff.1 hall _ (by omega) iv
        exact ⟨h0, by omega, h.cl _ (by omega) (by simpa using hp) _ hx h0 (by omega)⟩
    obtain ⟨h0, h1, hv⟩ := key i q
    exact ⟨i.toNat, by omega, by omega, hv, rfl⟩

/-- told what it asked for, and what it keeps of it -/
theorem hear_pin1 (p L : Nat) (j : JS) (X : Nat → List Int) (b : Nat) (t ct : Int) (lo : Bool) (sa : Option Addr) (sc : Nat) (xs : List Int) (w : World) (h : JG w p L j X) (hL : L ≤ w.heap.size) (hpL : p < L)
    (hx : RdI w (.slice sa xs.length sc) xs) (hb : pinB b t 1 ct xs = true) (hxp : ∀ g o, sa = some ⟨g, o, none⟩ → g ≠ p) (ht : t = j.tr) (hj : 1 = j.id) (h1 : j.ph = 1) (h2 : (j.at b).v = true) (h3 : (j.at b).p = false) :
    Calls Try.prog 14 #[.pointer (some ⟨p, 0, none⟩), mPinned b t 1 ct (.slice sa xs.length sc) lo] w fun e w' => e = .returned (.tuple #[]) ∧ JG w' p L (j.pin b ⟨b, t, 1, ct, none, xs.length, 0, lo⟩ xs) (fun k => if k = b then xs else X k) ∧ Fr (onlyB p) w w' := by
  obtain ⟨j', hJ, rfl, hag, hT⟩ := h
  obtain ⟨⟨ha0, ha3⟩, _, hl4⟩ := pinB_facts hb
  refine (hear_Pinned p j' b t 1 ct sa sc lo xs w hJ hx hb hag hxp ht hj).mono ?_
  rintro e w' ⟨rfl, f, w1, f1, hq⟩
  rw [at_nm] at h2 h3
  obtain ⟨ta, tc, hrd, hta, hJ'⟩ := hq.yes h1 h2 h3
  refine ⟨rfl, ⟨_, hJ', pin_nm j' _ _ _, by rw [pin_ag]; exact hag, fun k hk4 => ?_⟩, f⟩
  rw [show Int.toNat (b : Int) = b from rfl, pin_told j' b k _ _ (by omega) hk4]
  by_cases hba : k = b
  · rw [if_pos hba]
    simp only [if_pos hba]
    exact ⟨hrd, hl4, fun g o e => by have := hta g o e; have := f1.size; omega⟩
  · rw [if_neg hba]
    simp only [if_neg hba]
    obtain ⟨k1, k2, k3⟩ := hT k hk4
    exact ⟨k1.fr f (fun g o n c e q => by have := k3 g o (by injection e); unfold onlyB at q; omega), k2, k3⟩
theorem manifest_jg (p L : Nat) (j : JS) (X : Nat → List Int) (w : World) (h : JG w p L j X) (hph : 2 ≤ j.ph) (hall : noneL (fun v => !v.p) j = true) :
    Calls Try.prog 25 #[.pointer (some ⟨p, 0, none⟩)] w fun e w' => ∃ pa pc cs, e = .returned (.tuple #[.agg #[.int .i64 j.tr, .int .i64 j.id, .int .i64 j.cl, .slice pa (whichL (fun _ => true) j 4).length pc], .bool true]) ∧ w'.ownsRow w.heap.size 72 6 (.slice pa (whichL (fun _ => true) j 4).length pc) (whichL (fun _ => true) j 4).length cs ∧ PartsAt w' w.heap.size (Value.slice pa (whichL (fun _ => true) j 4).length pc).ownBlock j X (whichL (fun _ => true) j 4) (whichL (fun _ => true) j 4).length cs ∧ Fr noB w w' := by
  obtain ⟨j', hJ, rfl, hag, hT⟩ := h
  rw [none_nm _ (fun v => rfl)] at hall
  rw [which_nm (fun _ => true) (fun v => rfl) j']
  refine (manifest_full p j' X w hJ hph hall (fun a ha => ⟨(hT a ha).1, by have := (hT a ha).2.1; omega⟩)).mono ?_
  rintro e w' ⟨pa, pc, cs, rfl, o, hp, f⟩
  refine ⟨pa, pc, cs, rfl, o, fun i hi => ?_, f⟩
  obtain ⟨ta, tc, k1, k2, k3⟩ := hp i hi
  rw [at_nm]
  exact ⟨ta, tc, k1, k2, k3⟩
end Go.Proofs.Ytppgachfobpgbaa
