/-
  What the layer's laws ask first: answers that are fixed.
-/
import Derived.Test.YtidcoddefebdpaaGreatJobShip
set_option linter.unusedVariables false
set_option linter.unusedSimpArgs false
set_option maxRecDepth 100000
namespace Go.Proofs.YtidcoddefebdpaaGreat
open Go.RowKit Go Go.Lib

/-- the first one of what is said -/
theorem own_first {w : World} {B p n : Nat} {e : TypeId} {u : Value} {x : Value} {r : List Value} (h : w.ownsRow B e 2 u n (x :: r)) (hp : p < B) :
    ∃ g cap, u = .slice (some ⟨g, 0, none⟩) n cap ∧ g ≠ p ∧ w.cell? ⟨g, 0, none⟩ = some x := by
  have hn : 0 < n := by
    have := h.1
    simp only [List.length_cons] at this
    omega
  obtain ⟨g, cap, rfl, hg⟩ := ownsRow_some h hn
  refine ⟨g, cap, rfl, by omega, ?_⟩
  have := h.cells (g := g) rfl 0 x (by simp)
  rwa [Addr.add_lit] at this

theorem RdI.one {w : World} {g : Nat} {t : TypeId} {x : Int} (b : Blk w g t [.int .i64 x]) : RdI w (.slice (some ⟨g, 0, none⟩) 1 1) [x] :=
  ⟨_, 1, rfl, by simp, by simp, fun i hi => ⟨g, 0, rfl, by
    simp at hi; subst hi
    exact b.cell 0⟩⟩
theorem RdI.none (w : World) : RdI w (.slice Option.none 0 0) [] := ⟨Option.none, 0, rfl, by simp, by simp, fun i hi => by simp at hi⟩
theorem hear_Pinned (p : Nat) (j : JS) (a t jb ct : Int) (sa : Option Addr) (sc : Nat) (lo : Bool) (xs : List Int) (w : World) (h : Jb w p j) (hx : RdI w (.slice sa xs.length sc) xs)
    (hb : pinB a t jb ct xs = true) (hag : j.ag ≤ 4) (hxp : ∀ g o, sa = some ⟨g, o, none⟩ → g ≠ p) (ht : t = j.tr) (hj : jb = j.id) :
    Calls Tryz.prog 55 #[.pointer (some ⟨p, 0, none⟩), mPinned a t jb ct (.slice sa xs.length sc) lo] w fun e w' => e = .returned (.tuple #[]) ∧ Fr (onlyB p) w w' ∧ ∃ w1, Fr noB w w1 ∧ PinPost p j a t jb ct lo xs w1 w' := by
  obtain ⟨⟨ha0, ha3⟩, hr, hl⟩ := pinB_facts hb
  exact hear_take p j _ t jb (fun w1 w' => PinPost p j a t jb ct lo xs w1 w') w h
    (fun w' f => right_of (by have := mayBe_Pinned a t jb ct (.slice sa xs.length sc) lo xs w' (hx.fr f (fun _ _ _ _ _ q => q)); rw [hb] at this; exact this))
    (fun w' f => of_of (v := .nilIface) (of_Pinned a t jb ct sa xs.length sc lo w')) ht hj
    (fun w' f => take_Pinned p j a t jb ct sa sc lo xs w' (h.frN f) (hx.fr f (fun _ _ _ _ _ q => q)) hr hl hag (fun _ => hxp) ha0 ha3)
theorem hear_Stored (p : Nat) (j : JS) (t jb : Int) (w : World) (h : Jb w p j) (hb : bStored t jb = true) (ht : t = j.tr) (hj : jb = j.id) :
    Calls Tryz.prog 55 #[.pointer (some ⟨p, 0, none⟩), mStored t jb] w fun e w' => e = .returned (.tuple #[]) ∧ Fr (onlyB p) w w' ∧ Jb w' p j.sto := by
  refine (hear_take p j _ t jb (fun w1 w' => Jb w' p j.sto) w h
    (fun w' f => right_of (by have := mayBe_Stored t jb w'; rw [hb] at this; exact this))
    (fun w' f => of_of (v := .nilIface) (of_Stored t jb w')) ht hj
    (fun w' f => take_Stored p j t jb w' (h.frN f))).mono ?_
  rintro e w' ⟨rfl, f, _, _, r⟩
  exact ⟨rfl, f, r⟩
theorem bUnp_facts {a t j : Int} (h : bUnpinned a t j = true) : 0 ≤ a ∧ a ≤ 3 := by
  unfold bUnpinned inB at h
  simp only [Bool.and_eq_true, decide_eq_true_eq] at h
  omega
theorem hear_Unpinned (p : Nat) (j : JS) (a t jb : Int) (w : World) (h : Jb w p j) (hb : bUnpinned a t jb = true) (ht : t = j.tr) (hj : jb = j.id) :
    Calls Tryz.prog 55 #[.pointer (some ⟨p, 0, none⟩), mUnpinned a t jb] w fun e w' => e = .returned (.tuple #[]) ∧ Fr (onlyB p) w w' ∧ Jb w' p (j.unp a.toNat) := by
  obtain ⟨ha0, ha3⟩ := bUnp_facts hb
  refine (hear_take p j _ t jb (fun w1 w' => Jb w' p (j.unp a.toNat)) w h
    (fun w' f => right_of (by have := mayBe_Unpinned a t jb w'; rw [hb] at this; exact this))
    (fun w' f => of_of (v := .nilIface) (of_Unpinned a t jb w')) ht hj
    (fun w' f => take_Unpinned p j a t jb w' (h.frN f) ha0 ha3)).mono ?_
  rintro e w' ⟨rfl, f, _, _, r⟩
  exact ⟨rfl, f, r⟩

/-- what is said first, and to how many -/
def SayTo (w : World) (p n : Nat) (x : Int) (u : Value) (w' : World) : Prop := ∃ g cap, u = .slice (some ⟨g, 0, none⟩) n cap ∧ g ≠ p ∧ w'.cell? ⟨g, 0, none⟩ = some (.int .i64 x) ∧ Fr noB w w'
theorem say_1 (p : Nat) (j : JS) (w : World) (x : Int) (r : List Int) (h : Jb w p j) (hph : j.ph = 1) (hw : whichL (fun v => !v.p) j 4 = x :: r) :
    Calls Tryz.prog 25 #[.pointer (some ⟨p, 0, none⟩)] w fun e w' => ∃ u, e = .returned u ∧ SayTo w p (r.length + 1) x u w' := by
  refine (outs_1 p j w h hph).mono ?_
  rintro e w' ⟨u, rfl, o, f⟩
  rw [hw] at o
  obtain ⟨g, cap, rfl, hg, hc⟩ := own_first o h.lt
  exact ⟨_, rfl, g, cap, rfl, hg, hc, f⟩
theorem say_3 (p : Nat) (j : JS) (w : World) (x : Int) (r : List Int) (h : Jb w p j) (hph : j.ph = 3) (hw : whichL (fun v => !v.f) j 4 = x :: r) :
    Calls Tryz.prog 25 #[.pointer (some ⟨p, 0, none⟩)] w fun e w' => ∃ u, e = .returned u ∧ SayTo w p (r.length + 1) x u w' := by
  refine (outs_3 p j w h hph).mono ?_
  rintro e w' ⟨u, rfl, o, f⟩
  rw [hw] at o
  obtain ⟨g, cap, rfl, hg, hc⟩ := own_first o h.lt
  exact ⟨_, rfl, g, cap, rfl, hg, hc, f⟩
theorem say_2 (p : Nat) (j : JS) (w : World) (h : Jb w p j) (hph : j.ph = 2) (hall : noneL (fun v => !v.p) j = true) (hX : ∀ a, a < 4 → ∃ xs, RdI w (.slice (j.at a).t.a (j.at a).t.n (j.at a).t.c) xs ∧ xs.length ≤ 1000) :
    Calls Tryz.prog 25 #[.pointer (some ⟨p, 0, none⟩)] w fun e w' => ∃ u, e = .returned u ∧ SayTo w p ((whichL (fun _ => true) j 4).length + 1) (-1) u w' := by
  refine (outs_2 p j w h hph hall hX).mono ?_
  rintro e w' ⟨u, pa, pc, rfl, o, f⟩
  obtain ⟨g, cap, rfl, hg, hc⟩ := own_first o h.lt
  exact ⟨_, rfl, g, cap, rfl, hg, hc, f⟩
theorem PinPost.yes {p : Nat} {j : JS} {a t jb ct : Int} {lo : Bool} {xs : List Int} {w w' : World} (h : PinPost p j a t jb ct lo xs w w') (h1 : j.ph = 1) (h2 : (j.at a.toNat).v = true) (h3 : (j.at a.toNat).p = false) :
    ∃ ta tc, RdI w' (.slice ta xs.length tc) xs ∧ (∀ g o, ta = some ⟨g, o, none⟩ → w.heap.size ≤ g) ∧ Jb w' p (j.pin a.toNat ⟨a, t, jb, ct, ta, xs.length, tc, lo⟩ xs) := by
  rcases h with ⟨h, _⟩ | ⟨_, h⟩
  · rcases h with h | h | h
    · exact absurd h1 h
    · rw [h2] at h; cases h
    · rw [h3] at h; cases h
  · exact h
end Go.Proofs.YtidcoddefebdpaaGreat
