/-
  Stage 2's awake: answers that the document fixes; WireNil.
-/
import Derived.Test.YtbmafogjmdilkaaGreatDoorWire4
set_option linter.unusedVariables false
set_option linter.unusedSimpArgs false
set_option maxRecDepth 100000
namespace Go.Proofs.YtbmafogjmdilkaaGreatDoor
open Go.RowKit Go Go.Lib

/-- the blocks from B on -/
def hiB (B : Nat) : Nat → Prop := fun k => B ≤ k
theorem Fr.hi {B : Nat} {S : Nat → Prop} {a b c : World} (h : Fr (hiB B) a b) (k : Fr S b c) (hS : ∀ i, i < B → ¬ S i) : Fr (hiB B) a c :=
  h.trans k (fun _ _ q => q) (fun i _ q => Nat.le_of_not_lt (fun hlt => hS i hlt q))
theorem Fr.hiN {a b : World} (h : Fr (hiB a.heap.size) a b) : Fr noB a b := ⟨h.os, h.tape, h.output, h.size, fun k hk _ => h.block k hk (by unfold hiB; omega)⟩
theorem Fr.hi0 {B : Nat} {a b c : World} (h : Fr (hiB B) a b) (k : Fr noB b c) : Fr (hiB B) a c := h.hi k (fun _ _ q => q)
theorem Fr.hiO {B p : Nat} {a b c : World} (h : Fr (hiB B) a b) (k : Fr (onlyB p) b c) (hp : B ≤ p) : Fr (hiB B) a c := h.hi k (fun i hi q => by unfold onlyB at q; omega)
theorem Fr.hiW {B p : Nat} {a b c : World} (h : Fr (hiB B) a b) (k : Fr (wU p B b) b c) (hp : B ≤ p) : Fr (hiB B) a c := h.hi k (fun i hi q => by
  rcases q with q | ⟨q, _⟩ <;> omega)
theorem GlB.hi {B : Nat} {w w' : World} (h : GlB B w) (f : Fr (hiB B) w w') : GlB B w' := h.fr f (fun k hk q => by unfold hiB at q; omega)
theorem GlB.ne {B p : Nat} {w : World} (h : GlB B w) (hp : B ≤ p) : p ≠ 1 ∧ p ≠ 2 ∧ p ≠ 5 := by
  have h1 := h.b1
  have h2 := h.b2
  have h3 := h.b3
  refine ⟨?_, ?_, ?_⟩ <;> omega
theorem wr_new {w : World} {p B : Nat} (h : Blk w p 75 [.slice none 0 0]) (hB : B ≤ w.heap.size) : Wr w p (.slice none 0 0) B [] := ⟨h, World.ownsRow_nil _ _ _ _, hB⟩
theorem int_back (n : Nat) (lo hi : Int) (t : List UInt8) (h : n ≤ 9007199254740992) (h1 : lo ≤ (n : Int)) (h2 : (n : Int) ≤ hi) : intS lo hi (numL n ++ t) = some (n, t) := by
  unfold intS
  rw [num_back n h]
  simp only
  rw [if_neg (by omega), if_neg (by omega)]

/-- Int of a slice that is made for it -/
theorem wint_new (p B g : Nat) (v : Value) (T : List UInt8) (xs : List Int) (w : World) (h : Wr w p v B T) (hgz : w.heap.size = g) (hx : ∀ x ∈ xs, -9223372036854775808 ≤ x ∧ x ≤ 9223372036854775807) (hT : T.length + 28 * xs.length ≤ 100000000) :
    Calls Tryz.prog 22 #[.pointer (some ⟨p, 0, none⟩), .slice (some ⟨g, 0, none⟩) xs.length xs.length] (w.alloc (.cells (xs.map (Value.int .i64)).toArray 3)) fun e w' => e = .returned (.tuple #[]) ∧ ∃ v', Wr w' p v' B (T ++ numsL xs) ∧ Fr (wU p B w) w w' := by
  subst hgz
  have f0 : Fr noB w (w.alloc (.cells (xs.map (Value.int .i64)).toArray 3)) := (Fr.refl _ w).alloc _
  have hb : Blk (w.alloc (.cells (xs.map (Value.int .i64)).toArray 3)) w.heap.size 3 (xs.map (Value.int .i64)) := Blk.new _ _ _
  have hp := h.1.lt
  refine (wint_any p B v _ T xs _ (h.frN f0) (RdN.of_blk xs hb (by omega)) hx hT).mono ?_
  rintro e w' ⟨rfl, v', hw, f⟩
  exact ⟨rfl, v', hw, (f0.toN (S := wU p B w)).seqW f⟩
/-- Text of one that is made for it -/
theorem wtext_new (p B0 B g : Nat) (v : Value) (T : List UInt8) (s : ByteArray) (w : World) (h : Wr w p v B T) (hgz : w.heap.size = g) (hg : GlB B0 w) (hp : B0 ≤ p) (h0 : B0 ≤ B) (hs : s.size ≤ 100000) (hT : T.length ≤ 10000000) :
    Calls Tryz.prog 53 #[.pointer (some ⟨p, 0, none⟩), .slice (some ⟨g, 0, none⟩) 1 1] (w.alloc (.cells #[.string s] 9)) fun e w' => e = .returned (.tuple #[]) ∧ ∃ v', Wr w' p v' B (T ++ textL s.data.toList) ∧ Fr (wU p B w) w w' := by
  subst hgz
  have f0 : Fr noB w (w.alloc (.cells #[.string s] 9)) := (Fr.refl _ w).alloc _
  have hb : Blk (w.alloc (.cells #[.string s] 9)) w.heap.size 9 [.string s] := Blk.new _ _ [.string s]
  have hpl := h.1.lt
  refine (wtext_any p B0 B w.heap.size v T s _ (h.frN f0) (hg.frN f0) hp h0 hb (by omega) hs hT).mono ?_
  rintro e w' ⟨rfl, ⟨v', hw, f⟩⟩
  exact ⟨rfl, v', hw, (f0.toN (S := wU p B w)).seqW f⟩

theorem size_alloc (w : World) (o : Obj) : (w.alloc o).heap.size = w.heap.size + 1 := by simp

def awT : List UInt8 := numL 0 ++ (numL 4096 ++ (textL [97, 10] ++ []))
theorem awT_eq : ([] ++ numsL [0, 4096]) ++ textL [97, 10] = awT := by
  unfold awT numsL
  simp [List.flatMap_cons]
theorem awT_len : awT.length ≤ 1000 := by
  unfold awT
  have := num_len 0
  have := num_len 4096
  have h1 := text_len [97, 10]
  have h2 := quote_len [97, 10]
  simp only [List.length_append, List.length_cons, List.length_nil] at *
  omega
theorem aw1 : intS 0 9 awT = some (0, numL 4096 ++ (textL [97, 10] ++ [])) := int_back 0 0 9 _ (by omega) (by omega) (by omega)
theorem aw2 : intS 0 9999 (numL 4096 ++ (textL [97, 10] ++ [])) = some (4096, textL [97, 10] ++ []) := int_back 4096 0 9999 _ (by omega) (by omega) (by omega)
theorem aw3 : textS 2 (textL [97, 10] ++ []) = some ([97, 10], []) := text_back _ 2 (by simp) (by have h2 := quote_len [97, 10]; simp only [List.length_cons, List.length_nil] at h2; omega) _
theorem aw4 : intS 0 9 [97] = none := by decide +kernel

end Go.Proofs.YtbmafogjmdilkaaGreatDoor
