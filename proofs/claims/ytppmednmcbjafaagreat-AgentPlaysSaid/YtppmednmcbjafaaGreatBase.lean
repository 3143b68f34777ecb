/-
  Words that all walks of this place use: what a block holds, and 'Fr S': nothing below the old heap's end has turned but the blocks of S.
-/
import Derived.Test.YtppmednmcbjafaaGreatRows
import Derived.WalkKit
import Derived.WalkSpells
import Derived.WalkLawsBesides
import Derived.Lib.Hide
import Derived.Deep.QuietTactic
import Derived.BigQuiet
import Derived.Deep.RegionWith
import Derived.StillTailTactics
import Derived.Deep.RegionHeld3
import Derived.Deep.RegionLaw
import Derived.Deep.DeepFit
set_option linter.unusedVariables false
set_option linter.unusedSimpArgs false
set_option maxRecDepth 100000
namespace Go.Proofs.YtppmednmcbjafaaGreat
open Go.RowKit

/-- 'int(uint(b)%m)', by its bounds -/
theorem umod (b m : Int) (h0 : 0 < m) (h1 : m ≤ 9223372036854775807) : ∃ q, wrap64 ((IntKind.u64.wrap b).tmod m) = q ∧ 0 ≤ q ∧ q < m := by
  refine ⟨_, rfl, ?_⟩
  have hu : 0 ≤ IntKind.u64.wrap b := by rw [IntKind.wrap_u64]; omega
  have h2 : (IntKind.u64.wrap b).tmod m = IntKind.u64.wrap b % m := Int.tmod_eq_emod_of_nonneg hu
  have h3 := Int.emod_nonneg (IntKind.u64.wrap b) (show m ≠ 0 by omega)
  have h4 := Int.emod_lt_of_pos (IntKind.u64.wrap b) h0
  rw [h2, IntWalk.wrap64_in _ (by omega)]
  exact ⟨h3, h4⟩

/-- Block g holds just these cells. -/
def Blk (w : World) (g : Nat) (t : TypeId) (cs : List Value) : Prop := w.heap[g]? = some (.cells cs.toArray t (0, 0))

theorem Blk.lt {w : World} {g : Nat} {t : TypeId} {cs : List Value} (h : Blk w g t cs) : g < w.heap.size := by
  unfold Blk at h
  rcases Nat.lt_or_ge g w.heap.size with h1 | h1
  · exact h1
  · simp [Array.getElem?_eq_none h1] at h

theorem Blk.cell {w : World} {g : Nat} {t : TypeId} {cs : List Value} (h : Blk w g t cs) (i : Nat) : w.cell? ⟨g, i, none⟩ = cs[i]? := by
  unfold Blk at h
  simp [World.cell?, h]

theorem Blk.frozen {w : World} {g : Nat} {t : TypeId} {cs : List Value} (h : Blk w g t cs) (i : Nat) : w.frozen? ⟨g, i, none⟩ = false := by
  unfold Blk at h
  simp [World.frozen?, h]

theorem Blk.set {w : World} {g : Nat} {t : TypeId} {cs : List Value} (h : Blk w g t cs) (i : Nat) (v : Value) : Blk (w.setCell ⟨g, i, none⟩ v) g t (cs.set i v) := by
  unfold Blk at *
  simp [World.setCell, Array.getElem?_modify, h]

theorem Blk.new (w : World) (t : TypeId) (cs : List Value) : Blk (w.alloc (.cells cs.toArray t)) w.heap.size t cs := by
  unfold Blk
  show (w.heap.push _)[w.heap.size]? = _
  simp

/-- Nothing that was there has turned but the blocks of S; the streams are as they were. -/
structure Fr (S : Nat → Prop) (w w' : World) : Prop where
  os : w'.os = w.os
  tape : w'.tape = w.tape
  output : w'.output = w.output
  size : w.heap.size ≤ w'.heap.size
  block : ∀ k, k < w.heap.size → ¬ S k → w'.heap[k]? = w.heap[k]?

theorem Fr.refl (S : Nat → Prop) (w : World) : Fr S w w := ⟨rfl, rfl, rfl, Nat.le_refl _, fun _ _ _ => rfl⟩
theorem Fr.trans {S T U : Nat → Prop} {a b c : World} (h : Fr S a b) (k : Fr T b c) (hs : ∀ i, i < a.heap.size → S i → U i) (ht : ∀ i, i < a.heap.size → T i → U i) : Fr U a c :=
  ⟨k.os.trans h.os, k.tape.trans h.tape, k.output.trans h.output, Nat.le_trans h.size k.size,
   fun i hi hn => (k.block i (Nat.lt_of_lt_of_le hi h.size) (fun q => hn (ht i hi q))).trans (h.block i hi (fun q => hn (hs i hi q)))⟩
theorem Fr.mono {S T : Nat → Prop} {a b : World} (h : Fr S a b) (hs : ∀ i, i < a.heap.size → S i → T i) : Fr T a b :=
  ⟨h.os, h.tape, h.output, h.size, fun i hi hn => h.block i hi (fun q => hn (hs i hi q))⟩
theorem Fr.drew {S : Nat → Prop} {a b : World} (h : Fr S a b) : Fr S a b.drew := ⟨h.os, h.tape, h.output, h.size, h.block⟩
theorem Fr.alloc {S : Nat → Prop} {a b : World} (h : Fr S a b) (o : Obj) : Fr S a (b.alloc o) :=
  ⟨h.os, h.tape, h.output, by have := h.size; simp; omega, fun i hi hn => by rw [Below.heap_alloc b o i (by have := h.size; omega)]; exact h.block i hi hn⟩
theorem Fr.setCell {S : Nat → Prop} {a b : World} (h : Fr S a b) (p : Addr) (v : Value) (hp : p.block < a.heap.size → S p.block) : Fr S a (b.setCell p v) :=
  ⟨h.os, h.tape, h.output, by have := h.size; simp [World.setCell]; omega, fun i hi hn => by
    rw [Below.heap_setCell b p v i (fun e => by subst e; exact hn (hp hi))]; exact h.block i hi hn⟩
theorem Fr.store {S : Nat → Prop} {a b : World} (h : Fr S a b) {g i : Nat} {v : Value} (hp : S g) : Fr S a (b.setCell ⟨g, i, none⟩ v) := h.setCell _ _ (fun _ => hp)
theorem Fr.storeNew {S : Nat → Prop} {a b : World} (h : Fr S a b) {g i : Nat} {v : Value} (hp : a.heap.size ≤ g) : Fr S a (b.setCell ⟨g, i, none⟩ v) := h.setCell _ _ (fun q => absurd q (Nat.not_lt.2 hp))
def onlyB (g : Nat) : Nat → Prop := fun k => k = g
def noB : Nat → Prop := fun _ => False
theorem onlyB_self (g : Nat) : onlyB g g := rfl
theorem Fr.grown {S : Nat → Prop} {a b c : World} (h : Fr S a b) {row : Option Nat} (hg : b.grownBy c row) (hr : ∀ k, row = some k → k < a.heap.size → S k) : Fr S a c :=
  ⟨hg.os.trans h.os, hg.tape.trans h.tape, hg.output.trans h.output, Nat.le_trans h.size hg.size, fun i hi hn =>
    (hg.block i (Nat.lt_of_lt_of_le hi h.size) (fun e => hn (hr i e.symm hi))).trans (h.block i hi hn)⟩
theorem Fr.below {a b : World} (h : Fr (fun _ => False) a b) : Below a.heap.size a b := ⟨h.os, h.tape, h.output, h.size, fun k hk => h.block k hk (fun q => q)⟩
theorem Fr.of_below {S : Nat → Prop} {a b : World} (h : Below a.heap.size a b) : Fr S a b := ⟨h.os, h.tape, h.output, h.size, fun k hk _ => h.block k hk⟩
theorem Fr.blk {S : Nat → Prop} {a b : World} (h : Fr S a b) {g : Nat} {t : TypeId} {cs : List Value} (hb : Blk a g t cs) (hn : ¬ S g) : Blk b g t cs := by
  have := h.block g hb.lt hn
  unfold Blk at *
  rw [this]; exact hb
theorem Fr.drewN {S : Nat → Prop} {a b : World} (h : Fr S a b) (n : Nat) : Fr S a (b.drewN n) := ⟨h.os, h.tape, h.output, h.size, h.block⟩
theorem Blk.drewN {w : World} {g : Nat} {t : TypeId} {cs : List Value} (h : Blk w g t cs) (n : Nat) : Blk (w.drewN n) g t cs := h
theorem Blk.drew {w : World} {g : Nat} {t : TypeId} {cs : List Value} (h : Blk w g t cs) : Blk w.drew g t cs := h
/-- one block more -/
theorem Fr.seqB {S : Nat → Prop} {a b c : World} {g : Nat} (h : Fr S a b) (k : Fr (onlyB g) b c) (hg : g < a.heap.size → S g) : Fr S a c :=
  h.trans k (fun _ _ q => q) (fun i hi q => by unfold onlyB at q; subst q; exact hg hi)
theorem Fr.seqN {S : Nat → Prop} {a b c : World} (h : Fr S a b) (k : Fr noB b c) : Fr S a c :=
  h.trans k (fun _ _ q => q) (fun _ _ q => False.elim q)
theorem Fr.keepB {a b : World} {g g' : Nat} {t : TypeId} {cs : List Value} (h : Fr (onlyB g') a b) (hb : Blk a g t cs) (hn : g ≠ g') : Blk b g t cs := h.blk hb hn
theorem Fr.keepN {a b : World} {g : Nat} {t : TypeId} {cs : List Value} (h : Fr noB a b) (hb : Blk a g t cs) : Blk b g t cs := h.blk hb (fun q => q)

/-- A slice that can be read: n elements of k cells, 'cs' all their cells. -/
def Row (w : World) (v : Value) (n k : Nat) (cs : List Value) : Prop :=
  cs.length = n * k ∧ n ≤ maxLen ∧
  ((∃ c, v = .slice none n c ∧ n = 0) ∨ ∃ g off cap, v = .slice (some ⟨g, off, none⟩) n cap ∧ n ≤ cap ∧ cap ≤ maxLen ∧ ∀ j, j < n * k → w.cell? ⟨g, off + j, none⟩ = cs[j]?)

theorem lt_of_cell {w : World} {g o : Nat} {v : Value} (h : w.cell? ⟨g, o, none⟩ = some v) : g < w.heap.size := by
  unfold World.cell? at h
  rcases Nat.lt_or_ge g w.heap.size with h1 | h1
  · exact h1
  · simp [Array.getElem?_eq_none h1] at h

theorem Fr.cell {S : Nat → Prop} {a b : World} (h : Fr S a b) {g o : Nat} {v : Value} (hc : a.cell? ⟨g, o, none⟩ = some v) (hn : ¬ S g) : b.cell? ⟨g, o, none⟩ = some v := by
  rw [World.cell?_of_block (w := a) (h.block g (lt_of_cell hc) hn)]; exact hc
end Go.Proofs.YtppmednmcbjafaaGreat
