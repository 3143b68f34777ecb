/-
  Words that all walks of this place use: what a block holds, and 'Fr S': nothing below the old heap's end has turned but the blocks of S.
  append onto a row of the call's own, once more: beside what the library's law says, which block the row lies in behind it.
  Arguments that are slices: their elements as a list of plain data.
  A row of bytes of the call's own, and 'string(b)' of it.
-/
import Derived.Test.YtdmhnoffejjpnaaGreatDoorRows
import Derived.WalkKit
import Derived.WalkSpells
import Derived.WalkLawsBesides
import Derived.Lib.Hide
import Derived.Deep.QuietTactic
import Derived.BigQuiet
import Derived.Deep.RegionWith
import Derived.StillTailTactics
import Derived.Deep.RegionHeld3
import Derived.Deep.RegionLaw
import Derived.Deep.DeepFit
import Derived.ProofKit
import Derived.OpenShut
import Derived.ShutString
import Derived.ChangeOld
import Derived.Deep.Slices
import Derived.Laws.BytesArg
section
set_option linter.unusedVariables false
set_option linter.unusedSimpArgs false
set_option maxRecDepth 100000
namespace Go.Proofs.YtdmhnoffejjpnaaGreatDoor
open Go.RowKit

/-- 'int(uint(b)%m)', by its bounds -/
theorem umod (b m : Int) (h0 : 0 < m) (h1 : m ≤ 9223372036854775807) : ∃ q, wrap64 ((IntKind.u64.wrap b).tmod m) = q ∧ 0 ≤ q ∧ q < m := by
  refine ⟨_, rfl, ?_⟩
  have hu : 0 ≤ IntKind.u64.wrap b := by rw [IntKind.wrap_u64]; omega
  have h2 : (IntKind.u64.wrap b).tmod m = IntKind.u64.wrap b % m := Int.tmod_eq_emod_of_nonneg hu
  have h3 := Int.emod_nonneg (IntKind.u64.wrap b) (show m ≠ 0 by omega)
  have h4 := Int.emod_lt_of_pos (IntKind.u64.wrap b) h0
  rw [h2, IntWalk.wrap64_in _ (by omega)]
  exact ⟨h3, h4⟩

/-- Block g holds just these cells. -/
def Blk (w : World) (g : Nat) (t : TypeId) (cs : List Value) : Prop := w.heap[g]? = some (.cells cs.toArray t (0, 0))

theorem Blk.lt {w : World} {g : Nat} {t : TypeId} {cs : List Value} (h : Blk w g t cs) : g < w.heap.size := by
  unfold Blk at h
  rcases Nat.lt_or_ge g w.heap.size with h1 | h1
  · exact h1
  · simp [Array.getElem?_eq_none h1] at h

theorem Blk.cell {w : World} {g : Nat} {t : TypeId} {cs : List Value} (h : Blk w g t cs) (i : Nat) : w.cell? ⟨g, i, none⟩ = cs[i]? := by
  unfold Blk at h
  simp [World.cell?, h]

theorem Blk.frozen {w : World} {g : Nat} {t : TypeId} {cs : List Value} (h : Blk w g t cs) (i : Nat) : w.frozen? ⟨g, i, none⟩ = false := by
  unfold Blk at h
  simp [World.frozen?, h]

theorem Blk.set {w : World} {g : Nat} {t : TypeId} {cs : List Value} (h : Blk w g t cs) (i : Nat) (v : Value) : Blk (w.setCell ⟨g, i, none⟩ v) g t (cs.set i v) := by
  unfold Blk at *
  simp [World.setCell, Array.getElem?_modify, h]

theorem Blk.new (w : World) (t : TypeId) (cs : List Value) : Blk (w.alloc (.cells cs.toArray t)) w.heap.size t cs := by
  unfold Blk
  show (w.heap.push _)[w.heap.size]? = _
  simp

/-- Nothing that was there has turned but the blocks of S; the streams are as they were. -/
structure Fr (S : Nat → Prop) (w w' : World) : Prop where
  os : w'.os = w.os
  tape : w'.tape = w.tape
  output : w'.output = w.output
  size : w.heap.size ≤ w'.heap.size
  block : ∀ k, k < w.heap.size → ¬ S k → w'.heap[k]? = w.heap[k]?

theorem Fr.refl (S : Nat → Prop) (w : World) : Fr S w w := ⟨rfl, rfl, rfl, Nat.le_refl _, fun _ _ _ => rfl⟩
theorem Fr.trans {S T U : Nat → Prop} {a b c : World} (h : Fr S a b) (k : Fr T b c) (hs : ∀ i, i < a.heap.size → S i → U i) (ht : ∀ i, i < a.heap.size → T i → U i) : Fr U a c :=
  ⟨k.os.trans h.os, k.tape.trans h.tape, k.output.trans h.output, Nat.le_trans h.size k.size,
   fun i hi hn => (k.block i (Nat.lt_of_lt_of_le hi h.size) (fun q => hn (ht i hi q))).trans (h.block i hi (fun q => hn (hs i hi q)))⟩
theorem Fr.mono {S T : Nat → Prop} {a b : World} (h : Fr S a b) (hs : ∀ i, i < a.heap.size → S i → T i) : Fr T a b :=
  ⟨h.os, h.tape, h.output, h.size, fun i hi hn => h.block i hi (fun q => hn (hs i hi q))⟩
theorem Fr.drew {S : Nat → Prop} {a b : World} (h : Fr S a b) : Fr S a b.drew := ⟨h.os, h.tape, h.output, h.size, h.block⟩
theorem Fr.alloc {S : Nat → Prop} {a b : World} (h : Fr S a b) (o : Obj) : Fr S a (b.alloc o) :=
  ⟨h.os, h.tape, h.output, by have := h.size; simp; omega, fun i hi hn => by rw [Below.heap_alloc b o i (by have := h.size; omega)]; exact h.block i hi hn⟩
theorem Fr.setCell {S : Nat → Prop} {a b : World} (h : Fr S a b) (p : Addr) (v : Value) (hp : p.block < a.heap.size → S p.block) : Fr S a (b.setCell p v) :=
  ⟨h.os, h.tape, h.output, by have := h.size; simp [World.setCell]; omega, fun i hi hn => by
    rw [Below.heap_setCell b p v i (fun e => by subst e; exact hn (hp hi))]; exact h.block i hi hn⟩
theorem Fr.store {S : Nat → Prop} {a b : World} (h : Fr S a b) {g i : Nat} {v : Value} (hp : S g) : Fr S a (b.setCell ⟨g, i, none⟩ v) := h.setCell _ _ (fun _ => hp)
theorem Fr.storeNew {S : Nat → Prop} {a b : World} (h : Fr S a b) {g i : Nat} {v : Value} (hp : a.heap.size ≤ g) : Fr S a (b.setCell ⟨g, i, none⟩ v) := h.setCell _ _ (fun q => absurd q (Nat.not_lt.2 hp))
def onlyB (g : Nat) : Nat → Prop := fun k => k = g
def noB : Nat → Prop := fun _ => False
theorem onlyB_self (g : Nat) : onlyB g g := rfl
theorem Fr.grown {S : Nat → Prop} {a b c : World} (h : Fr S a b) {row : Option Nat} (hg : b.grownBy c row) (hr : ∀ k, row = some k → k < a.heap.size → S k) : Fr S a c :=
  ⟨hg.os.trans h.os, hg.tape.trans h.tape, hg.output.trans h.output, Nat.le_trans h.size hg.size, fun i hi hn =>
    (hg.block i (Nat.lt_of_lt_of_le hi h.size) (fun e => hn (hr i e.symm hi))).trans (h.block i hi hn)⟩
theorem Fr.below {a b : World} (h : Fr (fun _ => False) a b) : Below a.heap.size a b := ⟨h.os, h.tape, h.output, h.size, fun k hk => h.block k hk (fun q => q)⟩
theorem Fr.of_below {S : Nat → Prop} {a b : World} (h : Below a.heap.size a b) : Fr S a b := ⟨h.os, h.tape, h.output, h.size, fun k hk _ => h.block k hk⟩
theorem Fr.blk {S : Nat → Prop} {a b : World} (h : Fr S a b) {g : Nat} {t : TypeId} {cs : List Value} (hb : Blk a g t cs) (hn : ¬ S g) : Blk b g t cs := by
  have := h.block g hb.lt hn
  unfold Blk at *
  rw [this]; exact hb
theorem Fr.drewN {S : Nat → Prop} {a b : World} (h : Fr S a b) (n : Nat) : Fr S a (b.drewN n) := ⟨h.os, h.tape, h.output, h.size, h.block⟩
theorem Blk.drewN {w : World} {g : Nat} {t : TypeId} {cs : List Value} (h : Blk w g t cs) (n : Nat) : Blk (w.drewN n) g t cs := h
theorem Blk.drew {w : World} {g : Nat} {t : TypeId} {cs : List Value} (h : Blk w g t cs) : Blk w.drew g t cs := h
/-- one block more -/
theorem Fr.seqB {S : Nat → Prop} {a b c : World} {g : Nat} (h : Fr S a b) (k : Fr (onlyB g) b c) (hg : g < a.heap.size → S g) : Fr S a c :=
  h.trans k (fun _ _ q => q) (fun i hi q => by unfold onlyB at q; subst q; exact hg hi)
theorem Fr.seqN {S : Nat → Prop} {a b c : World} (h : Fr S a b) (k : Fr noB b c) : Fr S a c :=
  h.trans k (fun _ _ q => q) (fun _ _ q => False.elim q)
theorem Fr.keepB {a b : World} {g g' : Nat} {t : TypeId} {cs : List Value} (h : Fr (onlyB g') a b) (hb : Blk a g t cs) (hn : g ≠ g') : Blk b g t cs := h.blk hb hn
theorem Fr.keepN {a b : World} {g : Nat} {t : TypeId} {cs : List Value} (h : Fr noB a b) (hb : Blk a g t cs) : Blk b g t cs := h.blk hb (fun q => q)

/-- A slice that can be read: n elements of k cells, 'cs' all their cells. -/
def Row (w : World) (v : Value) (n k : Nat) (cs : List Value) : Prop :=
  cs.length = n * k ∧ n ≤ maxLen ∧
  ((∃ c, v = .slice none n c ∧ n = 0) ∨ ∃ g off cap, v = .slice (some ⟨g, off, none⟩) n cap ∧ n ≤ cap ∧ cap ≤ maxLen ∧ ∀ j, j < n * k → w.cell? ⟨g, off + j, none⟩ = cs[j]?)

theorem lt_of_cell {w : World} {g o : Nat} {v : Value} (h : w.cell? ⟨g, o, none⟩ = some v) : g < w.heap.size := by
  unfold World.cell? at h
  rcases Nat.lt_or_ge g w.heap.size with h1 | h1
  · exact h1
  · simp [Array.getElem?_eq_none h1] at h

theorem Fr.cell {S : Nat → Prop} {a b : World} (h : Fr S a b) {g o : Nat} {v : Value} (hc : a.cell? ⟨g, o, none⟩ = some v) (hn : ¬ S g) : b.cell? ⟨g, o, none⟩ = some v := by
  rw [World.cell?_of_block (w := a) (h.block g (lt_of_cell hc) hn)]; exact hc
end Go.Proofs.YtdmhnoffejjpnaaGreatDoor
end

section
set_option linter.unusedVariables false
set_option linter.unusedSimpArgs false
set_option maxRecDepth 100000
namespace Go.Proofs.YtdmhnoffejjpnaaGreatDoor
open Go.RowKit Go

/-- The row v' lies where v lay, or in a new block. -/
def Moved (w : World) (v v' : Value) : Prop := v'.ownBlock = v.ownBlock ∨ v'.ownBlock = some w.heap.size

section
variable {P : Program} (w : World)

theorem run_append_at (base : Nat) (t ty e : TypeId) (i : TypeInfo) (z : Value) (size bytes : Nat) (ht : P.underlying t = some (.slice e)) (hi : P.info? e = some i) (hz : i.zero = some z)
    (hsize : i.size = size) (hby : i.bytes = bytes) (hzs : z.cells.size = size) (hsz : 0 < size)
    (v : Value) (n : Nat) (xs : List Value) (hown : w.ownsRow base e size v n xs)
    (a : Addr) (m c : Nat) (news : List Value) (hl : news.length = m * size) (hnews : ∀ j u, news[j]? = some u → w.cell? (a.add j) = some u) (h1 : ∀ u ∈ news, u.oneCell' = true)
    (h63 : n + m ≤ maxLen) (hbytes : (n + m) * bytes ≤ 140737488355328) (hbase : base ≤ w.heap.size) :
    ∃ v' w', (Builtin.append_ #[t, t] ty #[v, .slice (some a) m c]).run P w = .ok v' w' ∧ w'.ownsRow base e size v' (n + m) (xs ++ news) ∧ w.grownBy w' v.ownBlock ∧ Moved w v v' := by
  obtain ⟨v', w', hr, h2, h3, h4⟩ := run_append_own (P := P) w base t ty e i z size bytes ht hi hz hsize hby hzs hsz v n xs hown a m c news hl hnews h1 h63 hbytes hbase
  refine ⟨v', w', hr, h2, h3, ?_⟩
  subst hsize
  subst hby
  have hsmall : n + m ≤ 9223372036854775807 := by simp only [maxLen] at h63; omega
  rcases hown.2 with ⟨rfl, rfl⟩ | ⟨g, cap, cur, rfl, hbg, hg, hnc, hcm, hcs, htake⟩
  · by_cases hm : m = 0
    · have := h4.2 ⟨rfl, hm⟩
      subst this
      exact Or.inl rfl
    · have hr2 := run_append_nil (P := P) w t ty e i z ht hi hz a m c news hl hnews (by omega) (by omega) (by have hb := hbytes; simp only [Nat.zero_add] at hb; omega)
      rw [hr2] at hr
      simp only [Result.ok.injEq] at hr
      obtain ⟨rfl, rfl⟩ := hr
      exact Or.inr rfl
  · by_cases hroom : n + m ≤ cap
    · have hfit : n * i.size + news.length ≤ cur.size := by rw [hl, hcs, ← Nat.add_mul]; exact Nat.mul_le_mul_right _ hroom
      have hr2 := run_append_room (P := P) w t ty e i ht hi g n cap cur hg a m c news hl hnews h1 hroom hfit
      rw [hr2] at hr
      simp only [Result.ok.injEq] at hr
      obtain ⟨rfl, rfl⟩ := hr
      exact Or.inl rfl
    · have holds : ∀ j u, xs[j]? = some u → w.cell? ((⟨g, 0, none⟩ : Addr).add j) = some u := hown.cells (g := g) rfl
      have hr2 := run_append_grow (P := P) w t ty e i z ht hi hz ⟨g, 0, none⟩ n cap xs hown.1 holds a m c news hl hnews (by omega) (by omega) (growslice_fits (by omega) hbytes)
      rw [hr2] at hr
      simp only [Result.ok.injEq] at hr
      obtain ⟨rfl, rfl⟩ := hr
      exact Or.inr rfl

theorem wp_append_at {o : Oper} {a : Act} {K : Act → World → Prop} {Q : Exit → Act → World → Prop} (s x : Operand) (t : TypeId)
    (ho : o.op = .call { callee := .builtin .append, args := #[s, x], argTypes := #[t, t] })
    (base : Nat) (e : TypeId) (i : TypeInfo) (z : Value) (size bytes : Nat) (ht : P.underlying t = some (.slice e)) (hi : P.info? e = some i) (hz : i.zero = some z)
    (hsize : i.size = size) (hby : i.bytes = bytes) (hzs : z.cells.size = size) (hsz : 0 < size)
    (v : Value) (n : Nat) (xs : List Value) (hs : a.eval s = v) (hown : w.ownsRow base e size v n xs)
    (ad : Addr) (m c : Nat) (news : List Value) (hx : a.eval x = .slice (some ad) m c) (hl : news.length = m * size) (hnews : ∀ j u, news[j]? = some u → w.cell? (ad.add j) = some u) (h1 : ∀ u ∈ news, u.oneCell' = true)
    (h63 : n + m ≤ maxLen) (hbytes : (n + m) * bytes ≤ 140737488355328) (hbase : base ≤ w.heap.size)
    (h : ∀ v' w', w'.ownsRow base e size v' (n + m) (xs ++ news) → w.grownBy w' v.ownBlock → Moved w v v' → K (a.put o.dst v') w') : o.wp P a w K Q := by
  obtain ⟨v', w', hr, h2, h3, h4⟩ := run_append_at (P := P) w base t o.type e i z size bytes ht hi hz hsize hby hzs hsz v n xs hown ad m c news hl hnews h1 h63 hbytes hbase
  unfold Oper.wp execOp
  simp only [ho, resolve, invoke, builtin, Sem.run_bind, Sem.run_pure, Result.andThen_ok, List.map_toArray, List.map_cons, List.map_nil, hs, hx, hr]
  exact h v' w' h2 h3 h4

theorem wpList_go {ops : Array Oper} {rest : List Oper} {o : Oper} {a : Act} {w : World} {Q : Exit → Act → World → Prop} (hw : Region.wanted o (yielded ops a.tmps) = true)
    (h : ∀ K : Act → World → Prop, (∀ a w, wpList P ops Q rest a w → K a w) → o.wp P a w K Q) : wpList P ops Q (o :: rest) a w :=
  wpList_step fun K hK => by rw [if_pos hw]; exact h K hK

theorem wpList_append_at {ops : Array Oper} {rest : List Oper} {o : Oper} {a : Act} {Q : Exit → Act → World → Prop} (hgd : Region.wanted o (yielded ops a.tmps) = true) (s x : Operand) (t : TypeId)
    (ho : o.op = .call { callee := .builtin .append, args := #[s, x], argTypes := #[t, t] })
    (base : Nat) (e : TypeId) (i : TypeInfo) (z : Value) (size bytes : Nat) (ht : P.underlying t = some (.slice e)) (hi : P.info? e = some i) (hz : i.zero = some z)
    (hsize : i.size = size) (hby : i.bytes = bytes) (hzs : z.cells.size = size) (hsz : 0 < size)
    (v : Value) (n : Nat) (xs : List Value) (hs : a.eval s = v) (hown : w.ownsRow base e size v n xs)
    (ad : Addr) (m c : Nat) (news : List Value) (hx : a.eval x = .slice (some ad) m c) (hl : news.length = m * size) (hnews : ∀ j u, news[j]? = some u → w.cell? (ad.add j) = some u) (h1 : ∀ u ∈ news, u.oneCell' = true)
    (h63 : n + m ≤ maxLen) (hbytes : (n + m) * bytes ≤ 140737488355328) (hbase : base ≤ w.heap.size)
    (h : ∀ v' w', w'.ownsRow base e size v' (n + m) (xs ++ news) → w.grownBy w' v.ownBlock → Moved w v v' → wpList P ops Q rest (a.put o.dst v') w') : wpList P ops Q (o :: rest) a w :=
  wpList_go hgd fun _ hK => wp_append_at w s x t ho base e i z size bytes ht hi hz hsize hby hzs hsz v n xs hs hown ad m c news hx hl hnews h1 h63 hbytes hbase fun v' w' h2 h3 h4 => hK _ _ (h v' w' h2 h3 h4)
end

/-- the new cell of 'append(xs, x)' -/
theorem cell_new (w : World) (v : Value) (t : TypeId) : ∀ j u, [v][j]? = some u → (w.alloc (.cells #[v] t)).cell? ((⟨w.heap.size, 0, none⟩ : Addr).add j) = some u := by
  intro j u hj
  match j, hj with
  | 0, hj =>
    simp at hj; subst hj
    exact (Blk.new w t [v]).cell 0
  | j + 1, hj => simp at hj
theorem own_new (w : World) (e : TypeId) (cs : List Value) (size n : Nat) (hl : cs.length = n * size) (hm : n ≤ maxLen) : (w.alloc (.cells cs.toArray e)).ownsRow w.heap.size e size (.slice (some ⟨w.heap.size, 0, none⟩) n n) n cs :=
  ⟨hl, Or.inr ⟨_, n, _, rfl, Nat.le_refl _, Blk.new w e cs, Nat.le_refl _, hm, by simpa using hl, by rw [← hl]; simp⟩⟩
theorem one_int (k : IntKind) (n : Int) : ∀ u ∈ [Value.int k n], u.oneCell' = true := by intro u hu; simp at hu; subst hu; rfl
theorem ownsRow_mono {w : World} {base base' : Nat} {e : TypeId} {size : Nat} {v : Value} {n : Nat} {xs : List Value} (h : w.ownsRow base e size v n xs) (hb : base' ≤ base) : w.ownsRow base' e size v n xs := by
  refine ⟨h.1, ?_⟩
  rcases h.2 with h1 | ⟨g, cap, cur, h1, h2, h3⟩
  · exact Or.inl h1
  · exact Or.inr ⟨g, cap, cur, h1, Nat.le_trans hb h2, h3⟩
theorem ownsRow_drewN {w : World} {base : Nat} {e : TypeId} {size : Nat} {v : Value} {n : Nat} {xs : List Value} (h : w.ownsRow base e size v n xs) (k : Nat) : (w.drewN k).ownsRow base e size v n xs := h
/-- What turns no block from 'base' on (but S, none of them the row's) leaves the row. -/
theorem ownsRow_fr {w w' : World} {S : Nat → Prop} {base : Nat} {e : TypeId} {size : Nat} {v : Value} {n : Nat} {xs : List Value} (h : w.ownsRow base e size v n xs) (hf : Fr S w w') (hS : ∀ g, v.ownBlock = some g → ¬ S g) : w'.ownsRow base e size v n xs := by
  refine ⟨h.1, ?_⟩
  rcases h.2 with h1 | ⟨g, cap, cur, rfl, h2, h3, h4⟩
  · exact Or.inl h1
  · refine Or.inr ⟨g, cap, cur, rfl, h2, ?_, h4⟩
    rw [hf.block g (h.lt g rfl).2 (hS g rfl)]
    exact h3

/-- A row that is not empty is a slice of a block. -/
theorem ownsRow_some {w : World} {base e size n : Nat} {v : Value} {xs : List Value} (h : w.ownsRow base e size v n xs) (hn : 0 < n) : ∃ g cap, v = .slice (some ⟨g, 0, none⟩) n cap ∧ base ≤ g := by
  rcases h.2 with ⟨_, rfl⟩ | ⟨g, cap, cur, rfl, hb, _⟩
  · omega
  · exact ⟨g, cap, rfl, hb⟩

theorem ownsRow_int {w : World} {base e n g cap : Nat} {T : List Int} (h : w.ownsRow base e 1 (.slice (some ⟨g, 0, none⟩) n cap) n (T.map (Value.int .i64))) {i : Nat} (hi : i < T.length) : w.cell? ⟨g, i, none⟩ = some (.int .i64 (T.getD i 0)) := by
  have := h.cells (g := g) rfl i (.int .i64 (T.getD i 0)) (by simp [List.getD, hi])
  rwa [show (⟨g, 0, none⟩ : Addr).add i = ⟨g, i, none⟩ by unfold Addr.add; split <;> simp_all] at this

theorem ownsRow_slice {w : World} {base e size n : Nat} {v : Value} {xs : List Value} (h : w.ownsRow base e size v n xs) : ∃ a c, v = .slice a n c := by
  rcases h.2 with ⟨h1, h2⟩ | ⟨g, cap, cur, h1, _⟩
  · exact ⟨none, 0, by rw [h1, h2]⟩
  · exact ⟨_, cap, h1⟩
/-- A row that another row's growth leaves alone. -/
theorem ownsRow_other {w w' : World} {base e size n : Nat} {v u : Value} {xs : List Value} (h : w.ownsRow base e size v n xs) (hg : w.grownBy w' u.ownBlock) (hne : ∀ g, v.ownBlock = some g → u.ownBlock ≠ some g) : w'.ownsRow base e size v n xs := by
  refine h.kept hg ?_
  cases hv : v.ownBlock with
  | none => exact Or.inl rfl
  | some g => exact Or.inr (fun q => hne g hv q.symm)

/-- Two rows in two blocks stay so, when one of them has grown. -/
theorem moved_apart {w : World} {base e size n : Nat} {v v' u : Value} {xs : List Value} (hm : Moved w v v') (hu : w.ownsRow base e size u n xs) (hne : ∀ g, v.ownBlock = some g → u.ownBlock ≠ some g) :
    ∀ g, v'.ownBlock = some g → u.ownBlock ≠ some g := by
  intro g hg q
  rcases hm with h | h
  · exact hne g (h ▸ hg) q
  · rw [h] at hg
    cases hg
    have := (hu.lt _ q).2
    omega
end Go.Proofs.YtdmhnoffejjpnaaGreatDoor
end

section
set_option linter.unusedVariables false
set_option linter.unusedSimpArgs false
set_option maxRecDepth 100000
namespace Go.Proofs.YtdmhnoffejjpnaaGreatDoor
open Go.RowKit Go.ChangeShapes Go.WideShapes Go.ChangeAt

/-- A slice that came in: its elements, k cells each, are the list xs, told by R. -/
def SlR {α : Type} (w : World) (v : Value) (k : Nat) (R : List Value → α → Prop) (xs : List α) : Prop :=
  ∃ a c, v = .slice a xs.length c ∧ (xs.length ≤ c ∧ (a = none → c = 0)) ∧ c ≤ maxLen ∧
    ∀ i m, xs[i]? = some m → ∃ g o cs, a = some ⟨g, o, none⟩ ∧ cs.length = k ∧ R cs m ∧ ∀ j u, cs[j]? = some u → w.cell? ⟨g, o + (i * k + j), none⟩ = some u

theorem add_none (b o q : Nat) : Addr.add ⟨b, o, none⟩ q = ⟨b, o + q, none⟩ := by
  unfold Addr.add
  split <;> simp_all

theorem list_of_fun {α : Type} {n : Nat} {p : Nat → α → Prop} (h : ∀ i, i < n → ∃ x, p i x) : ∃ xs : List α, xs.length = n ∧ ∀ i m, xs[i]? = some m → p i m := by
  induction n with
  | zero => exact ⟨[], rfl, fun i m hm => by simp at hm⟩
  | succ n ih =>
    obtain ⟨xs, hl, hx⟩ := ih (fun i hi => h i (Nat.lt_succ_of_lt hi))
    obtain ⟨y, hy⟩ := h n (Nat.lt_succ_self n)
    refine ⟨xs ++ [y], by simp [hl], fun i m hm => ?_⟩
    rcases Nat.lt_trichotomy i n with hlt | rfl | hgt
    · rw [List.getElem?_append_left (by omega)] at hm; exact hx i m hm
    · rw [List.getElem?_append_right (by omega), hl] at hm
      simp at hm; subst hm; exact hy
    · rw [List.getElem?_eq_none (by simp [hl]; omega)] at hm; cases hm

section
variable {H : Type} {enc : TypeId × Value → H} {P : Program} {w : World} {base : Nat} {held : Bool}

theorem slr_of_trod {α : Type} {t e : TypeId} {fuel k : Nat} {v : Value} {x : DataW H × List MemPlace} (R : List Value → α → Prop) (ht : P.underlying t = some (.slice e)) (hk : P.cellsOf e = k) (hk0 : 0 < k)
    (hv : ∃ a l c, v = .slice a l c)
    (h : DataW.trod enc P w base (fun _ => true) held fuel t v.cells.toList = some x)
    (hR : ∀ n cs y, cs.length = k → DataW.trod enc P w base (fun _ => true) held n e cs = some y → ∃ m : α, R cs m) : ∃ xs : List α, SlR w v k R xs := by
  obtain ⟨a0, l0, c0, rfl⟩ := hv
  rcases Go.Deep.open_slice ht h with ⟨hcs, _⟩ | ⟨a, len, cap, m, n, D, Pl, hcs, hb, hl, hm, hmm, _, hx⟩
  · simp [Value.cells] at hcs
    obtain ⟨rfl, rfl, rfl⟩ := hcs
    exact ⟨[], _, _, rfl, ⟨Nat.le_refl _, fun _ => rfl⟩, Nat.zero_le _, fun i m hm => by simp at hm⟩
  · simp [Value.cells] at hcs
    obtain ⟨rfl, rfl, rfl⟩ := hcs
    simp only [if_true] at hmm
    subst hmm
    have key : ∀ i, i < l0 → ∃ mm : α, ∃ g o cs, some a = some (⟨g, o, none⟩ : Addr) ∧ cs.length = k ∧ R cs mm ∧ ∀ j u, cs[j]? = some u → w.cell? ⟨g, o + (i * k + j), none⟩ = some u := by
      intro i hi
      obtain ⟨cs0, h01, h02⟩ := hx 0 (by omega)
      obtain ⟨_, hlen0, hget0⟩ := World.cells?_some h01
      have hsp : a.spot = none := by
        have := hget0 0 (by omega)
        simp only [Nat.zero_mul, Addr.add, if_true] at this
        unfold World.cell? at this
        cases hs : a.spot with
        | none => rfl
        | some q =>
          rw [hs] at this
          have hlt : 0 < cs0.length := by omega
          rw [List.getElem?_eq_getElem hlt] at this
          split at this <;> simp at this
      obtain ⟨cs', h1, h2⟩ := hx i (by omega)
      obtain ⟨_, hlen, hget⟩ := World.cells?_some h1
      obtain ⟨mm, hmm⟩ := hR _ _ _ (by omega) h2
      refine ⟨mm, a.block, a.off, cs', ?_, by omega, hmm, fun j u hu => ?_⟩
      · cases a; simp only at hsp; subst hsp; rfl
      · have hj : j < k := by
          rcases Nat.lt_or_ge j k with h | h
          · exact h
          · rw [List.getElem?_eq_none (by omega)] at hu; cases hu
        have := hget j (by omega)
        rw [Go.Deep.add_add, hk] at this
        rw [← hu, ← this]
        congr 1
        cases a
        simp only at hsp
        subst hsp
        exact (add_none _ _ _).symm
    obtain ⟨xs, hxl, hxs⟩ := list_of_fun key
    subst hxl
    exact ⟨xs, _, _, rfl, ⟨hl, fun q => by cases q⟩, hm, hxs⟩
end

theorem SlR.frame {α : Type} {w w' : World} {v : Value} {k : Nat} {R : List Value → α → Prop} {xs : List α} {S : Nat → Prop} (h : SlR w v k R xs) (hf : Fr S w w') (hS : ∀ i, i < w.heap.size → ¬ S i) : SlR w' v k R xs := by
  obtain ⟨a, c, rfl, h1, h2, h3⟩ := h
  refine ⟨a, c, rfl, h1, h2, fun i m hm => ?_⟩
  obtain ⟨g, o, cs, ha, hk, hr, hc⟩ := h3 i m hm
  exact ⟨g, o, cs, ha, hk, hr, fun j u hu => hf.cell (hc j u hu) (hS _ (lt_of_cell (hc j u hu)))⟩

section
variable {H : Type} {enc : TypeId × Value → H} {P : Program} {w : World} {base : Nat} {held : Bool}
/-- a struct's field of one cell -/
theorem fld {t ts : TypeId} {fs : Array Field} {fuel i off : Nat} {cs : List Value} {y : DataW H × List MemPlace} (ht : P.underlying ts = some (.struct fs))
    (h : DataW.trod enc P w base (fun _ => true) held fuel ts cs = some y) (hf : fs[i]?.map (fun f => (f.type, f.offset)) = some (t, off)) (hc : P.cellsOf t = 1) (hoff : off < cs.length) :
    ∃ n z, DataW.trod enc P w base (fun _ => true) held n t [cs[off]] = some z := by
  obtain ⟨ys, m, _, _, _, hyl, hff⟩ := DataW.trod_struct ht h
  obtain ⟨f, hf1, hf2⟩ := Option.map_eq_some_iff.1 hf
  simp only [Prod.mk.injEq] at hf2
  obtain ⟨rfl, rfl⟩ := hf2
  have h1 := hff i f hf1
  have hi : i < ys.length := by
    rw [hyl]
    exact (Array.getElem?_eq_some_iff.1 hf1).1
  rw [List.getElem?_eq_getElem hi, hc, List.drop_eq_getElem_cons hoff, List.take_succ_cons, List.take_zero] at h1
  exact ⟨m, _, h1⟩
theorem fld_int {k : IntKind} {t ts : TypeId} {fs : Array Field} {fuel i off : Nat} {cs : List Value} {y : DataW H × List MemPlace} (ht : P.underlying ts = some (.struct fs))
    (h : DataW.trod enc P w base (fun _ => true) held fuel ts cs = some y) (hf : fs[i]?.map (fun f => (f.type, f.offset)) = some (t, off)) (hc : P.cellsOf t = 1) (hoff : off < cs.length) (hu : P.underlying t = some (.int k)) :
    ∃ n, cs[off] = .int k n ∧ (Lit.int k n).wf = true := by
  obtain ⟨n, z, hz⟩ := fld ht h hf hc hoff
  obtain ⟨q, hq, _, hw⟩ := DataW.trod_int hu hz
  exact ⟨q, by simpa using hq, hw⟩
theorem fld_str {t ts : TypeId} {fs : Array Field} {fuel i off : Nat} {cs : List Value} {y : DataW H × List MemPlace} (ht : P.underlying ts = some (.struct fs))
    (h : DataW.trod enc P w base (fun _ => true) held fuel ts cs = some y) (hf : fs[i]?.map (fun f => (f.type, f.offset)) = some (t, off)) (hc : P.cellsOf t = 1) (hoff : off < cs.length) (hu : P.underlying t = some .string) :
    ∃ s : ByteArray, cs[off] = .string s ∧ s.size ≤ maxLen := by
  obtain ⟨n, z, hz⟩ := fld ht h hf hc hoff
  obtain ⟨q, hq, _, hw⟩ := DataW.trod_string hu hz
  exact ⟨q, by simpa using hq, hw⟩
theorem list3 {α : Type} {cs : List α} (h : cs.length = 3) : cs = [cs[0], cs[1], cs[2]] := by
  match cs, h with
  | [a, b, c], _ => rfl
theorem list2 {α : Type} {cs : List α} (h : cs.length = 2) : cs = [cs[0], cs[1]] := by
  match cs, h with
  | [a, b], _ => rfl
theorem list4 {α : Type} {cs : List α} (h : cs.length = 4) : cs = [cs[0], cs[1], cs[2], cs[3]] := by
  match cs, h with
  | [a, b, c, d], _ => rfl
end

/-- one cell, a bool -/
def IsB (cs : List Value) (b : Bool) : Prop := cs = [.bool b]
/-- one cell, an integer of kind q that fits -/
def IsI (q : IntKind) (cs : List Value) (n : Int) : Prop := cs = [.int q n] ∧ (Lit.int q n).wf = true
/-- one cell, a string -/
def IsS (cs : List Value) (s : ByteArray) : Prop := cs = [.string s] ∧ s.size ≤ maxLen

theorem wf_i64 {n : Int} (h : (Lit.int .i64 n).wf = true) : -9223372036854775808 ≤ n ∧ n ≤ 9223372036854775807 := by
  simpa [Lit.wf, IntKind.min, IntKind.max, IntKind.signed, IntKind.bits] using h
theorem wf_u64 {n : Int} (h : (Lit.int .u64 n).wf = true) : 0 ≤ n ∧ n ≤ 18446744073709551615 := by
  simpa [Lit.wf, IntKind.min, IntKind.max, IntKind.signed, IntKind.bits] using h
theorem wf_u8 {n : Int} (h : (Lit.int .u8 n).wf = true) : 0 ≤ n ∧ n ≤ 255 := by
  simpa [Lit.wf, IntKind.min, IntKind.max, IntKind.signed, IntKind.bits] using h
end Go.Proofs.YtdmhnoffejjpnaaGreatDoor
end

section
set_option linter.unusedVariables false
set_option linter.unusedSimpArgs false
set_option maxRecDepth 100000
namespace Go.Proofs.YtdmhnoffejjpnaaGreatDoor
open Go.RowKit Go

/-- a byte's cell -/
def cellB (b : UInt8) : Value := .int .u8 (b.toNat : Int)
/-- a text of these bytes -/
def strB (l : List UInt8) : ByteArray := ⟨l.toArray⟩

theorem strB_size (l : List UInt8) : (strB l).size = l.length := rfl
theorem strB_list (l : List UInt8) : (strB l).data.toList = l := rfl
theorem strB_append (a b : List UInt8) : strB a ++ strB b = strB (a ++ b) := by
  apply ByteArray.ext
  simp [strB]
theorem strB_of (s : ByteArray) : strB s.data.toList = s := by cases s; rfl

theorem string_of_row {P : Program} {w : World} (src dst e : TypeId) (hs : P.underlying src = some (.slice e)) (he : P.underlying e = some (.int .u8)) (hd : P.underlying dst = some .string)
    {base n : Nat} {v : Value} {l : List UInt8} (h : w.ownsRow base e 1 v n (l.map cellB)) :
    (convert src dst v).run P w = .ok (.string (strB l)) w := by
  have hlen : l.length = n := by have := h.1; simpa using this
  rcases h.2 with ⟨rfl, rfl⟩ | ⟨g, cap, cur, rfl, h2, h3, h4⟩
  · have : l = [] := List.eq_nil_of_length_eq_zero hlen
    subst this
    rw [run_convert_bytes_nil w src e hs he 0 0 dst hd]
    rfl
  · have hcell : ∀ i, i < n → w.cell? ⟨g, 0 + i, none⟩ = some (.int .u8 ((l.map fun b => (b.toNat : Int)).getD i 0)) := fun i hi => by
      have := h.cells (g := g) rfl i (.int .u8 ((l.map fun b => (b.toNat : Int)).getD i 0)) (by
        simp [List.getElem?_map, List.getD, List.getElem?_eq_getElem (show i < l.length by omega), cellB])
      rw [show (⟨g, 0, none⟩ : Addr).add i = ⟨g, 0 + i, none⟩ by unfold Addr.add; split <;> simp_all] at this
      exact this
    rw [run_convert_bytes_arg w src e hs he g 0 n cap (l.map fun b => (b.toNat : Int)) (by simpa using hlen) hcell dst hd]
    congr 2
    unfold strOfNums strB
    simp [List.map_map, Function.comp_def]

theorem one_byte (b : UInt8) : ∀ u ∈ [cellB b], u.oneCell' = true := by intro u hu; simp at hu; subst hu; rfl
theorem Tryz.infoByte : (Tryz.prog.info? 5).map (fun i => (i.zero, i.size, i.bytes)) = some (some (.int .u8 0), 1, 1) := by kernel_rfl

/-- a number, modulo 256, as a byte -/
def byteU (x : Int) : UInt8 := UInt8.ofNat (x % 256).toNat
theorem byteU_val (x : Int) : ((byteU x).toNat : Int) = x % 256 := by
  unfold byteU
  have h0 := Int.emod_nonneg x (show (256 : Int) ≠ 0 by omega)
  have h1 := Int.emod_lt_of_pos x (show (0 : Int) < 256 by omega)
  simp only [UInt8.toNat_ofNat']
  omega
theorem cellB_byteU (x : Int) : cellB (byteU x) = .int .u8 (x % 256) := by unfold cellB; rw [byteU_val]
end Go.Proofs.YtdmhnoffejjpnaaGreatDoor
end
