/-
  Arguments that are slices: their elements as a list of plain data.
-/
import Derived.Test.YtppmednmcbjafaaGreatBase
import Derived.ProofKit
import Derived.OpenShut
import Derived.ShutString
import Derived.ChangeOld
import Derived.Deep.Slices
set_option linter.unusedVariables false
set_option linter.unusedSimpArgs false
set_option maxRecDepth 100000
namespace Go.Proofs.YtppmednmcbjafaaGreat
open Go.RowKit Go.ChangeShapes Go.WideShapes Go.ChangeAt

/-- A slice that came in: its elements, k cells each, are the list xs, told by R. -/
def SlR {α : Type} (w : World) (v : Value) (k : Nat) (R : List Value → α → Prop) (xs : List α) : Prop :=
  ∃ a c, v = .slice a xs.length c ∧ (xs.length ≤ c ∧ (a = none → c = 0)) ∧ c ≤ maxLen ∧
    ∀ i m, xs[i]? = some m → ∃ g o cs, a = some ⟨g, o, none⟩ ∧ cs.length = k ∧ R cs m ∧ ∀ j u, cs[j]? = some u → w.cell? ⟨g, o + (i * k + j), none⟩ = some u

theorem add_none (b o q : Nat) : Addr.add ⟨b, o, none⟩ q = ⟨b, o + q, none⟩ := by
  unfold Addr.add
  split <;> simp_all

theorem list_of_fun {α : Type} {n : Nat} {p : Nat → α → Prop} (h : ∀ i, i < n → ∃ x, p i x) : ∃ xs : List α, xs.length = n ∧ ∀ i m, xs[i]? = some m → p i m := by
  induction n with
  | zero => exact ⟨[], rfl, fun i m hm => by simp at hm⟩
  | succ n ih =>
    obtain ⟨xs, hl, hx⟩ := ih (fun i hi => h i (Nat.lt_succ_of_lt hi))
    obtain ⟨y, hy⟩ := h n (Nat.lt_succ_self n)
    refine ⟨xs ++ [y], by simp [hl], fun i m hm => ?_⟩
    rcases Nat.lt_trichotomy i n with hlt | rfl | hgt
    · rw [List.getElem?_append_left (by omega)] at hm; exact hx i m hm
    · rw [List.getElem?_append_right (by omega), hl] at hm
      simp at hm; subst hm; exact hy
    · rw [List.getElem?_eq_none (by simp [hl]; omega)] at hm; cases hm

section
variable {H : Type} {enc : TypeId × Value → H} {P : Program} {w : World} {base : Nat} {held : Bool}

theorem slr_of_trod {α : Type} {t e : TypeId} {fuel k : Nat} {v : Value} {x : DataW H × List MemPlace} (R : List Value → α → Prop) (ht : P.underlying t = some (.slice e)) (hk : P.cellsOf e = k) (hk0 : 0 < k)
    (hv : ∃ a l c, v = .slice a l c)
    (h : DataW.trod enc P w base (fun _ => true) held fuel t v.cells.toList = some x)
    (hR : ∀ n cs y, cs.length = k → DataW.trod enc P w base (fun _ => true) held n e cs = some y → ∃ m : α, R cs m) : ∃ xs : List α, SlR w v k R xs := by
  obtain ⟨a0, l0, c0, rfl⟩ := hv
  rcases Go.Deep.open_slice ht h with ⟨hcs, _⟩ | ⟨a, len, cap, m, n, D, Pl, hcs, hb, hl, hm, hmm, _, hx⟩
  · simp [Value.cells] at hcs
    obtain ⟨rfl, rfl, rfl⟩ := hcs
    exact ⟨[], _, _, rfl, ⟨Nat.le_refl _, fun _ => rfl⟩, Nat.zero_le _, fun i m hm => by simp at hm⟩
  · simp [Value.cells] at hcs
    obtain ⟨rfl, rfl, rfl⟩ := hcs
    simp only [if_true] at hmm
    subst hmm
    have key : ∀ i, i < l0 → ∃ mm : α, ∃ g o cs, some a = some (⟨g, o, none⟩ : Addr) ∧ cs.length = k ∧ R cs mm ∧ ∀ j u, cs[j]? = some u → w.cell? ⟨g, o + (i * k + j), none⟩ = some u := by
      intro i hi
      obtain ⟨cs0, h01, h02⟩ := hx 0 (by omega)
      obtain ⟨_, hlen0, hget0⟩ := World.cells?_some h01
      have hsp : a.spot = none := by
        have := hget0 0 (by omega)
        simp only [Nat.zero_mul, Addr.add, if_true] at this
        unfold World.cell? at this
        cases hs : a.spot with
        | none => rfl
        | some q =>
          rw [hs] at this
          have hlt : 0 < cs0.length := by omega
          rw [List.getElem?_eq_getElem hlt] at this
          split at this <;> simp at this
      obtain ⟨cs', h1, h2⟩ := hx i (by omega)
      obtain ⟨_, hlen, hget⟩ := World.cells?_some h1
      obtain ⟨mm, hmm⟩ := hR _ _ _ (by omega) h2
      refine ⟨mm, a.block, a.off, cs', ?_, by omega, hmm, fun j u hu => ?_⟩
      · cases a; simp only at hsp; subst hsp; rfl
      · have hj : j < k := by
          rcases Nat.lt_or_ge j k with h | h
          · exact h
          · rw [List.getElem?_eq_none (by omega)] at hu; cases hu
        have := hget j (by omega)
        rw [Go.Deep.add_add, hk] at this
        rw [← hu, ← this]
        congr 1
        cases a
        simp only at hsp
        subst hsp
        exact (add_none _ _ _).symm
    obtain ⟨xs, hxl, hxs⟩ := list_of_fun key
    subst hxl
    exact ⟨xs, _, _, rfl, ⟨hl, fun q => by cases q⟩, hm, hxs⟩
end

theorem SlR.frame {α : Type} {w w' : World} {v : Value} {k : Nat} {R : List Value → α → Prop} {xs : List α} {S : Nat → Prop} (h : SlR w v k R xs) (hf : Fr S w w') (hS : ∀ i, i < w.heap.size → ¬ S i) : SlR w' v k R xs := by
  obtain ⟨a, c, rfl, h1, h2, h3⟩ := h
  refine ⟨a, c, rfl, h1, h2, fun i m hm => ?_⟩
  obtain ⟨g, o, cs, ha, hk, hr, hc⟩ := h3 i m hm
  exact ⟨g, o, cs, ha, hk, hr, fun j u hu => hf.cell (hc j u hu) (hS _ (lt_of_cell (hc j u hu)))⟩

section
variable {H : Type} {enc : TypeId × Value → H} {P : Program} {w : World} {base : Nat} {held : Bool}
/-- a struct's field of one cell -/
theorem fld {t ts : TypeId} {fs : Array Field} {fuel i off : Nat} {cs : List Value} {y : DataW H × List MemPlace} (ht : P.underlying ts = some (.struct fs))
    (h : DataW.trod enc P w base (fun _ => true) held fuel ts cs = some y) (hf : fs[i]?.map (fun f => (f.type, f.offset)) = some (t, off)) (hc : P.cellsOf t = 1) (hoff : off < cs.length) :
    ∃ n z, DataW.trod enc P w base (fun _ => true) held n t [cs[off]] = some z := by
  obtain ⟨ys, m, _, _, _, hyl, hff⟩ := DataW.trod_struct ht h
  obtain ⟨f, hf1, hf2⟩ := Option.map_eq_some_iff.1 hf
  simp only [Prod.mk.injEq] at hf2
  obtain ⟨rfl, rfl⟩ := hf2
  have h1 := hff i f hf1
  have hi : i < ys.length := by
    rw [hyl]
    exact (Array.getElem?_eq_some_iff.1 hf1).1
  rw [List.getElem?_eq_getElem hi, hc, List.drop_eq_getElem_cons hoff, List.take_succ_cons, List.take_zero] at h1
  exact ⟨m, _, h1⟩
theorem fld_int {k : IntKind} {t ts : TypeId} {fs : Array Field} {fuel i off : Nat} {cs : List Value} {y : DataW H × List MemPlace} (ht : P.underlying ts = some (.struct fs))
    (h : DataW.trod enc P w base (fun _ => true) held fuel ts cs = some y) (hf : fs[i]?.map (fun f => (f.type, f.offset)) = some (t, off)) (hc : P.cellsOf t = 1) (hoff : off < cs.length) (hu : P.underlying t = some (.int k)) :
    ∃ n, cs[off] = .int k n ∧ (Lit.int k n).wf = true := by
  obtain ⟨n, z, hz⟩ := fld ht h hf hc hoff
  obtain ⟨q, hq, _, hw⟩ := DataW.trod_int hu hz
  exact ⟨q, by simpa using hq, hw⟩
theorem fld_str {t ts : TypeId} {fs : Array Field} {fuel i off : Nat} {cs : List Value} {y : DataW H × List MemPlace} (ht : P.underlying ts = some (.struct fs))
    (h : DataW.trod enc P w base (fun _ => true) held fuel ts cs = some y) (hf : fs[i]?.map (fun f => (f.type, f.offset)) = some (t, off)) (hc : P.cellsOf t = 1) (hoff : off < cs.length) (hu : P.underlying t = some .string) :
    ∃ s : ByteArray, cs[off] = .string s ∧ s.size ≤ maxLen := by
  obtain ⟨n, z, hz⟩ := fld ht h hf hc hoff
  obtain ⟨q, hq, _, hw⟩ := DataW.trod_string hu hz
  exact ⟨q, by simpa using hq, hw⟩
theorem list3 {α : Type} {cs : List α} (h : cs.length = 3) : cs = [cs[0], cs[1], cs[2]] := by
  match cs, h with
  | [a, b, c], _ => rfl
theorem list2 {α : Type} {cs : List α} (h : cs.length = 2) : cs = [cs[0], cs[1]] := by
  match cs, h with
  | [a, b], _ => rfl
theorem list4 {α : Type} {cs : List α} (h : cs.length = 4) : cs = [cs[0], cs[1], cs[2], cs[3]] := by
  match cs, h with
  | [a, b, c, d], _ => rfl
end

/-- one cell, a bool -/
def IsB (cs : List Value) (b : Bool) : Prop := cs = [.bool b]
/-- one cell, an integer of kind q that fits -/
def IsI (q : IntKind) (cs : List Value) (n : Int) : Prop := cs = [.int q n] ∧ (Lit.int q n).wf = true
/-- one cell, a string -/
def IsS (cs : List Value) (s : ByteArray) : Prop := cs = [.string s] ∧ s.size ≤ maxLen

theorem wf_i64 {n : Int} (h : (Lit.int .i64 n).wf = true) : -9223372036854775808 ≤ n ∧ n ≤ 9223372036854775807 := by
  simpa [Lit.wf, IntKind.min, IntKind.max, IntKind.signed, IntKind.bits] using h
theorem wf_u64 {n : Int} (h : (Lit.int .u64 n).wf = true) : 0 ≤ n ∧ n ≤ 18446744073709551615 := by
  simpa [Lit.wf, IntKind.min, IntKind.max, IntKind.signed, IntKind.bits] using h
theorem wf_u8 {n : Int} (h : (Lit.int .u8 n).wf = true) : 0 ≤ n ∧ n ≤ 255 := by
  simpa [Lit.wf, IntKind.min, IntKind.max, IntKind.signed, IntKind.bits] using h
end Go.Proofs.YtppmednmcbjafaaGreat
