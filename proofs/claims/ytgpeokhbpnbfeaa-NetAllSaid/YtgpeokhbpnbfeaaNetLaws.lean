import Derived.Test.YtgpeokhbpnbfeaaNetFull
import Derived.Test.YtgpeokhbpnbfeaaNetRef
import Derived.Test.YtgpeokhbpnbfeaaArgs
set_option linter.unusedVariables false
set_option linter.unusedSimpArgs false
namespace Go.Proofs.Ytgpeokhbpnbfeaa
open Go.RowKit Go Go.Lib

theorem row_type {w : World} {B e k n : Nat} {v : Value} {xs : List Value} (h : w.ownsRow B e k v n xs) {q : Nat} (hq : v.ownBlock = some q) : ∃ cs, w.heap[q]? = some (.cells cs e (0, 0)) := by
  rcases h.2 with ⟨rfl, _⟩ | ⟨g, cap, cur, rfl, _, h3, _⟩
  · cases hq
  · cases hq; exact ⟨_, h3⟩
theorem touched_type {w : World} {g B : Nat} {ms : List (Int × ByteArray)} (h : Nt w g B ms) {k : Nat} (ht : touched w g k) : k = g ∨ (B ≤ k ∧ ∃ cs, w.heap[k]? = some (.cells cs 51 (0, 0))) := by
  have h2 := h.touch ht
  obtain ⟨a, c, hb, ho, _⟩ := h
  rcases ht with ht | ⟨a', n', c', hb', rfl⟩
  · exact Or.inl ht
  · unfold Blk at hb hb'
    rw [hb] at hb'
    simp only [Option.some.injEq, Obj.cells.injEq, List.toArray_inj, List.cons.injEq, Value.slice.injEq, and_true] at hb'
    obtain ⟨rfl, _⟩ := hb'
    exact Or.inr ⟨(ho.lt _ rfl).1, row_type ho rfl⟩
/-- the net's call leaves the plain net -/
theorem Rn.beside {w w' : World} {g r B : Nat} {ms ms' : List (Int × ByteArray)} (h : Rn w r B ms') (k : Nt w g B ms) (hf : Fr (touched w g) w w') (ne : r ≠ g) : Rn w' r B ms' := by
  obtain ⟨aT, cT, aS, cS, hb, hT, hS, hrB, hBw, hl⟩ := h
  have hgB : g < B := by obtain ⟨_, _, _, _, q, _⟩ := k; exact q
  refine ⟨aT, cT, aS, cS, hf.blk hb (fun q => ?_), ownsRow_fr hT hf (fun q hq z => ?_), ownsRow_fr hS hf (fun q hq z => ?_), hrB, Nat.le_trans hBw hf.size, hl⟩
  · rcases touched_type k q with h1 | ⟨h1, _⟩ <;> omega
  · have h0 := (hT.lt q hq).1
    obtain ⟨cs, h1⟩ := row_type hT hq
    rcases touched_type k z with h2 | ⟨_, cs', h2⟩
    · omega
    · rw [h1] at h2; cases h2
  · have h0 := (hS.lt q hq).1
    obtain ⟨cs, h1⟩ := row_type hS hq
    rcases touched_type k z with h2 | ⟨_, cs', h2⟩
    · omega
    · rw [h1] at h2; cases h2
/-- the plain net's call leaves the net -/
theorem Nt.beside {w w' : World} {g r B : Nat} {ms ms' : List (Int × ByteArray)} (h : Nt w g B ms) (k : Rn w r B ms') (hf : Fr (touchedR w r B) w w') (ne : r ≠ g) : Nt w' g B ms := by
  obtain ⟨a, c, hb, ho, hgB, hBw, hl⟩ := h
  have hrB : r < B := by obtain ⟨_, _, _, _, _, _, _, q, _⟩ := k; exact q
  refine ⟨a, c, hf.blk hb (fun q => ?_), ownsRow_fr ho hf (fun q hq z => ?_), hgB, Nat.le_trans hBw hf.size, hl⟩
  · rcases q with h1 | ⟨h1, _⟩ <;> omega
  · have h0 := (ho.lt q hq).1
    obtain ⟨cs, h1⟩ := row_type ho hq
    rcases z with h2 | ⟨_, cs', t, h2, h3⟩
    · omega
    · rw [h1] at h2
      cases h2
      rcases h3 with h3 | h3 <;> cases h3

/-- both nets, alike -/
structure Both (w0 w : World) (B g r : Nat) (ms : List (Int × ByteArray)) : Prop where
  nt : Nt w g B ms
  rn : Rn w r B ms
  ne : r ≠ g
  fr : Fr noB w0 w
  g0 : w0.heap.size ≤ g
  r0 : w0.heap.size ≤ r
  B0 : w0.heap.size ≤ B
/-- the net's call has been made, the other one's not yet -/
structure Half (w0 w : World) (B g r : Nat) (ms ms2 : List (Int × ByteArray)) : Prop where
  nt : Nt w g B ms2
  rn : Rn w r B ms
  ne : r ≠ g
  fr : Fr noB w0 w
  g0 : w0.heap.size ≤ g
  r0 : w0.heap.size ≤ r
  B0 : w0.heap.size ≤ B
theorem Both.drewN {w0 w : World} {B g r : Nat} {ms : List (Int × ByteArray)} (h : Both w0 w B g r ms) (n : Nat) : Both w0 (w.drewN n) B g r ms := ⟨h.nt, h.rn, h.ne, h.fr.drewN n, h.g0, h.r0, h.B0⟩
theorem Both.half {w0 w w' : World} {B g r : Nat} {ms ms2 : List (Int × ByteArray)} (h : Both w0 w B g r ms) (n2 : Nt w' g B ms2) (hf : Fr (touched w g) w w') : Half w0 w' B g r ms ms2 :=
  ⟨n2, h.rn.beside h.nt hf h.ne, h.ne, h.fr.noT hf h.nt h.g0 h.B0, h.g0, h.r0, h.B0⟩
theorem Half.both {w0 w w' : World} {B g r : Nat} {ms ms2 : List (Int × ByteArray)} (h : Half w0 w B g r ms ms2) (r2 : Rn w' r B ms2) (hf : Fr (touchedR w r B) w w') : Both w0 w' B g r ms2 :=
  ⟨h.nt.beside h.rn hf h.ne, r2, h.ne, h.fr.trans hf (fun _ _ q => q) (fun i hi q => by have := h.r0; have := h.B0; rcases q with q | ⟨q, _⟩ <;> omega), h.g0, h.r0, h.B0⟩

/-- a number that an int can hold -/
def I64 (n : Int) : Prop := -9223372036854775808 ≤ n ∧ n ≤ 9223372036854775807
/-- an Op's cells: Kind, To, K, S -/
def IsOp (cs : List Value) (o : Int × Int × Int × ByteArray) : Prop := cs = [.int .i64 o.1, .int .i64 o.2.1, .int .i64 o.2.2.1, .string o.2.2.2] ∧ I64 o.1 ∧ I64 o.2.1 ∧ I64 o.2.2.1 ∧ o.2.2.2.size ≤ maxLen
theorem op_open {H : Type} {enc : TypeId × Value → H} {w : World} {base : Nat} {held : Bool} (n : Nat) (cs : List Value) (y : DataW H × List MemPlace) (hl : cs.length = 4)
    (h : DataW.trod enc Try.prog w base (fun _ => true) held n 32 cs = some y) : ∃ o, IsOp cs o := by
  obtain ⟨a, ha, wa⟩ := fld_int (i := 0) (off := 0) Try.underlying32 h rfl (by kernel_rfl) (by omega) Try.underlying3
  obtain ⟨b, hb, wb⟩ := fld_int (i := 1) (off := 1) Try.underlying32 h rfl (by kernel_rfl) (by omega) Try.underlying3
  obtain ⟨c, hc, wc⟩ := fld_int (i := 2) (off := 2) Try.underlying32 h rfl (by kernel_rfl) (by omega) Try.underlying3
  obtain ⟨s, hs, ws⟩ := fld_str (i := 3) (off := 3) Try.underlying32 h rfl (by kernel_rfl) (by omega) Try.underlying9
  exact ⟨(a, b, c, s), by rw [list4 hl, ha, hb, hc, hs], wf_i64 wa, wf_i64 wb, wf_i64 wc, ws⟩
end Go.Proofs.Ytgpeokhbpnbfeaa
