/-
  A range over a string, wherever its iterator lies; the package-level variables that the walks read.
-/
import Derived.Test.YtbmafogjmdilkaaGreatDoorAppend
import Derived.Test.YtbmafogjmdilkaaGreatDoorArgs
import Derived.Test.YtbmafogjmdilkaaGreatDoorBytes
import Derived.Test.YtbmafogjmdilkaaGreatDoorUnquoteL
import Derived.Test.YtbmafogjmdilkaaGreatDoorOrderL
import Derived.Laws.RangeAny
set_option linter.unusedVariables false
set_option linter.unusedSimpArgs false
set_option maxRecDepth 100000
namespace Go.Proofs.YtbmafogjmdilkaaGreatDoor
open Go.RowKit Go

/-- Block g is an iterator over s, at pos. -/
def ItAt (w : World) (g : Nat) (s : ByteArray) (pos : Nat) : Prop := w.heap[g]? = some (.stringIter s pos)
theorem it_new (w : World) (s : ByteArray) : ItAt (w.iter s 0) w.heap.size s 0 := World.iter_heap w s 0
theorem ItAt.lt {w : World} {g : Nat} {s : ByteArray} {pos : Nat} (h : ItAt w g s pos) : g < w.heap.size := by
  unfold ItAt at h
  rcases Nat.lt_or_ge g w.heap.size with h1 | h1
  · exact h1
  · simp [Array.getElem?_eq_none h1] at h
theorem ItAt.fr {S : Nat → Prop} {w w' : World} {g : Nat} {s : ByteArray} {pos : Nat} (h : ItAt w g s pos) (f : Fr S w w') (hn : ¬ S g) : ItAt w' g s pos := by
  unfold ItAt at *
  rw [f.block g (ItAt.lt h) hn]; exact h
theorem ItAt.ipos {w : World} {g : Nat} {s : ByteArray} {pos : Nat} (h : ItAt w g s pos) : w.iterPos g = pos := by
  unfold ItAt at h
  simp [World.iterPos, h]

theorem next_it {P : Program} {w : World} {g : Nat} {s : ByteArray} {pos : Nat} (h : ItAt w g s pos) (hp : pos < s.size) :
    ∃ w2, (∀ ty, (Instr.next (.pointer (some ⟨g, 0, none⟩)) true ty).run P w = .ok (.tuple #[.bool true, .int .i64 pos, .int .i32 (dec (s.data.toList.drop pos)).1]) w2) ∧
      ItAt w2 g s (pos + (dec (s.data.toList.drop pos)).2) ∧ Fr (onlyB g) w w2 ∧ w2.heap.size = w.heap.size := by
  have hlt := h.lt
  refine ⟨{ w with heap := w.heap.setIfInBounds g (.stringIter s (pos + (dec (s.data.toList.drop pos)).2)) }, fun ty => ?_, ?_, ⟨rfl, rfl, rfl, by simp, fun k hk hn => ?_⟩, by simp⟩
  · unfold ItAt at h
    simp only [Instr.next, getObj, setObj, Sem.run_bind, Sem.run, h, Result.andThen, hp, if_true, decode_pos]
    simp [goInt]
  · unfold ItAt
    simp [Array.getElem?_setIfInBounds, hlt]
  · simp only [Array.getElem?_setIfInBounds]
    have : g ≠ k := fun e => hn e.symm
    simp [this]

theorem next_end {P : Program} {w : World} {g : Nat} {s : ByteArray} {pos : Nat} (h : ItAt w g s pos) (hp : ¬ pos < s.size) :
    ∀ ty, (Instr.next (.pointer (some ⟨g, 0, none⟩)) true ty).run P w = .ok (.tuple #[.bool false]) w := by
  intro ty
  unfold ItAt at h
  simp [Instr.next, getObj, Sem.run, h, hp]

theorem drop_lt {s : ByteArray} {pos : Nat} (h : pos < s.size) : s.data.toList.drop pos ≠ [] := by
  intro e
  have := congrArg List.length e
  rw [List.length_drop, List.length_nil] at this
  have h2 : s.data.toList.length = s.size := rfl
  omega
theorem drop_end {s : ByteArray} {pos : Nat} (h : ¬ pos < s.size) : s.data.toList.drop pos = [] := by
  have h2 : s.data.toList.length = s.size := rfl
  exact List.drop_eq_nil_of_le (by omega)
/-- the rest's rune lies within the text -/
theorem dec_in {s : ByteArray} {pos : Nat} (h : pos < s.size) : pos + (dec (s.data.toList.drop pos)).2 ≤ s.size := by
  have h1 := dec_le _ (drop_lt h)
  rw [List.length_drop] at h1
  have h2 : s.data.toList.length = s.size := rfl
  omega

theorem step_append_at {P : Program} {ops : Array Oper} {o : Oper} {a : Act} {w : World} {K : Act → World → Prop} {Q : Exit → Act → World → Prop} {E : Prop} (hgd : o.guard = none) (s x : Operand) (t : TypeId)
    (ho : o.op = .call { callee := .builtin .append, args := #[s, x], argTypes := #[t, t] })
    (base : Nat) (e : TypeId) (i : TypeInfo) (z : Value) (size bytes : Nat) (ht : P.underlying t = some (.slice e)) (hi : P.info? e = some i) (hz : i.zero = some z)
    (hsize : i.size = size) (hby : i.bytes = bytes) (hzs : z.cells.size = size) (hsz : 0 < size)
    (v : Value) (n : Nat) (xs : List Value) (hs : a.eval s = v) (hown : w.ownsRow base e size v n xs)
    (ad : Addr) (m c : Nat) (news : List Value) (hx : a.eval x = .slice (some ad) m c) (hl : news.length = m * size) (hnews : ∀ j u, news[j]? = some u → w.cell? (ad.add j) = some u) (h1 : ∀ u ∈ news, u.oneCell' = true)
    (h63 : n + m ≤ maxLen) (hbytes : (n + m) * bytes ≤ 140737488355328) (hbase : base ≤ w.heap.size)
    (h : ∀ v' w', w'.ownsRow base e size v' (n + m) (xs ++ news) → w.grownBy w' v.ownBlock → Moved w v v' → K (a.put o.dst v') w') :
    if Region.wanted o (yielded ops a.tmps) = true then Oper.wp P o a w K Q else E := by
  have hw : Region.wanted o (yielded ops a.tmps) = true := by simp [Region.wanted, hgd]
  rw [if_pos hw]
  exact wp_append_at w s x t ho base e i z size bytes ht hi hz hsize hby hzs hsz v n xs hs hown ad m c news hx hl hnews h1 h63 hbytes hbase h



theorem ret_str {a b : ByteArray} (h : a = b) : Ending.returned (.string a) = .returned (.string b) := by rw [h]
theorem ret_bool {a b : Bool} (h : a = b) : Ending.returned (.bool a) = .returned (.bool b) := by rw [h]
theorem ret_int' {k : IntKind} {a b : Int} (h : a = b) : Ending.returned (.int k a) = .returned (.int k b) := by rw [h]

/-- a part of a text, by its bytes -/
theorem ext_eq (s : ByteArray) (a b : Nat) : s.extract a b = strB ((s.data.toList.take b).drop a) := by
  apply ByteArray.ext
  apply Array.ext'
  rw [Go.Lib.extract_data]
  simp [strB, List.drop_take]

/-- What the package-level variables hold. -/
structure Gl (w : World) : Prop where
  eS : ∃ te pe, w.cell? ⟨1, 0, none⟩ = some (.iface te pe)
  eR : ∃ te pe, w.cell? ⟨2, 0, none⟩ = some (.iface te pe)
  tz : w.cell? ⟨5, 15, none⟩ = some (.int .u8 4)
theorem Gl.fr {w w' : World} (h : Gl w) (f : Fr noB w w') : Gl w' := by
  obtain ⟨⟨a, b, h1⟩, ⟨c, d, h2⟩, h3⟩ := h
  exact ⟨⟨a, b, f.cell h1 (fun q => q)⟩, ⟨c, d, f.cell h2 (fun q => q)⟩, f.cell h3 (fun q => q)⟩
end Go.Proofs.YtbmafogjmdilkaaGreatDoor
