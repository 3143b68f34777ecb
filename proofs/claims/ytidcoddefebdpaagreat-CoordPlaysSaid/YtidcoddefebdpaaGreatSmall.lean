/-
  Small words of several stages' texts: rows apart from blocks, an append in a drawn region, the size behind an allocation.
-/
import Derived.Test.YtidcoddefebdpaaGreatAppend
import Derived.Test.YtidcoddefebdpaaGreatArgs
import Derived.OwnWalk
import Derived.Deep.MidRow
set_option linter.unusedVariables false
set_option linter.unusedSimpArgs false
set_option maxRecDepth 100000
namespace Go.Proofs.YtidcoddefebdpaaGreat
open Go.RowKit Go Go.Lib

def rowB (v : Value) : Nat → Prop := fun k => v.ownBlock = some k
theorem row_not {w : World} {B n g : Nat} {e t : TypeId} {k : Nat} {v : Value} {xs cs : List Value} (h : w.ownsRow B e k v n xs) (hb : Blk w g t cs) (ht : t ≠ e) : ¬ rowB v g := by
  intro q
  rcases h.2 with ⟨rfl, _⟩ | ⟨g', cap, cur, rfl, _, hh, _⟩
  · simp [rowB, Value.ownBlock] at q
  · simp [rowB, Value.ownBlock] at q
    subst q
    unfold Blk at hb
    rw [hb] at hh
    simp only [Option.some.injEq, Obj.cells.injEq] at hh
    exact ht hh.2.1
theorem news_at (w : World) (t : TypeId) (cs : List Value) : ∀ j u, cs[j]? = some u → (w.alloc (.cells cs.toArray t)).cell? ((⟨w.heap.size, 0, none⟩ : Addr).add j) = some u := by
  intro j u hj
  rw [add_none, (Blk.new w t cs).cell, Nat.zero_add]
  exact hj
theorem step_append_at {P : Program} {ops : Array Oper} {o : Oper} {a : Act} {w : World} {K : Act → World → Prop} {Q : Exit → Act → World → Prop} {E : Prop} (hgd : o.guard = none) (s x : Operand) (t : TypeId)
    (ho : o.op = .call { callee := .builtin .append, args := #[s, x], argTypes := #[t, t] })
    (base : Nat) (e : TypeId) (i : TypeInfo) (z : Value) (size bytes : Nat) (ht : P.underlying t = some (.slice e)) (hi : P.info? e = some i) (hz : i.zero = some z)
    (hsize : i.size = size) (hby : i.bytes = bytes) (hzs : z.cells.size = size) (hsz : 0 < size)
    (v : Value) (n : Nat) (xs : List Value) (hs : a.eval s = v) (hown : w.ownsRow base e size v n xs)
    (ad : Addr) (m c : Nat) (news : List Value) (hx : a.eval x = .slice (some ad) m c) (hl : news.length = m * size) (hnews : ∀ j u, news[j]? = some u → w.cell? (ad.add j) = some u) (h1 : ∀ u ∈ news, u.oneCell' = true)
    (h63 : n + m ≤ maxLen) (hbytes : (n + m) * bytes ≤ 140737488355328) (hbase : base ≤ w.heap.size)
    (h : ∀ v' w', w'.ownsRow base e size v' (n + m) (xs ++ news) → w.grownBy w' v.ownBlock → Moved w v v' → K (a.put o.dst v') w') :
    if Region.wanted o (yielded ops a.tmps) = true then Oper.wp P o a w K Q else E := by
  have hw : Region.wanted o (yielded ops a.tmps) = true := by simp [Region.wanted, hgd]
  rw [if_pos hw]
  exact wp_append_at w s x t ho base e i z size bytes ht hi hz hsize hby hzs hsz v n xs hs hown ad m c news hx hl hnews h1 h63 hbytes hbase h
theorem there6m {w : World} {g i n : Nat} {t : TypeId} {cs : List Value} (h : Blk w g t cs) (hn : i + n ≤ cs.length) : w.there g i n := fun j hj => by
  refine ⟨?_, Blk.frozen h _⟩
  rw [h.cell (i + j), List.getElem?_eq_getElem (by omega)]; rfl
theorem Fr.onl {p : Nat} {a b c : World} (h : Fr (onlyB p) a b) (k : Fr (onlyB p) b c) : Fr (onlyB p) a c := h.trans k (fun _ _ q => q) (fun _ _ q => q)
theorem size_alloc (w : World) (o : Obj) : (w.alloc o).heap.size = w.heap.size + 1 := by simp
theorem own_apart {w : World} {B B' e e' k k' n m : Nat} {v u : Value} {xs ys : List Value} (h : w.ownsRow B e k v n xs) (h' : w.ownsRow B' e' k' u m ys) (he : e ≠ e') : ∀ g, v.ownBlock = some g → ¬ rowB u g := by
  intro g hg q
  unfold rowB at q
  rcases h.2 with ⟨rfl, _⟩ | ⟨g1, cap, cur, rfl, _, hh, _⟩
  · simp [Value.ownBlock] at hg
  rcases h'.2 with ⟨rfl, _⟩ | ⟨g2, cap2, cur2, rfl, _, hh2, _⟩
  · simp [Value.ownBlock] at q
  simp [Value.ownBlock] at hg q
  subst hg
  subst q
  rw [hh] at hh2
  simp only [Option.some.injEq, Obj.cells.injEq] at hh2
  exact he hh2.2.1
end Go.Proofs.YtidcoddefebdpaaGreat
