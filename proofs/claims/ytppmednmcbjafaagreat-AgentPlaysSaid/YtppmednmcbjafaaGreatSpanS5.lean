/-
  span: Chunks, Join (slices.Grow, slices.Concat).
-/
import Derived.Test.YtppmednmcbjafaaGreatSpanS4
import Derived.Lib.AppendZeros
import Derived.Laws.AppendOwnNone
set_option linter.unusedVariables false
set_option linter.unusedSimpArgs false
set_option maxRecDepth 100000
set_option maxRecDepth 100000
namespace Go.Proofs.YtppmednmcbjafaaGreat
open Go.RowKit Go Go.Lib

theorem Tryz.infoRow : (Tryz.prog.info? 71).map (fun i => (i.zero, i.size, i.bytes)) = some (some (.slice none 0 0), 1, 24) := by kernel_rfl

/-- append of a slice that may be nil -/
theorem wpList_append_rd {P : Program} (w : World) {ops : Array Oper} {rest : List Oper} {o : Oper} {a : Act} {Q : Exit → Act → World → Prop} (hgd : o.guard = none) (s x : Operand) (t : TypeId)
    (ho : o.op = .call { callee := .builtin .append, args := #[s, x], argTypes := #[t, t] })
    (base : Nat) (e : TypeId) (i : TypeInfo) (z : Value) (size bytes : Nat) (ht : P.underlying t = some (.slice e)) (hi : P.info? e = some i) (hz : i.zero = some z)
    (hsize : i.size = size) (hby : i.bytes = bytes) (hzs : z.cells.size = size) (hsz : 0 < size)
    (v : Value) (n : Nat) (xs : List Value) (hs : a.eval s = v) (hown : w.ownsRow base e size v n xs)
    (m : Nat) (u : Value) (news : List Value) (hx : a.eval x = u) (hu : (u = .slice none 0 0 ∧ m = 0 ∧ news = []) ∨ ∃ ad c, u = .slice (some ad) m c ∧ ∀ j q, news[j]? = some q → w.cell? (ad.add j) = some q) (hl : news.length = m * size) (h1 : ∀ u ∈ news, u.oneCell' = true)
    (h63 : n + m ≤ maxLen) (hbytes : (n + m) * bytes ≤ 140737488355328) (hbase : base ≤ w.heap.size)
    (h : ∀ v' w', w'.ownsRow base e size v' (n + m) (xs ++ news) → Fr (fun k => v.ownBlock = some k) w w' → wpList P ops Q rest (a.put o.dst v') w') : wpList P ops Q (o :: rest) a w := by
  rcases hu with ⟨rfl, rfl, rfl⟩ | ⟨ad, c, rfl, hnews⟩
  · exact wpList_append_own_none hgd s x t ho base e i size ht hi v n xs hs hown hx (h v w (by simpa using hown) (Fr.refl _ _))
  · refine wpList_append_at w (by simp [Region.wanted, hgd]) s x t ho base e i z size bytes ht hi hz hsize hby hzs hsz v n xs hs hown ad m c news hx hl hnews h1 h63 hbytes hbase fun v' w' q1 q2 _ => h v' w' q1 ((Fr.refl _ w).grown q2 (fun k hk _ => hk))

theorem RdSp.or {w : World} {u : Value} {L : List Sp} (h : RdSp w u L) : (u = .slice none 0 0 ∧ L.length = 0 ∧ L.flatMap spC = []) ∨ ∃ ad c, u = .slice (some ad) L.length c ∧ ∀ j q, (L.flatMap spC)[j]? = some q → w.cell? (ad.add j) = some q := by
  have h0 := h
  obtain ⟨a, c, rfl, hl, hc, hn, h1⟩ := h
  cases a with
  | none =>
    have hc0 := hn rfl
    subst hc0
    have hL : L = [] := List.eq_nil_of_length_eq_zero (by omega)
    subst hL
    exact Or.inl ⟨rfl, rfl, rfl⟩
  | some ad => exact Or.inr ⟨ad, c, rfl, h0.src⟩

theorem zero_row (w : World) (n c : Nat) (h : n ≤ c) (hc : c ≤ maxLen) : (w.alloc (.cells (Builtin.zeroCells (Value.agg #[.int .i64 0, .int .i64 0, .string (ByteArray.mk #[])]).cells n ++ Builtin.zeroCells (Value.agg #[.int .i64 0, .int .i64 0, .string (ByteArray.mk #[])]).cells (c - n)) 38)).ownsRow w.heap.size 38 3 (.slice (some ⟨w.heap.size, 0, none⟩) 0 c) 0 [] := by
  have hz : ∀ k, (Builtin.zeroCells (Value.agg #[.int .i64 0, .int .i64 0, .string (ByteArray.mk #[])]).cells k).size = k * 3 := fun k => by
    unfold Builtin.zeroCells
    simp [Value.cells]
  have h1 := hz n
  have h2 := hz (c - n)
  generalize Builtin.zeroCells (Value.agg #[.int .i64 0, .int .i64 0, .string (ByteArray.mk #[])]).cells n = A1 at *
  generalize Builtin.zeroCells (Value.agg #[.int .i64 0, .int .i64 0, .string (ByteArray.mk #[])]).cells (c - n) = A2 at *
  have hb : (w.alloc (.cells (A1 ++ A2) 38)).heap[w.heap.size]? = some (.cells (A1 ++ A2) 38 (0, 0)) := by
    have hb := Blk.new w 38 (A1 ++ A2).toList
    unfold Blk at hb
    rwa [Array.toArray_toList] at hb
  refine ⟨rfl, Or.inr ⟨_, c, _, rfl, Nat.le_refl _, hb, Nat.zero_le _, hc, ?_, by simp⟩⟩
  rw [Array.size_append, h1, h2]
  omega

/-- a slice of rows that can be read -/
def RdR (w : World) (v : Value) (C : List (List Sp)) : Prop := ∃ a c, v = .slice a C.length c ∧ C.length ≤ c ∧ c ≤ maxLen ∧ ∀ i l, C[i]? = some l → ∃ g o u, a = some ⟨g, o, none⟩ ∧ w.cell? ⟨g, o + i, none⟩ = some u ∧ RdSp w u l
theorem RdR.frN {w w' : World} {v : Value} {C : List (List Sp)} (h : RdR w v C) (hf : Fr noB w w') : RdR w' v C := by
  obtain ⟨a, c, rfl, hl, hc, h1⟩ := h
  refine ⟨a, c, rfl, hl, hc, fun i l hi => ?_⟩
  obtain ⟨g, o, u, rfl, c0, c1⟩ := h1 i l hi
  exact ⟨g, o, u, rfl, hf.cell c0 (fun q => q), c1.frN hf⟩
theorem RdR.of_own {w : World} {B B' : Nat} {v : Value} {P : List (Value × List Sp)} (h : w.ownsRow B 71 1 v P.length (P.map Prod.fst)) (hp : OwnP w B' P) : RdR w v (P.map Prod.snd) := by
  have hcell := fun g (hg : v.ownBlock = some g) => h.cells hg
  rcases h.2 with ⟨rfl, h1⟩ | ⟨g, cap, cur, rfl, hb, hg, hnc, hcm, hcs, htake⟩
  · refine ⟨none, 0, by simp [h1], by simp [h1], by simp [maxLen], fun i l hi => ?_⟩
    rw [List.eq_nil_of_length_eq_zero h1] at hi
    simp at hi
  · refine ⟨_, cap, by rw [List.length_map], by rw [List.length_map]; exact hnc, hcm, fun i l hi => ?_⟩
    rw [List.getElem?_map] at hi
    cases hq : P[i]? with
    | none => rw [hq] at hi; cases hi
    | some p =>
      rw [hq] at hi
      simp at hi
      subst hi
      have h2 := hcell g rfl i p.1 (by rw [List.getElem?_map, hq]; rfl)
      rw [add_none] at h2
      exact ⟨g, 0, p.1, rfl, h2, RdSp.of_own (hp p (List.mem_of_getElem? hq)) rfl⟩

theorem wrap_sum2 (a b : Nat) (h : a + b ≤ 1000000) : wrap64 ((a : Int) + (b : Int)) = (a : Int) + (b : Int) := by unfold wrap64; omega
theorem wrap_sum3 (a b : Nat) (h : a + b ≤ 1000000) : ¬ wrap64 ((a : Int) + (b : Int)) < 0 := by rw [wrap_sum2 a b h]; omega
end Go.Proofs.YtppmednmcbjafaaGreat
