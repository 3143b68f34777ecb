/-
  span: Clone of spans, Chunks.
  span: Chunks, Join (slices.Grow, slices.Concat).
  Rows of ints that are read, and spoorref06.SameInts of two.
-/
import Derived.Test.YtdmhnoffejjpnaaGreatDoorZAJ
import Derived.Lib.SliceRun
import Derived.Lib.AppendZeros
import Derived.Laws.AppendOwnNone
import Derived.Test.YtdmhnoffejjpnaaGreatDoorZAA
section
set_option linter.unusedVariables false
set_option linter.unusedSimpArgs false
set_option maxRecDepth 100000
set_option maxRecDepth 100000
namespace Go.Proofs.YtdmhnoffejjpnaaGreatDoor
open Go.RowKit Go Go.Lib

theorem RdSp.src {w : World} {ad : Addr} {n c : Nat} {L : List Sp} (h : RdSp w (.slice (some ad) n c) L) : ∀ j u, (L.flatMap spC)[j]? = some u → w.cell? (ad.add j) = some u := by
  obtain ⟨a, c', hv, hl, hc, hn, h1⟩ := h
  cases hv
  intro j u hj
  have hj1 : j < (L.flatMap spC).length := (List.getElem?_eq_some_iff.1 hj).1
  rw [flat_len] at hj1
  obtain ⟨s, hs⟩ : ∃ s, L[j / 3]? = some s := ⟨L[j / 3]'(by omega), List.getElem?_eq_getElem (by omega)⟩
  have hg := flat_get L (j / 3) (j % 3) s hs (by omega)
  rw [show j / 3 * 3 + j % 3 = j by omega, hj] at hg
  obtain ⟨g, o, e, c0, c1, c2⟩ := h1 _ s hs
  injection e with e
  subst e
  rw [add_none]
  have h3 : j % 3 = 0 ∨ j % 3 = 1 ∨ j % 3 = 2 := by omega
  rcases h3 with h3 | h3 | h3 <;> rw [h3] at hg <;> simp [spC] at hg <;> subst hg
  · rw [show o + j = o + j / 3 * 3 by omega]; exact c0
  · rw [show o + j = o + j / 3 * 3 + 1 by omega]; exact c1
  · rw [show o + j = o + j / 3 * 3 + 2 by omega]; exact c2
theorem own_apart {w : World} {B B' e e' k k' n m : Nat} {v u : Value} {xs ys : List Value} (h : w.ownsRow B e k v n xs) (h' : w.ownsRow B' e' k' u m ys) (he : e ≠ e') : ∀ g, v.ownBlock = some g → ¬ rowB u g := by
  intro g hg q
  unfold rowB at q
  rcases h.2 with ⟨rfl, _⟩ | ⟨g1, cap, cur, rfl, _, hh, _⟩
  · simp [Value.ownBlock] at hg
  rcases h'.2 with ⟨rfl, _⟩ | ⟨g2, cap2, cur2, rfl, _, hh2, _⟩
  · simp [Value.ownBlock] at q
  simp [Value.ownBlock] at hg q
  subst hg
  subst q
  rw [hh] at hh2
  simp only [Option.some.injEq, Obj.cells.injEq] at hh2
  exact he hh2.2.1

set_option maxHeartbeats 1000000 in
theorem clone_any (v : Value) (L : List Sp) (w : World) (hv : RdSp w v L) (hl : L.length ≤ 1000000) :
    Calls Tryz.prog 142 #[v] w fun e w' => ∃ v', e = .returned v' ∧ w'.ownsRow w.heap.size 118 3 v' L.length (L.flatMap spC) ∧ Fr noB w w' := by
  have hv0 := hv
  obtain ⟨a, c, rfl, h1, h2, h3, h4⟩ := hv
  cases a with
  | none =>
    have hc := h3 rfl
    subst hc
    have hL : L = [] := List.eq_nil_of_length_eq_zero (by omega)
    subst hL
    have hq : ∀ w, (binOp .eql 29 (.slice none 0 0) (.slice none 0 0)).run Tryz.prog w = .ok (.bool true) w := fun w => Go.Lib.run_eql_slice_nil w _ 118 _ _ _ _ _ Tryz.underlying29
    go_enter Tryz.func142, Tryz.ntmps142
    go_wp2_with fail
    go_ret
    exact ⟨_, rfl, World.ownsRow_nil _ _ _ _, Fr.refl _ _⟩
  | some ad =>
    have hsrc := hv0.src
    have hfl := flat_len L
    have hone := flat_one L
    obtain ⟨i0, hi, hz0, hz1, hz2⟩ := info_parts Tryz.infoSpan
    have f1 : Fr noB w (w.alloc (.cells #[] 118)) := (Fr.refl _ _).alloc _
    have own1 := own_new w 118 [] 3 0 rfl (Nat.zero_le _)
    have hs2 : ∀ j u, (L.flatMap spC)[j]? = some u → (w.alloc (.cells #[] 118)).cell? (ad.add j) = some u := fun j u q => cell?_alloc_some _ (hsrc j u q)
    generalize hX : L.flatMap spC = X at *
    generalize L.length = n at *
    replace hX := Lib.hid hX
    replace hsrc := Lib.hid hsrc
    replace hs2 := Lib.hid hs2
    replace hv0 := Lib.hid hv0
    clear h4
    have hq : ∀ w, (binOp .eql 29 (.slice (some ad) n c) (.slice none 0 0)).run Tryz.prog w = .ok (.bool false) w := fun w => Go.Lib.run_eql_slice_nil w _ 118 _ _ _ _ _ Tryz.underlying29
    go_enter Tryz.func142, Tryz.ntmps142
    go_wp2_with (first
      | (at_builtin; go_must (refine wpList_append_at _ rfl (.tmp 5) (.tmp 6) 29 rfl w.heap.size 118 i0 _ 3 32 Tryz.underlying29 hi hz0 hz1 hz2 rfl (by decide) _ 0 [] rfl own1 ad n c X rfl hfl hs2.out hone ?_ ?_ ?_ ?_))
      | fail)
    · unfold maxLen; omega
    · omega
    · have := f1.size; omega
    intro v8 w8 o8 gr8 _
    try rw [Nat.zero_add, List.nil_append] at o8
    have f8 : Fr (rowB (.slice (some ⟨w.heap.size, 0, none⟩) 0 0)) (w.alloc (.cells #[] 118)) w8 := (Fr.refl _ _).grown gr8 (fun k hk _ => hk)
    have fr8 : Fr noB w w8 := f1.rowN own1 (Nat.le_refl _) f8
    clear gr8 f8
    go_wp2_with fail
    go_ret
    exact ⟨_, rfl, o8, fr8⟩

/-- rows that are owned, each with its spans -/
def OwnP (w : World) (B : Nat) (P : List (Value × List Sp)) : Prop := ∀ p ∈ P, w.ownsRow B 118 3 p.1 p.2.length (p.2.flatMap spC)
theorem RdSp.take2 {w : World} {ad : Addr} {n c : Nat} {L : List Sp} (h : RdSp w (.slice (some ad) n c) L) (h2 : 2 ≤ n) : RdSp w (.slice (some ad) 2 c) (L.take 2) := by
  obtain ⟨a, c', hv, hl, hc, hn, h1⟩ := h
  cases hv
  refine ⟨some ad, c, by rw [List.length_take, Nat.min_eq_left h2], by rw [List.length_take]; omega, hc, (fun q => by cases q), fun i s hs => h1 i s ?_⟩
  rw [List.getElem?_take] at hs
  split at hs
  · exact hs
  · cases hs
theorem RdSp.drop2 {w : World} {g o n c : Nat} {L : List Sp} (h : RdSp w (.slice (some ⟨g, o, none⟩) n c) L) (h2 : 2 ≤ n) : RdSp w (.slice (some ⟨g, o + 6, none⟩) (n - 2) (c - 2)) (L.drop 2) := by
  obtain ⟨a, c', hv, hl, hc, hn, h1⟩ := h
  cases hv
  refine ⟨_, c - 2, by rw [List.length_drop], by rw [List.length_drop]; omega, by omega, (fun q => by cases q), fun i s hs => ?_⟩
  rw [List.getElem?_drop] at hs
  obtain ⟨g', o', e, c0, c1, c2⟩ := h1 _ s hs
  cases e
  refine ⟨g, o + 6, rfl, ?_, ?_, ?_⟩
  · rw [← c0]; congr 2; omega
  · rw [← c1]; congr 2; omega
  · rw [← c2]; congr 2; omega
end Go.Proofs.YtdmhnoffejjpnaaGreatDoor
end

section
set_option linter.unusedVariables false
set_option linter.unusedSimpArgs false
set_option maxRecDepth 100000
set_option maxRecDepth 100000
namespace Go.Proofs.YtdmhnoffejjpnaaGreatDoor
open Go.RowKit Go Go.Lib

theorem Tryz.infoRow : (Tryz.prog.info? 29).map (fun i => (i.zero, i.size, i.bytes)) = some (some (.slice none 0 0), 1, 24) := by kernel_rfl

/-- append of a slice that may be nil -/
theorem wpList_append_rd {P : Program} (w : World) {ops : Array Oper} {rest : List Oper} {o : Oper} {a : Act} {Q : Exit → Act → World → Prop} (hgd : o.guard = none) (s x : Operand) (t : TypeId)
    (ho : o.op = .call { callee := .builtin .append, args := #[s, x], argTypes := #[t, t] })
    (base : Nat) (e : TypeId) (i : TypeInfo) (z : Value) (size bytes : Nat) (ht : P.underlying t = some (.slice e)) (hi : P.info? e = some i) (hz : i.zero = some z)
    (hsize : i.size = size) (hby : i.bytes = bytes) (hzs : z.cells.size = size) (hsz : 0 < size)
    (v : Value) (n : Nat) (xs : List Value) (hs : a.eval s = v) (hown : w.ownsRow base e size v n xs)
    (m : Nat) (u : Value) (news : List Value) (hx : a.eval x = u) (hu : (u = .slice none 0 0 ∧ m = 0 ∧ news = []) ∨ ∃ ad c, u = .slice (some ad) m c ∧ ∀ j q, news[j]? = some q → w.cell? (ad.add j) = some q) (hl : news.length = m * size) (h1 : ∀ u ∈ news, u.oneCell' = true)
    (h63 : n + m ≤ maxLen) (hbytes : (n + m) * bytes ≤ 140737488355328) (hbase : base ≤ w.heap.size)
    (h : ∀ v' w', w'.ownsRow base e size v' (n + m) (xs ++ news) → Fr (fun k => v.ownBlock = some k) w w' → wpList P ops Q rest (a.put o.dst v') w') : wpList P ops Q (o :: rest) a w := by
  rcases hu with ⟨rfl, rfl, rfl⟩ | ⟨ad, c, rfl, hnews⟩
  · exact wpList_append_own_none hgd s x t ho base e i size ht hi v n xs hs hown hx (h v w (by simpa using hown) (Fr.refl _ _))
  · refine wpList_append_at w (by simp [Region.wanted, hgd]) s x t ho base e i z size bytes ht hi hz hsize hby hzs hsz v n xs hs hown ad m c news hx hl hnews h1 h63 hbytes hbase fun v' w' q1 q2 _ => h v' w' q1 ((Fr.refl _ w).grown q2 (fun k hk _ => hk))

theorem RdSp.or {w : World} {u : Value} {L : List Sp} (h : RdSp w u L) : (u = .slice none 0 0 ∧ L.length = 0 ∧ L.flatMap spC = []) ∨ ∃ ad c, u = .slice (some ad) L.length c ∧ ∀ j q, (L.flatMap spC)[j]? = some q → w.cell? (ad.add j) = some q := by
  have h0 := h
  obtain ⟨a, c, rfl, hl, hc, hn, h1⟩ := h
  cases a with
  | none =>
    have hc0 := hn rfl
    subst hc0
    have hL : L = [] := List.eq_nil_of_length_eq_zero (by omega)
    subst hL
    exact Or.inl ⟨rfl, rfl, rfl⟩
  | some ad => exact Or.inr ⟨ad, c, rfl, h0.src⟩

theorem zero_row (w : World) (n c : Nat) (h : n ≤ c) (hc : c ≤ maxLen) : (w.alloc (.cells (Builtin.zeroCells (Value.agg #[.int .i64 0, .int .i64 0, .string (ByteArray.mk #[])]).cells n ++ Builtin.zeroCells (Value.agg #[.int .i64 0, .int .i64 0, .string (ByteArray.mk #[])]).cells (c - n)) 118)).ownsRow w.heap.size 118 3 (.slice (some ⟨w.heap.size, 0, none⟩) 0 c) 0 [] := by
  have hz : ∀ k, (Builtin.zeroCells (Value.agg #[.int .i64 0, .int .i64 0, .string (ByteArray.mk #[])]).cells k).size = k * 3 := fun k => by
    unfold Builtin.zeroCells
    simp [Value.cells]
  have h1 := hz n
  have h2 := hz (c - n)
  generalize Builtin.zeroCells (Value.agg #[.int .i64 0, .int .i64 0, .string (ByteArray.mk #[])]).cells n = A1 at *
  generalize Builtin.zeroCells (Value.agg #[.int .i64 0, .int .i64 0, .string (ByteArray.mk #[])]).cells (c - n) = A2 at *
  have hb : (w.alloc (.cells (A1 ++ A2) 118)).heap[w.heap.size]? = some (.cells (A1 ++ A2) 118 (0, 0)) := by
    have hb := Blk.new w 118 (A1 ++ A2).toList
    unfold Blk at hb
    rwa [Array.toArray_toList] at hb
  refine ⟨rfl, Or.inr ⟨_, c, _, rfl, Nat.le_refl _, hb, Nat.zero_le _, hc, ?_, by simp⟩⟩
  rw [Array.size_append, h1, h2]
  omega

set_option maxHeartbeats 1000000 in
theorem grow_any (n : Nat) (w : World) (hn : n ≤ 1000000) :
    Calls Tryz.prog 152 #[.slice none 0 0, .int .i64 n] w fun e w' => ∃ a c, e = .returned (.slice a 0 c) ∧ w'.ownsRow w.heap.size 118 3 (.slice a 0 c) 0 [] ∧ Fr noB w w' := by
  obtain ⟨i0, hi, hz0, hz1, hz2⟩ := info_parts Tryz.infoSpan
  have h1 : ¬ ((n : Int) < 0) := by omega
  by_cases h0 : n = 0
  · subst h0
    go_enter Tryz.func152, Tryz.ntmps152
    go_wp2
    go_ret
    exact ⟨_, _, rfl, World.ownsRow_nil _ _ _ _, Fr.refl _ _⟩
  · have h4 : (n : Int) > 0 := by omega
    have hr := fun ty => Lib.run_append_nil_zeros (P := Tryz.prog) w 29 3 ty 118 i0 _ .i64 .i64 Tryz.underlying29 Tryz.underlying3 hi hz0 n (by omega) (by rw [hz1]; decide) (by omega) (by rw [hz2]; omega)
    have hge : n ≤ grownCap w n 0 118 := grownCap_ge w _ _ _
    have hle : grownCap w n 0 118 ≤ maxLen := grownCap_le_maxLen w n 0 118 (by unfold maxLen; omega)
    have hzr := zero_row w.drew n (grownCap w n 0 118) hge hle
    have fr : Fr noB w (w.drew.alloc (.cells (Builtin.zeroCells (Value.agg #[.int .i64 0, .int .i64 0, .string (ByteArray.mk #[])]).cells n ++ Builtin.zeroCells (Value.agg #[.int .i64 0, .int .i64 0, .string (ByteArray.mk #[])]).cells (grownCap w n 0 118 - n)) 118)) := (Fr.refl _ w).drew.alloc _
    obtain ⟨G, hG⟩ : ∃ G, grownCap w n 0 118 = G := ⟨_, rfl⟩
    rw [hG] at hr hge hle hzr fr
    have hG63 : G ≤ 9223372036854775807 := by unfold maxLen at hle; omega
    generalize hW : (w.drew.alloc (.cells (Builtin.zeroCells (Value.agg #[.int .i64 0, .int .i64 0, .string (ByteArray.mk #[])]).cells n ++ Builtin.zeroCells (Value.agg #[.int .i64 0, .int .i64 0, .string (ByteArray.mk #[])]).cells (G - n)) 118)) = w2 at *
    clear hW hG
    replace hzr := Lib.hid hzr
    replace fr := Lib.hid fr
    go_enter Tryz.func152, Tryz.ntmps152
    go_wp2_with (at_builtin; refine Lib.wpList_append_run _ rfl _ _ _ _ rfl _ _ rfl rfl _ _ (hr _) ?_)
    all_goals (go_ret; exact ⟨_, _, rfl, hzr.out, fr.out⟩)

/-- a slice of rows that can be read -/
def RdR (w : World) (v : Value) (C : List (List Sp)) : Prop := ∃ a c, v = .slice a C.length c ∧ C.length ≤ c ∧ c ≤ maxLen ∧ ∀ i l, C[i]? = some l → ∃ g o u, a = some ⟨g, o, none⟩ ∧ w.cell? ⟨g, o + i, none⟩ = some u ∧ RdSp w u l
theorem RdR.frN {w w' : World} {v : Value} {C : List (List Sp)} (h : RdR w v C) (hf : Fr noB w w') : RdR w' v C := by
  obtain ⟨a, c, rfl, hl, hc, h1⟩ := h
  refine ⟨a, c, rfl, hl, hc, fun i l hi => ?_⟩
  obtain ⟨g, o, u, rfl, c0, c1⟩ := h1 i l hi
  exact ⟨g, o, u, rfl, hf.cell c0 (fun q => q), c1.frN hf⟩
theorem RdR.of_own {w : World} {B B' : Nat} {v : Value} {P : List (Value × List Sp)} (h : w.ownsRow B 29 1 v P.length (P.map Prod.fst)) (hp : OwnP w B' P) : RdR w v (P.map Prod.snd) := by
  have hcell := fun g (hg : v.ownBlock = some g) => h.cells hg
  rcases h.2 with ⟨rfl, h1⟩ | ⟨g, cap, cur, rfl, hb, hg, hnc, hcm, hcs, htake⟩
  · refine ⟨none, 0, by simp [h1], by simp [h1], by simp [maxLen], fun i l hi => ?_⟩
    rw [List.eq_nil_of_length_eq_zero h1] at hi
    simp at hi
  · refine ⟨_, cap, by rw [List.length_map], by rw [List.length_map]; exact hnc, hcm, fun i l hi => ?_⟩
    rw [List.getElem?_map] at hi
    cases hq : P[i]? with
    | none => rw [hq] at hi; cases hi
    | some p =>
      rw [hq] at hi
      simp at hi
      subst hi
      have h2 := hcell g rfl i p.1 (by rw [List.getElem?_map, hq]; rfl)
      rw [add_none] at h2
      exact ⟨g, 0, p.1, rfl, h2, RdSp.of_own (hp p (List.mem_of_getElem? hq)) rfl⟩

theorem total_step (C : List (List Sp)) (k : Nat) (l : List Sp) (h : C[k]? = some l) : (C.take (k + 1)).flatten = (C.take k).flatten ++ l := by
  rw [List.take_add_one, h]
  simp

theorem wrap_sum2 (a b : Nat) (h : a + b ≤ 1000000) : wrap64 ((a : Int) + (b : Int)) = (a : Int) + (b : Int) := by unfold wrap64; omega
theorem wrap_sum3 (a b : Nat) (h : a + b ≤ 1000000) : ¬ wrap64 ((a : Int) + (b : Int)) < 0 := by rw [wrap_sum2 a b h]; omega
set_option maxHeartbeats 4000000 in
theorem concat_any (v : Value) (C : List (List Sp)) (w : World) (hv : RdR w v C) (ht : C.flatten.length ≤ 100000) :
    Calls Tryz.prog 143 #[v] w fun e w' => ∃ v', e = .returned v' ∧ w'.ownsRow w.heap.size 118 3 v' C.flatten.length (C.flatten.flatMap spC) ∧ Fr noB w w' := by
  obtain ⟨a, c, rfl, hx1, hx2, hx3⟩ := hv
  unfold maxLen at hx2
  obtain ⟨i0, hi, hz0, hz1, hz2⟩ := info_parts Tryz.infoSpan
  have hget : ∀ k, k < C.length → ∃ m, C[k]? = some m := fun k hk => ⟨C[k], List.getElem?_eq_getElem hk⟩
  have hst := total_step C
  have hle : ∀ k, (C.take k).flatten.length ≤ 100000 := fun k => by
    have h1 : (C.take k).flatten.length + (C.drop k).flatten.length = C.flatten.length := by rw [← List.length_append, ← List.flatten_append, List.take_append_drop]
    omega
  have h0 : (C.take 0).flatten = [] := rfl
  have hend : (C.take C.length).flatten = C.flatten := by rw [List.take_length]
  generalize hn : C.length = n at *
  have hnb : n ≤ 9223372036854775807 := by omega
  replace hx3 := Lib.hid hx3
  replace hget := Lib.hid hget
  replace hst := Lib.hid hst
  replace hle := Lib.hid hle
  replace hn := Lib.hid hn
  replace hend := Lib.hid hend
  replace h0 := Lib.hid h0
  obtain ⟨B, hB⟩ : ∃ B, w.heap.size = B := ⟨_, rfl⟩
  rw [hB]
  go_enter Tryz.func143, Tryz.ntmps143
  go_wp2_with fail
  go_loopw [3, 11] (fun vs vi wr => ∃ k : Nat, k ≤ n ∧ vi = .int .i64 k ∧ vs = .int .i64 ((C.take k).flatten.length : Nat) ∧ wr = w) (fun _ vi _ => n - (RowKit.intOf vi).toNat)
  case atStart => exact ⟨0, by omega, rfl, by rw [h0.out]; rfl, rfl⟩
  case round =>
    obtain ⟨k, hk, rfl, rfl, hwr⟩ := hrel
    obtain rfl := hwr.symm
    by_cases hlt : k < n
    · obtain ⟨l, hl⟩ := hget.out k hlt
      obtain ⟨g, o, u, rfl, c0, c1⟩ := hx3.out k l hl
      obtain ⟨ua, uc, rfl, _, _, _, _⟩ := c1
      have hs2 := congrArg List.length (hst.out k l hl)
      rw [List.length_append] at hs2
      have hq := hle.out (k + 1)
      have hb1 : (k : Int) < n := by omega
      have hle1 : (C.take k).flatten.length + l.length ≤ 1000000 := by omega
      have hsum := wrap_sum2 _ _ hle1
      have hpos : ¬ wrap64 ((((C.take k).flatten.length : Nat) : Int) + (l.length : Int)) < 0 := wrap_sum3 _ _ hle1
      have hcast : (((C.take k).flatten.length : Nat) : Int) + (l.length : Int) = (((C.take (k + 1)).flatten.length : Nat) : Int) := by rw [hs2]; simp
      generalize (C.take k).flatten.length = T1 at *
      replace hcast := Lib.hid hcast
      replace hsum := Lib.hid hsum
      replace hle1 := Lib.hid hle1
      clear hq
      replace hl := Lib.hid hl
      replace hs2 := Lib.hid hs2
      clear hk
      go_wp2_with fail
      go_roundw
      case rel => exact ⟨k + 1, by omega, by go_num, by rw [hsum.out, hcast.out], trivial⟩
      case measure => simp [RowKit.intOf]; omega
    · obtain rfl : k = n := by omega
      have hq := hle.out k
      rw [hend.out] at hq
      rw [hend.out]
      generalize hT : C.flatten.length = T at *
      have hTb : T ≤ 100000 := hq
      replace hT := Lib.hid hT
      go_wp2_with fail
      refine (grow_any T _ (by omega)).mono ?_
      rintro e w1 ⟨ga, gc, rfl, ho, f1⟩
      rw [hB] at ho
      have hw1 : B ≤ w1.heap.size := by have := f1.size; omega
      go_wp2_with fail
      go_loopw [6, 27] (fun vr vi w3 => ∃ j : Nat, j ≤ k ∧ vi = .int .i64 j ∧ w3.ownsRow B 118 3 vr (C.take j).flatten.length ((C.take j).flatten.flatMap spC) ∧ Fr noB w w3) (fun _ vi _ => k - (RowKit.intOf vi).toNat)
      case atStart => exact ⟨0, by omega, rfl, by rw [h0.out]; exact ho, f1⟩
      case round =>
        obtain ⟨j, hj, rfl, hown, fr⟩ := hrel
        clear ho f1 hw1
        by_cases hlt2 : j < k
        · obtain ⟨l, hl⟩ := hget.out j hlt2
          obtain ⟨g, o, u, rfl, c0, c1⟩ := hx3.out j l hl
          replace c0 := fr.cell c0 (fun q => q)
          replace c1 := c1.frN fr
          have hor := c1.or
          obtain ⟨ua, uc, rfl, _, _, hu3, hu4⟩ := c1
          have hs2 := hst.out j l hl
          have hs3 := congrArg List.length hs2
          rw [List.length_append] at hs3
          have hq2 := hle.out (j + 1)
          have hb1 : (j : Int) < k := by omega
          have hone := flat_one l
          have hfl := flat_len l
          generalize hX : l.flatMap spC = X at *
          generalize hN : l.length = N at *
          have hw3 : B ≤ wr.heap.size := by have := fr.size; omega
          replace hX := Lib.hid hX
          replace hN := Lib.hid hN
          replace hl := Lib.hid hl
          replace hs2 := Lib.hid hs2
          clear hj hu4
          generalize hX1 : (C.take j).flatten.flatMap spC = X1 at *
          generalize hN1 : (C.take j).flatten.length = N1 at *
          replace hX1 := Lib.hid hX1
          replace hN1 := Lib.hid hN1
          replace hs3 := Lib.hid hs3
          replace hor := Lib.hid hor
          replace hone := Lib.hid hone
          go_wp2_with (first
            | (at_builtin; go_must (refine wpList_append_rd _ rfl (.tmp 31) (.tmp 32) 29 rfl B 118 i0 _ 3 32 Tryz.underlying29 hi hz0 hz1 hz2 rfl (by decide) _ N1 X1 rfl hown N _ X rfl hor.out hfl hone.out ?_ ?_ hw3 ?_))
            | fail)
          · have := hs3.out; unfold maxLen; omega
          · have := hs3.out; omega
          intro v8 w8 o8 f8
          have fr8 : Fr noB w w8 := fr.trans f8 (fun _ _ q => q) (fun i hi q => by have := (hown.lt i q).1; omega)
          rw [← hN1.out, ← hN.out, ← hX1.out, ← hX.out, ← List.length_append, ← List.flatMap_append, ← hs2.out] at o8
          replace o8 := Lib.hid o8
          go_wp2_with fail
          go_roundw
          case rel => exact ⟨j + 1, by omega, by go_num, o8.out, fr8⟩
          case measure => simp [RowKit.intOf]; omega
        · obtain rfl : j = k := by omega
          rw [hend.out, hT.out] at hown
          go_wp2_with fail
          go_ret
          exact ⟨u6, rfl, by rw [hT.out]; exact hown, fr⟩
theorem join_any (v : Value) (C : List (List Sp)) (w : World) (hv : RdR w v C) (ht : C.flatten.length ≤ 100000) :
    Calls Tryz.prog 131 #[v] w fun e w' => ∃ v', e = .returned v' ∧ w'.ownsRow w.heap.size 118 3 v' C.flatten.length (C.flatten.flatMap spC) ∧ Fr noB w w' := by
  have h := concat_any v C w hv ht
  replace h := Lib.hid h
  go_enter Tryz.func131, Tryz.ntmps131
  go_wp2_with fail
  refine h.out.mono ?_
  rintro e w1 ⟨v1, rfl, h1, h2⟩
  go_wp2_with fail
  go_ret
  exact ⟨_, rfl, h1, h2⟩
end Go.Proofs.YtdmhnoffejjpnaaGreatDoor
end

section
set_option linter.unusedVariables false
set_option linter.unusedSimpArgs false
set_option maxRecDepth 100000
namespace Go.Proofs.YtdmhnoffejjpnaaGreatDoor
open Go.RowKit Go Go.Lib

/-- a slice of ints that can be read -/
def RdI (w : World) (v : Value) (xs : List Int) : Prop :=
  ∃ a c, v = .slice a xs.length c ∧ xs.length ≤ 9223372036854775807 ∧ (xs.length ≤ c) ∧ ∀ i, i < xs.length → ∃ g o, a = some ⟨g, o, none⟩ ∧ w.cell? ⟨g, o + i, none⟩ = some (.int .i64 (xs.getD i 0))
theorem RdI.drewN {w : World} {v : Value} {xs : List Int} (h : RdI w v xs) (q : Nat) : RdI (w.drewN q) v xs := h
theorem RdI.of_own {w : World} {B n : Nat} {e : TypeId} {v : Value} {xs : List Int} (h : w.ownsRow B e 1 v n (xs.map (Value.int .i64))) : RdI w v xs := by
  have hl : xs.length = n := by simpa using h.1
  rcases h.2 with ⟨rfl, h1⟩ | ⟨g, cap, cur, rfl, h1, h2, h3, h4, h5⟩
  · subst h1
    have : xs = [] := List.eq_nil_of_length_eq_zero hl
    subst this
    exact ⟨none, 0, rfl, by simp, by simp, fun i hi => by simp at hi⟩
  · subst hl
    unfold maxLen at h4
    refine ⟨_, cap, rfl, by omega, h3, fun i hi => ⟨g, 0, rfl, ?_⟩⟩
    have := h.cells (g := g) rfl i (.int .i64 (xs.getD i 0)) (by simp [List.getD, hi])
    rwa [Addr.add_lit] at this
theorem RdI.fr {w w' : World} {v : Value} {xs : List Int} {S : Nat → Prop} (h : RdI w v xs) (hf : Fr S w w') (hS : ∀ g o n c, v = .slice (some ⟨g, o, none⟩) n c → ¬ S g) : RdI w' v xs := by
  obtain ⟨a, c, rfl, h1, h2, h3⟩ := h
  refine ⟨a, c, rfl, h1, h2, fun i hi => ?_⟩
  obtain ⟨g, o, rfl, h4⟩ := h3 i hi
  exact ⟨g, o, rfl, hf.cell h4 (hS _ _ _ _ rfl)⟩

set_option maxHeartbeats 400000 in
theorem sameInts_any (v u : Value) (xs ys : List Int) (w : World) (hv : RdI w v xs) (hu : RdI w u ys) :
    Calls Tryz.prog 72 #[v, u] w fun e w' => e = .returned (.bool (decide (xs = ys))) ∧ ∃ q, w' = w.drewN q := by
  obtain ⟨a, c, rfl, h1, h2, h3⟩ := hv
  obtain ⟨b, d, rfl, k1, k2, k3⟩ := hu
  by_cases hl : xs.length = ys.length
  · generalize hn : ys.length = n at *
    rw [hl] at h1 h2 h3 ⊢
    replace hn := Lib.hid hn
    replace hl := Lib.hid hl
    replace h3 := Lib.hid h3
    replace k3 := Lib.hid k3
    go_enter Tryz.func72, Tryz.ntmps72
    go_wp2_with fail
    go_loopw [5] (fun i wr => ∃ k : Nat, k ≤ n ∧ i = .int .i64 k ∧ Hid (xs.take k = ys.take k) ∧ ∃ q, wr = w.drewN q) (fun i _ => n - (RowKit.intOf i).toNat)
    case atStart => exact ⟨0, by omega, rfl, Lib.hid (by simp), 0, rfl⟩
    case round =>
      obtain ⟨k, hk, rfl, hkt, q, rfl⟩ := hrel
      by_cases hlt : k < n
      · obtain ⟨g, o, rfl, e1⟩ := h3.out k hlt
        obtain ⟨g2, o2, rfl, e2⟩ := k3.out k hlt
        have hx1 : xs.take (k + 1) = xs.take k ++ [xs.getD k 0] := by
          have : k < xs.length := by have := hl.out; omega
          rw [List.take_succ_eq_append_getElem this]; simp [List.getD, this]
        have hy1 : ys.take (k + 1) = ys.take k ++ [ys.getD k 0] := by
          have : k < ys.length := by have := hn.out; omega
          rw [List.take_succ_eq_append_getElem this]; simp [List.getD, this]
        generalize xs.getD k 0 = x at *
        generalize ys.getD k 0 = y at *
        replace hx1 := Lib.hid hx1
        replace hy1 := Lib.hid hy1
        replace e1 : (w.drewN q).cell? ⟨g, o + k, none⟩ = some (.int .i64 x) := e1
        replace e2 : (w.drewN q).cell? ⟨g2, o2 + k, none⟩ = some (.int .i64 y) := e2
        generalize hw : w.drewN q = wd at *
        replace hw := Lib.hid hw
        by_cases hxy : x = y
        · subst hxy
          go_wp2_with fail
          go_quiet (fail)
          go_wp2_with fail
          go_roundw
          case rel => exact ⟨k + 1, by omega, by go_num, Lib.hid (by rw [hx1.out, hy1.out, hkt.out]), _, by rw [← hw.out, World.drewN_drewN]⟩
          case measure => simp [RowKit.intOf]; omega
        · have hb : (x != y) = true := by simpa using hxy
          have hne : decide (xs = ys) = false := by
            simp only [decide_eq_false_iff_not]
            intro he
            subst he
            have h5 := hx1.out
            rw [hy1.out] at h5
            simp at h5
            exact hxy h5.symm
          replace hne := Lib.hid hne
          go_wp2_with fail
          go_quiet (fail)
          go_wp2_with fail
          go_ret
          exact ⟨by first | (rw [hne.out]; done) | (rw [hne.out]; rfl), _, by rw [← hw.out, World.drewN_drewN]⟩
      · obtain rfl : k = n := by omega
        have he : decide (xs = ys) = true := by
          have h5 := hkt.out
          rw [List.take_of_length_le (by have := hl.out; omega), List.take_of_length_le (by have := hn.out; omega)] at h5
          simpa using h5
        replace he := Lib.hid he
        go_wp2_with fail
        go_ret
        exact ⟨by first | (rw [he.out]; done) | (rw [he.out]; rfl), q, rfl⟩
  · have hd : ((xs.length : Int) != (ys.length : Int)) = true := by simp; omega
    have hne : decide (xs = ys) = false := by
      simp only [decide_eq_false_iff_not]
      intro he; exact hl (by rw [he])
    rw [hne]
    generalize xs.length = n at *
    generalize ys.length = m at *
    clear h3 k3
    go_enter Tryz.func72, Tryz.ntmps72
    go_wp2_with fail
    go_ret
    exact ⟨rfl, 0, rfl⟩
end Go.Proofs.YtdmhnoffejjpnaaGreatDoor
end
