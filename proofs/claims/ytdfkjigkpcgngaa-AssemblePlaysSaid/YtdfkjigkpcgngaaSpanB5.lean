/-
  span: Chunks, Join (slices.Grow, slices.Concat).
-/
import Derived.Test.YtdfkjigkpcgngaaSpanB4
import Derived.Lib.AppendZeros
import Derived.Laws.AppendOwnNone
set_option linter.unusedVariables false
set_option linter.unusedSimpArgs false
set_option maxRecDepth 100000
set_option maxRecDepth 100000
namespace Go.Proofs.Ytdfkjigkpcgngaa
open Go.RowKit Go Go.Lib

theorem Try.infoRow : (Try.prog.info? 32).map (fun i => (i.zero, i.size, i.bytes)) = some (some (.slice none 0 0), 1, 24) := by kernel_rfl

/-- append of a slice that may be nil -/
theorem wpList_append_rd {P : Program} (w : World) {ops : Array Oper} {rest : List Oper} {o : Oper} {a : Act} {Q : Exit → Act → World → Prop} (hgd : o.guard = none) (s x : Operand) (t : TypeId)
    (ho : o.op = .call { callee := .builtin .append, args := #[s, x], argTypes := #[t, t] })
    (base : Nat) (e : TypeId) (i : TypeInfo) (z : Value) (size bytes : Nat) (ht : P.underlying t = some (.slice e)) (hi : P.info? e = some i) (hz : i.zero = some z)
    (hsize : i.size = size) (hby : i.bytes = bytes) (hzs : z.cells.size = size) (hsz : 0 < size)
    (v : Value) (n : Nat) (xs : List Value) (hs : a.eval s = v) (hown : w.ownsRow base e size v n xs)
    (m : Nat) (u : Value) (news : List Value) (hx : a.eval x = u) (hu : (u = .slice none 0 0 ∧ m = 0 ∧ news = []) ∨ ∃ ad c, u = .slice (some ad) m c ∧ ∀ j q, news[j]? = some q → w.cell? (ad.add j) = some q) (hl : news.length = m * size) (h1 : ∀ u ∈ news, u.oneCell' = true)
    (h63 : n + m ≤ maxLen) (hbytes : (n + m) * bytes ≤ 140737488355328) (hbase : base ≤ w.heap.size)
    (h : ∀ v' w', w'.ownsRow base e size v' (n + m) (xs ++ news) → Fr (fun k => v.ownBlock = some k) w w' → wpList P ops Q rest (a.put o.dst v') w') : wpList P ops Q (o :: rest) a w := by
  rcases hu with ⟨rfl, rfl, rfl⟩ | ⟨ad, c, rfl, hnews⟩
  · exact wpList_append_own_none hgd s x t ho base e i size ht hi v n xs hs hown hx (h v w (by simpa using hown) (Fr.refl _ _))
  · refine wpList_append_at w (by simp [Region.wanted, hgd]) s x t ho base e i z size bytes ht hi hz hsize hby hzs hsz v n xs hs hown ad m c news hx hl hnews h1 h63 hbytes hbase fun v' w' q1 q2 _ => h v' w' q1 ((Fr.refl _ w).grown q2 (fun k hk _ => hk))

theorem RdSp.or {w : World} {u : Value} {L : List Sp} (h : RdSp w u L) : (u = .slice none 0 0 ∧ L.length = 0 ∧ L.flatMap spC = []) ∨ ∃ ad c, u = .slice (some ad) L.length c ∧ ∀ j q, (L.flatMap spC)[j]? = some q → w.cell? (ad.add j) = some q := by
  have h0 := h
  obtain ⟨a, c, rfl, hl, hc, hn, h1⟩ := h
  cases a with
  | none =>
    have hc0 := hn rfl
    subst hc0
    have hL : L = [] := List.eq_nil_of_length_eq_zero (by omega)
    subst hL
    exact Or.inl ⟨rfl, rfl, rfl⟩
  | some ad => exact Or.inr ⟨ad, c, rfl, h0.src⟩

theorem zero_row (w : World) (n c : Nat) (h : n ≤ c) (hc : c ≤ maxLen) : (w.alloc (.cells (Builtin.zeroCells (Value.agg #[.int .i64 0, .int .i64 0, .string (ByteArray.mk #[])]).cells n ++ Builtin.zeroCells (Value.agg #[.int .i64 0, .int .i64 0, .string (ByteArray.mk #[])]).cells (c - n)) 63)).ownsRow w.heap.size 63 3 (.slice (some ⟨w.heap.size, 0, none⟩) 0 c) 0 [] := by
  have hz : ∀ k, (Builtin.zeroCells (Value.agg #[.int .i64 0, .int .i64 0, .string (ByteArray.mk #[])]).cells k).size = k * 3 := fun k => by
    unfold Builtin.zeroCells
    simp [Value.cells]
  have h1 := hz n
  have h2 := hz (c - n)
  generalize Builtin.zeroCells (Value.agg #[.int .i64 0, .int .i64 0, .string (ByteArray.mk #[])]).cells n = A1 at *
  generalize Builtin.zeroCells (Value.agg #[.int .i64 0, .int .i64 0, .string (ByteArray.mk #[])]).cells (c - n) = A2 at *
  have hb : (w.alloc (.cells (A1 ++ A2) 63)).heap[w.heap.size]? = some (.cells (A1 ++ A2) 63 (0, 0)) := by
    have hb := Blk.new w 63 (A1 ++ A2).toList
    unfold Blk at hb
    rwa [Array.toArray_toList] at hb
  refine ⟨rfl, Or.inr ⟨_, c, _, rfl, Nat.le_refl _, hb, Nat.zero_le _, hc, ?_, by simp⟩⟩
  rw [Array.size_append, h1, h2]
  omega

set_option maxHeartbeats 1000000 in
theorem grow_any (n : Nat) (w : World) (hn : n ≤ 1000000) :
    Calls Try.prog 52 #[.slice none 0 0, .int .i64 n] w fun e w' => ∃ a c, e = .returned (.slice a 0 c) ∧ w'.ownsRow w.heap.size 63 3 (.slice a 0 c) 0 [] ∧ Fr noB w w' := by
  obtain ⟨i0, hi, hz0, hz1, hz2⟩ := info_parts Try.infoSpan
  have h1 : ¬ ((n : Int) < 0) := by omega
  by_cases h0 : n = 0
  · subst h0
    go_enter Try.func52, Try.ntmps52
    go_wp2
    go_ret
    exact ⟨_, _, rfl, World.ownsRow_nil _ _ _ _, Fr.refl _ _⟩
  · have h4 : (n : Int) > 0 := by omega
    have hr := fun ty => Lib.run_append_nil_zeros (P := Try.prog) w 32 3 ty 63 i0 _ .i64 .i64 Try.underlying32 Try.underlying3 hi hz0 n (by omega) (by rw [hz1]; decide) (by omega) (by rw [hz2]; omega)
    have hge : n ≤ grownCap w n 0 63 := grownCap_ge w _ _ _
    have hle : grownCap w n 0 63 ≤ maxLen := grownCap_le_maxLen w n 0 63 (by unfold maxLen; omega)
    have hzr := zero_row w.drew n (grownCap w n 0 63) hge hle
    have fr : Fr noB w (w.drew.alloc (.cells (Builtin.zeroCells (Value.agg #[.int .i64 0, .int .i64 0, .string (ByteArray.mk #[])]).cells n ++ Builtin.zeroCells (Value.agg #[.int .i64 0, .int .i64 0, .string (ByteArray.mk #[])]).cells (grownCap w n 0 63 - n)) 63)) := (Fr.refl _ w).drew.alloc _
    obtain ⟨G, hG⟩ : ∃ G, grownCap w n 0 63 = G := ⟨_, rfl⟩
    rw [hG] at hr hge hle hzr fr
    have hG63 : G ≤ 9223372036854775807 := by unfold maxLen at hle; omega
    generalize hW : (w.drew.alloc (.cells (Builtin.zeroCells (Value.agg #[.int .i64 0, .int .i64 0, .string (ByteArray.mk #[])]).cells n ++ Builtin.zeroCells (Value.agg #[.int .i64 0, .int .i64 0, .string (ByteArray.mk #[])]).cells (G - n)) 63)) = w2 at *
    clear hW hG
    replace hzr := Lib.hid hzr
    replace fr := Lib.hid fr
    go_enter Try.func52, Try.ntmps52
    go_wp2_with (at_builtin; refine Lib.wpList_append_run _ rfl _ _ _ _ rfl _ _ rfl rfl _ _ (hr _) ?_)
    all_goals (go_ret; exact ⟨_, _, rfl, hzr.out, fr.out⟩)

/-- a slice of rows that can be read -/
def RdR (w : World) (v : Value) (C : List (List Sp)) : Prop := ∃ a c, v = .slice a C.length c ∧ C.length ≤ c ∧ c ≤ maxLen ∧ ∀ i l, C[i]? = some l → ∃ g o u, a = some ⟨g, o, none⟩ ∧ w.cell? ⟨g, o + i, none⟩ = some u ∧ RdSp w u l
theorem RdR.frN {w w' : World} {v : Value} {C : List (List Sp)} (h : RdR w v C) (hf : Fr noB w w') : RdR w' v C := by
  obtain ⟨a, c, rfl, hl, hc, h1⟩ := h
  refine ⟨a, c, rfl, hl, hc, fun i l hi => ?_⟩
  obtain ⟨g, o, u, rfl, c0, c1⟩ := h1 i l hi
  exact ⟨g, o, u, rfl, hf.cell c0 (fun q => q), c1.frN hf⟩
theorem RdR.of_own {w : World} {B B' : Nat} {v : Value} {P : List (Value × List Sp)} (h : w.ownsRow B 32 1 v P.length (P.map Prod.fst)) (hp : OwnP w B' P) : RdR w v (P.map Prod.snd) := by
  have hcell := fun g (hg : v.ownBlock = some g) => h.cells hg
  rcases h.2 with ⟨rfl, h1⟩ | ⟨g, cap, cur, rfl, hb, hg, hnc, hcm, hcs, htake⟩
  · refine ⟨none, 0, by simp [h1], by simp [h1], by simp [maxLen], fun i l hi => ?_⟩
    rw [List.eq_nil_of_length_eq_zero h1] at hi
    simp at hi
  · refine ⟨_, cap, by rw [List.length_map], by rw [List.length_map]; exact hnc, hcm, fun i l hi => ?_⟩
    rw [List.getElem?_map] at hi
    cases hq : P[i]? with
    | none => rw [hq] at hi; cases hi
    | some p =>
      rw [hq] at hi
      simp at hi
      subst hi
      have h2 := hcell g rfl i p.1 (by rw [List.getElem?_map, hq]; rfl)
      rw [add_none] at h2
      exact ⟨g, 0, p.1, rfl, h2, RdSp.of_own (hp p (List.mem_of_getElem? hq)) rfl⟩

theorem total_step (C : List (List Sp)) (k : Nat) (l : List Sp) (h : C[k]? = some l) : (C.take (k + 1)).flatten = (C.take k).flatten ++ l := by
  rw [List.take_add_one, h]
  simp

theorem wrap_sum2 (a b : Nat) (h : a + b ≤ 1000000) : wrap64 ((a : Int) + (b : Int)) = (a : Int) + (b : Int) := by unfold wrap64; omega
theorem wrap_sum3 (a b : Nat) (h : a + b ≤ 1000000) : ¬ wrap64 ((a : Int) + (b : Int)) < 0 := by rw [wrap_sum2 a b h]; omega
set_option maxHeartbeats 4000000 in
theorem concat_any (v : Value) (C : List (List Sp)) (w : World) (hv : RdR w v C) (ht : C.flatten.length ≤ 100000) :
    Calls Try.prog 49 #[v] w fun e w' => ∃ v', e = .returned v' ∧ w'.ownsRow w.heap.size 63 3 v' C.flatten.length (C.flatten.flatMap spC) ∧ Fr noB w w' := by
  obtain ⟨a, c, rfl, hx1, hx2, hx3⟩ := hv
  unfold maxLen at hx2
  obtain ⟨i0, hi, hz0, hz1, hz2⟩ := info_parts Try.infoSpan
  have hget : ∀ k, k < C.length → ∃ m, C[k]? = some m := fun k hk => ⟨C[k], List.getElem?_eq_getElem hk⟩
  have hst := total_step C
  have hle : ∀ k, (C.take k).flatten.length ≤ 100000 := fun k => by
    have h1 : (C.take k).flatten.length + (C.drop k).flatten.length = C.flatten.length := by rw [← List.length_append, ← List.flatten_append, List.take_append_drop]
    omega
  have h0 : (C.take 0).flatten = [] := rfl
  have hend : (C.take C.length).flatten = C.flatten := by rw [List.take_length]
  generalize hn : C.length = n at *
  have hnb : n ≤ 9223372036854775807 := by omega
  replace hx3 := Lib.hid hx3
  replace hget := Lib.hid hget
  replace hst := Lib.hid hst
  replace hle := Lib.hid hle
  replace hn := Lib.hid hn
  replace hend := Lib.hid hend
  replace h0 := Lib.hid h0
  obtain ⟨B, hB⟩ : ∃ B, w.heap.size = B := ⟨_, rfl⟩
  rw [hB]
  go_enter Try.func49, Try.ntmps49
  go_wp2_with fail
  go_loopw [3, 11] (fun vs vi wr => ∃ k : Nat, k ≤ n ∧ vi = .int .i64 k ∧ vs = .int .i64 ((C.take k).flatten.length : Nat) ∧ wr = w) (fun _ vi _ => n - (RowKit.intOf vi).toNat)
  case atStart => exact ⟨0, by omega, rfl, by rw [h0.out]; rfl, rfl⟩
  case round =>
    obtain ⟨k, hk, rfl, rfl, hwr⟩ := hrel
    obtain rfl := hwr.symm
    by_cases hlt : k < n
    · obtain ⟨l, hl⟩ := hget.out k hlt
      obtain ⟨g, o, u, rfl, c0, c1⟩ := hx3.out k l hl
      obtain ⟨ua, uc, rfl, _, _, _, _⟩ := c1
      have hs2 := congrArg List.length (hst.out k l hl)
      rw [List.length_append] at hs2
      have hq := hle.out (k + 1)
      have hb1 : (k : Int) < n := by omega
      have hle1 : (C.take k).flatten.length + l.length ≤ 1000000 := by omega
      have hsum := wrap_sum2 _ _ hle1
      have hpos : ¬ wrap64 ((((C.take k).flatten.length : Nat) : Int) + (l.length : Int)) < 0 := wrap_sum3 _ _ hle1
      have hcast : (((C.take k).flatten.length : Nat) : Int) + (l.length : Int) = (((C.take (k + 1)).flatten.length : Nat) : Int) := by rw [hs2]; simp
      generalize (C.take k).flatten.length = T1 at *
      replace hcast := Lib.hid hcast
      replace hsum := Lib.hid hsum
      replace hle1 := Lib.hid hle1
      clear hq
      replace hl := Lib.hid hl
      replace hs2 := Lib.hid hs2
      clear hk
      go_wp2_with fail
      go_roundw
      case rel => exact ⟨k + 1, by omega, by go_num, by rw [hsum.out, hcast.out], trivial⟩
      case measure => simp [RowKit.intOf]; omega
    · obtain rfl : k = n := by omega
      have hq := hle.out k
      rw [hend.out] at hq
      rw [hend.out]
      generalize hT : C.flatten.length = T at *
      have hTb : T ≤ 100000 := hq
      replace hT := Lib.hid hT
      go_wp2_with fail
      refine (grow_any T _ (by omega)).mono ?_
      rintro e w1 ⟨ga, gc, rfl, ho, f1⟩
      rw [hB] at ho
      have hw1 : B ≤ w1.heap.size := by have := f1.size; omega
      go_wp2_with fail
      go_loopw [6, 27] (fun vr vi w3 => ∃ j : Nat, j ≤ k ∧ vi = .int .i64 j ∧ w3.ownsRow B 63 3 vr (C.take j).flatten.length ((C.take j).flatten.flatMap spC) ∧ Fr noB w w3) (fun _ vi _ => k - (RowKit.intOf vi).toNat)
      case atStart => exact ⟨0, by omega, rfl, by rw [h0.out]; exact ho, f1⟩
      case round =>
        obtain ⟨j, hj, rfl, hown, fr⟩ := hrel
        clear ho f1 hw1
        by_cases hlt2 : j < k
        · obtain ⟨l, hl⟩ := hget.out j hlt2
          obtain ⟨g, o, u, rfl, c0, c1⟩ := hx3.out j l hl
          replace c0 := fr.cell c0 (fun q => q)
          replace c1 := c1.frN fr
          have hor := c1.or
          obtain ⟨ua, uc, rfl, _, _, hu3, hu4⟩ := c1
          have hs2 := hst.out j l hl
          have hs3 := congrArg List.length hs2
          rw [List.length_append] at hs3
          have hq2 := hle.out (j + 1)
          have hb1 : (j : Int) < k := by omega
          have hone := flat_one l
          have hfl := flat_lenS l
          generalize hX : l.flatMap spC = X at *
          generalize hN : l.length = N at *
          have hw3 : B ≤ wr.heap.size := by have := fr.size; omega
          replace hX := Lib.hid hX
          replace hN := Lib.hid hN
          replace hl := Lib.hid hl
          replace hs2 := Lib.hid hs2
          clear hj hu4
          generalize hX1 : (C.take j).flatten.flatMap spC = X1 at *
          generalize hN1 : (C.take j).flatten.length = N1 at *
          replace hX1 := Lib.hid hX1
          replace hN1 := Lib.hid hN1
          replace hs3 := Lib.hid hs3
          replace hor := Lib.hid hor
          replace hone := Lib.hid hone
          go_wp2_with (first
            | (at_builtin; go_must (refine wpList_append_rd _ rfl (.tmp 31) (.tmp 32) 32 rfl B 63 i0 _ 3 32 Try.underlying32 hi hz0 hz1 hz2 rfl (by decide) _ N1 X1 rfl hown N _ X rfl hor.out hfl hone.out ?_ ?_ hw3 ?_))
            | fail)
          · have := hs3.out; unfold maxLen; omega
          · have := hs3.out; omega
          intro v8 w8 o8 f8
          have fr8 : Fr noB w w8 := fr.trans f8 (fun _ _ q => q) (fun i hi q => by have := (hown.lt i q).1; omega)
          rw [← hN1.out, ← hN.out, ← hX1.out, ← hX.out, ← List.length_append, ← List.flatMap_append, ← hs2.out] at o8
          replace o8 := Lib.hid o8
          go_wp2_with fail
          go_roundw
          case rel => exact ⟨j + 1, by omega, by go_num, o8.out, fr8⟩
          case measure => simp [RowKit.intOf]; omega
        · obtain rfl : j = k := by omega
          rw [hend.out, hT.out] at hown
          go_wp2_with fail
          go_ret
          exact ⟨u6, rfl, by rw [hT.out]; exact hown, fr⟩
theorem join_any (v : Value) (C : List (List Sp)) (w : World) (hv : RdR w v C) (ht : C.flatten.length ≤ 100000) :
    Calls Try.prog 38 #[v] w fun e w' => ∃ v', e = .returned v' ∧ w'.ownsRow w.heap.size 63 3 v' C.flatten.length (C.flatten.flatMap spC) ∧ Fr noB w w' := by
  have h := concat_any v C w hv ht
  replace h := Lib.hid h
  go_enter Try.func38, Try.ntmps38
  go_wp2_with fail
  refine h.out.mono ?_
  rintro e w1 ⟨v1, rfl, h1, h2⟩
  go_wp2_with fail
  go_ret
  exact ⟨_, rfl, h1, h2⟩
end Go.Proofs.Ytdfkjigkpcgngaa
