/-
  The document's keeper, by definition: its state; whether a number is in a list; a list without a number.
-/
import Derived.Test.YtnecglghinpgmaaRefDrop
set_option linter.unusedVariables false
set_option linter.unusedSimpArgs false
namespace Go.Proofs.Ytnecglghinpgmaa
open Go.RowKit Go Go.Maps Go.Lib

set_option maxHeartbeats 400000 in
theorem rin_any (v : Value) (xs : List Int) (x : Int) (w : World) (hv : RdI w v xs) :
    Calls Try.prog 18 #[v, .int .i64 x] w fun e w' => e = .returned (.bool (decide (x ∈ xs))) ∧ w' = w := by
  obtain ⟨a, c, rfl, h1, h2, h3⟩ := hv
  generalize hn : xs.length = n at *
  replace hn := Lib.hid hn
  replace h3 := Lib.hid h3
  go_enter Try.func18, Try.ntmps18
  go_wp2_with fail
  go_loop [5] (fun i => ∃ k : Nat, k ≤ n ∧ i = .int .i64 k ∧ Hid (x ∉ xs.take k)) (fun i => n - (RowKit.intOf i).toNat)
  case atStart => exact ⟨0, by omega, rfl, Lib.hid (by simp)⟩
  case round =>
    obtain ⟨k, hk, rfl, hkt⟩ := hrel
    by_cases hlt : k < n
    · obtain ⟨g, o, rfl, e1⟩ := h3.out k hlt
      have hkx : k < xs.length := by have := hn.out; omega
      have hx1 : xs.take (k + 1) = xs.take k ++ [xs.getD k 0] := by
        rw [List.take_succ_eq_append_getElem hkx]; simp [List.getD, hkx]
      have hym : xs.getD k 0 ∈ xs := by
        have : xs[k]? = some (xs.getD k 0) := by simp [List.getD, hkx]
        exact List.mem_of_getElem? this
      generalize xs.getD k 0 = y at *
      replace hx1 := Lib.hid hx1
      by_cases hxy : y = x
      · subst hxy
        have he : decide (y ∈ xs) = true := by simpa using hym
        have hb : (y == y) = true := by simp
        replace he := Lib.hid he
        clear hym hkx
        go_wp2_with fail
        go_ret
        exact ⟨by first | (rw [he.out]; done) | (rw [he.out]; rfl), rfl⟩
      · have hb : (y == x) = false := by simpa using hxy
        have hk2 : Hid (x ∉ xs.take (k + 1)) := Lib.hid (by
          rw [hx1.out, List.mem_append]
          exact fun z => z.elim hkt.out (fun z => hxy (List.mem_singleton.1 z).symm))
        clear hym hkx hkt hx1
        go_wp2_with fail
        go_round
        case rel => exact ⟨k + 1, by omega, by go_num, hk2⟩
        case measure => simp [RowKit.intOf]; omega
    · obtain rfl : k = n := by omega
      have he : decide (x ∈ xs) = false := by
        have h5 := hkt.out
        rw [List.take_of_length_le (by have := hn.out; omega)] at h5
        simpa using h5
      replace he := Lib.hid he
      go_wp2_with fail
      go_ret
      exact ⟨by first | (rw [he.out]; done) | (rw [he.out]; rfl), rfl⟩

theorem outL_snoc (l : List Int) (x y : Int) : outL (l ++ [y]) x = outL l x ++ if y = x then [] else [y] := by
  unfold outL
  rw [List.filter_append]
  by_cases h : y = x <;> simp [h]
set_option maxHeartbeats 1000000 in
set_option maxRecDepth 10000 in
theorem rout_any (v : Value) (xs : List Int) (x : Int) (w : World) (hv : RdI w v xs) (hl : xs.length ≤ 1000000) :
    Calls Try.prog 37 #[v, .int .i64 x] w fun e w' => ∃ u, e = .returned u ∧ w'.ownsRow w.heap.size 3 1 u (outL xs x).length (rowV (outL xs x)) ∧ Fr noB w w' := by
  obtain ⟨i0, hi0, hz0, hz1, hz2⟩ : ∃ i0, Try.prog.info? 3 = some i0 ∧ i0.zero = some (.int .i64 0) ∧ i0.size = 1 ∧ i0.bytes = 8 := by
    have hI := infoIntR
    cases hq : Try.prog.info? 3 with
    | none => rw [hq] at hI; cases hI
    | some k => rw [hq] at hI; simp at hI; exact ⟨k, rfl, hI⟩
  obtain ⟨a, c, rfl, h1, h2, h3⟩ := hv
  generalize hn : xs.length = n at *
  replace hn := Lib.hid hn
  replace h3 := Lib.hid h3
  generalize hB : w.heap.size = B at *
  replace hB := Lib.hid hB
  go_enter Try.func37, Try.ntmps37
  go_wp2_with fail
  go_loopw [5, 6] (fun ov i wr => ∃ (k : Nat) (O : List Int), k ≤ n ∧ i = .int .i64 k ∧ wr.ownsRow B 3 1 ov O.length (rowV O) ∧ Hid (O = outL (xs.take k) x) ∧ Fr noB w wr) (fun _ i _ => n - (RowKit.intOf i).toNat)
  case atStart => exact ⟨0, [], by omega, rfl, World.ownsRow_nil _ _ _ _, Lib.hid (by simp [outL]), Fr.refl _ _⟩
  case round =>
    obtain ⟨k, O, hk, rfl, own, hO, fr⟩ := hrel
    have hOl : O.length ≤ k := by rw [hO.out]; exact Nat.le_trans (outL_len _ _) (List.length_take_le _ _)
    by_cases hlt : k < n
    · obtain ⟨g, o, rfl, e0⟩ := h3.out k hlt
      have e1 := fr.cell e0 (fun q => q)
      have hkx : k < xs.length := by have := hn.out; omega
      have hx1 : xs.take (k + 1) = xs.take k ++ [xs.getD k 0] := by
        rw [List.take_succ_eq_append_getElem hkx]; simp [List.getD, hkx]
      generalize xs.getD k 0 = y at *
      replace hx1 := Lib.hid hx1
      replace e0 := Lib.hid e0
      clear hkx
      have hBr : B ≤ wr.heap.size := by rw [← hB.out]; exact fr.size
      by_cases hxy : y = x
      · have hb : (y != x) = false := by simpa using hxy
        have hO1 : Hid (O = outL (xs.take (k + 1)) x) := Lib.hid (by rw [hx1.out, outL_snoc, if_pos hxy, List.append_nil]; exact hO.out)
        replace hxy := Lib.hid hxy
        clear hO hx1
        go_wp2_with fail
        go_roundw
        case rel => exact ⟨k + 1, O, by omega, by go_num, own, hO1, fr⟩
        case measure => simp [RowKit.intOf]; omega
      · have hb : (y != x) = true := by simpa using hxy
        have hO1 : Hid (O ++ [y] = outL (xs.take (k + 1)) x) := Lib.hid (by rw [hx1.out, outL_snoc, if_neg hxy, ← hO.out])
        have hA : (wr.alloc (.cells #[.int .i64 y] 3)).ownsRow B 3 1 u5 O.length (rowV O) := ownsRow_fr own ((Fr.refl noB wr).alloc _) (fun _ _ q => q)
        have hN := cell_new wr (.int .i64 y) 3
        replace hxy := Lib.hid hxy
        clear hO hx1
        go_wp2_with (first
          | (at_builtin; go_must (refine wpList_append_at _ rfl (.tmp 19) (.tmp 24) 44 rfl B 3 i0 _ 1 8 Try.underlying44 hi0 hz0 hz1 hz2 rfl (by omega) _ O.length _ rfl hA ⟨wr.heap.size, 0, none⟩ 1 1 [.int .i64 y] rfl rfl hN (one_int _ _) ?_ ?_ ?_ ?_))
          | fail)
        · unfold maxLen; omega
        · omega
        · have := ((Fr.refl noB wr).alloc (.cells #[.int .i64 y] 3)).size; omega
        intro v' w1 o1 gr1 _
        obtain ⟨own1, fr1⟩ := grow_int hB fr hA o1 gr1
        clear hA hN o1 gr1 own fr e1
        go_wp2_with fail
        go_roundw
        case rel => exact ⟨k + 1, O ++ [y], by omega, by go_num, own1, hO1, fr1⟩
        case measure => simp [RowKit.intOf]; omega
    · obtain rfl : k = n := by omega
      have hO1 := hO.out
      rw [List.take_of_length_le (by have := hn.out; omega)] at hO1
      replace hO1 := Lib.hid hO1
      go_wp2_with fail
      go_ret
      exact ⟨_, rfl, by rw [← hO1.out]; exact own, fr⟩

/-! ### The state -/
structure Rk (w : World) (k g B N : Nat) (K : KS) (vp vl vg : Value) (S : Nat → Prop) : Prop where
  blk : Blk w k 46 [.pointer (some ⟨g, 0, none⟩), .int .u64 K.sd, vp, vl, vg]
  pool : Rp w g B N K.P S
  rp : w.ownsRow B 3 1 vp K.pins.length (rowV K.pins)
  rl : w.ownsRow B 3 1 vl K.loss.length (rowV K.loss)
  rg : w.ownsRow B 3 1 vg K.gone.length (rowV K.gone)
  kB : k < B
  gB : g < B
  Bw : B ≤ w.heap.size
  sk : ¬ S k
  sp : ∀ q, vp.ownBlock = some q → ¬ S q
  sl : ∀ q, vl.ownBlock = some q → ¬ S q
  sg : ∀ q, vg.ownBlock = some q → ¬ S q
  pl : ∀ q, vp.ownBlock = some q → vl.ownBlock ≠ some q
  pg : ∀ q, vp.ownBlock = some q → vg.ownBlock ≠ some q
  lg : ∀ q, vl.ownBlock = some q → vg.ownBlock ≠ some q
  low : ∀ q, S q → q < w.heap.size
/-- all that it holds -/
def rkS (k : Nat) (vp vl vg : Value) (S : Nat → Prop) : Nat → Prop := fun q => q = k ∨ vp.ownBlock = some q ∨ vl.ownBlock = some q ∨ vg.ownBlock = some q ∨ S q
theorem Rk.fr {w w' : World} {k g B N : Nat} {K : KS} {vp vl vg : Value} {S T : Nat → Prop} (h : Rk w k g B N K vp vl vg S) (hf : Fr T w w') (hT : ∀ q, rkS k vp vl vg S q → ¬ T q) : Rk w' k g B N K vp vl vg S :=
  ⟨hf.blk h.blk (hT _ (Or.inl rfl)), h.pool.fr hf (fun q hq => hT q (Or.inr (Or.inr (Or.inr (Or.inr hq))))), ownsRow_fr h.rp hf (fun q hq => hT q (Or.inr (Or.inl hq))), ownsRow_fr h.rl hf (fun q hq => hT q (Or.inr (Or.inr (Or.inl hq)))),
   ownsRow_fr h.rg hf (fun q hq => hT q (Or.inr (Or.inr (Or.inr (Or.inl hq))))), h.kB, h.gB, Nat.le_trans h.Bw hf.size, h.sk, h.sp, h.sl, h.sg, h.pl, h.pg, h.lg, fun q hq => Nat.lt_of_lt_of_le (h.low q hq) hf.size⟩
theorem Rk.lowk {w : World} {k g B N : Nat} {K : KS} {vp vl vg : Value} {S : Nat → Prop} (h : Rk w k g B N K vp vl vg S) {q : Nat} (hq : rkS k vp vl vg S q) : q < w.heap.size := by
  rcases hq with e | e | e | e | e
  · have := h.kB; have := h.Bw; omega
  · exact (h.rp.lt q e).2
  · exact (h.rl.lt q e).2
  · exact (h.rg.lt q e).2
  · exact h.low q e
theorem Rk.frN {w w' : World} {k g B N : Nat} {K : KS} {vp vl vg : Value} {S : Nat → Prop} (h : Rk w k g B N K vp vl vg S) (hf : Fr noB w w') : Rk w' k g B N K vp vl vg S := h.fr hf (fun _ _ q => q)
theorem Rk.pin {w : World} {k g B N : Nat} {K : KS} {vp vl vg : Value} {S : Nat → Prop} (h : Rk w k g B N K vp vl vg S) : RdI w vp K.pins := RdI.of_own h.rp
theorem Rk.los {w : World} {k g B N : Nat} {K : KS} {vp vl vg : Value} {S : Nat → Prop} (h : Rk w k g B N K vp vl vg S) : RdI w vl K.loss := RdI.of_own h.rl
theorem Rk.gon {w : World} {k g B N : Nat} {K : KS} {vp vl vg : Value} {S : Nat → Prop} (h : Rk w k g B N K vp vl vg S) : RdI w vg K.gone := RdI.of_own h.rg
/-- The keeper, its blocks among T. -/
def Rx (w : World) (k g B N : Nat) (K : KS) (T : Nat → Prop) : Prop := ∃ vp vl vg S, Rk w k g B N K vp vl vg S ∧ ∀ q, rkS k vp vl vg S q → T q
theorem Rx.fr {w w' : World} {k g B N : Nat} {K : KS} {T U : Nat → Prop} (h : Rx w k g B N K T) (hf : Fr U w w') (hU : ∀ q, T q → ¬ U q) : Rx w' k g B N K T := by
  obtain ⟨vp, vl, vg, S, h1, h2⟩ := h
  exact ⟨vp, vl, vg, S, h1.fr hf (fun q hq => hU q (h2 q hq)), h2⟩
theorem Rx.frN {w w' : World} {k g B N : Nat} {K : KS} {T : Nat → Prop} (h : Rx w k g B N K T) (hf : Fr noB w w') : Rx w' k g B N K T := h.fr hf (fun _ _ q => q)

set_option maxHeartbeats 1000000 in
theorem rknew_any (N : Nat) (sd : Int) (w : World) (hN : N ≤ 16) : Calls Try.prog 11 #[.int .i64 N, .int .u64 sd] w fun e w' => ∃ k g B, e = .returned (.pointer (some ⟨k, 0, none⟩)) ∧ Rx w' k g B N ⟨sd, [], [], [], []⟩ (fun q => w.heap.size ≤ q ∧ q < w'.heap.size) ∧ Fr noB w w' := by
  go_enter Try.func11, Try.ntmps11
  go_wp2_with fail
  go_ret
  have fa := (Fr.refl noB w).alloc (.cells #[.int .i64 N, .slice none 0 0, .slice none 0 0] 55)
  have fb := (Fr.refl noB (w.alloc (.cells #[.int .i64 N, .slice none 0 0, .slice none 0 0] 55))).alloc (.cells #[.pointer (some ⟨w.heap.size, 0, none⟩), .int .u64 sd, .slice none 0 0, .slice none 0 0, .slice none 0 0] 46)
  have b1 := Blk.new w 55 [.int .i64 N, .slice none 0 0, .slice none 0 0]
  have b2 := Blk.new (w.alloc (.cells #[.int .i64 N, .slice none 0 0, .slice none 0 0] 55)) 46 [.pointer (some ⟨w.heap.size, 0, none⟩), .int .u64 sd, .slice none 0 0, .slice none 0 0, .slice none 0 0]
  have s1 : (w.alloc (.cells #[.int .i64 N, .slice none 0 0, .slice none 0 0] 55)).heap.size = w.heap.size + 1 := by simp
  rw [s1] at b2
  have b1' := fb.blk b1 (fun q => q)
  have ff : Fr noB w _ := fa.seqN fb
  refine ⟨w.heap.size + 1, w.heap.size, w.heap.size + 2, rfl, ?_, ff⟩
  have hz : ∀ q, (Value.slice none 0 0).ownBlock = some q → False := fun q e => by cases e
  have hrq : Rq ((w.alloc (.cells #[.int .i64 N, .slice none 0 0, .slice none 0 0] 55)).alloc (.cells #[.pointer (some ⟨w.heap.size, 0, none⟩), .int .u64 sd, .slice none 0 0, .slice none 0 0, .slice none 0 0] 46)) w.heap.size (w.heap.size + 2) N [] (.slice none 0 0) (.slice none 0 0) [] :=
    ⟨b1', World.ownsRow_nil _ _ _ _, World.ownsRow_nil _ _ _ _, Rows2.nil _ _, by omega, by simp, List.Pairwise.nil, fun p hp => by simp at hp, by simp [used], hN⟩
  refine ⟨.slice none 0 0, .slice none 0 0, .slice none 0 0, fun q => q = w.heap.size, ⟨b2, ⟨_, _, _, hrq, fun q hq => ?_⟩, World.ownsRow_nil _ _ _ _, World.ownsRow_nil _ _ _ _, World.ownsRow_nil _ _ _ _, by omega, by omega, by simp, by omega, fun q e => (hz q e).elim, fun q e => (hz q e).elim, fun q e => (hz q e).elim, fun q e => (hz q e).elim, fun q e => (hz q e).elim, fun q e => (hz q e).elim, fun q e => by subst e; simp; omega⟩, fun q hq => ?_⟩
  · rcases hq with e | e | e | ⟨z, hz', _⟩
    · exact e
    · exact (hz q e).elim
    · exact (hz q e).elim
    · cases hz'
  · rcases hq with e | e | e | e | e
    · subst e; simp
    · exact (hz q e).elim
    · exact (hz q e).elim
    · exact (hz q e).elim
    · subst e; simp; omega
end Go.Proofs.Ytnecglghinpgmaa
