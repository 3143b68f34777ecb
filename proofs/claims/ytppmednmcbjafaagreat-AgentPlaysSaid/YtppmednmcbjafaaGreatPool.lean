/-
  The pool's calls: of, New, Size, room, Free.
-/
import Derived.Test.YtppmednmcbjafaaGreatPoolOps
import Derived.Test.YtppmednmcbjafaaGreatAppend
import Derived.Test.YtppmednmcbjafaaGreatShelf
import Derived.OwnWalk
import Derived.Deep.DeepMust
import Derived.Deep.MidRow
import Derived.Deep.LoopGhost
import Derived.Handy
set_option linter.unusedVariables false
set_option linter.unusedSimpArgs false
set_option maxRecDepth 100000
namespace Go.Proofs.YtppmednmcbjafaaGreat
open Go.RowKit Go Go.Lib

/-- A pool of N buffers at block g. -/
structure Pl (w : World) (g N : Nat) (bs : List Bf) : Prop where
  blk : Blk w g 184 (poolC bs N)
  len : bs.length = 16
  n1 : 1 ≤ N
  n16 : N ≤ 16
  n3 : ∀ b ∈ bs, b.n ≤ 3
theorem Pl.fr {w w' : World} {g N : Nat} {bs : List Bf} {S : Nat → Prop} (h : Pl w g N bs) (hf : Fr S w w') (hS : ¬ S g) : Pl w' g N bs := ⟨hf.blk h.blk hS, h.len, h.n1, h.n16, h.n3⟩
theorem Pl.frN {w w' : World} {g N : Nat} {bs : List Bf} (h : Pl w g N bs) (hf : Fr noB w w') : Pl w' g N bs := h.fr hf (fun q => q)
theorem Pl.get {w : World} {g N : Nat} {bs : List Bf} (h : Pl w g N bs) {k : Nat} (hk : k < 16) : ∃ b, bs[k]? = some b ∧ b.n ≤ 3 := by
  have hk' : k < bs.length := by rw [h.len]; exact hk
  exact ⟨bs[k], List.getElem?_eq_getElem hk', h.n3 _ (List.getElem_mem hk')⟩
theorem Pl.cell {w : World} {g N : Nat} {bs : List Bf} (h : Pl w g N bs) {k : Nat} {b : Bf} (hb : bs[k]? = some b) (j : Nat) (hj : j < 10) : w.cell? ⟨g, k * 10 + j, none⟩ = (bfC b)[j]? := by
  rw [h.blk.cell, poolC_get hb j hj]
theorem Pl.c0 {w : World} {g N : Nat} {bs : List Bf} (h : Pl w g N bs) {k : Nat} {b : Bf} (hb : bs[k]? = some b) : w.cell? ⟨g, k * 10, none⟩ = some (.int .i64 b.a.t) := h.cell hb 0 (by omega)
theorem Pl.c9 {w : World} {g N : Nat} {bs : List Bf} (h : Pl w g N bs) {k : Nat} {b : Bf} (hb : bs[k]? = some b) : w.cell? ⟨g, k * 10 + 9, none⟩ = some (.int .i64 b.n) := h.cell hb 9 (by omega)
theorem Pl.size {w : World} {g N : Nat} {bs : List Bf} (h : Pl w g N bs) : w.cell? ⟨g, 160, none⟩ = some (.int .i64 N) := by rw [h.blk.cell, poolC_size h.len]
theorem Pl.lt {w : World} {g N : Nat} {bs : List Bf} (h : Pl w g N bs) : g < w.heap.size := h.blk.lt

theorem of_any (g o : Nat) (t : Int) (b : Bf) (w : World) (c9 : w.cell? ⟨g, o + 9, none⟩ = some (.int .i64 b.n)) (c0 : w.cell? ⟨g, o, none⟩ = some (.int .i64 b.a.t)) :
    Calls Tryz.prog 134 #[.pointer (some ⟨g, o, none⟩), .int .i64 t] w fun e w' => e = .returned (.bool (b.of t)) ∧ w' = w := by
  unfold Bf.of
  by_cases h : 0 < b.n
  · have hd : decide ((0:Int) < (b.n : Int)) = true := by simp; omega
    go_enter Tryz.func134, Tryz.ntmps134
    go_wp2
    go_ret
    exact ⟨by simp [h], rfl⟩
  · have hd : decide ((0:Int) < (b.n : Int)) = false := by simp; omega
    go_enter Tryz.func134, Tryz.ntmps134
    go_wp2
    go_ret
    exact ⟨by simp [h], rfl⟩

def buf0s : List Bf := List.replicate 16 bf0
theorem pnew_no (n : Int) (w : World) (h : n < 1 ∨ 16 < n) : Calls Tryz.prog 82 #[.int .i64 n] w fun e w' => e = .returned (.tuple #[.pointer none, .int .i64 1]) ∧ w' = w := by
  rcases h with h | h
  · go_enter Tryz.func82, Tryz.ntmps82
    go_wp2
    go_ret2
    exact ⟨rfl, rfl⟩
  · have h2 : ¬ n < 1 := by omega
    go_enter Tryz.func82, Tryz.ntmps82
    go_wp2
    go_ret2
    exact ⟨rfl, rfl⟩
set_option maxRecDepth 10000 in
theorem pnew_any (n : Nat) (w : World) (h0 : 1 ≤ n) (h1 : n ≤ 16) : Calls Tryz.prog 82 #[.int .i64 n] w fun e w' => e = .returned (.tuple #[.pointer (some ⟨w.heap.size, 0, none⟩), .int .i64 0]) ∧ Pl w' w.heap.size n buf0s ∧ Fr noB w w' := by
  have h2 : ¬ (n : Int) < 1 := by omega
  have h3 : ¬ (16 : Int) < n := by omega
  go_enter Tryz.func82, Tryz.ntmps82
  go_wp2
  go_ret2
  exact ⟨rfl, ⟨Blk.new w 184 (poolC buf0s n), rfl, h0, h1, by decide⟩, (Fr.refl noB w).alloc _⟩

theorem psize_nil (w : World) : Calls Tryz.prog 103 #[.pointer none] w fun e w' => e = .returned (.int .i64 0) ∧ w' = w := by
  go_enter Tryz.func103, Tryz.ntmps103
  go_wp2
  go_ret
  exact ⟨rfl, rfl⟩
theorem psize_any (g N : Nat) (bs : List Bf) (w : World) (h : Pl w g N bs) : Calls Tryz.prog 103 #[.pointer (some ⟨g, 0, none⟩)] w fun e w' => e = .returned (.int .i64 N) ∧ w' = w := by
  have c := h.size
  go_enter Tryz.func103, Tryz.ntmps103
  go_wp2
  go_ret
  exact ⟨rfl, rfl⟩

/-- the first free buffer of the first k, as a pointer -/
def freeV (g : Nat) (bs : List Bf) (k : Nat) (v : Value) : Prop :=
  (v = .pointer none ∧ ∀ i b, i < k → bs[i]? = some b → 0 < b.n) ∨ ∃ i b, i < k ∧ bs[i]? = some b ∧ b.n = 0 ∧ v = .pointer (some ⟨g, i * 10, none⟩)
def fullTo (bs : List Bf) (t : Int) (k : Nat) : Prop := ∀ i c, i < k → bs[i]? = some c → c.of t = true → c.n = 3
theorem fullTo_succ {bs : List Bf} {t : Int} {k : Nat} {b : Bf} (h : fullTo bs t k) (hb : bs[k]? = some b) (hn : b.of t = true → b.n = 3) : fullTo bs t (k + 1) := fun i c hi hc ho => by
  rcases Nat.lt_or_ge i k with q | q
  · exact h i c q hc ho
  · obtain rfl : i = k := by omega
    rw [hb] at hc; cases hc; exact hn ho
/-- where the next span may stand -/
def RoomP (g N : Nat) (bs : List Bf) (t : Int) (v : Value) : Prop :=
  (∃ k b, k < N ∧ bs[k]? = some b ∧ v = .pointer (some ⟨g, k * 10, none⟩) ∧ ((b.of t = true ∧ b.n < 3) ∨ (b.n = 0 ∧ fullTo bs t N))) ∨ (v = .pointer none ∧ fullTo bs t N ∧ ∀ i b, i < N → bs[i]? = some b → 0 < b.n)

set_option maxHeartbeats 1000000 in
set_option maxRecDepth 10000 in
theorem room_any (g N : Nat) (bs : List Bf) (t : Int) (w : World) (h : Pl w g N bs) :
    Calls Tryz.prog 106 #[.pointer (some ⟨g, 0, none⟩), .int .i64 t] w fun e w' => ∃ v, e = .returned v ∧ RoomP g N bs t v ∧ w' = w := by
  have c160 := h.size
  have hN := h.n16
  have hc0 := fun k b (hb : bs[k]? = some b) => h.c0 hb
  have hc9 := fun k b (hb : bs[k]? = some b) => h.c9 hb
  have hget := fun k (hk : k < 16) => h.get hk
  replace hc0 := Lib.hid hc0
  replace hc9 := Lib.hid hc9
  replace hget := Lib.hid hget
  clear h
  go_enter Tryz.func106, Tryz.ntmps106
  go_wp2
  go_loopg [5, 12] N (fun gk fv i wr => ∃ k : Nat, k + gk = N ∧ i = .int .i64 k ∧ freeV g bs k fv ∧ Hid (fullTo bs t k) ∧ wr = w)
  case atStart => exact ⟨0, by omega, rfl, Or.inl ⟨rfl, fun i b hi => absurd hi (Nat.not_lt_zero _)⟩, Lib.hid (fun i b hi => absurd hi (Nat.not_lt_zero _)), rfl⟩
  case round =>
    obtain ⟨k, hk, rfl, hf, hfull, rfl⟩ := hrel
    by_cases hkn : k < N
    · obtain ⟨b, hb, hb3⟩ := hget.out k (by omega)
      have d0 := hc0.out k b hb
      have d9 := hc9.out k b hb
      have hof := of_any g (k * 10) t b wr d9 d0
      have hb1 : (k : Int) < 16 := by omega
      have hb0 : (0 : Int) ≤ k := by omega
      replace hb := Lib.hid hb
      cases ho : b.of t with
      | true =>
        rw [ho] at hof
        have hpos := Lib.hid (of_iff.1 ho).1
        by_cases h3 : b.n < 3
        · have hd3 : decide ((b.n : Int) < 3) = true := by simp; omega
          have hres : RoomP g N bs t (.pointer (some ⟨g, k * 10, none⟩)) := Or.inl ⟨k, b, hkn, hb.out, rfl, Or.inl ⟨ho, h3⟩⟩
          replace hres := Lib.hid hres
          replace ho := Lib.hid ho
          go_wp2_with fail
          refine hof.mono ?_
          rintro e w1 ⟨rfl, hw1⟩
          obtain rfl := hw1.symm
          clear hof hw1
          go_wp2_with fail
          go_ret
          exact ⟨_, rfl, hres.out, rfl⟩
        · have hd3 : decide ((b.n : Int) < 3) = false := by simp; omega
          have hdz : ((b.n : Int) == 0) = false := by have := hpos.out; simp; omega
          have hfull1 := Lib.hid (fullTo_succ hfull.out hb.out (fun _ => by omega))
          have hf1 : freeV g bs (k + 1) u5 := by
            rcases hf with ⟨e, q⟩ | ⟨i, c, hi, hc, hn, e⟩
            · exact Or.inl ⟨e, fun i c hi hc => by
                rcases Nat.lt_or_ge i k with q2 | q2
                · exact q i c q2 hc
                · obtain rfl : i = k := by omega
                  rw [hb.out] at hc; cases hc; exact hpos.out⟩
            · exact Or.inr ⟨i, c, by omega, hc, hn, e⟩
          replace hf1 := Lib.hid hf1
          replace ho := Lib.hid ho
          clear hf
          go_wp2_with fail
          refine hof.mono ?_
          rintro e w1 ⟨rfl, hw1⟩
          obtain rfl := hw1.symm
          clear hof hw1
          go_wp2_with fail
          go_roundg (N - k - 1)
          case rel => exact ⟨k + 1, by omega, by go_num, hf1.out, hfull1, rfl⟩
          case measure => omega
      | false =>
        rw [ho] at hof
        have hfull1 := Lib.hid (fullTo_succ hfull.out hb.out (fun q => by rw [ho] at q; cases q))
        replace ho := Lib.hid ho
        by_cases hz : b.n = 0
        · have hdz : ((b.n : Int) == 0) = true := by simp; omega
          rcases hf with ⟨rfl, q⟩ | ⟨i, c, hi, hc, hn, rfl⟩
          · have hf1 : freeV g bs (k + 1) (.pointer (some ⟨g, k * 10, none⟩)) := Or.inr ⟨k, b, by omega, hb.out, hz, rfl⟩
            replace hf1 := Lib.hid hf1
            replace q := Lib.hid q
            replace hz := Lib.hid hz
            go_wp2_with fail
            refine hof.mono ?_
            rintro e w1 ⟨rfl, hw1⟩
            obtain rfl := hw1.symm
            clear hof hw1
            go_wp2_with fail
            go_roundg (N - k - 1)
            case rel => exact ⟨k + 1, by omega, by go_num, hf1.out, hfull1, rfl⟩
            case measure => omega
          · have hf1 : freeV g bs (k + 1) (.pointer (some ⟨g, i * 10, none⟩)) := Or.inr ⟨i, c, by omega, hc, hn, rfl⟩
            replace hf1 := Lib.hid hf1
            replace hz := Lib.hid hz
            clear hc hn hi
            go_wp2_with fail
            refine hof.mono ?_
            rintro e w1 ⟨rfl, hw1⟩
            obtain rfl := hw1.symm
            clear hof hw1
            go_wp2_with fail
            go_roundg (N - k - 1)
            case rel => exact ⟨k + 1, by omega, by go_num, hf1.out, hfull1, rfl⟩
            case measure => omega
        · have hdz : ((b.n : Int) == 0) = false := by simp; omega
          have hf1 : freeV g bs (k + 1) u5 := by
            rcases hf with ⟨e, q⟩ | ⟨i, c, hi, hc, hn, e⟩
            · exact Or.inl ⟨e, fun i c hi hc => by
                rcases Nat.lt_or_ge i k with q2 | q2
                · exact q i c q2 hc
                · obtain rfl : i = k := by omega
                  rw [hb.out] at hc; cases hc; omega⟩
            · exact Or.inr ⟨i, c, by omega, hc, hn, e⟩
          replace hf1 := Lib.hid hf1
          replace hz := Lib.hid hz
          clear hf
          go_wp2_with fail
          refine hof.mono ?_
          rintro e w1 ⟨rfl, hw1⟩
          obtain rfl := hw1.symm
          clear hof hw1
          go_wp2_with fail
          go_roundg (N - k - 1)
          case rel => exact ⟨k + 1, by omega, by go_num, hf1.out, hfull1, rfl⟩
          case measure => omega
    · obtain rfl : k = N := by omega
      go_wp2_with fail
      go_ret
      rcases hf with ⟨e, q⟩ | ⟨i, c, hi, hc, hn, e⟩
      · exact ⟨_, rfl, Or.inr ⟨e, hfull.out, q⟩, rfl⟩
      · exact ⟨_, rfl, Or.inl ⟨i, c, hi, hc, e, Or.inr ⟨hn, hfull.out⟩⟩, rfl⟩
end Go.Proofs.YtppmednmcbjafaaGreat
