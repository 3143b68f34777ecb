/-
  The pool's Spans and Write.
-/
import Derived.Test.YtppmednmcbjafaaGreatPoolSort
set_option linter.unusedVariables false
set_option linter.unusedSimpArgs false
set_option maxRecDepth 100000
namespace Go.Proofs.YtppmednmcbjafaaGreat
open Go.RowKit Go Go.Lib Go.Sort

theorem infoSpan : (Tryz.prog.info? 38).map (fun i => (i.zero, i.size, i.bytes)) = some (some (.agg #[.int .i64 0, .int .i64 0, .string (ByteArray.mk #[])]), 3, 32) := by kernel_rfl
theorem bl_cells {b : Bf} (h : b.n ≤ 3) : b.l.flatMap spC = (bfC b).take (b.n * 3) := by
  unfold Bf.l
  match b, h with
  | ⟨0, _, _, _⟩, _ => rfl
  | ⟨1, _, _, _⟩, _ => rfl
  | ⟨2, _, _, _⟩, _ => rfl
  | ⟨3, _, _, _⟩, _ => rfl
theorem allOf_succ {bs : List Bf} {k : Nat} {b : Bf} (t : Int) (h : bs[k]? = some b) : allOf (bs.take (k + 1)) t = allOf (bs.take k) t ++ (if b.of t = true then b.l else []) := by
  rw [take_more h, allOf_app, allOf_cons]
  simp [allOf]
theorem allOf_len {bs : List Bf} (h : ∀ b ∈ bs, b.n ≤ 3) (t : Int) (k : Nat) : (allOf (bs.take k) t).length ≤ 3 * k := by
  have gen : ∀ L : List Bf, (∀ b ∈ L, b.n ≤ 3) → (allOf L t).length ≤ 3 * L.length := by
    intro L
    induction L with
    | nil => intro _; simp [allOf]
    | cons b r ih =>
      intro hn
      rw [allOf_cons, List.length_append, List.length_cons]
      have := ih (fun x hx => hn x (List.mem_cons_of_mem _ hx))
      have hb := hn b (List.mem_cons_self ..)
      split
      · rw [l_len hb]; omega
      · simp; omega
  have := gen (bs.take k) (fun b hb => h b (List.mem_of_mem_take hb))
  rw [List.length_take] at this
  omega
theorem pspans_nil (t : Int) (w : World) : Calls Tryz.prog 101 #[.pointer none, .int .i64 t] w fun e w' => e = .returned (.slice none 0 0) ∧ w' = w := by
  go_enter Tryz.func101, Tryz.ntmps101
  go_wp2
  go_ret
  exact ⟨rfl, rfl⟩
set_option maxHeartbeats 2000000 in
set_option maxRecDepth 10000 in
theorem pspans_any (g N : Nat) (bs : List Bf) (t : Int) (w : World) (h : Pl w g N bs) :
    Calls Tryz.prog 101 #[.pointer (some ⟨g, 0, none⟩), .int .i64 t] w fun e w' => ∃ (u : Value) (d : List Sp), e = .returned u ∧ d.Perm (allOf (bs.take N) t) ∧ d.Pairwise (fun x y => x.q ≤ y.q) ∧ w'.ownsRow w.heap.size 38 3 u d.length (d.flatMap spC) ∧ Fr noB w w' := by
  obtain ⟨i0, hi0, hz0, hz1, hz2⟩ : ∃ i0, Tryz.prog.info? 38 = some i0 ∧ i0.zero = some (.agg #[.int .i64 0, .int .i64 0, .string (ByteArray.mk #[])]) ∧ i0.size = 3 ∧ i0.bytes = 32 := by
    have hI := infoSpan
    cases hq : Tryz.prog.info? 38 with
    | none => rw [hq] at hI; cases hI
    | some k => rw [hq] at hI; simp at hI; exact ⟨k, rfl, hI⟩
  have hN := h.n16
  have c160 := h.size
  have hget := fun k (hk : k < 16) => h.get hk
  have hal := fun k => allOf_len h.n3 t k
  replace hget := Lib.hid hget
  replace hal := Lib.hid hal
  generalize hB : w.heap.size = B at *
  replace hB := Lib.hid hB
  replace h := Lib.hid h
  go_enter Tryz.func101, Tryz.ntmps101
  go_wp2_with fail
  go_loopg [5, 14] N (fun gk nv i wr => ∃ k : Nat, k + gk = N ∧ i = .int .i64 k ∧ Hid (wr.ownsRow B 38 3 nv (allOf (bs.take k) t).length ((allOf (bs.take k) t).flatMap spC)) ∧ Fr noB w wr)
  case atStart => exact ⟨0, by omega, rfl, Lib.hid (World.ownsRow_nil _ _ _ _), Fr.refl _ _⟩
  case round =>
    clear c160
    obtain ⟨k, hk, rfl, own, fr⟩ := hrel
    by_cases hkn : k < N
    · obtain ⟨b, hb, hb3⟩ := hget.out k (by omega)
      have hp := h.out.frN fr
      have d0 := hp.c0 hb
      have d9 := hp.c9 hb
      have hof := of_any g (k * 10) t b wr d9 d0
      have hs := allOf_succ t hb
      have hlen := hal.out k
      have hb1 : (k : Int) < 16 := by omega
      have hb0 : (0 : Int) ≤ k := by omega
      have hBw : B ≤ wr.heap.size := by rw [← hB.out]; exact fr.size
      have hcs : ∀ j u, (b.l.flatMap spC)[j]? = some u → wr.cell? ((⟨g, k * 10, none⟩ : Addr).add j) = some u := by
        intro j u hj
        rw [bl_cells hb3, List.getElem?_take] at hj
        split at hj
        · rename_i hlt
          rw [Addr.add_mid, hp.cell hb j (by omega)]; exact hj
        · cases hj
      have hbl : (b.l.flatMap spC).length = b.n * 3 := by rw [spF_len, l_len hb3]
      have hb1c : ∀ u ∈ b.l.flatMap spC, u.oneCell' = true := fun u hu => by
        obtain ⟨s, _, hs⟩ := List.mem_flatMap.1 hu
        exact spC_one s u hs
      have hbn := l_len hb3
      generalize hO : allOf (bs.take k) t = O at *
      replace hO := Lib.hid hO
      replace hb := Lib.hid hb
      replace hcs := Lib.hid hcs
      replace hbl := Lib.hid hbl
      replace hb1c := Lib.hid hb1c
      clear hp d0
      cases ho : b.of t with
      | true =>
        rw [ho] at hof
        rw [ho, if_pos rfl] at hs
        replace hs := Lib.hid hs
        replace ho := Lib.hid ho
        have hn0 : (0 : Int) ≤ b.n := by omega
        have hn3 : (b.n : Int) ≤ 3 := by omega
        replace hbn := Lib.hid hbn
        go_wp2_with fail
        refine hof.mono ?_
        rintro e w1 ⟨rfl, hw1⟩
        obtain rfl := hw1.symm
        clear hof hw1
        go_wp2_with fail
        go_still_tail 9, (by kernel_rfl)
        change wpList _ _ _ _ _ wr.drew
        have own1 : Hid (wr.drew.ownsRow B 38 3 u5 O.length (O.flatMap spC)) := own
        have hcs1 : Hid (∀ j u, (b.l.flatMap spC)[j]? = some u → wr.drew.cell? ((⟨g, k * 10, none⟩ : Addr).add j) = some u) := hcs
        have fr1 : Fr noB w wr.drew := fr.drew
        have hBw1 : B ≤ wr.drew.heap.size := hBw
        clear own hcs fr hBw d9
        generalize wr.drew = w2 at *
        obtain ⟨ua, uc, rfl⟩ := ownsRow_slice own1.out
        go_wp2_with (first
          | (at_builtin; go_must (refine wpList_append_at _ rfl (.tmp 25) (.tmp 33) 71 rfl B 38 i0 _ 3 32 Tryz.underlying71 hi0 hz0 hz1 hz2 rfl (by omega) _ O.length _ rfl own1.out ⟨g, k * 10, none⟩ b.n 3 (b.l.flatMap spC) rfl hbl.out hcs1.out hb1c.out ?_ ?_ hBw1 ?_))
          | fail)
        · unfold maxLen; omega
        · omega
        intro v' w3 o3 gr3 _
        have own3 : Hid (w3.ownsRow B 38 3 v' (allOf (bs.take (k + 1)) t).length ((allOf (bs.take (k + 1)) t).flatMap spC)) := Lib.hid (by
          rw [hs.out, List.length_append, List.flatMap_append, hbn.out]; exact o3)
        have fr3 := fr1.grown gr3 (fun q hq hlt => by have := (own1.out.lt q hq).1; have := hB.out; omega)
        clear o3 gr3 own1
        go_wp2_with fail
        go_roundg (N - k - 1)
        case rel => exact ⟨k + 1, by omega, by go_num, own3, fr3⟩
        case measure => omega
      | false =>
        rw [ho] at hof
        rw [ho, if_neg (by simp), List.append_nil] at hs
        replace hs := Lib.hid hs
        replace ho := Lib.hid ho
        go_wp2_with fail
        refine hof.mono ?_
        rintro e w1 ⟨rfl, hw1⟩
        obtain rfl := hw1.symm
        clear hof hw1
        go_wp2_with fail
        go_roundg (N - k - 1)
        case rel => exact ⟨k + 1, by omega, by go_num, by rw [hs.out]; exact own, fr⟩
        case measure => omega
    · obtain rfl : k = N := by omega
      have hso := sortSp_own u5 (allOf (bs.take k) t) B _ wr own.out rfl (by have := hal.out k; omega)
      have hfr : ∀ w', wr.grownBy w' u5.ownBlock → Fr noB w w' := fun w' gr => fr.grown gr (fun q hq hlt => absurd hlt (Nat.not_lt.2 (by rw [hB.out]; exact (own.out.lt q hq).1)))
      replace hfr := Lib.hid hfr
      clear own
      go_wp2_with fail
      refine hso.mono ?_
      rintro e w2 ⟨rfl, d, hd1, hd2, o2, gr2⟩
      have f2 := hfr.out _ gr2
      rw [← hd1.length_eq] at o2
      clear hso gr2 hfr
      go_wp2_with fail
      go_ret
      exact ⟨_, d, rfl, hd1, hd2, o2, f2⟩
end Go.Proofs.YtppmednmcbjafaaGreat
