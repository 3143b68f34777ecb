/-
  Stage 2's law WireOne.
-/
import Derived.Test.YtnfjnlaalfcabaaDoorWireCutsL
set_option linter.unusedVariables false
set_option linter.unusedSimpArgs false
set_option maxRecDepth 100000
namespace Go.Proofs.YtnfjnlaalfcabaaDoor
open Go.RowKit Go Go.Lib

theorem pre_ne {P Q : List UInt8} (h1 : ∀ r, P ++ r ≠ Q) (h2 : ∀ r, Q ++ r ≠ P) : P.take (min P.length Q.length) ≠ Q.take (min P.length Q.length) := by
  intro e
  rcases Nat.le_total P.length Q.length with h | h
  · rw [Nat.min_eq_left h, List.take_length] at e
    exact h1 (Q.drop P.length) (by conv => lhs; arg 1; rw [e]
                                   exact List.take_append_drop _ _)
  · rw [Nat.min_eq_right h, List.take_length] at e
    exact h2 (P.drop Q.length) (by conv => lhs; arg 1; rw [← e]
                                   exact List.take_append_drop _ _)
theorem nums_ne {a b : Nat} (ha : a ≤ 9007199254740992) (hb : b ≤ 9007199254740992) (h : a ≠ b) : numL a ≠ numL b ∧ (numL a).take (min (numL a).length (numL b).length) ≠ (numL b).take (min (numL a).length (numL b).length) := by
  have key : ∀ a b : Nat, a ≤ 9007199254740992 → b ≤ 9007199254740992 → a ≠ b → ∀ r, numL a ++ r ≠ numL b := fun a b ha hb h r e => h (num_pre (s := r) (t := []) ha hb (by rw [List.append_nil]; exact e)).1
  refine ⟨fun e => key a b ha hb h [] (by rw [List.append_nil]; exact e), pre_ne (key a b ha hb h) (key b a hb ha (Ne.symm h))⟩
theorem texts_ne {a b : List UInt8} (ha : a.length ≤ 1000) (hb : b.length ≤ 1000) (h : a ≠ b) : textL a ≠ textL b ∧ (textL a).take (min (textL a).length (textL b).length) ≠ (textL b).take (min (textL a).length (textL b).length) := by
  have key : ∀ a b : List UInt8, a.length ≤ 1000 → b.length ≤ 1000 → a ≠ b → ∀ r, textL a ++ r ≠ textL b := fun a b ha hb h r e => by
    have h1 := quote_len a
    have h2 := quote_len b
    exact h (text_pre (s := r) (t := []) (by omega) (by omega) (by rw [List.append_nil]; exact e)).1
  refine ⟨fun e => key a b ha hb h [] (by rw [List.append_nil]; exact e), pre_ne (key a b ha hb h) (key b a hb ha (Ne.symm h))⟩

theorem Wr.keep {w w' : World} {p B q C : Nat} {v : Value} {T : List UInt8} (h : Wr w p v B T) (f : Fr (wU q C w) w w') (hpq : p ≠ q) (hC : C = w.heap.size) (hq : w.heap.size ≤ q ∨ ∃ u, Blk w q 27 [u]) : Wr w' p v B T := by
  have hb := f.blk h.1 (h.1.notW (by decide) hpq)
  refine ⟨hb, ownsRow_fr h.2.1 f (fun g hg => ?_), by have := h.2.2; have := f.size; omega⟩
  have hlt := (h.2.1.lt g hg).2
  rintro (e | ⟨e, _⟩)
  · subst e
    rcases hq with hq | ⟨u, hq⟩
    · omega
    · exact hq.notU (B := B) (by decide) (ownU h.2.1 hg)
  · omega
theorem GlB.up {B C : Nat} {w : World} (h : GlB B w) (hc : B ≤ C) : GlB C w := ⟨h.gl, by have := h.b1; omega, by have := h.b2; omega, by have := h.b3; omega⟩
theorem beq_strB (P Q : List UInt8) : ((strB P).toList == (strB Q).toList) = decide (P = Q) := by
  rw [toList_eq, toList_eq, strB_list, strB_list, Bool.eq_iff_iff]
  simp

theorem slice_head (P : List UInt8) (k : Nat) (h : k ≤ P.length) : ∀ w : World, (Instr.slice 9 (.string (strB P)) none (some (.int .i64 (k : Int))) none).run Tryd.prog w = .ok (.string (strB (P.take k))) w := by
  intro w
  rw [run_slice_string_h w 9 (strB P) Tryd.underlying9 .i64 (k : Int) (by omega) (by rw [strB_size]; omega), Int.toNat_natCast, ext_take]
theorem min_k (P Q : List UInt8) : ∃ k : Nat, min ((strB P).size : Int) ((strB Q).size : Int) = (k : Int) ∧ k ≤ P.length ∧ k ≤ Q.length ∧ k = min P.length Q.length := by
  refine ⟨min P.length Q.length, ?_, Nat.min_le_left _ _, Nat.min_le_right _ _, rfl⟩
  rw [strB_size, strB_size]
  omega
theorem bne_strB {P Q : List UInt8} (h : P ≠ Q) : ((strB P).toList == (strB Q).toList) = false := by
  rw [beq_strB]; simp [h]

set_option maxHeartbeats 4000000 in
theorem one_any (a b : Int) (s t : ByteArray) (w : World) (hg : Gl w) (ha : (Lit.int .i64 a).wf = true) (hb : (Lit.int .i64 b).wf = true) (hs : s.size ≤ 140737488351232) (ht : t.size ≤ 140737488351232) :
    Calls Tryd.prog 4 #[.int .i64 a, .int .i64 b, .string s, .string t] w fun e w' => e = .returned (.bool true) ∧ Fr noB w w' := by
  by_cases hbig : 300 < s.size + t.size
  · have hbig' : (300 : Int) < (s.size : Int) + t.size := by omega
    go_enter Tryd.func4, Tryd.ntmps4
    go_wp2_with fail
    refine (awake_any _ hg).mono ?_
    rintro e w1 ⟨rfl, f1⟩
    go_wp2_with fail
    refine (awake_any _ (hg.fr f1)).mono ?_
    rintro e w2 ⟨rfl, f2⟩
    go_wp2_with fail
    go_ret
    exact ⟨rfl, f1.seqN f2⟩
  · have hsm : ¬ (300 : Int) < (s.size : Int) + t.size := by omega
    obtain ⟨N, hN, hsh⟩ := shr11 a
    obtain ⟨M, hM, hsh2⟩ := shr11 b
    replace hN := Lib.hid hN
    replace hM := Lib.hid hM
    have hsl : s.data.toList.length ≤ 1000 := by rw [size_len]; omega
    have htl : t.data.toList.length ≤ 1000 := by rw [size_len]; omega
    have hpl : (numL N).length ≤ 28 ∧ (numL M).length ≤ 28 := ⟨(num_len N).2, (num_len M).2⟩
    go_enter Tryd.func4, Tryd.ntmps4
    go_wp2_with fail
    refine (awake_any _ hg).mono ?_
    rintro e w1 ⟨rfl, f1⟩
    have gb := (hg.fr f1).low
    have key : ∀ w', Fr (hiB w1.heap.size) w1 w' → Fr noB w w' := fun w' f => f1.seqN f.hiN
    obtain ⟨B, hB⟩ : ∃ B, w1.heap.size = B := ⟨_, rfl⟩
    rw [hB] at gb key
    replace key := Lib.hid key
    clear f1
    have f1 : Fr (hiB B) w1 (w1.alloc (.cells #[Value.slice none 0 0] 27)) := (Fr.refl _ w1).alloc _
    have bx := Blk.new w1 27 [.slice none 0 0]
    rw [hB] at bx
    have s1 : (w1.alloc (.cells #[Value.slice none 0 0] 27)).heap.size = B + 1 := by rw [size_alloc, hB]
    have f2 : Fr (hiB B) w1 ((w1.alloc (.cells #[Value.slice none 0 0] 27)).alloc (.cells #[Value.slice none 0 0] 27)) := f1.alloc _
    have bx2 := ((Fr.refl noB _).alloc (.cells #[Value.slice none 0 0] 27)).keepN bx
    have by2 := Blk.new (w1.alloc (.cells #[Value.slice none 0 0] 27)) 27 [.slice none 0 0]
    rw [s1] at by2
    have s2 : ((w1.alloc (.cells #[Value.slice none 0 0] 27)).alloc (.cells #[Value.slice none 0 0] 27)).heap.size = B + 2 := by rw [size_alloc, s1]
    clear f1 bx s1
    go_wp2_with fail
    generalize ((w1.alloc (.cells #[Value.slice none 0 0] 27)).alloc (.cells #[Value.slice none 0 0] 27)) = w2 at *
    refine (wint_new B B (B + 2) _ [] [(N : Int)] w2 (wr_new bx2 (by omega)) s2 (by intro x hx; simp at hx; subst hx; have := hN.out; omega) (by simp)).mono ?_
    rintro e w3 ⟨rfl, v3, hw3, f3⟩
    have fr3 := f2.hi (f3 : Fr (wU B B w2) w2 w3) (by rintro i hi (q | ⟨q, _⟩) <;> omega)
    have by3 := f3.blk by2 (by2.notW (by decide) (by omega))
    have hn1 : ∀ N : Nat, ([] : List UInt8) ++ numsL [(N : Int)] = numL N := fun N => by unfold numsL; simp
    rw [hn1] at hw3
    have hc3 : B + 2 ≤ w3.heap.size := by have := f3.size; omega
    clear f2 f3 bx2 by2 s2
    obtain ⟨z3, hz3⟩ : ∃ z, w3.heap.size = z := ⟨_, rfl⟩
    go_wp2_with fail
    refine (wint_new (B + 1) z3 z3 _ [] [(M : Int)] w3 (wr_new by3 (by omega)) hz3 (by intro x hx; simp at hx; subst hx; have := hM.out; omega) (by simp)).mono ?_
    rintro e w4 ⟨rfl, v4, hw4, f4⟩
    rw [hn1] at hw4
    have hx4 := hw3.keep f4 (by omega) hz3.symm (Or.inr ⟨_, by3⟩)
    have fr4 := fr3.hi f4 (by rintro i hi (q | ⟨q, _⟩) <;> omega)
    have hc4 : z3 ≤ w4.heap.size := by have := f4.size; omega
    clear hw3 f4 fr3 by3
    have st1 := wstr_any B B v3 _ w4 hx4
    have st2 := wstr_any (B + 1) z3 v4 _ w4 hw4
    clear hx4 hw4
    go_wp2_with fail
    refine st1.mono ?_
    rintro e w5 ⟨rfl, hw⟩
    obtain rfl := hw.symm
    clear hw st1
    go_wp2_with fail
    refine st2.mono ?_
    rintro e w5 ⟨rfl, hw⟩
    obtain rfl := hw.symm
    clear hw st2
    obtain ⟨z4, hz4⟩ : ∃ z, w4.heap.size = z := ⟨_, rfl⟩
    have f5 : Fr (hiB B) w1 (w4.alloc (.cells #[Value.slice none 0 0] 27)) := fr4.alloc _
    have bu := Blk.new w4 27 [.slice none 0 0]
    rw [hz4] at bu
    have s5 : (w4.alloc (.cells #[Value.slice none 0 0] 27)).heap.size = z4 + 1 := by rw [size_alloc, hz4]
    have f6 : Fr (hiB B) w1 ((w4.alloc (.cells #[Value.slice none 0 0] 27)).alloc (.cells #[Value.slice none 0 0] 27)) := f5.alloc _
    have bu2 := ((Fr.refl noB _).alloc (.cells #[Value.slice none 0 0] 27)).keepN bu
    have bv2 := Blk.new (w4.alloc (.cells #[Value.slice none 0 0] 27)) 27 [.slice none 0 0]
    rw [s5] at bv2
    have s6 : ((w4.alloc (.cells #[Value.slice none 0 0] 27)).alloc (.cells #[Value.slice none 0 0] 27)).heap.size = z4 + 2 := by rw [size_alloc, s5]
    clear f5 bu s5 fr4
    go_wp2_with fail
    generalize ((w4.alloc (.cells #[Value.slice none 0 0] 27)).alloc (.cells #[Value.slice none 0 0] 27)) = w6 at *
    have gb6 := gb.hi f6
    refine (wtext_new z4 B z4 (z4 + 2) _ [] s w6 (wr_new bu2 (by omega)) s6 gb6 (by omega) (by omega) (by omega) (by simp)).mono ?_
    rintro e w7 ⟨rfl, v7, hw7, f7⟩
    rw [List.nil_append] at hw7
    have fr7 := f6.hi f7 (by rintro i hi (q | ⟨q, _⟩) <;> omega)
    have bv7 := f7.blk bv2 (bv2.notW (by decide) (by omega))
    have hc7 : z4 + 2 ≤ w7.heap.size := by have := f7.size; omega
    have gb7 := gb.hi fr7
    clear f6 f7 bu2 bv2 s6 gb6
    obtain ⟨z7, hz7⟩ : ∃ z, w7.heap.size = z := ⟨_, rfl⟩
    go_wp2_with fail
    refine (wtext_new (z4 + 1) B z7 z7 _ [] t w7 (wr_new bv7 (by omega)) hz7 gb7 (by omega) (by omega) (by omega) (by simp)).mono ?_
    rintro e w8 ⟨rfl, v8, hw8, f8⟩
    rw [List.nil_append] at hw8
    have hx8 := hw7.keep f8 (by omega) hz7.symm (Or.inr ⟨_, bv7⟩)
    have fr8 := fr7.hi f8 (by rintro i hi (q | ⟨q, _⟩) <;> omega)
    clear hw7 f8 fr7 bv7 gb7
    have st1 := wstr_any z4 z4 v7 _ w8 hx8
    have st2 := wstr_any (z4 + 1) z7 v8 _ w8 hw8
    clear hx8 hw8
    go_wp2_with fail
    refine st1.mono ?_
    rintro e w9 ⟨rfl, hw⟩
    obtain rfl := hw.symm
    clear hw st1
    go_wp2_with fail
    refine st2.mono ?_
    rintro e w9 ⟨rfl, hw⟩
    obtain rfl := hw.symm
    clear hw st2
    have fin := key.out _ fr8
    clear key fr8 gb hz3 hz4 hz7 hc3 hc4 hc7 hB
    go_upto_region 14 with fail
    have hnn := fun h => nums_ne (a := N) (b := M) (by have := hN.out; omega) (by have := hM.out; omega) h
    have htt := fun h => texts_ne (a := s.data.toList) (b := t.data.toList) hsl htl h
    obtain ⟨k, hk, hkP, hkQ, hkm⟩ := min_k (numL N) (numL M)
    obtain ⟨j, hj, hjX, hjY, hjm⟩ := min_k (textL s.data.toList) (textL t.data.toList)
    rw [← hkm] at hnn
    rw [← hjm] at htt
    rw [hk, hj]
    have i1 := slice_head (numL N) k hkP
    have i2 := slice_head (numL M) k hkQ
    have i3 := slice_head (textL s.data.toList) j hjX
    have i4 := slice_head (textL t.data.toList) j hjY
    clear hkP hkQ hkm hjX hjY hjm hpl hsl htl hk hj
    by_cases hNM : N = M
    · subst hNM
      clear hnn
      have e1 : ((strB (numL N)).toList == (strB (numL N)).toList) = true := by simp
      have e2 : ((N : Int) == (N : Int)) = true := by simp
      generalize strB (numL N) = SP at *
      by_cases hst : s = t
      · subst hst
        clear htt
        have e3 : ((strB (textL s.data.toList)).toList == (strB (textL s.data.toList)).toList) = true := by simp
        have e4 : (s.toList == s.toList) = true := by simp
        generalize strB (textL s.data.toList) = SX at *
        go_quiet (fail)
        go_wp2_with fail
        go_ret
        exact ⟨rfl, fin.drewN _⟩
      · have hd : s.data.toList ≠ t.data.toList := fun e => hst (by rw [← strB_of s, ← strB_of t, e])
        obtain ⟨h1, h2⟩ := htt hd
        have e3 : ((strB (textL s.data.toList)).toList == (strB (textL t.data.toList)).toList) = false := by rw [beq_strB]; exact decide_eq_false h1
        have e4 : (s.toList == t.toList) = false := by rw [toList_eq, toList_eq]; exact beq_false_of_ne hd
        have e5 := bne_strB h2
        clear h1 h2 htt hd hst
        generalize strB ((textL s.data.toList).take j) = U1 at *
        generalize strB ((textL t.data.toList).take j) = U2 at *
        generalize strB (textL s.data.toList) = SX at *
        generalize strB (textL t.data.toList) = SY at *
        go_quiet (fail)
        go_wp2_with fail
        go_ret
        exact ⟨rfl, fin.drewN _⟩
    · obtain ⟨g1, g2⟩ := hnn hNM
      have e1 : ((strB (numL N)).toList == (strB (numL M)).toList) = false := by rw [beq_strB]; exact decide_eq_false g1
      have e2 : ((N : Int) == (M : Int)) = false := by simp; omega
      have e6 := bne_strB g2
      clear g1 g2 hnn hNM
      generalize strB ((numL N).take k) = V1 at *
      generalize strB ((numL M).take k) = V2 at *
      generalize strB (numL N) = SP at *
      generalize strB (numL M) = SQ at *
      by_cases hst : s = t
      · subst hst
        clear htt
        have e3 : ((strB (textL s.data.toList)).toList == (strB (textL s.data.toList)).toList) = true := by simp
        have e4 : (s.toList == s.toList) = true := by simp
        generalize strB (textL s.data.toList) = SX at *
        go_quiet (fail)
        go_wp2_with fail
        go_ret
        exact ⟨rfl, fin.drewN _⟩
      · have hd : s.data.toList ≠ t.data.toList := fun e => hst (by rw [← strB_of s, ← strB_of t, e])
        obtain ⟨h1, h2⟩ := htt hd
        have e3 : ((strB (textL s.data.toList)).toList == (strB (textL t.data.toList)).toList) = false := by rw [beq_strB]; exact decide_eq_false h1
        have e4 : (s.toList == t.toList) = false := by rw [toList_eq, toList_eq]; exact beq_false_of_ne hd
        have e5 := bne_strB h2
        clear h1 h2 htt hd hst
        generalize strB ((textL s.data.toList).take j) = U1 at *
        generalize strB ((textL t.data.toList).take j) = U2 at *
        generalize strB (textL s.data.toList) = SX at *
        generalize strB (textL t.data.toList) = SY at *
        go_quiet (fail)
        go_wp2_with fail
        go_ret
        exact ⟨rfl, fin.drewN _⟩
end Go.Proofs.YtnfjnlaalfcabaaDoor
