/-
  Stage 2's law WireCuts.
-/
import Derived.Test.YtnfjnlaalfcabaaDoorWireAwake
set_option linter.unusedVariables false
set_option linter.unusedSimpArgs false
set_option maxRecDepth 100000
namespace Go.Proofs.YtnfjnlaalfcabaaDoor
open Go.RowKit Go Go.Lib

theorem cuts_no (N : Nat) (hN : N ≤ 9007199254740992) (s : List UInt8) (hs : s.length ≤ 200) (k : Nat) (hk : k < (numL N ++ textL s).length) :
    sT ((sI (intS 0 9007199254740992 ((numL N ++ textL s).take k))).bind (textS 200)) ≠ some [] := by
  intro h
  cases h1 : intS 0 9007199254740992 ((numL N ++ textL s).take k) with
  | none => rw [h1] at h; cases h
  | some q =>
    obtain ⟨n, t⟩ := q
    rw [h1] at h
    rw [int_full] at h1
    have h' : sT (textS 200 t) = some [] := h
    cases h2 : textS 200 t with
    | none => rw [h2] at h'; cases h'
    | some q =>
      obtain ⟨s', t'⟩ := q
      rw [h2] at h'
      have ht : t' = [] := by injection h'
      subst ht
      obtain ⟨e1, e2⟩ := num_inv h1
      obtain ⟨e3, e4⟩ := text_inv h2
      have e5 := List.take_append_drop k (numL N ++ textL s)
      rw [e1, e3, List.append_nil, List.append_assoc] at e5
      have e6 := (num_pre e2 hN e5).2
      have q1 := quote_len s'
      have q2 := quote_len s
      have e7 := text_pre (a := s') (b := s) (s := (numL N ++ textL s).drop k) (t := []) (by omega) (by omega) (by rw [List.append_nil]; exact e6)
      have := congrArg List.length e7.2
      rw [List.length_drop, List.length_nil] at this
      omega
theorem ext_take (T : List UInt8) (k : Nat) : (strB T).extract 0 k = strB (T.take k) := by rw [ext_eq, List.drop_zero, strB_list]
/-- 'int(uint(n)>>11)' -/
theorem shr11 (n : Int) : ∃ N : Nat, N ≤ 9007199254740991 ∧ wrap64 (IntKind.u64.wrap n / 2048) = (N : Int) := by
  have h0 : 0 ≤ IntKind.u64.wrap n ∧ IntKind.u64.wrap n < 18446744073709551616 := by rw [IntKind.wrap_u64]; omega
  refine ⟨(IntKind.u64.wrap n / 2048).toNat, by omega, ?_⟩
  rw [IntWalk.wrap64_in _ (by omega)]
  omega

set_option maxHeartbeats 4000000 in
theorem cuts_any (n : Int) (s : ByteArray) (c : Int) (w : World) (hg : Gl w) (hn : (Lit.int .i64 n).wf = true) (hs : s.size ≤ 140737488351232) (hc : (Lit.int .i64 c).wf = true) :
    Calls Tryd.prog 6 #[.int .i64 n, .string s, .int .i64 c] w fun e w' => e = .returned (.bool true) ∧ Fr noB w w' := by
  by_cases hbig : 200 < s.size
  · go_enter Tryd.func6, Tryd.ntmps6
    go_wp2_with fail
    refine (awake_any _ hg).mono ?_
    rintro e w1 ⟨rfl, f1⟩
    go_wp2_with fail
    refine (awake_any _ (hg.fr f1)).mono ?_
    rintro e w2 ⟨rfl, f2⟩
    go_wp2_with fail
    go_ret
    exact ⟨rfl, f1.seqN f2⟩
  · obtain ⟨N, hN, hsh⟩ := shr11 n
    replace hN := Lib.hid hN
    go_enter Tryd.func6, Tryd.ntmps6
    go_wp2_with fail
    refine (awake_any _ hg).mono ?_
    rintro e w1 ⟨rfl, f1⟩
    have gb := (hg.fr f1).low
    have key : ∀ w', Fr (hiB w1.heap.size) w1 w' → Fr noB w w' := fun w' f => f1.seqN f.hiN
    obtain ⟨B, hB⟩ : ∃ B, w1.heap.size = B := ⟨_, rfl⟩
    rw [hB] at gb key
    have bp := Blk.new w1 27 [.slice none 0 0]
    rw [hB] at bp
    have f0 : Fr (hiB B) w1 (w1.alloc (.cells #[Value.slice none 0 0] 27)) := (Fr.refl _ w1).alloc _
    have sz : (w1.alloc (.cells #[Value.slice none 0 0] 27)).heap.size = B + 1 := by rw [size_alloc, hB]
    replace key := Lib.hid key
    have hno := cuts_no N (by have := hN.out; omega) s.data.toList (by rw [size_len]; omega)
    have hTl : (numL N ++ textL s.data.toList).length ≤ 3000 := by
      have h1 := (num_len N).2
      have h2 := text_len s.data.toList
      have h3 := quote_len s.data.toList
      rw [size_len] at h3
      rw [List.length_append]; omega
    have hT0 : 1 ≤ (numL N ++ textL s.data.toList).length := by
      have h1 := (num_len N).1
      rw [List.length_append]; omega
    replace hno := Lib.hid hno
    clear f1
    go_wp2_with fail
    generalize (w1.alloc (.cells #[Value.slice none 0 0] 27)) = w2 at *
    refine (wint_new B B (B + 1) _ [] [(N : Int)] w2 (wr_new bp (by omega)) sz (by intro x hx; simp at hx; subst hx; have := hN.out; omega) (by simp)).mono ?_
    rintro e w3 ⟨rfl, v3, hw3, f3⟩
    have fr3 := f0.hi (f3 : Fr (wU B B w2) w2 w3) (by rintro i hi (q | ⟨q, _⟩) <;> omega)
    have gb3 := gb.hi fr3
    clear f0 f3 bp sz
    obtain ⟨z3, hz3⟩ : ∃ z, w3.heap.size = z := ⟨_, rfl⟩
    have hn1 : ([] : List UInt8) ++ numsL [(N : Int)] = numL N := by unfold numsL; simp
    rw [hn1] at hw3
    go_wp2_with fail
    refine (wtext_new B B B z3 _ _ s w3 hw3 hz3 gb3 (Nat.le_refl _) (Nat.le_refl _) (by omega) (by have := (num_len N).2; omega)).mono ?_
    rintro e w4 ⟨rfl, v4, hw4, f4⟩
    have fr4 := fr3.hi f4 (by rintro i hi (q | ⟨q, _⟩) <;> omega)
    have gb4 := gb.hi fr4
    clear f4 fr3 gb3 hz3 hw3
    generalize numL N ++ textL s.data.toList = T at *
    have hst := wstr_any B B v4 T w4 hw4
    go_wp2_with fail
    refine hst.mono ?_
    rintro e w5 ⟨rfl, hw⟩
    obtain rfl := hw.symm
    have hsz : (strB T).size = T.length := rfl
    obtain ⟨k, hk, hk0, hk1⟩ := umod c (T.length : Int) (by omega) (by omega)
    have hkN : ∃ K : Nat, k = (K : Int) ∧ K < T.length := ⟨k.toNat, by omega, by omega⟩
    obtain ⟨K, rfl, hKT⟩ := hkN
    have het := ext_take T K
    have hrd : (strB (T.take K)).size ≤ 200000 := by rw [strB_size, List.length_take]; omega
    have hne : ¬ (T.length : Int) = 0 := by omega
    have hKT2 : (K : Int) ≤ T.length := by omega
    replace hrd := Lib.hid hrd
    clear hst hw4
    go_wp2_with fail
    refine (newr_any (strB (T.take K)) w4).mono ?_
    rintro e w5 ⟨rfl, hw5⟩
    have rd := rd_new (strB (T.take K)) w4 hrd.out
    rw [← hw5, strB_list] at rd
    have fr5 : Fr (hiB B) w1 w5 := by rw [hw5]; exact fr4.alloc _
    have hq : B ≤ w4.heap.size := by have := fr4.size; omega
    clear hw5
    generalize w4.heap.size = q at *
    have gb5 := gb.hi fr5
    go_wp2_with fail
    refine (rint_any q _ 0 9007199254740992 w5 rd).mono ?_
    rintro e w6 ⟨rfl, rd6, f6⟩
    have fr6 := fr5.hiO f6 hq
    have gb6 := gb.hi fr6
    go_wp2_with fail
    refine (rtext_any q _ 200 w6 gb6.gl (gb6.ne hq) rd6).mono ?_
    rintro e w7 ⟨rfl, rd7, f7⟩
    have fr7 := fr6.hiO f7 hq
    have hdn := rdone_any q _ w7 rd7
    have hn2 := hno.out K hKT
    rw [show (some (T.take K)).bind (intS 0 9007199254740992) = intS 0 9007199254740992 (T.take K) from rfl, show decide (_ = some ([] : List UInt8)) = false from decide_eq_false hn2] at hdn
    replace hdn := Lib.hid hdn
    replace hn2 := Lib.hid hn2
    clear rd rd6 rd7 f6 f7 fr4 fr5 fr6 gb4 gb5 gb6
    go_wp2_with fail
    refine hdn.out.mono ?_
    rintro e wa ⟨rfl, hw⟩
    obtain rfl := hw.symm
    go_wp2_with fail
    go_ret
    exact ⟨rfl, key.out _ fr7⟩
end Go.Proofs.YtnfjnlaalfcabaaDoor
