import Derived.Test.YtdoeiehikbdoaaaHashMore
import Derived.Laws.AppendOwnNone
set_option linter.unusedVariables false
set_option linter.unusedSimpArgs false
namespace Go.Proofs.Ytdoeiehikbdoaaa
open Go.RowKit

theorem sum0 : sumL (ByteArray.mk #[]).data.toList = 14695981039346656037 := rfl
theorem sum1 : sumL (ByteArray.mk #[97]).data.toList = 0xaf63dc4c8601ec8c := by decide +kernel
theorem check0 : checkL (ByteArray.mk #[]).data.toList = 0x4fd0bfc1 := by decide +kernel
theorem least0 : leastS 1 [] = -1 := rfl
theorem least1 : leastS 1 [5] = 5 := rfl
theorem less23 : lessB 1 2 3 = !lessB 1 3 2 := by decide +kernel

theorem ints_nil (w : World) : Ints w (.slice none 0 0) [] := ⟨none, 0, rfl, ⟨Nat.le_refl _, fun _ => rfl⟩, Nat.zero_le _, fun i m hm => by simp at hm⟩

/-- a row of one's own, as a []int that can be read -/
theorem Ints.own {w : World} {base : Nat} {v : Value} {n : Nat} {xs : List Int} (h : w.ownsRow base 3 1 v n (xs.map (Value.int .i64))) (hx : ∀ t ∈ xs, I64 t) : Ints w v xs := by
  have hlen : xs.length = n := by have := h.1; simpa using this
  subst hlen
  rcases h.2 with ⟨rfl, h0⟩ | ⟨g, cap, cur, rfl, h2, h3, h4, h5, h6⟩
  · have : xs = [] := List.eq_nil_of_length_eq_zero h0
    subst this
    exact ints_nil w
  · refine ⟨_, cap, rfl, ⟨h4, fun q => by cases q⟩, h5, fun i m hm => ?_⟩
    have hi : i < xs.length := by
      rcases Nat.lt_or_ge i xs.length with h | h
      · exact h
      · rw [List.getElem?_eq_none h] at hm; cases hm
    refine ⟨g, 0, [.int .i64 m], rfl, rfl, ⟨rfl, ?_⟩, fun j u hu => ?_⟩
    · have hI := hx m (by obtain ⟨hi', rfl⟩ := List.getElem?_eq_some_iff.1 hm; exact List.getElem_mem hi')
      unfold I64 at hI
      simp [Lit.wf, IntKind.min, IntKind.max, IntKind.signed, IntKind.bits]
      exact hI
    · match j, hu with
      | 0, hu =>
        simp at hu; subst hu
        have := h.cells (g := g) rfl i (.int .i64 m) (by simp [hm])
        rw [show (⟨g, 0, none⟩ : Addr).add i = ⟨g, 0 + (i * 1 + 0), none⟩ by unfold Addr.add; split <;> simp_all] at this
        exact this
      | j + 1, hu => simp at hu

set_option maxHeartbeats 1000000 in
theorem awake_any (w : World) : Calls Try.prog 7 #[] w fun e w' => e = .returned (.bool true) ∧ Fr noB w w' := by
  go_enter Try.func7, Try.ntmps7
  go_wp2_with fail
  refine (sum_any _ _ (Nat.zero_le _)).mono ?_
  rintro e w1 ⟨rfl, hw1⟩
  obtain rfl := hw1.symm
  rw [sum0]
  go_wp2_with fail
  refine (sum_any _ _ (by unfold maxLen; decide)).mono ?_
  rintro e w1 ⟨rfl, hw1⟩
  obtain rfl := hw1.symm
  rw [sum1]
  go_wp2_with fail
  refine (check_any _ _ (Nat.zero_le _)).mono ?_
  rintro e w1 ⟨rfl, hw1⟩
  obtain rfl := hw1.symm
  rw [check0]
  go_wp2_with fail
  refine (least_any _ _ [] _ (by unfold U64; omega) (ints_nil _)).mono ?_
  rintro e w1 ⟨rfl, f1⟩
  rw [least0]
  go_wp2_with fail
  have o5 : Ints (w1.alloc (.cells #[.int .i64 5] 3)) (.slice (some ⟨w1.heap.size, 0, none⟩) 1 1) [5] := Ints.own (own_new w1 3 [.int .i64 5] 1 1 rfl (by unfold maxLen; decide)) (by intro t ht; simp at ht; subst ht; unfold I64; omega)
  refine (least_any _ _ [5] _ (by unfold U64; omega) o5).mono ?_
  rintro e w2 ⟨rfl, f2⟩
  rw [least1]
  have f3 := (f1.alloc (.cells #[.int .i64 5] 3)).seqN f2
  clear f1 f2 o5
  go_wp2_with fail
  refine (less_any _ _ _ _ (by unfold U64; omega) (by unfold I64; omega) (by unfold I64; omega)).mono ?_
  rintro e w4 ⟨rfl, f4⟩
  go_wp2_with fail
  refine (less_any _ _ _ _ (by unfold U64; omega) (by unfold I64; omega) (by unfold I64; omega)).mono ?_
  rintro e w5 ⟨rfl, f5⟩
  rw [less23]
  have f6 := (f3.seqN f4).seqN f5
  generalize lessB 1 3 2 = q
  cases q with
  | true =>
    go_wp2
    go_ret
    exact ⟨rfl, f6⟩
  | false =>
    go_wp2
    go_ret
    exact ⟨rfl, f6⟩

/-- 'append(v, xs...)', v a row of one's own, xs a slice that can be read -/
theorem wpList_append_ints {P : Program} (w : World) {ops : Array Oper} {rest : List Oper} {o : Oper} {a : Act} {Q : Exit → Act → World → Prop} (hgd : Region.wanted o (yielded ops a.tmps) = true) (s x : Operand) (t : TypeId)
    (ho : o.op = .call { callee := .builtin .append, args := #[s, x], argTypes := #[t, t] })
    (base : Nat) (e : TypeId) (i : TypeInfo) (z : Value) (bytes : Nat) (ht : P.underlying t = some (.slice e)) (hi : P.info? e = some i) (hz : i.zero = some z)
    (hsize : i.size = 1) (hby : i.bytes = bytes) (hzs : z.cells.size = 1)
    (v : Value) (n : Nat) (xs : List Value) (hs : a.eval s = v) (hown : w.ownsRow base e 1 v n xs)
    (u : Value) (ys : List Int) (hx : a.eval x = u) (hys : Ints w u ys)
    (h63 : n + ys.length ≤ maxLen) (hbytes : (n + ys.length) * bytes ≤ 140737488355328) (hbase : base ≤ w.heap.size)
    (h : ∀ v' w', w'.ownsRow base e 1 v' (n + ys.length) (xs ++ ys.map (Value.int .i64)) → w.grownBy w' v.ownBlock → Moved w v v' → wpList P ops Q rest (a.put o.dst v') w') : wpList P ops Q (o :: rest) a w := by
  obtain ⟨ao, c, rfl, h1, h2, h3⟩ := hys
  cases ao with
  | none =>
    have hc := h1.2 rfl
    subst hc
    have hy : ys = [] := List.eq_nil_of_length_eq_zero (by omega)
    subst hy
    refine wpList_go hgd fun K hK => ?_
    have hrun := run_append_owned_none (P := P) (w := w) base t o.type e i 1 ht hi v n xs hown
    unfold Oper.wp
    simp [execOp, ho, resolve, invoke, builtin, hs, hx, hrun, Result.andThen]
    exact hK _ _ (h v w (by simpa using hown) ⟨rfl, rfl, rfl, Nat.le_refl _, fun _ _ _ => rfl⟩ (Or.inl rfl))
  | some ad =>
    refine wpList_append_at w hgd s x t ho base e i z 1 bytes ht hi hz hsize hby hzs (by omega) v n xs hs hown ad ys.length c (ys.map (Value.int .i64)) hx (by simp) (fun j u hu => ?_) (fun u hu => ?_) h63 hbytes hbase h
    · rw [List.getElem?_map] at hu
      obtain ⟨m, hm, rfl⟩ := Option.map_eq_some_iff.1 hu
      obtain ⟨g, o, cs, ha, hk, hr, hc⟩ := h3 j m hm
      cases ha
      obtain ⟨hr, _⟩ := hr
      subst hr
      have := hc 0 _ rfl
      rw [add_none]
      simpa using this
    · simp at hu
      obtain ⟨m, _, rfl⟩ := hu
      rfl
end Go.Proofs.Ytdoeiehikbdoaaa
