/-
  slices.Delete of one element at the net's message (two cells): what the row holds behind it.
-/
import Derived.Test.YtgpeokhbpnbfeaaAppend
import Derived.Lib.SliceRun
import Derived.Shelf.RegionOpenPlain
import Derived.Sort.WalkB12
import Derived.Lib.SlicesDelete
set_option linter.unusedVariables false
set_option linter.unusedSimpArgs false
namespace Go.Proofs.Ytgpeokhbpnbfeaa
open Go.RowKit Go Go.Lib

/-- a list, overwritten from o on -/
def lset (cs : List Value) : Nat → List Value → List Value
  | _, [] => cs
  | o, v :: r => lset (cs.set o v) (o + 1) r
theorem lset_length : ∀ (vs : List Value) (cs : List Value) (o : Nat), (lset cs o vs).length = cs.length
  | [], _, _ => rfl
  | v :: r, cs, o => by rw [lset, lset_length r]; simp
theorem lset_eq : ∀ (vs : List Value) (cs : List Value) (o : Nat), o + vs.length ≤ cs.length → lset cs o vs = cs.take o ++ vs ++ cs.drop (o + vs.length)
  | [], cs, o, h => by simp [lset]
  | v :: r, cs, o, h => by
    simp only [List.length_cons] at h
    rw [lset, lset_eq r _ _ (by simp; omega)]
    have h1 : (cs.set o v).take (o + 1) = cs.take o ++ [v] := by
      rw [List.take_set, List.take_add_one, List.getElem?_eq_getElem (by omega : o < cs.length)]
      have : (cs.take o).length = o := by simp; omega
      rw [List.set_append_right _ _ (by omega : (cs.take o).length ≤ o), this]
      simp
    have h2 : (cs.set o v).drop (o + 1 + r.length) = cs.drop (o + (r.length + 1)) := by
      rw [List.drop_set_of_lt (by omega), show o + 1 + r.length = o + (r.length + 1) by omega]
    rw [h1, h2]
    simp

theorem Blk.setCells {g : Nat} {t : TypeId} : ∀ (vs : List Value) (o : Nat) (w : World) (cs : List Value), Blk w g t cs → Blk (w.setCells g o vs) g t (lset cs o vs)
  | [], _, _, _, h => h
  | v :: r, o, w, cs, h => Blk.setCells r (o + 1) _ _ (h.set o v)
theorem Fr.setCells {S : Nat → Prop} {a : World} {g : Nat} (hp : S g) : ∀ (vs : List Value) (o : Nat) (b : World), Fr S a b → Fr S a (b.setCells g o vs)
  | [], _, _, h => h
  | v :: r, o, b, h => Fr.setCells hp r (o + 1) _ (h.store hp)

theorem run_clear_one2 {P : Program} (w : World) (t e ty : TypeId) (z u v : Value) (ht : P.underlying t = some (.slice e)) (hv : ∀ w, (zeroValue e).run P w = .ok z w) (hz : z.cells = #[u, v]) (h1 : u.oneCell' = true) (h2 : v.oneCell' = true) (b o c : Nat)
    (hc : ∀ j, j < 2 → (w.cell? ⟨b, o + j, none⟩).isSome = true) (hf : ∀ j, j < 2 → w.frozen? ⟨b, o + j, none⟩ = false) :
    (Builtin.clear_ #[t] ty #[.slice (some ⟨b, o, none⟩) 1 c]).run P w = .ok (.tuple #[]) (w.setCells b o [u, v]) := by
  have hzc : (Builtin.zeroCells z.cells 1).toList = [u, v] := by
    rw [hz]
    simp [Builtin.zeroCells, List.range_succ]
  have hst := run_storeCells_cells (P := P) b o [u, v] 0 w (by simpa using hc) (by simpa using hf) (by intro x hx; simp at hx; rcases hx with rfl | rfl <;> assumption)
  simp only [Nat.add_zero] at hst
  simp [Builtin.clear_, run_underlying ht, hv, hzc, hst]

theorem Try.infoMsg : (Try.prog.info? 51).map (fun i => (i.zero, i.size)) = some (some (.agg #[.int .i64 0, .string ⟨#[]⟩]), 2) := by kernel_rfl

theorem Try.zeroMsg : ∀ w, (zeroValue 51).run Try.prog w = .ok (.agg #[.int .i64 0, .string ⟨#[]⟩]) w := fun w => by simp [Try.zeroValue51]

set_option maxHeartbeats 2000000 in
theorem delete_row (g c i j n : Nat) (cu : List Value) (w : World) (hb : Blk w g 51 cu) (hcu : cu.length = c * 2) (h1 : ∀ u ∈ cu.take (n * 2), u.oneCell' = true) (hj : j = i + 1) (hjn : j ≤ n) (hn : n ≤ c) (hm : c ≤ 9223372036854775807) :
    Calls Try.prog 17 #[.slice (some ⟨g, 0, none⟩) n c, .int .i64 i, .int .i64 j] w fun e w' => e = .returned (.slice (some ⟨g, 0, none⟩) (n - 1) c) ∧ Fr (onlyB g) w w' ∧ Blk w' g 51 (lset (lset cu (i * 2) ((cu.take (n * 2)).drop (j * 2))) ((n - 1) * 2) [.int .i64 0, .string ⟨#[]⟩]) := by
  have mixed : Try.prog.follows Departure.mixedOrders = true := by kernel_rfl
  obtain ⟨news, hnews⟩ : ∃ news, news = (cu.take (n * 2)).drop (j * 2) := ⟨_, rfl⟩
  rw [← hnews]
  obtain ⟨i0, hi, hz0, hz1⟩ : ∃ i0, Try.prog.info? 51 = some i0 ∧ i0.zero = some (.agg #[.int .i64 0, .string ⟨#[]⟩]) ∧ i0.size = 2 := by
    have := Try.infoMsg
    cases h : Try.prog.info? 51 with
    | none => rw [h] at this; cases this
    | some k => rw [h] at this; simp at this; exact ⟨k, rfl, this⟩
  have hlen : news.length = (n - j) * 2 := by rw [hnews]; simp; omega
  have hget : ∀ t u, news[t]? = some u → t < (n - j) * 2 ∧ cu[j * 2 + t]? = some u := by
    intro t u ht
    have hlt := (List.getElem?_eq_some_iff.1 ht).1
    rw [hlen] at hlt
    rw [hnews, List.getElem?_drop, List.getElem?_take_of_lt (by omega)] at ht
    exact ⟨hlt, ht⟩
  obtain ⟨A, hA, hsrc⟩ : ∃ A : Addr, (if c = j then some (⟨g, 0, none⟩ : Addr) else some ⟨g, j * 2, none⟩) = some A ∧ Hid (∀ t u, news[t]? = some u → w.drew.cell? (A.add t) = some u) := by
    by_cases h : c = j
    · refine ⟨⟨g, 0, none⟩, by simp [h], fun t u hu => ?_⟩
      have := (hget t u hu).1; omega
    · refine ⟨⟨g, j * 2, none⟩, by simp [h], fun t u hu => ?_⟩
      rw [Addr.add_lit]
      exact (hb.drew.cell _).trans (hget t u hu).2
  have s1 : Hid (news.length = (n - j) * 2) := hlen
  have s2 : Hid (∀ u ∈ news, u.oneCell' = true) := fun u hu => h1 u (by rw [hnews] at hu; exact List.mem_of_mem_drop hu)
  have s3 : Hid (∀ t, t < news.length → (w.drew.cell? ⟨g, 0 + i * 2 + t, none⟩).isSome = true ∧ w.drew.frozen? ⟨g, 0 + i * 2 + t, none⟩ = false) := by
    intro t ht
    rw [hlen] at ht
    refine ⟨?_, hb.drew.frozen _⟩
    rw [hb.drew.cell, List.getElem?_eq_getElem (by omega)]; rfl
  obtain ⟨W1, hW1⟩ : ∃ W1, W1 = w.drew.setCells g (0 + i * 2) news := ⟨_, rfl⟩
  have b1 : Blk W1 g 51 (lset cu (i * 2) news) := by rw [hW1, Nat.zero_add]; exact hb.drew.setCells _ _ _ _
  have f1 : Fr (onlyB g) w W1 := by rw [hW1]; exact Fr.setCells (onlyB_self g) _ _ _ (Fr.refl _ _).drew
  have hcl : ∀ ty, (Builtin.clear_ #[46] ty #[.slice (some ⟨g, (i + (n - j)) * 2, none⟩) (n - (i + (n - j))) (c - (i + (n - j)))]).run Try.prog W1 = .ok (.tuple #[]) (W1.setCells g ((n - 1) * 2) [.int .i64 0, .string ⟨#[]⟩]) := by
    intro ty
    rw [show n - (i + (n - j)) = 1 by omega, show (i + (n - j)) * 2 = (n - 1) * 2 by omega]
    refine run_clear_one2 W1 _ _ ty _ _ _ Try.underlying46 Try.zeroMsg rfl rfl rfl g _ _ (fun t ht => ?_) (fun t ht => b1.frozen _)
    rw [b1.cell, List.getElem?_eq_getElem (by rw [lset_length]; omega)]; rfl
  have b2 := b1.setCells [.int .i64 0, .string ⟨#[]⟩] ((n - 1) * 2)
  have f2 := Fr.setCells (onlyB_self g) [.int .i64 0, .string ⟨#[]⟩] ((n - 1) * 2) _ f1
  have hW : Hid (W1 = w.drew.setCells g (0 + i * 2) news) := hW1
  have hne : ¬ i = j := by omega
  have hij : i ≤ j := by omega
  replace b2 := Lib.hid b2
  replace f2 := Lib.hid f2
  clear hW1 hget hnews hlen b1 f1 hb h1 hcu
  have hj' := Lib.hid hj
  clear hj
  have hic : i ≤ c := by omega
  have hjc : j ≤ c := by omega
  go_enter Try.func17, Try.ntmps17
  go_wp2_with fail
  go_region_law_o (refine step_append_room rfl (.tmp 22) (.tmp 25) 46 rfl 51 i0 2 Try.underlying46 hi hz1 g 0 i c (by simp [Act.eval, Act.put]) A (n - j) (c - j) news (by simp [Act.eval, Act.put]) s1.out hsrc.out s2.out (by omega) s3.out ?_; rw [← hW.out])
  go_wp2
  go_ret
  exact ⟨by have := hj'.out; rw [show i + (n - j) = n - 1 by omega]; rfl, f2.out, b2.out⟩

/-- the cells of messages -/
def cellsM (ms : List (Int × ByteArray)) : List Value := ms.flatMap fun m => [.int .i64 m.1, .string m.2]
theorem cellsM_length (ms : List (Int × ByteArray)) : (cellsM ms).length = ms.length * 2 := by
  induction ms with
  | nil => rfl
  | cons m r ih => simp only [cellsM, List.flatMap_cons, List.length_append, List.length_cons, List.length_nil] at *; omega
theorem cellsM_append (a b : List (Int × ByteArray)) : cellsM (a ++ b) = cellsM a ++ cellsM b := by simp [cellsM]
theorem cellsM_take (ms : List (Int × ByteArray)) (i : Nat) (h : i ≤ ms.length) : (cellsM ms).take (i * 2) = cellsM (ms.take i) := by
  conv => lhs; rw [← List.take_append_drop i ms, cellsM_append]
  rw [List.take_append_of_le_length (by rw [cellsM_length]; simp; omega), List.take_of_length_le (by rw [cellsM_length]; simp; omega)]
theorem cellsM_drop (ms : List (Int × ByteArray)) (i : Nat) (h : i ≤ ms.length) : (cellsM ms).drop (i * 2) = cellsM (ms.drop i) := by
  conv => lhs; rw [← List.take_append_drop i ms, cellsM_append]
  rw [List.drop_append_of_le_length (by rw [cellsM_length]; simp; omega), List.drop_eq_nil_of_le (by rw [cellsM_length]; simp; omega), List.nil_append]
theorem cellsM_one (ms : List (Int × ByteArray)) : ∀ u ∈ cellsM ms, u.oneCell' = true := by
  intro u hu
  simp only [cellsM, List.mem_flatMap] at hu
  obtain ⟨m, _, hm⟩ := hu
  simp at hm
  rcases hm with rfl | rfl <;> rfl
theorem cellsM_get (ms : List (Int × ByteArray)) (i : Nat) (m : Int × ByteArray) (h : ms[i]? = some m) : (cellsM ms)[i * 2]? = some (.int .i64 m.1) ∧ (cellsM ms)[i * 2 + 1]? = some (.string m.2) := by
  have hi := (List.getElem?_eq_some_iff.1 h).1
  have hd : ms.drop i = m :: ms.drop (i + 1) := by
    rw [List.drop_eq_getElem_cons hi]
    congr 1
    rw [List.getElem?_eq_getElem hi] at h
    exact Option.some.inj h
  have h0 : ∀ q, (cellsM ms)[i * 2 + q]? = (cellsM (ms.drop i))[q]? := by
    intro q
    rw [← cellsM_drop ms i (by omega), List.getElem?_drop]
  rw [show i * 2 = i * 2 + 0 by omega, h0 0, Nat.add_zero, h0 1, hd]
  exact ⟨rfl, rfl⟩

theorem delete_own (B i j c : Nat) (a : Option Addr) (ms : List (Int × ByteArray)) (w : World) (ho : w.ownsRow B 51 2 (.slice a ms.length c) ms.length (cellsM ms)) (hj : j = i + 1) (hjn : j ≤ ms.length) :
    Calls Try.prog 17 #[.slice a ms.length c, .int .i64 i, .int .i64 j] w fun e w' => e = .returned (.slice a (ms.length - 1) c) ∧ Fr (fun k => ∃ q, a = some q ∧ q.block = k) w w' ∧ w'.ownsRow B 51 2 (.slice a (ms.length - 1) c) (ms.length - 1) (cellsM (ms.take i ++ ms.drop (i + 1))) := by
  rcases ho.2 with ⟨h1, h2⟩ | ⟨g, cap, cur, h1, h2, h3, h4, h5, h6, h7⟩
  · omega
  cases h1
  have h3' : Blk w g 51 cur.toList := by unfold Blk; simpa using h3
  have hl : cur.toList.length = c * 2 := by simpa using h6
  unfold maxLen at h5
  refine (delete_row g c i j ms.length cur.toList w h3' hl (by rw [h7]; exact cellsM_one ms) hj hjn h4 (by omega)).mono ?_
  rintro e w' ⟨rfl, f1, b1⟩
  refine ⟨rfl, f1.mono (fun k _ hk => ⟨_, rfl, hk.symm⟩), ?_, Or.inr ⟨g, c, _, rfl, h2, b1, by omega, by unfold maxLen; omega, ?_, ?_⟩⟩
  · rw [cellsM_length]; simp; omega
  · simp only [List.size_toArray, lset_length]; exact hl
  · rw [h7, hj, cellsM_drop _ _ (by omega)]
    have l1 : (cellsM (ms.drop (i + 1))).length = (ms.length - (i + 1)) * 2 := by rw [cellsM_length]; simp
    have l2 : (cur.toList.take (i * 2) ++ cellsM (ms.drop (i + 1))).length = (ms.length - 1) * 2 := by rw [List.length_append, l1]; simp; omega
    rw [lset_eq _ _ _ (by rw [lset_length]; simp; omega), lset_eq _ _ _ (by rw [l1]; omega)]
    simp only [List.append_assoc]
    have l3 : ((List.take (i * 2) cur.toList ++ (cellsM (ms.drop (i + 1)) ++ List.drop (i * 2 + (cellsM (ms.drop (i + 1))).length) cur.toList)).take ((ms.length - 1) * 2)) = List.take (i * 2) cur.toList ++ cellsM (ms.drop (i + 1)) := by
      rw [← List.append_assoc, List.take_append_of_le_length (by rw [l2]; exact Nat.le_refl _), List.take_of_length_le (by rw [l2]; exact Nat.le_refl _)]
    rw [l3, List.take_append_of_le_length (by rw [l2]; exact Nat.le_refl _), List.take_of_length_le (by rw [l2]; exact Nat.le_refl _), cellsM_append]
    congr 1
    rw [← cellsM_take ms i (by omega), ← h7, List.take_take]
    congr 1
    omega
end Go.Proofs.Ytgpeokhbpnbfeaa
