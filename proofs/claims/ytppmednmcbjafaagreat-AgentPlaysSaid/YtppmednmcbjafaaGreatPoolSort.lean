/-
  slices.SortFunc of spans by their numbers, at a row of the call's own.
-/
import Derived.Test.YtppmednmcbjafaaGreatPool2
import Derived.Shelf.SlSortCmp.NoneTotal
set_option linter.unusedVariables false
set_option linter.unusedSimpArgs false
set_option maxRecDepth 100000
namespace Go.Proofs.YtppmednmcbjafaaGreat
open Go.RowKit Go Go.Lib Go.Sort Go.Shelf

theorem spC_len (s : Sp) : (spC s).length = 3 := rfl
theorem spC_one (x : Sp) : ∀ v ∈ spC x, v.oneCell' = true := by
  intro v hv
  unfold spC at hv
  simp only [List.mem_cons, List.not_mem_nil, or_false] at hv
  rcases hv with rfl | rfl | rfl <;> rfl
theorem spF_len (l : List Sp) : (l.flatMap spC).length = l.length * 3 := by
  induction l with
  | nil => rfl
  | cons b r ih => rw [List.flatMap_cons, List.length_append, ih, spC_len, List.length_cons]; omega
theorem flatK_eq (d : Array Sp) : flatK spC 3 d = (d.toList.flatMap spC).toArray := by
  refine ext_get! (by rw [size_flatK]; simp only [List.size_toArray]; rw [spF_len]; simp) fun t ht => ?_
  have ht' : t < d.size * 3 := by simpa using ht
  rw [get_flatK _ _ _ _ ht']
  have hk : t / 3 < d.size := by omega
  have h1 := flat_get spC 3 spC_len d.toList (t / 3) (t % 3) d[t / 3]! (by rw [List.getElem?_eq_getElem (by simpa using hk)]; simp [hk]) (by omega)
  rw [show t / 3 * 3 + t % 3 = t by omega] at h1
  have h2 : t < (d.toList.flatMap spC).length := by rw [spF_len]; simpa using ht'
  have h3 : t % 3 < (spC d[t / 3]!).length := by rw [spC_len]; omega
  rw [List.getElem?_eq_getElem h2, List.getElem?_eq_getElem h3] at h1
  rw [getElem!_pos (spC d[t / 3]!) (t % 3) h3, getElem!_pos (d.toList.flatMap spC).toArray t (by simpa using h2)]
  simp only [Option.some.injEq] at h1
  rw [← h1]; simp

def cmpQ (x y : Sp) : Int := Lib.compareInt x.q y.q
theorem ltQ (x y : Sp) : ltOf cmpQ x y = decide (x.q < y.q) := by
  unfold ltOf cmpQ Lib.compareInt
  by_cases h1 : x.q < y.q
  · simp [h1]
  · by_cases h2 : y.q < x.q <;> simp [h1, h2]
theorem swoQ : SWO (ltOf cmpQ) where
  irrefl x := by rw [ltQ]; simp
  trans x y z h1 h2 := by rw [ltQ] at *; simp at *; omega
  ntrans x y z h1 h2 := by rw [ltQ] at *; simp at *; omega
set_option maxHeartbeats 1000000 in
theorem clo_cmp (x y : Sp) (W : World) : Calls Tryz.prog 136 #[.agg #[.int .i64 x.t, .int .i64 x.q, .string x.x], .agg #[.int .i64 y.t, .int .i64 y.q, .string y.x]] W fun e w' => e = .returned (.int .i64 (cmpQ x y)) ∧ ∃ q os', w' = Sort.grow (W.drewN q) os' := by
  have hcon := fun W' => Tryz.cmp_Compare_int x.q y.q W'
  unfold cmpQ
  generalize Lib.compareInt x.q y.q = r at hcon ⊢
  go_enter Tryz.func136, Tryz.ntmps136
  go_wp2_with fail
  refine (hcon _).mono ?_
  rintro e w' ⟨rfl, hw⟩
  obtain rfl := hw.symm
  go_wp2_with fail
  go_ret
  exact ⟨rfl, 0, _, by rw [alloc_eq_grow, alloc_eq_grow, grow_grow]; rfl⟩
theorem cmpLaysQ (blk off size : Nat) (w : World) : CmpLays Tryz.prog 136 #[] spC 3 cmpQ blk off size w := fun _ _ _ _ x y => clo_cmp x y _

theorem holds_of_blockV {w : World} {g : Nat} {cur : Array Value} {e : TypeId} {F : Array Value} (hb : w.heap[g]? = some (.cells cur e (0, 0))) (ht : cur.toList.take F.size = F.toList) : Holds id w g 0 F := by
  intro j hj
  refine ⟨?_, by simp [World.frozen?, hb]⟩
  have h1 : (cur.toList.take F.size)[j]? = F.toList[j]? := by rw [ht]
  rw [List.getElem?_take_of_lt hj] at h1
  simp only [World.cell?, hb, Nat.zero_add]
  simp only [Option.isSome_none, Bool.false_eq_true, if_false]
  rw [← Array.getElem?_toList, h1]
  simp [hj]
theorem heap_sortedV {w : World} {g n : Nat} {os : Array Obj} {cur : Array Value} {e : TypeId} {fr : Nat × Nat} (F : Array Value) (hb : w.heap[g]? = some (.cells cur e fr)) :
    (Sort.grow (putRow id (Sort.ahead w n) g 0 F) os).heap[g]? = some (.cells (putCells id 0 F cur) e fr) := by
  have hg : g < w.heap.size := (Array.getElem?_eq_some_iff.1 hb).1
  rw [heap_grow_old _ _ (by simpa using hg)]
  simp [putRow, mapBlock, Sort.ahead, Array.getElem?_modify, hb, onCells]
theorem grownBy_sortedV {w : World} {g n : Nat} {os : Array Obj} (F : Array Value) : w.grownBy (Sort.grow (putRow id (Sort.ahead w n) g 0 F) os) (some g) := by
  refine ⟨rfl, rfl, rfl, by simp, fun k hk hne => ?_⟩
  rw [heap_grow_old _ _ (by simpa using hk)]
  have : g ≠ k := fun e => hne (by rw [e])
  simp [putRow, mapBlock, Sort.ahead, Array.getElem?_modify, this]
theorem take_putCellsV (cur F : Array Value) (h : F.size ≤ cur.size) : (putCells id 0 F cur).toList.take F.size = F.toList := by
  apply List.ext_getElem?
  intro j
  by_cases hj : j < F.size
  · rw [List.getElem?_take_of_lt hj, Array.getElem?_toList]
    simp [putCells, hj, show j < cur.size by omega]
  · rw [List.getElem?_take_eq_none (by omega), List.getElem?_eq_none (by simp; omega)]

theorem sortSp_own (v : Value) (d : List Sp) (B n : Nat) (w : World) (h : w.ownsRow B 38 3 v n (d.flatMap spC)) (hl : d.length = n) (hs : n < 4611686018427387904) :
    Calls Tryz.prog 135 #[v, .func (.func 136) #[] #[]] w fun e w' => e = .returned (.tuple #[]) ∧ ∃ d' : List Sp, d'.Perm d ∧ d'.Pairwise (fun x y => x.q ≤ y.q) ∧ w'.ownsRow B 38 3 v n (d'.flatMap spC) ∧ w.grownBy w' v.ownBlock := by
  rcases h.2 with ⟨rfl, h1⟩ | ⟨g, cap, cur, rfl, hbg, hg, hnc, hcm, hcs, htake⟩
  · subst h1
    have : d = [] := List.eq_nil_of_length_eq_zero hl
    subst this
    have hc := AnyF.slices_SortFunc_none Tryz.sortSp none 0 (.func (.func 136) #[] #[]) w
    change Calls Tryz.prog 135 _ _ _ at hc
    refine hc.mono ?_
    rintro e w' ⟨rfl, rfl⟩
    exact ⟨rfl, [], List.Perm.refl _, List.Pairwise.nil, h, ⟨rfl, rfl, rfl, Nat.le_refl _, fun _ _ _ => rfl⟩⟩
  · have hlt : g < w.heap.size := (Array.getElem?_eq_some_iff.1 hg).1
    have hH : HoldsK spC 3 w g 0 d.toArray := by
      unfold HoldsK
      rw [flatK_eq]
      refine holds_of_blockV hg ?_
      simp only [List.size_toArray, List.toList_toArray]
      rw [spF_len, hl]; exact htake
    have hds : d.toArray.size = n := by simpa using hl
    have eg : ∀ args w, (callFunc 136 args).run Tryz.prog w = .ok (.enter 136 args) w := enters_of Tryz.func136 (by kernel_rfl) rfl
    have hcon := AnyQ.slices_SortFunc Tryz.sortSp 3 Tryz.isAgg38 Tryz.sizeOf38 spC (fun _ => rfl) spC_one cmpQ swoQ 136 #[] g 0 cap d.toArray w eg (cmpLaysQ g 0 _ w) hH hlt (by rw [hds]; exact hs)
    change Calls Tryz.prog 135 _ _ _ at hcon
    rw [hds] at hcon
    refine hcon.mono ?_
    rintro e w' ⟨rfl, d', m, os, hp, hso, rfl⟩
    have hsz : d'.size = n := by rw [hp.1]; exact hds
    refine ⟨rfl, d'.toList, ?_, ?_, ⟨by rw [spF_len]; simp [hsz], Or.inr ⟨g, cap, putCells id 0 (flatK spC 3 d') cur, rfl, hbg, heap_sortedV _ hg, hnc, hcm, by simp [putCells, hcs], ?_⟩⟩, grownBy_sortedV _⟩
    · have := hp.2.2
      rw [Array.extract_eq_self_of_le (by omega), Array.extract_eq_self_of_le (by omega)] at this
      simpa using this
    · rw [List.pairwise_iff_getElem]
      intro i j hi hj hij
      have hj' : j < n := by rw [← hsz]; simpa using hj
      have := hso i j (Nat.zero_le _) hij hj'
      rw [ltQ, getElem!_pos d' j (by omega), getElem!_pos d' i (by omega)] at this
      simp only [decide_eq_false_iff_not] at this
      simp only [Array.getElem_toList]
      omega
    · have := take_putCellsV cur (flatK spC 3 d') (by rw [size_flatK, hcs, hsz]; exact Nat.mul_le_mul_right 3 hnc)
      rw [size_flatK, hsz, flatK_eq] at this
      rw [flatK_eq]
      simpa using this
end Go.Proofs.YtppmednmcbjafaaGreat
