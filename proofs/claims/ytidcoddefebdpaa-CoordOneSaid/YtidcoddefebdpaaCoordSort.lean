/-
  slices.SortFunc of jobs by their numbers; slices.SortedFunc(maps.Values(m), ..).
-/
import Derived.Test.YtidcoddefebdpaaCoordIter2
import Derived.Test.YtidcoddefebdpaaShelf2
import Derived.Shelf.SlSortCmp.NoneTotal
set_option linter.unusedVariables false
set_option linter.unusedSimpArgs false
set_option maxRecDepth 100000
namespace Go.Proofs.Ytidcoddefebdpaa
open Go.RowKit Go Go.Lib Go.Sort Go.Shelf

theorem spF_len (l : List NJ) : (l.flatMap celN).length = l.length * 2 := by
  induction l with
  | nil => rfl
  | cons b r ih => rw [List.flatMap_cons, List.length_append, ih, List.length_cons]; show 2 + _ = _; omega
theorem flat_getC : ∀ (L : List NJ) (i q : Nat) (m : NJ), L[i]? = some m → q < 2 → (L.flatMap celN)[i * 2 + q]? = (celN m)[q]?
  | [], i, q, m, h, _ => by simp at h
  | x :: r, i, q, m, h, hq => by
    rw [List.flatMap_cons]
    have hz : (celN x).length = 2 := rfl
    cases i with
    | zero =>
      simp at h; subst h
      rw [Nat.zero_mul, Nat.zero_add, List.getElem?_append_left (by rw [hz]; exact hq)]
    | succ i =>
      have h' : r[i]? = some m := by simpa using h
      have := flat_getC r i q m h' hq
      rw [List.getElem?_append_right (by rw [hz]; omega), hz, show (i + 1) * 2 + q - 2 = i * 2 + q by omega]
      exact this
theorem flatK_eq (d : Array NJ) : flatK celN 2 d = (d.toList.flatMap celN).toArray := by
  refine ext_get! (by rw [size_flatK]; simp only [List.size_toArray]; rw [spF_len]; simp) fun t ht => ?_
  have ht' : t < d.size * 2 := by simpa using ht
  rw [get_flatK _ _ _ _ ht']
  have hk : t / 2 < d.size := by omega
  have h1 := flat_getC d.toList (t / 2) (t % 2) d[t / 2]! (by rw [List.getElem?_eq_getElem (by simpa using hk)]; simp [hk]) (by omega)
  rw [show t / 2 * 2 + t % 2 = t by omega] at h1
  have h2 : t < (d.toList.flatMap celN).length := by rw [spF_len]; simpa using ht'
  have h3 : t % 2 < (celN d[t / 2]!).length := by show t % 2 < 2; omega
  rw [List.getElem?_eq_getElem h2, List.getElem?_eq_getElem h3] at h1
  rw [getElem!_pos (celN d[t / 2]!) (t % 2) h3, getElem!_pos (d.toList.flatMap celN).toArray t (by simpa using h2)]
  simp only [Option.some.injEq] at h1
  rw [← h1]; simp

def cmpQ (x y : NJ) : Int := Lib.compareInt x.1 y.1
theorem ltQ (x y : NJ) : ltOf cmpQ x y = decide (x.1 < y.1) := by
  unfold ltOf cmpQ Lib.compareInt
  by_cases h1 : x.1 < y.1
  · simp [h1]
  · by_cases h2 : y.1 < x.1 <;> simp [h1, h2]
theorem swoQ : SWO (ltOf cmpQ) where
  irrefl x := by rw [ltQ]; simp
  trans x y z h1 h2 := by rw [ltQ] at *; simp at *; omega
  ntrans x y z h1 h2 := by rw [ltQ] at *; simp at *; omega
set_option maxHeartbeats 1000000 in
theorem clo_cmp (x y : NJ) (W : World) : Calls Try.prog 20 #[mkN x, mkN y] W fun e w' => e = .returned (.int .i64 (cmpQ x y)) ∧ ∃ q os', w' = Sort.grow (W.drewN q) os' := by
  obtain ⟨x1, x2⟩ := x
  obtain ⟨y1, y2⟩ := y
  have hcon := fun W' => Try.cmp_Compare_int x1 y1 W'
  unfold cmpQ mkN
  dsimp only
  generalize Lib.compareInt x1 y1 = r at hcon ⊢
  go_enter Try.func20, Try.ntmps20
  go_wp2_with fail
  refine (hcon _).mono ?_
  rintro e w' ⟨rfl, hw⟩
  obtain rfl := hw.symm
  go_wp2_with fail
  go_ret
  exact ⟨rfl, 0, _, by rw [alloc_eq_grow, alloc_eq_grow, grow_grow]; rfl⟩
theorem cmpLaysQ (blk off size : Nat) (w : World) : CmpLays Try.prog 20 #[] celN 2 cmpQ blk off size w := fun _ _ _ _ x y => clo_cmp x y _

theorem holds_of_blockV {w : World} {g : Nat} {cur : Array Value} {e : TypeId} {F : Array Value} (hb : w.heap[g]? = some (.cells cur e (0, 0))) (ht : cur.toList.take F.size = F.toList) : Holds id w g 0 F := by
  intro j hj
  refine ⟨?_, by simp [World.frozen?, hb]⟩
  have h1 : (cur.toList.take F.size)[j]? = F.toList[j]? := by rw [ht]
  rw [List.getElem?_take_of_lt hj] at h1
  simp only [World.cell?, hb, Nat.zero_add]
  simp only [Option.isSome_none, Bool.false_eq_true, if_false]
  rw [← Array.getElem?_toList, h1]
  simp [hj]
theorem heap_sortedV {w : World} {g n : Nat} {os : Array Obj} {cur : Array Value} {e : TypeId} {fr : Nat × Nat} (F : Array Value) (hb : w.heap[g]? = some (.cells cur e fr)) :
    (Sort.grow (putRow id (Sort.ahead w n) g 0 F) os).heap[g]? = some (.cells (putCells id 0 F cur) e fr) := by
  have hg : g < w.heap.size := (Array.getElem?_eq_some_iff.1 hb).1
  rw [heap_grow_old _ _ (by simpa using hg)]
  simp [putRow, mapBlock, Sort.ahead, Array.getElem?_modify, hb, onCells]
theorem grownBy_sortedV {w : World} {g n : Nat} {os : Array Obj} (F : Array Value) : w.grownBy (Sort.grow (putRow id (Sort.ahead w n) g 0 F) os) (some g) := by
  refine ⟨rfl, rfl, rfl, by simp, fun k hk hne => ?_⟩
  rw [heap_grow_old _ _ (by simpa using hk)]
  have : g ≠ k := fun e => hne (by rw [e])
  simp [putRow, mapBlock, Sort.ahead, Array.getElem?_modify, this]
theorem take_putCellsV (cur F : Array Value) (h : F.size ≤ cur.size) : (putCells id 0 F cur).toList.take F.size = F.toList := by
  apply List.ext_getElem?
  intro j
  by_cases hj : j < F.size
  · rw [List.getElem?_take_of_lt hj, Array.getElem?_toList]
    simp [putCells, hj, show j < cur.size by omega]
  · rw [List.getElem?_take_eq_none (by omega), List.getElem?_eq_none (by simp; omega)]

theorem sortN_own (v : Value) (d : List NJ) (B n : Nat) (w : World) (h : w.ownsRow B 64 2 v n (d.flatMap celN)) (hl : d.length = n) (hs : n < 4611686018427387904) :
    Calls Try.prog 33 #[v, .func (.func 20) #[] #[]] w fun e w' => e = .returned (.tuple #[]) ∧ ∃ d' : List NJ, d'.Perm d ∧ d'.Pairwise (fun x y => x.1 ≤ y.1) ∧ w'.ownsRow B 64 2 v n (d'.flatMap celN) ∧ w.grownBy w' v.ownBlock := by
  rcases h.2 with ⟨rfl, h1⟩ | ⟨g, cap, cur, rfl, hbg, hg, hnc, hcm, hcs, htake⟩
  · subst h1
    have : d = [] := List.eq_nil_of_length_eq_zero hl
    subst this
    have hc := AnyF.slices_SortFunc_none Try.sortN none 0 (.func (.func 20) #[] #[]) w
    change Calls Try.prog 33 _ _ _ at hc
    refine hc.mono ?_
    rintro e w' ⟨rfl, rfl⟩
    exact ⟨rfl, [], List.Perm.refl _, List.Pairwise.nil, h, ⟨rfl, rfl, rfl, Nat.le_refl _, fun _ _ _ => rfl⟩⟩
  · have hlt : g < w.heap.size := (Array.getElem?_eq_some_iff.1 hg).1
    have hH : HoldsK celN 2 w g 0 d.toArray := by
      unfold HoldsK
      rw [flatK_eq]
      refine holds_of_blockV hg ?_
      simp only [List.size_toArray, List.toList_toArray]
      rw [spF_len, hl]; exact htake
    have hds : d.toArray.size = n := by simpa using hl
    have eg : ∀ args w, (callFunc 20 args).run Try.prog w = .ok (.enter 20 args) w := enters_of Try.func20 (by kernel_rfl) rfl
    have hcon := AnyQ.slices_SortFunc Try.sortN 2 Try.isAgg64 Try.sizeOf64 celN (fun _ => rfl) celN_one cmpQ swoQ 20 #[] g 0 cap d.toArray w eg (cmpLaysQ g 0 _ w) hH hlt (by rw [hds]; exact hs)
    change Calls Try.prog 33 _ _ _ at hcon
    rw [hds] at hcon
    refine hcon.mono ?_
    rintro e w' ⟨rfl, d', m, os, hp, hso, rfl⟩
    have hsz : d'.size = n := by rw [hp.1]; exact hds
    refine ⟨rfl, d'.toList, ?_, ?_, ⟨by rw [spF_len]; simp [hsz], Or.inr ⟨g, cap, putCells id 0 (flatK celN 2 d') cur, rfl, hbg, heap_sortedV _ hg, hnc, hcm, by simp [putCells, hcs], ?_⟩⟩, grownBy_sortedV _⟩
    · have := hp.2.2
      rw [Array.extract_eq_self_of_le (by omega), Array.extract_eq_self_of_le (by omega)] at this
      simpa using this
    · rw [List.pairwise_iff_getElem]
      intro i j hi hj hij
      have hj' : j < n := by rw [← hsz]; simpa using hj
      have := hso i j (Nat.zero_le _) hij hj'
      rw [ltQ, getElem!_pos d' j (by omega), getElem!_pos d' i (by omega)] at this
      simp only [decide_eq_false_iff_not] at this
      simp only [Array.getElem_toList]
      omega
    · have := take_putCellsV cur (flatK celN 2 d') (by rw [size_flatK, hcs, hsz]; exact Nat.mul_le_mul_right 2 hnc)
      rw [size_flatK, hsz, flatK_eq] at this
      rw [flatK_eq]
      simpa using this
set_option maxHeartbeats 1000000 in
/-- slices.SortedFunc(maps.Values(m), byNumber): the map's jobs by their numbers -/
theorem sorted_any (Bm b nn : Nat) (L : List (Int × NJ)) (hl : L.length ≤ 1000) (w : World) (hBm : Bm < w.heap.size) (hm : w.cell? ⟨Bm, 0, none⟩ = some (.map (some b))) (hown : Mp Try.prog 3 klI mkN w b nn L) :
    Calls Try.prog 22 #[.func (.func 34) #[] #[.pointer (some ⟨Bm, 0, none⟩)], .func (.func 20) #[] #[]] w fun e w' => ∃ (v : Value) (ss : List NJ), e = .returned v ∧ ss.Perm (L.map (·.2)) ∧ ss.Pairwise (fun x y => x.1 ≤ y.1) ∧ w'.ownsRow w.heap.size 64 2 v ss.length (ss.flatMap celN) ∧ Fr noB w w' := by
  have hc := collect_any Bm b nn L hl w hBm hm hown
  clear hown hm
  go_enter Try.func22, Try.ntmps22
  go_wp2_with fail
  go_fit hc
  rintro e w1 ⟨v, ss, rfl, hp, ho, f1⟩
  have hlen : ss.length = L.length := by have := hp.length_eq; rwa [List.length_map] at this
  have hs := sortN_own v ss w.heap.size ss.length w1 ho rfl (by omega)
  replace hs := Lib.hid hs
  replace hp := Lib.hid hp
  replace ho := Lib.hid ho
  replace f1 := Lib.hid f1
  clear hc
  go_wp2_with fail
  go_fit hs.out
  rintro e w2 ⟨rfl, d, hpd, hpw, hod, hg⟩
  have hdl : d.length = ss.length := hpd.length_eq
  have f2 : Fr noB w w2 := f1.out.grown hg (fun k hk hlt => by have := (ho.out.lt k hk).1; omega)
  replace hpw := Lib.hid hpw
  replace hpd := Lib.hid hpd
  replace hod := Lib.hid hod
  replace hdl := Lib.hid hdl
  clear hg hs
  go_wp2_with fail
  go_ret
  exact ⟨v, d, rfl, hpd.out.trans hp.out, hpw.out, by rw [hdl.out]; exact hod.out, f2⟩
end Go.Proofs.Ytidcoddefebdpaa
