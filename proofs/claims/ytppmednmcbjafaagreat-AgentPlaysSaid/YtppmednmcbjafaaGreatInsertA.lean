/-
  slices.Insert of one int into a row of ints of the call's own; slices.BinarySearch in one.
-/
import Derived.Test.YtppmednmcbjafaaGreatCrumbA
set_option linter.unusedVariables false
set_option linter.unusedSimpArgs false
set_option maxRecDepth 100000
namespace Go.Proofs.YtppmednmcbjafaaGreat
open Go.RowKit Go Go.Lib

theorem Fr.setCells {S : Nat → Prop} {a : World} (g : Nat) (hg : S g ∨ a.heap.size ≤ g) : ∀ (vs : List Value) (o : Nat) {b : World}, Fr S a b → Fr S a (b.setCells g o vs)
  | [], _, _, h => h
  | v :: vs, o, b, h => Fr.setCells g hg vs (o + 1) (h.setCell ⟨g, o, none⟩ v (fun q => by rcases hg with h1 | h1; exact h1; simp only at q; omega))
/-- cells with vs laid over them from o on -/
def over (cur : Array Value) : Nat → List Value → Array Value
  | _, [] => cur
  | o, v :: vs => over (cur.setIfInBounds o v) (o + 1) vs
theorem setCells_block {g : Nat} {e : TypeId} {fr : Nat × Nat} : ∀ (vs : List Value) (o : Nat) (w : World) (cur : Array Value), w.heap[g]? = some (.cells cur e fr) → (w.setCells g o vs).heap[g]? = some (.cells (over cur o vs) e fr)
  | [], _, _, _, h => h
  | v :: vs, o, w, cur, h => setCells_block vs (o + 1) _ (cur.setIfInBounds o v) (by simp [World.setCell, Array.getElem?_modify, h])
theorem over_size : ∀ (vs : List Value) (o : Nat) (cur : Array Value), (over cur o vs).size = cur.size
  | [], _, _ => rfl
  | v :: vs, o, cur => by unfold over; rw [over_size]; simp
theorem over_get : ∀ (vs : List Value) (o : Nat) (cur : Array Value) (j : Nat), o + vs.length ≤ cur.size → (over cur o vs)[j]? = if o ≤ j ∧ j < o + vs.length then vs[j - o]? else cur[j]?
  | [], o, cur, j, _ => by
    unfold over
    rw [if_neg (by rintro ⟨h1, h2⟩; simp only [List.length_nil] at h2; omega)]
  | v :: vs, o, cur, j, h => by
    unfold over
    simp only [List.length_cons] at h
    rw [over_get vs (o + 1) _ j (by simp; omega)]
    by_cases h1 : o + 1 ≤ j ∧ j < o + 1 + vs.length
    · rw [if_pos h1, if_pos (by simp; omega), show j - o = (j - (o + 1)) + 1 by omega]
      simp
    · rw [if_neg h1]
      by_cases h2 : j = o
      · subst h2
        rw [if_pos (by simp only [List.length_cons]; omega), Array.getElem?_setIfInBounds_self_of_lt (by omega)]
        simp
      · rw [if_neg (by simp only [List.length_cons]; omega)]
        rw [Array.getElem?_setIfInBounds_ne (by omega)]

theorem new_block (w : World) (e : TypeId) (cur : Array Value) : (w.alloc (.cells cur e)).heap[w.heap.size]? = some (.cells cur e (0, 0)) := by
  show (w.heap.push _)[w.heap.size]? = _
  simp
theorem own_new_row {w : World} {B n cap : Nat} {e : TypeId} {cs : List Value} (cur : Array Value) (hB : B ≤ w.heap.size) (hs : cur.size = cap) (hn : n ≤ cap) (hm : cap ≤ maxLen) (hl : cs.length = n) (ht : cur.toList.take (n * 1) = cs) :
    (w.alloc (.cells cur e)).ownsRow B e 1 (.slice (some ⟨w.heap.size, 0, none⟩) n cap) n cs :=
  ⟨by omega, Or.inr ⟨_, cap, cur, rfl, hB, new_block w e cur, hn, hm, by omega, ht⟩⟩
theorem zc_size (k : Nat) : (Builtin.zeroCells (Value.int .i64 0).cells k).size = k := by
  rw [size_zeroCells]
  simp [Value.cells]
/-- a number more, at its place -/
def insAt (X : List Int) (i : Nat) (a : Int) : List Int := X.take i ++ a :: X.drop i
theorem insAt_len (X : List Int) (i : Nat) (a : Int) (h : i ≤ X.length) : (insAt X i a).length = X.length + 1 := by
  have := congrArg List.length (List.take_append_drop i X)
  simp [insAt] at *; omega
theorem insAt_get (X : List Int) (i : Nat) (a : Int) (h : i ≤ X.length) (j : Nat) : (insAt X i a)[j]? = if j < i then X[j]? else if j = i then some a else X[j - 1]? := by
  unfold insAt
  by_cases h1 : j < i
  · rw [if_pos h1, List.getElem?_append_left (by simp; omega), List.getElem?_take_of_lt h1]
  · rw [if_neg h1, List.getElem?_append_right (by simp; omega)]
    rw [List.length_take, show min i X.length = i by omega]
    by_cases h2 : j = i
    · subst h2; simp
    · rw [if_neg h2, show j - i = (j - i - 1) + 1 by omega, List.getElem?_cons_succ, List.getElem?_drop]
      congr 1; omega

set_option maxHeartbeats 1000000 in
theorem insert_own (v : Value) (X : List Int) (B n i vb : Nat) (a : Int) (w : World) (h : w.ownsRow B 3 1 v n (rowV X)) (hi : i ≤ n) (hn : n < 1000) (hvb : Blk w vb 3 [.int .i64 a]) (hne : v.ownBlock ≠ some vb) (hB : B ≤ w.heap.size) :
    Calls Tryz.prog 88 #[v, .int .i64 i, .slice (some ⟨vb, 0, none⟩) 1 1] w fun e w' => ∃ v', e = .returned v' ∧ w'.ownsRow B 3 1 v' (n + 1) (rowV (insAt X i a)) ∧ (v'.ownBlock = v.ownBlock ∨ v'.ownBlock = some w.heap.size) ∧ Fr (fun k => v.ownBlock = some k) w w' := by
  have hl : X.length = n := by have := h.1; simpa [rowV] using this
  have hvs : ∀ j u, [Value.int .i64 a][j]? = some u → w.cell? ⟨vb, 0 + j, none⟩ = some u := fun j u hu => by rw [Nat.zero_add]; exact (hvb.cell j).trans hu
  have h1v : ∀ u ∈ [Value.int .i64 a], u.oneCell' = true := one_int .i64 a
  have hlen : (rowV X).length = n := by simpa [rowV] using hl
  have h1c : ∀ u ∈ rowV X, u.oneCell' = true := fun u hu => by obtain ⟨x, _, rfl⟩ := List.mem_map.1 hu; rfl
  have hrow : ∀ (cur : Array Value), (∀ j, j < n + 1 → cur[j]? = ((insAt X i a)[j]?).map (Value.int .i64)) → cur.toList.take ((n + 1) * 1) = rowV (insAt X i a) := by
    intro cur hc
    apply List.ext_getElem?
    intro j
    rw [Nat.mul_one]
    by_cases hj : j < n + 1
    · rw [List.getElem?_take_of_lt hj, Array.getElem?_toList, hc j hj]
      simp [rowV]
    · rw [List.getElem?_take_eq_none (by omega), List.getElem?_eq_none (by simp [rowV, insAt_len X i a (by omega)]; omega)]
  rcases h.2 with ⟨rfl, h1⟩ | ⟨g, cap, cur, rfl, hbg, hg, hnc, hcm, hcs, htake⟩
  · subst h1
    obtain rfl : i = 0 := by omega
    have hX : X = [] := List.eq_nil_of_length_eq_zero hl
    subst hX
    refine (Any2.slices_Insert_int_end_grow Tryz.laysNm221 none 0 0 vb 0 1 1 [] [.int .i64 a] w (by omega) (by omega) (by omega) (by omega) rfl rfl (fun _ => rfl) (fun _ h => by cases h) hvs h1v).mono ?_
    rintro e w' ⟨rfl, rfl⟩
    refine ⟨_, rfl, ?_, Or.inr rfl, ((Fr.refl _ w).drew).alloc _⟩
    have hge := grownCap_ge w (0 + 1) 0 (Tryz.laysNm221_ren.t 3)
    refine own_new_row (w := w.drew) _ hB (by rw [Array.size_append, zc_size]; simp only [List.size_toArray, List.length_append, List.length_nil, List.length_cons]; omega) hge (grownCap_le_maxLen w (0 + 1) 0 _ (by unfold maxLen; omega)) (by simp [rowV, insAt]) (hrow _ fun j hj => ?_)
    obtain rfl : j = 0 := by omega
    rw [Array.getElem?_append_left (by simp)]
    simp [insAt]
  · have hcells : ∀ j u, (rowV X)[j]? = some u → w.cell? ⟨g, 0 + j, none⟩ = some u := fun j u hu => by
      have := h.cells (g := g) rfl j u hu
      rwa [Addr.add_lit] at this
    have hgn : vb ≠ g := fun q => hne (by rw [q]; rfl)
    have hlt : g < w.heap.size := (Array.getElem?_eq_some_iff.1 hg).1
    have hcur : ∀ j, j < n → cur[j]? = (X[j]?).map (Value.int .i64) := fun j hj => by
      have h9 : (cur.toList.take (n * 1))[j]? = (rowV X)[j]? := by rw [htake]
      rw [List.getElem?_take_of_lt (by omega), Array.getElem?_toList] at h9
      rw [h9]; simp [rowV]
    have hfS : ∀ w', Fr (fun k => k = g) w w' → Fr (fun k => (Value.slice (some ⟨g, 0, none⟩) n cap).ownBlock = some k) w w' := fun w' hf => hf.mono (fun q _ hq => by subst hq; rfl)
    unfold maxLen at hcm
    by_cases hin : i < n
    · by_cases hroom : n + 1 ≤ cap
      · refine (Any2.slices_Insert_int_shift Tryz.laysNm221 g 0 n cap i vb 0 1 1 (rowV X) [.int .i64 a] w hin (by omega) hroom (by omega) hgn hlen rfl hcells (fun j hj => ?_) (fun j hj => by simp [World.frozen?, hg]) hvs h1c h1v 3 3 1 cur.size (by unfold Blk at hvb; simp [World.shape?, hvb]) (by simp [World.shape?, hg]) (by omega) (hvb.frozen 0) (hvb.frozen 1)).mono ?_
        · simp [World.cell?, hg]; omega
        rintro e w' ⟨rfl, rfl⟩
        refine ⟨_, rfl, ⟨by simp [rowV, insAt_len X i a (by omega)]; exact hl, Or.inr ⟨g, cap, over (over cur (0 + (i + 1)) ((rowV X).drop i)) (0 + i) [.int .i64 a], rfl, hbg, setCells_block _ _ _ _ (setCells_block _ _ w.drew cur hg), hroom, by unfold maxLen; omega, by rw [over_size, over_size]; exact hcs, hrow _ fun j hj => ?_⟩⟩, Or.inl rfl, hfS _ (Fr.setCells (S := fun k => k = g) g (Or.inl rfl) _ _ (Fr.setCells (S := fun k => k = g) g (Or.inl rfl) _ _ (Fr.refl (fun k => k = g) w).drew))⟩
        have hdl : ((rowV X).drop i).length = n - i := by simp [hlen]
        rw [over_get _ _ _ _ (by rw [over_size]; simp; omega), over_get _ _ _ _ (by rw [hdl]; omega), insAt_get X i a (by omega), hdl]
        by_cases h1 : j < i
        · rw [if_neg (by simp; omega), if_neg (by omega), if_pos h1, hcur j (by omega)]
        · by_cases h2 : j = i
          · subst h2; rw [if_pos (by simp), if_neg h1, if_pos rfl]; simp
          · rw [if_neg (by simp; omega), if_pos (by omega), if_neg h1, if_neg h2, List.getElem?_drop]
            simp only [rowV, List.getElem?_map]
            congr 2; omega
      · refine (Any2.slices_Insert_int_grow Tryz.laysNm221 g 0 n cap i vb 0 1 1 (rowV X) [.int .i64 a] w hin (by omega) hnc (by omega) (by omega) hlen rfl hcells hvs h1c h1v).mono ?_
        rintro e w' ⟨rfl, rfl⟩
        have hge := grownCap_ge w (n + 1) cap (Tryz.laysNm221_ren.t 3)
        have htl : ((rowV X).take i).length = i := by simp [hlen]; omega
        have hdl : ((rowV X).drop i).length = n - i := by simp [hlen]
        obtain ⟨cur0, hc0⟩ : ∃ cur0 : Array Value, cur0 = ((rowV X).take i).toArray ++ Builtin.zeroCells (Value.int .i64 0).cells (n + 1 - i) ++ Builtin.zeroCells (Value.int .i64 0).cells (grownCap w (n + 1) cap (Tryz.laysNm221_ren.t 3) - (n + 1)) := ⟨_, rfl⟩
        have hs0 : cur0.size = grownCap w (n + 1) cap (Tryz.laysNm221_ren.t 3) := by rw [hc0]; simp only [Array.size_append, zc_size, List.size_toArray, htl]; omega
        have hcl : ∀ j, j < i → cur0[j]? = (X[j]?).map (Value.int .i64) := fun j hj => by
          rw [hc0, Array.append_assoc, Array.getElem?_append_left (by simp; omega)]
          simp [rowV, List.getElem?_take_of_lt hj]
        refine ⟨_, rfl, ⟨by simp [rowV, insAt_len X i a (by omega)]; exact hl, Or.inr ⟨w.heap.size, _, over (over cur0 i [.int .i64 a]) (i + 1) ((rowV X).drop i), rfl, hB, ?_, hge, grownCap_le_maxLen w (n + 1) cap _ (by unfold maxLen; omega), by rw [over_size, over_size, hs0]; omega, hrow _ fun j hj => ?_⟩⟩, Or.inr rfl, ?_⟩
        · refine setCells_block _ _ _ _ ?_
          show ((World.setCells _ _ _ _).drew).heap[_]? = _
          refine setCells_block (fr := (0, 0)) [.int .i64 a] i _ cur0 ?_
          rw [hc0]
          exact new_block w 3 _
        · rw [over_get _ _ _ _ (by rw [over_size, hs0, hdl]; omega), over_get _ _ _ _ (by rw [hs0]; simp; omega), insAt_get X i a (by omega), hdl]
          by_cases h1 : j < i
          · rw [if_neg (by omega), if_neg (by simp; omega), if_pos h1, hcl j h1]
          · by_cases h2 : j = i
            · subst h2; rw [if_neg (by omega), if_pos (by simp), if_neg h1, if_pos rfl]; simp
            · rw [if_pos (by omega), if_neg h1, if_neg h2, List.getElem?_drop]
              simp only [rowV, List.getElem?_map]
              congr 2; omega
        · exact Fr.setCells _ (Or.inr (Nat.le_refl _)) _ _ (Fr.drew (Fr.setCells _ (Or.inr (Nat.le_refl _)) _ _ (((Fr.refl _ w).alloc _).drew)))
    · obtain rfl : i = n := by omega
      by_cases hroom : i + 1 ≤ cap
      · refine (Any2.slices_Insert_int_end_room Tryz.laysNm221 g 0 i cap vb 0 1 1 [.int .i64 a] w (by omega) hroom (by omega) rfl (fun j hj => ?_) (fun j hj => by simp [World.frozen?, hg]) hvs h1v).mono ?_
        · simp [World.cell?, hg]; omega
        rintro e w' ⟨rfl, rfl⟩
        refine ⟨_, rfl, ⟨by simp [rowV, insAt_len X i a (by omega)]; exact hl, Or.inr ⟨g, cap, over cur (0 + i) [.int .i64 a], rfl, hbg, setCells_block _ _ w cur hg, hroom, by unfold maxLen; omega, by rw [over_size]; exact hcs, hrow _ fun j hj => ?_⟩⟩, Or.inl rfl, hfS _ (Fr.setCells (S := fun k => k = g) g (Or.inl rfl) _ _ (Fr.refl (fun k => k = g) w))⟩
        rw [over_get _ _ _ _ (by simp; omega), insAt_get X i a (by omega)]
        by_cases h1 : j < i
        · rw [if_neg (by simp; omega), if_pos h1, hcur j h1]
        · obtain rfl : j = i := by omega
          rw [if_pos (by simp), if_neg h1, if_pos rfl]; simp
      · refine (Any2.slices_Insert_int_end_grow Tryz.laysNm221 (some ⟨g, 0, none⟩) i cap vb 0 1 1 (rowV X) [.int .i64 a] w (by omega) hnc (by omega) (by omega) hlen rfl (fun h => by cases h) (fun ad hd j u hu => by cases hd; rw [Addr.add_lit]; exact hcells j u hu) hvs h1v).mono ?_
        rintro e w' ⟨rfl, rfl⟩
        have hge := grownCap_ge w (i + 1) cap (Tryz.laysNm221_ren.t 3)
        refine ⟨_, rfl, own_new_row (w := w.drew) _ hB (by rw [Array.size_append, zc_size]; simp [hlen]; omega) hge (grownCap_le_maxLen w (i + 1) cap _ (by unfold maxLen; omega)) (by simp [rowV, insAt_len X i a (by omega)]; omega) (hrow _ fun j hj => ?_), Or.inr rfl, ((Fr.refl _ w).drew).alloc _⟩
        rw [Array.getElem?_append_left (by simp [hlen]; omega), insAt_get X i a (by omega)]
        by_cases h1 : j < i
        · rw [if_pos h1]; simp [rowV, List.getElem?_append_left, hl, h1]
        · obtain rfl : j = i := by omega
          rw [if_neg h1, if_pos rfl]; simp [rowV, hl]
end Go.Proofs.YtppmednmcbjafaaGreat
