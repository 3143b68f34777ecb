/-
  The pool's calls: Free, Drop, Traces.
-/
import Derived.Test.YtppmednmcbjafaaGreatPool
import Derived.Test.YtppmednmcbjafaaGreatSortI
set_option linter.unusedVariables false
set_option linter.unusedSimpArgs false
set_option maxRecDepth 100000
namespace Go.Proofs.YtppmednmcbjafaaGreat
open Go.RowKit Go Go.Lib Go.Sort

theorem take_more {bs : List Bf} {k : Nat} {b : Bf} (h : bs[k]? = some b) : bs.take (k + 1) = bs.take k ++ [b] := by
  obtain ⟨hk, rfl⟩ := List.getElem?_eq_some_iff.1 h
  rw [List.take_succ_eq_append_getElem hk]
/-- how many of the first k are free -/
def freeC (bs : List Bf) (k : Nat) : Nat := ((bs.take k).filter fun b => decide (b.n = 0)).length
theorem freeC_succ {bs : List Bf} {k : Nat} {b : Bf} (h : bs[k]? = some b) : freeC bs (k + 1) = freeC bs k + (if b.n = 0 then 1 else 0) := by
  unfold freeC
  rw [take_more h, List.filter_append, List.length_append]
  by_cases hb : b.n = 0 <;> simp [hb]
theorem freeC_le (bs : List Bf) (k : Nat) : freeC bs k ≤ k := Nat.le_trans (List.length_filter_le _ _) (by rw [List.length_take]; omega)
theorem free_nz (L : List Bf) : (L.filter fun b => decide (b.n = 0)).length + nz L = L.length := by
  unfold nz
  induction L with
  | nil => rfl
  | cons b r ih =>
    rw [List.filter_cons, List.filter_cons]
    by_cases hb : b.n = 0
    · have : ¬ 0 < b.n := by omega
      simp [hb]; omega
    · have : 0 < b.n := by omega
      simp [hb, this]; omega
theorem clo_empty (g o : Nat) (b : Bf) (w : World) (c9 : w.cell? ⟨g, o + 9, none⟩ = some (.int .i64 b.n)) :
    Calls Tryz.prog 139 #[.pointer (some ⟨g, o, none⟩)] w fun e w' => e = .returned (.bool (decide (b.n = 0))) ∧ w' = w := by
  by_cases h : b.n = 0
  · have hd : ((b.n : Int) == 0) = true := by simp; omega
    go_enter Tryz.func139, Tryz.ntmps139
    go_wp2
    go_ret
    exact ⟨by simp [h], rfl⟩
  · have hd : ((b.n : Int) == 0) = false := by simp; omega
    go_enter Tryz.func139, Tryz.ntmps139
    go_wp2
    go_ret
    exact ⟨by simp [h], rfl⟩
set_option maxHeartbeats 1000000 in
set_option maxRecDepth 10000 in
theorem count_free (g N : Nat) (bs : List Bf) (w : World) (h : Pl w g N bs) :
    Calls Tryz.prog 138 #[.pointer (some ⟨g, 0, none⟩), .func (.func 139) #[] #[]] w fun e w' => e = .returned (.int .i64 (freeC bs N)) ∧ w' = w := by
  have hsz := psize_any g N bs w h
  have hN := h.n16
  have hc9 := fun k b (hb : bs[k]? = some b) => h.c9 hb
  have hget := fun k (hk : k < 16) => h.get hk
  replace hc9 := Lib.hid hc9
  replace hget := Lib.hid hget
  clear h
  go_enter Tryz.func138, Tryz.ntmps138
  go_wp2_with fail
  refine hsz.mono ?_
  rintro e w1 ⟨rfl, hw1⟩
  obtain rfl := hw1.symm
  clear hsz hw1
  go_wp2_with fail
  go_loopg [5, 9] N (fun gk nv i wr => ∃ k : Nat, k + gk = N ∧ i = .int .i64 k ∧ nv = .int .i64 (freeC bs k) ∧ wr = w)
  case atStart => exact ⟨0, by omega, rfl, rfl, rfl⟩
  case round =>
    obtain ⟨k, hk, rfl, rfl, rfl⟩ := hrel
    by_cases hkn : k < N
    · obtain ⟨b, hb, hb3⟩ := hget.out k (by omega)
      have d9 := hc9.out k b hb
      have hof := clo_empty g (k * 10) b wr d9
      have hs := freeC_succ hb
      have hle := freeC_le bs k
      have hb1 : (k : Int) < 16 := by omega
      have hb0 : (0 : Int) ≤ k := by omega
      generalize hF : freeC bs k = F at *
      replace hF := Lib.hid hF
      replace hb := Lib.hid hb
      by_cases hz : b.n = 0
      · rw [decide_eq_true hz] at hof
        rw [if_pos hz] at hs
        replace hs := Lib.hid hs
        replace hz := Lib.hid hz
        go_wp2_with fail
        refine hof.mono ?_
        rintro e w1 ⟨rfl, hw1⟩
        obtain rfl := hw1.symm
        clear hof hw1
        go_wp2_with fail
        go_roundg (N - k - 1)
        case rel => exact ⟨k + 1, by omega, by go_num, by rw [hs.out]; go_num, rfl⟩
        case measure => omega
      · rw [decide_eq_false hz] at hof
        rw [if_neg hz] at hs
        replace hs := Lib.hid hs
        replace hz := Lib.hid hz
        go_wp2_with fail
        refine hof.mono ?_
        rintro e w1 ⟨rfl, hw1⟩
        obtain rfl := hw1.symm
        clear hof hw1
        go_wp2_with fail
        go_roundg (N - k - 1)
        case rel => exact ⟨k + 1, by omega, by go_num, by rw [hs.out]; rfl, rfl⟩
        case measure => omega
    · obtain rfl : k = N := by omega
      go_wp2_with fail
      go_ret
      exact ⟨rfl, rfl⟩
theorem pfree_any (g N : Nat) (bs : List Bf) (w : World) (h : Pl w g N bs) :
    Calls Tryz.prog 104 #[.pointer (some ⟨g, 0, none⟩)] w fun e w' => e = .returned (.int .i64 (freeC bs N)) ∧ w' = w := by
  have hc := count_free g N bs w h
  generalize freeC bs N = F at *
  go_enter Tryz.func104, Tryz.ntmps104
  go_wp2_with fail
  refine hc.mono ?_
  rintro e w1 ⟨rfl, hw1⟩
  obtain rfl := hw1.symm
  clear hc hw1
  go_wp2_with fail
  go_ret
  exact ⟨rfl, rfl⟩

/-! ### A buffer stored whole -/
def setL (cs : List Value) (o : Nat) : List Value → List Value
  | [] => cs
  | v :: r => setL (cs.set o v) (o + 1) r
theorem Blk.setCells {w : World} {g : Nat} {t : TypeId} : ∀ (vs : List Value) (o : Nat) (cs : List Value) (w : World), Blk w g t cs → Blk (w.setCells g o vs) g t (setL cs o vs)
  | [], o, cs, w, h => h
  | v :: r, o, cs, w, h => by
    rw [World.setCells]
    exact Blk.setCells (w := w) r (o + 1) _ _ (h.set o v)
theorem fr_setCells {g : Nat} : ∀ (vs : List Value) (o : Nat) (w : World), Fr (onlyB g) w (w.setCells g o vs)
  | [], o, w => Fr.refl _ _
  | v :: r, o, w => by
    rw [World.setCells]
    exact ((Fr.refl (onlyB g) w).store rfl).trans (fr_setCells r (o + 1) _) (fun _ _ q => q) (fun _ _ q => q)
theorem pool_step {bs : List Bf} {N k : Nat} {b0 b y : Bf} (h : bs[k]? = some b0) (j : Nat) (v : Value) (hj : j < 10) (he : bfC y = (bfC b).set j v) : (poolC (bs.set k b) N).set (k * 10 + j) v = poolC (bs.set k y) N := by
  have hk := (List.getElem?_eq_some_iff.1 h).1
  rw [poolC_set (b := b) (y := y) (by rw [List.getElem?_set_self hk]) j v hj he, List.set_set]
theorem set_self {bs : List Bf} {k : Nat} {b : Bf} (h : bs[k]? = some b) : bs.set k b = bs := by
  obtain ⟨hk, rfl⟩ := List.getElem?_eq_some_iff.1 h
  exact List.set_getElem_self hk
theorem setL_buf {bs : List Bf} {N k : Nat} {b : Bf} (h : bs[k]? = some b) (y : Bf) : setL (poolC bs N) (k * 10) (bfC y) = poolC (bs.set k y) N := by
  obtain ⟨yn, ⟨at', aq, ax⟩, ⟨bt, bq, bx⟩, ⟨ct, cq, cx⟩⟩ := y
  obtain ⟨n, ⟨at0, aq0, ax0⟩, ⟨bt0, bq0, bx0⟩, ⟨ct0, cq0, cx0⟩⟩ := b
  unfold bfC setL setL setL setL setL setL setL setL setL setL setL
  simp only
  have e0 : poolC bs N = poolC (bs.set k ⟨n, ⟨at0, aq0, ax0⟩, ⟨bt0, bq0, bx0⟩, ⟨ct0, cq0, cx0⟩⟩) N := by rw [set_self h]
  simp only [Nat.add_assoc, Nat.reduceAdd]
  rw [e0]
  have s0 : (poolC (bs.set k ⟨n, ⟨at0, aq0, ax0⟩, ⟨bt0, bq0, bx0⟩, ⟨ct0, cq0, cx0⟩⟩) N).set (k * 10) (.int .i64 at') = poolC (bs.set k ⟨n, ⟨at', aq0, ax0⟩, ⟨bt0, bq0, bx0⟩, ⟨ct0, cq0, cx0⟩⟩) N := pool_step h 0 _ (by omega) rfl
  rw [s0]
  have s1 : (poolC (bs.set k ⟨n, ⟨at', aq0, ax0⟩, ⟨bt0, bq0, bx0⟩, ⟨ct0, cq0, cx0⟩⟩) N).set (k * 10 + 1) (.int .i64 aq) = poolC (bs.set k ⟨n, ⟨at', aq, ax0⟩, ⟨bt0, bq0, bx0⟩, ⟨ct0, cq0, cx0⟩⟩) N := pool_step h 1 _ (by omega) rfl
  rw [s1]
  have s2 : (poolC (bs.set k ⟨n, ⟨at', aq, ax0⟩, ⟨bt0, bq0, bx0⟩, ⟨ct0, cq0, cx0⟩⟩) N).set (k * 10 + 2) (.string ax) = poolC (bs.set k ⟨n, ⟨at', aq, ax⟩, ⟨bt0, bq0, bx0⟩, ⟨ct0, cq0, cx0⟩⟩) N := pool_step h 2 _ (by omega) rfl
  rw [s2]
  have s3 : (poolC (bs.set k ⟨n, ⟨at', aq, ax⟩, ⟨bt0, bq0, bx0⟩, ⟨ct0, cq0, cx0⟩⟩) N).set (k * 10 + 3) (.int .i64 bt) = poolC (bs.set k ⟨n, ⟨at', aq, ax⟩, ⟨bt, bq0, bx0⟩, ⟨ct0, cq0, cx0⟩⟩) N := pool_step h 3 _ (by omega) rfl
  rw [s3]
  have s4 : (poolC (bs.set k ⟨n, ⟨at', aq, ax⟩, ⟨bt, bq0, bx0⟩, ⟨ct0, cq0, cx0⟩⟩) N).set (k * 10 + 4) (.int .i64 bq) = poolC (bs.set k ⟨n, ⟨at', aq, ax⟩, ⟨bt, bq, bx0⟩, ⟨ct0, cq0, cx0⟩⟩) N := pool_step h 4 _ (by omega) rfl
  rw [s4]
  have s5 : (poolC (bs.set k ⟨n, ⟨at', aq, ax⟩, ⟨bt, bq, bx0⟩, ⟨ct0, cq0, cx0⟩⟩) N).set (k * 10 + 5) (.string bx) = poolC (bs.set k ⟨n, ⟨at', aq, ax⟩, ⟨bt, bq, bx⟩, ⟨ct0, cq0, cx0⟩⟩) N := pool_step h 5 _ (by omega) rfl
  rw [s5]
  have s6 : (poolC (bs.set k ⟨n, ⟨at', aq, ax⟩, ⟨bt, bq, bx⟩, ⟨ct0, cq0, cx0⟩⟩) N).set (k * 10 + 6) (.int .i64 ct) = poolC (bs.set k ⟨n, ⟨at', aq, ax⟩, ⟨bt, bq, bx⟩, ⟨ct, cq0, cx0⟩⟩) N := pool_step h 6 _ (by omega) rfl
  rw [s6]
  have s7 : (poolC (bs.set k ⟨n, ⟨at', aq, ax⟩, ⟨bt, bq, bx⟩, ⟨ct, cq0, cx0⟩⟩) N).set (k * 10 + 7) (.int .i64 cq) = poolC (bs.set k ⟨n, ⟨at', aq, ax⟩, ⟨bt, bq, bx⟩, ⟨ct, cq, cx0⟩⟩) N := pool_step h 7 _ (by omega) rfl
  rw [s7]
  have s8 : (poolC (bs.set k ⟨n, ⟨at', aq, ax⟩, ⟨bt, bq, bx⟩, ⟨ct, cq, cx0⟩⟩) N).set (k * 10 + 8) (.string cx) = poolC (bs.set k ⟨n, ⟨at', aq, ax⟩, ⟨bt, bq, bx⟩, ⟨ct, cq, cx⟩⟩) N := pool_step h 8 _ (by omega) rfl
  rw [s8]
  have s9 : (poolC (bs.set k ⟨n, ⟨at', aq, ax⟩, ⟨bt, bq, bx⟩, ⟨ct, cq, cx⟩⟩) N).set (k * 10 + 9) (.int .i64 yn) = poolC (bs.set k ⟨yn, ⟨at', aq, ax⟩, ⟨bt, bq, bx⟩, ⟨ct, cq, cx⟩⟩) N := pool_step h 9 _ (by omega) rfl
  rw [s9]
theorem storeB {w : World} {g N k : Nat} {bs : List Bf} {b : Bf} (h : Pl w g N bs) (hb : bs[k]? = some b) (y : Bf) (hy : y.n ≤ 3) : ∃ w2, w2 = w.setCells g (k * 10) (bfC y) ∧ Fr (onlyB g) w w2 ∧ Pl w2 g N (bs.set k y) := by
  refine ⟨_, rfl, fr_setCells _ _ _, ?_, by rw [List.length_set]; exact h.len, h.n1, h.n16, fun c hc => ?_⟩
  · rw [← setL_buf hb]; exact Blk.setCells (w := w) _ _ _ _ h.blk
  · rcases List.mem_or_eq_of_mem_set hc with q | q
    · exact h.n3 c q
    · rw [q]; exact hy
abbrev zero10 : Array Value := #[.int .i64 0, .int .i64 0, .string (ByteArray.mk #[]), .int .i64 0, .int .i64 0, .string (ByteArray.mk #[]), .int .i64 0, .int .i64 0, .string (ByteArray.mk #[]), .int .i64 0]
theorem storeB0 {w : World} {g N k : Nat} {bs : List Bf} {b : Bf} (h : Pl w g N bs) (hb : bs[k]? = some b) : ∃ w2, w2 = w.setCells g (k * 10) (#[.int .i64 0, .int .i64 0, .string (ByteArray.mk #[]), .int .i64 0, .int .i64 0, .string (ByteArray.mk #[]), .int .i64 0, .int .i64 0, .string (ByteArray.mk #[]), .int .i64 0] : Array Value).toList ∧ Fr (onlyB g) w w2 ∧ Pl w2 g N (bs.set k bf0) := storeB h hb bf0 (by decide)
theorem thereB {w : World} {g N k : Nat} {bs : List Bf} (h : Pl w g N bs) (hk : k < 16) : w.there g (k * 10) 10 := fun j hj => by
  obtain ⟨b, hb, _⟩ := h.get hk
  refine ⟨?_, Blk.frozen h.blk _⟩
  rw [h.cell hb j hj, List.getElem?_eq_getElem (by rw [bfC_len]; exact hj)]; rfl
theorem size_buf : (Tryz.prog.info? 181).map (·.size) = some 10 := by kernel_rfl
theorem one_buf (b : Bf) : (bfC b).toArray.all (·.oneCell') = true := all_oneCell_toArray (fun v hv => by
  unfold bfC at hv
  simp only [List.mem_cons, List.not_mem_nil, or_false] at hv
  rcases hv with rfl | rfl | rfl | rfl | rfl | rfl | rfl | rfl | rfl | rfl <;> rfl)

/-- the first k buffers of a trace are free again -/
def dropTo (t : Int) (bs : List Bf) (k : Nat) : List Bf := (bs.take k).map (dropB t) ++ bs.drop k
theorem dropTo_zero (t : Int) (bs : List Bf) : dropTo t bs 0 = bs := rfl
theorem dropTo_get {t : Int} {bs : List Bf} {k : Nat} {b : Bf} (h : bs[k]? = some b) : (dropTo t bs k)[k]? = some b := by
  have hk := (List.getElem?_eq_some_iff.1 h).1
  unfold dropTo
  rw [List.getElem?_append_right (by rw [List.length_map, List.length_take]; omega), List.length_map, List.length_take, List.getElem?_drop, ← h]
  congr 1
  omega
theorem dropTo_succ {t : Int} {bs : List Bf} {k : Nat} {b : Bf} (h : bs[k]? = some b) : dropTo t bs (k + 1) = (dropTo t bs k).set k (dropB t b) := by
  have hk := (List.getElem?_eq_some_iff.1 h).1
  unfold dropTo
  rw [take_more h, List.map_append, List.set_append_right _ _ (by rw [List.length_map, List.length_take]; omega), List.length_map, List.length_take, show k - min k bs.length = 0 by omega]
  have : bs.drop k = b :: bs.drop (k + 1) := by
    obtain ⟨_, rfl⟩ := List.getElem?_eq_some_iff.1 h
    rw [List.getElem_cons_drop]
  rw [this, List.set_cons_zero]
  simp
theorem dropTo_take {t : Int} {bs : List Bf} {N : Nat} (h : N ≤ bs.length) : (dropTo t bs N).take N = (bs.take N).map (dropB t) := by
  unfold dropTo
  rw [List.take_append_of_le_length (by rw [List.length_map, List.length_take]; omega), List.take_of_length_le (by rw [List.length_map, List.length_take]; omega)]

set_option maxHeartbeats 2000000 in
set_option maxRecDepth 10000 in
theorem pdrop_any (g N : Nat) (bs : List Bf) (t : Int) (w : World) (h : Pl w g N bs) :
    Calls Tryz.prog 111 #[.pointer (some ⟨g, 0, none⟩), .int .i64 t] w fun e w' => (∃ m : Int, e = .returned (.int .i64 m)) ∧ Pl w' g N (dropTo t bs N) ∧ Fr (onlyB g) w w' := by
  have hsz := psize_any g N bs w h
  have hN := h.n16
  have hget := fun k (hk : k < 16) => h.get hk
  replace hget := Lib.hid hget
  have hszb : (Tryz.prog.info? 181).map (·.size) = some (zero10).size := size_buf
  have honb : zero10.all (·.oneCell') = true := one_buf bf0
  replace hszb := Lib.hid hszb
  replace honb := Lib.hid honb
  go_enter Tryz.func111, Tryz.ntmps111
  go_wp2_with fail
  refine hsz.mono ?_
  rintro e w1 ⟨rfl, hw1⟩
  obtain rfl := hw1.symm
  clear hsz hw1
  go_wp2_with fail
  go_loopg [5, 10] N (fun gk nv i wr => ∃ k m : Nat, k + gk = N ∧ i = .int .i64 k ∧ nv = .int .i64 m ∧ m ≤ k ∧ Hid (Pl wr g N (dropTo t bs k)) ∧ Fr (onlyB g) w wr)
  case atStart => exact ⟨0, 0, by omega, rfl, rfl, Nat.le_refl _, Lib.hid h, Fr.refl _ _⟩
  case round =>
    clear h
    obtain ⟨k, m, hk, rfl, rfl, hm, hp, fr⟩ := hrel
    by_cases hkn : k < N
    · obtain ⟨b, hb, hb3⟩ := hget.out k (by omega)
      have hb2 := dropTo_get (t := t) hb
      have d0 := hp.out.c0 hb2
      have d9 := hp.out.c9 hb2
      have hof := of_any g (k * 10) t b wr d9 d0
      have hs := dropTo_succ (t := t) hb
      have hb1 : (k : Int) < 16 := by omega
      have hb0 : (0 : Int) ≤ k := by omega
      replace hb := Lib.hid hb
      replace hb2 := Lib.hid hb2
      cases ho : b.of t with
      | true =>
        rw [ho] at hof
        have he : dropB t b = bf0 := by unfold dropB; rw [ho]; rfl
        rw [he] at hs
        replace hs := Lib.hid hs
        have hth : wr.there g (k * 10) zero10.size := thereB hp.out (by omega)
        replace hth := Lib.hid hth
        replace ho := Lib.hid ho
        clear he d0 d9
        go_wp2_with fail
        refine hof.mono ?_
        rintro e w1 ⟨rfl, hw1⟩
        obtain rfl := hw1.symm
        clear hof hw1
        go_wp2_with (first
          | (refine wpList_store_mid rfl 181 (.tmp 23) (.tmp 22) rfl g (k * 10) #[.int .i64 0, .int .i64 0, .string (ByteArray.mk #[]), .int .i64 0, .int .i64 0, .string (ByteArray.mk #[]), .int .i64 0, .int .i64 0, .string (ByteArray.mk #[]), .int .i64 0] rfl rfl hth.out hszb.out honb.out ?_; obtain ⟨w2, hw2, f2, p2⟩ := storeB0 hp.out hb2.out; rw [← hw2]; clear hw2; rw [← hs.out] at p2; replace p2 := Lib.hid p2)
          | fail)
        go_roundg (N - k - 1)
        case rel => exact ⟨k + 1, m + 1, by omega, by go_num, by go_num, by omega, p2, fr.trans f2 (fun _ _ q => q) (fun _ _ q => q)⟩
        case measure => omega
      | false =>
        rw [ho] at hof
        have he : dropB t b = b := by unfold dropB; rw [ho]; rfl
        rw [he, set_self hb2.out] at hs
        replace hs := Lib.hid hs
        replace ho := Lib.hid ho
        clear he
        go_wp2_with fail
        refine hof.mono ?_
        rintro e w1 ⟨rfl, hw1⟩
        obtain rfl := hw1.symm
        clear hof hw1
        go_wp2_with fail
        go_roundg (N - k - 1)
        case rel => exact ⟨k + 1, m, by omega, by go_num, rfl, by omega, by rw [hs.out]; exact hp, fr⟩
        case measure => omega
    · obtain rfl : k = N := by omega
      go_wp2_with fail
      go_ret
      exact ⟨⟨_, rfl⟩, hp.out, fr⟩

/-! ### Compact at a row of the call's own -/
theorem putCells_take (cur : Array Value) (a b : List Int) (h : a.length + b.length ≤ cur.size) : (putCells (Value.int .i64) 0 (a ++ b).toArray cur).toList.take a.length = a.map (Value.int .i64) := by
  have h1 := take_putCellsI cur (a ++ b) (by rw [List.length_append]; exact h)
  rw [List.length_append] at h1
  have h2 := congrArg (List.take a.length) h1
  rw [List.take_take, Nat.min_eq_left (by omega), List.map_append, List.take_left' (by simp)] at h2
  exact h2
theorem compact_len (zs : List Int) : (compact zs).length ≤ zs.length := by
  unfold compact compactUpTo
  rw [List.length_map]
  exact Nat.le_trans (List.length_filter_le _ _) (by simp)
theorem compact_own (v : Value) (zs : List Int) (B n : Nat) (w : World) (h : w.ownsRow B 3 1 v n (zs.map (Value.int .i64))) :
    Calls Tryz.prog 141 #[v] w fun e w' => ∃ u, e = .returned u ∧ w'.ownsRow B 3 1 u (compact zs).length ((compact zs).map (Value.int .i64)) ∧ w.grownBy w' v.ownBlock ∧ u.ownBlock = v.ownBlock := by
  have hl : zs.length = n := by simpa using h.1
  rcases h.2 with ⟨rfl, h1⟩ | ⟨g, cap, cur, rfl, hbg, hg, hnc, hcm, hcs, htake⟩
  · subst h1
    have : zs = [] := List.eq_nil_of_length_eq_zero hl
    subst this
    refine (Tryz.slices_Compact_int_empty none 0 w).mono ?_
    rintro e w' ⟨rfl, rfl⟩
    exact ⟨_, rfl, h, ⟨rfl, rfl, rfl, Nat.le_refl _, fun _ _ _ => rfl⟩, rfl⟩
  · subst hl
    have hH := holds_of_blockI (ss := zs) hg (by simpa using htake)
    have hmx : zs.length ≤ 9223372036854775807 := by unfold maxLen at hcm; omega
    refine (Tryz.slices_Compact_int g 0 cap zs w hH hmx hnc).mono ?_
    rintro e w' ⟨rfl, q, rfl⟩
    have hcl := compact_len zs
    have e0 : ∀ d : Array Int, putRow (Value.int .i64) (Sort.ahead w q) g 0 d = grow (putRow (Value.int .i64) (Sort.ahead w q) g 0 d) #[] := fun d => by unfold grow; rw [Array.append_empty]
    refine ⟨_, rfl, ⟨by simp, Or.inr ⟨g, cap, putCells (Value.int .i64) 0 (compact zs ++ List.replicate (zs.length - (compact zs).length) 0).toArray cur, rfl, hbg, ?_, by omega, hcm, by simp [putCells, hcs], ?_⟩⟩, ?_, rfl⟩
    · rw [e0]; exact heap_sortedI _ hg
    · rw [Nat.mul_one]; exact putCells_take cur _ _ (by rw [List.length_replicate, hcs]; omega)
    · rw [e0]; exact grownBy_sortedI _

/-! ### Traces -/
theorem tracesOf_succ {bs : List Bf} {k : Nat} {b : Bf} (h : bs[k]? = some b) : tracesOf (bs.take (k + 1)) = tracesOf (bs.take k) ++ (if 0 < b.n then [b.a.t] else []) := by
  unfold tracesOf
  rw [take_more h, List.filter_append, List.map_append]
  congr 1
  by_cases hb : 0 < b.n <;> simp [hb]
theorem tracesOf_len (bs : List Bf) (k : Nat) : (tracesOf (bs.take k)).length ≤ k := by
  unfold tracesOf
  rw [List.length_map]
  exact Nat.le_trans (List.length_filter_le _ _) (by rw [List.length_take]; omega)
def rowV (X : List Int) : List Value := X.map (Value.int .i64)
theorem infoIntR : (Tryz.prog.info? 3).map (fun i => (i.zero, i.size, i.bytes)) = some (some (.int .i64 0), 1, 8) := by kernel_rfl
theorem grow_int {w wr w1 : World} {B : Nat} {v v' : Value} {O : List Int} {y : Int} {o : Obj} (hB : Hid (w.heap.size = B)) (fr : Fr noB w wr) (hA : (wr.alloc o).ownsRow B 3 1 v O.length (rowV O))
    (o1 : w1.ownsRow B 3 1 v' (O.length + 1) (rowV O ++ [.int .i64 y])) (gr : (wr.alloc o).grownBy w1 v.ownBlock) :
    w1.ownsRow B 3 1 v' (O ++ [y]).length (rowV (O ++ [y])) ∧ Fr noB w w1 := by
  refine ⟨by rw [List.length_append]; simpa [rowV] using o1, (fr.alloc _).grown gr (fun q hq hlt => ?_)⟩
  have := (hA.lt q hq).1
  have := hB.out
  omega
set_option maxHeartbeats 2000000 in
set_option maxRecDepth 10000 in
theorem ptraces_any (g N : Nat) (bs : List Bf) (w : World) (h : Pl w g N bs) :
    Calls Tryz.prog 109 #[.pointer (some ⟨g, 0, none⟩)] w fun e w' => ∃ u, e = .returned u ∧ w'.ownsRow w.heap.size 3 1 u (compact (sortI (tracesOf (bs.take N)))).length (rowV (compact (sortI (tracesOf (bs.take N))))) ∧ Fr noB w w' := by
  obtain ⟨i0, hi0, hz0, hz1, hz2⟩ : ∃ i0, Tryz.prog.info? 3 = some i0 ∧ i0.zero = some (.int .i64 0) ∧ i0.size = 1 ∧ i0.bytes = 8 := by
    have hI := infoIntR
    cases hq : Tryz.prog.info? 3 with
    | none => rw [hq] at hI; cases hI
    | some k => rw [hq] at hI; simp at hI; exact ⟨k, rfl, hI⟩
  have hsz := psize_any g N bs w h
  have hN := h.n16
  have hget := fun k (hk : k < 16) => h.get hk
  replace hget := Lib.hid hget
  generalize hB : w.heap.size = B at *
  replace hB := Lib.hid hB
  replace h := Lib.hid h
  go_enter Tryz.func109, Tryz.ntmps109
  go_wp2_with fail
  refine hsz.mono ?_
  rintro e w1 ⟨rfl, hw1⟩
  obtain rfl := hw1.symm
  clear hsz hw1
  go_wp2_with fail
  go_loopg [3, 8] N (fun gk nv i wr => ∃ k : Nat, k + gk = N ∧ i = .int .i64 k ∧ Hid (wr.ownsRow B 3 1 nv (tracesOf (bs.take k)).length (rowV (tracesOf (bs.take k)))) ∧ Fr noB w wr)
  case atStart => exact ⟨0, by omega, rfl, Lib.hid (World.ownsRow_nil _ _ _ _), Fr.refl _ _⟩
  case round =>
    obtain ⟨k, hk, rfl, own, fr⟩ := hrel
    by_cases hkn : k < N
    · obtain ⟨b, hb, hb3⟩ := hget.out k (by omega)
      have d0 := (h.out.frN fr).c0 hb
      have d9 := (h.out.frN fr).c9 hb
      have hs := tracesOf_succ hb
      have hlen := tracesOf_len bs k
      have hb1 : (k : Int) < 16 := by omega
      have hb0 : (0 : Int) ≤ k := by omega
      have hBw : B ≤ wr.heap.size := by rw [← hB.out]; exact fr.size
      replace hb := Lib.hid hb
      generalize hO : tracesOf (bs.take k) = O at *
      replace hO := Lib.hid hO
      by_cases hn : 0 < b.n
      · have hd : decide ((0 : Int) < (b.n : Int)) = true := by simp; omega
        rw [if_pos hn] at hs
        replace hs := Lib.hid hs
        replace hn := Lib.hid hn
        have hA := ownsRow_fr own.out ((Fr.refl noB wr).alloc (.cells #[.int .i64 b.a.t] 3)) (fun _ _ q => q)
        have hNw := cell_new wr (.int .i64 b.a.t) 3
        clear own
        go_wp2_with (first
          | (at_builtin; go_must (refine wpList_append_at _ rfl (.tmp 21) (.tmp 28) 57 rfl B 3 i0 _ 1 8 Tryz.underlying57 hi0 hz0 hz1 hz2 rfl (by omega) _ O.length _ rfl hA ⟨wr.heap.size, 0, none⟩ 1 1 [.int .i64 b.a.t] rfl rfl hNw (one_int _ _) ?_ ?_ ?_ ?_))
          | fail)
        · unfold maxLen; omega
        · omega
        · have := ((Fr.refl noB wr).alloc (.cells #[.int .i64 b.a.t] 3)).size; omega
        intro v' w3 o3 gr3 _
        obtain ⟨own3, fr3⟩ := grow_int hB fr hA o3 gr3
        rw [← hs.out] at own3
        replace own3 := Lib.hid own3
        clear hA hNw o3 gr3
        go_wp2_with fail
        go_roundg (N - k - 1)
        case rel => exact ⟨k + 1, by omega, by go_num, own3, fr3⟩
        case measure => omega
      · have hd : decide ((0 : Int) < (b.n : Int)) = false := by simp; omega
        rw [if_neg hn, List.append_nil] at hs
        replace hs := Lib.hid hs
        replace hn := Lib.hid hn
        go_wp2_with fail
        go_roundg (N - k - 1)
        case rel => exact ⟨k + 1, by omega, by go_num, by rw [hs.out]; exact own, fr⟩
        case measure => omega
    · obtain rfl : k = N := by omega
      have hso := sort_own u3 (tracesOf (bs.take k)) B _ wr own.out (by have := tracesOf_len bs k; omega)
      clear own
      go_wp2_with fail
      refine hso.mono ?_
      rintro e w2 ⟨rfl, o2, gr2⟩
      have f2 : Fr noB w w2 := fr.grown gr2 (fun q hq hlt => by
        have := hso
        exact absurd hlt (Nat.not_lt.2 (by rw [hB.out]; exact (o2.lt q hq).1)))
      have hco := compact_own u3 (sortI (tracesOf (bs.take k))) B _ w2 o2
      clear hso gr2
      go_wp2_with fail
      refine hco.mono ?_
      rintro e w3 ⟨u, rfl, o3, gr3, _⟩
      have f3 : Fr noB w w3 := f2.grown gr3 (fun q hq hlt => absurd hlt (Nat.not_lt.2 (by rw [hB.out]; exact (o2.lt q hq).1)))
      clear hco gr3 o2
      go_wp2_with fail
      go_ret
      exact ⟨_, rfl, o3, f3⟩
end Go.Proofs.YtppmednmcbjafaaGreat
