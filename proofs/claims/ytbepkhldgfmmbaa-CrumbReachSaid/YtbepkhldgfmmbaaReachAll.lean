/-
  Whom one comes to: the numbers, and the whole walk.
-/
import Derived.Test.YtbepkhldgfmmbaaReach
import Derived.Test.YtbepkhldgfmmbaaInts
set_option linter.unusedVariables false
set_option linter.unusedSimpArgs false
namespace Go.Proofs.Ytbepkhldgfmmbaa
open Go.RowKit Go Go.Maps Go.Lib

/-- whom one comes to -/
inductive Rch (G : List (List Int)) (f : Int) : Int → Prop
  | base : 0 ≤ f → f < G.length → Rch G f f
  | step {i x : Int} : Rch G f i → x ∈ G.getD i.toNat [] → 0 ≤ x → x < G.length → Rch G f x
theorem Rch.range {G : List (List Int)} {f i : Int} (h : Rch G f i) : 0 ≤ i ∧ i < G.length := by
  cases h with
  | base a b => exact ⟨a, b⟩
  | step _ _ a b => exact ⟨a, b⟩

/-- asked so far: A; the first k of them have been gone through, and of the next one's names those of ex -/
structure Bf (G : List (List Int)) (f : Int) (A : List Int) (k : Nat) (ex : List Int) : Prop where
  nd : A.Nodup
  rch : ∀ a ∈ A, Rch G f a
  st : 0 ≤ f → f < G.length → f ∈ A
  cl : ∀ t, t < k → ∀ a, A[t]? = some a → ∀ x ∈ G.getD a.toNat [], 0 ≤ x → x < G.length → x ∈ A
  ex : ∀ x ∈ ex, 0 ≤ x → x < G.length → x ∈ A
  kl : k ≤ A.length
theorem Bf.len {G : List (List Int)} {f : Int} {A : List Int} {k : Nat} {ex : List Int} (h : Bf G f A k ex) : A.length ≤ G.length := by
  have := nodup_le (l := A) (G := (List.range G.length).map Int.ofNat) h.nd (fun a ha => by
    have hr := (h.rch a ha).range
    refine List.mem_map.2 ⟨a.toNat, List.mem_range.2 (by omega), ?_⟩
    show ((a.toNat : Nat) : Int) = a
    omega)
  simpa using this
theorem meetI_mem (n : Nat) (A : List Int) (i : Int) : ∀ a ∈ A, a ∈ meetI n A i := fun a ha => by
  unfold meetI; split
  · exact ha
  · exact List.mem_append_left _ ha
theorem meetI_self (n : Nat) (A : List Int) (i : Int) (h0 : 0 ≤ i) (h1 : i < n) : i ∈ meetI n A i := by
  unfold meetI; split
  · rename_i h; exact h.elim id (fun q => absurd ⟨h0, h1⟩ q)
  · simp
theorem meetI_get (n : Nat) (A : List Int) (i : Int) (t : Nat) (ht : t < A.length) : (meetI n A i)[t]? = A[t]? := by
  unfold meetI; split
  · rfl
  · rw [List.getElem?_append_left ht]
theorem meetI_len (n : Nat) (A : List Int) (i : Int) : A.length ≤ (meetI n A i).length := by
  unfold meetI; split
  · exact Nat.le_refl _
  · simp
theorem Bf.meet {G : List (List Int)} {f : Int} {A : List Int} {k : Nat} {ex : List Int} (h : Bf G f A k ex) (i : Int) (hi : 0 ≤ i → i < G.length → Rch G f i) : Bf G f (meetI G.length A i) k (ex ++ [i]) := by
  refine ⟨?_, ?_, fun a b => meetI_mem _ _ _ _ (h.st a b), fun t ht a ha x hx x0 x1 => ?_, fun x hx x0 x1 => ?_, Nat.le_trans h.kl (meetI_len _ _ _)⟩
  · unfold meetI; split
    · exact h.nd
    · rename_i hn
      rw [List.nodup_append]
      exact ⟨h.nd, by simp, fun a ha b hb e => hn (Or.inl (by simp at hb; rw [← hb, ← e]; exact ha))⟩
  · unfold meetI; split
    · exact h.rch
    · rename_i hn
      have hr : 0 ≤ i ∧ i < G.length := Classical.byContradiction (fun q => hn (Or.inr q))
      intro a ha
      rcases List.mem_append.1 ha with ha | ha
      · exact h.rch a ha
      · simp at ha; subst ha; exact hi hr.1 hr.2
  · rw [meetI_get _ _ _ _ (by have := h.kl; omega)] at ha
    exact meetI_mem _ _ _ _ (h.cl t ht a ha x hx x0 x1)
  · rcases List.mem_append.1 hx with hx | hx
    · exact meetI_mem _ _ _ _ (h.ex x hx x0 x1)
    · simp at hx; subst hx; exact meetI_self _ _ _ x0 x1
theorem Bf.start (G : List (List Int)) (f : Int) : Bf G f (meetI G.length [] f) 0 [] := by
  refine ⟨?_, ?_, fun a b => meetI_self _ _ _ a b, fun t ht => absurd ht (Nat.not_lt_zero _), fun x hx => by simp at hx, Nat.zero_le _⟩
  · unfold meetI; split <;> simp
  · unfold meetI; split
    · intro a ha; simp at ha
    · rename_i hn
      have hr : 0 ≤ f ∧ f < G.length := Classical.byContradiction (fun q => hn (Or.inr q))
      intro a ha; simp at ha; subst ha; exact Rch.base hr.1 hr.2
theorem Bf.next {G : List (List Int)} {f a : Int} {A : List Int} {k : Nat} (h : Bf G f A k (G.getD a.toNat [])) (ha : A[k]? = some a) : Bf G f A (k + 1) [] := by
  refine ⟨h.nd, h.rch, h.st, fun t ht b hb x hx x0 x1 => ?_, fun x hx => by simp at hx, ?_⟩
  · by_cases e : t = k
    · subst e; rw [ha] at hb; cases hb; exact h.ex x hx x0 x1
    · exact h.cl t (by omega) b hb x hx x0 x1
  · have := (List.getElem?_eq_some_iff.1 ha).1; omega
theorem Bf.done {G : List (List Int)} {f : Int} {A : List Int} (h : Bf G f A A.length []) (i : Int) : i ∈ A ↔ Rch G f i := by
  refine ⟨h.rch i, fun hr => ?_⟩
  induction hr with
  | base a b => exact h.st a b
  | step _ hx x0 x1 ih =>
    obtain ⟨t, ht⟩ := List.mem_iff_getElem?.1 ih
    exact h.cl t (List.getElem?_eq_some_iff.1 ht).1 _ ht _ hx x0 x1

theorem get_getD {xs : List Int} {q : Nat} (h : q < xs.length) : xs[q]? = some (xs.getD q 0) := by simp [List.getD, h]
theorem take_getD {xs : List Int} {q : Nat} (h : q < xs.length) : xs.take (q + 1) = xs.take q ++ [xs.getD q 0] := by
  rw [List.take_succ_eq_append_getElem h]
  simp [List.getD, h]

/-- names that can be read -/
def Nm (w : World) (v : Value) (G : List (List Int)) : Prop :=
  ∃ a c, v = .slice a G.length c ∧ G.length ≤ c ∧ ∀ i, i < G.length → ∃ g o vi, a = some ⟨g, o, none⟩ ∧ w.cell? ⟨g, o + i, none⟩ = some vi ∧ RdI w vi (G.getD i [])
theorem RdI.frB {w w' : World} {v : Value} {xs : List Int} {S : Nat → Prop} (h : RdI w v xs) (hf : Fr S w w') (hS : ∀ k, k < w.heap.size → ¬ S k) : RdI w' v xs := by
  obtain ⟨a, c, h1, h2, h3, h4⟩ := h
  refine ⟨a, c, h1, h2, h3, fun i hi => ?_⟩
  obtain ⟨g, o, e, hc⟩ := h4 i hi
  exact ⟨g, o, e, hf.cell hc (hS g (lt_of_cell hc))⟩
theorem Nm.frB {w w' : World} {v : Value} {G : List (List Int)} {S : Nat → Prop} (h : Nm w v G) (hf : Fr S w w') (hS : ∀ k, k < w.heap.size → ¬ S k) : Nm w' v G := by
  obtain ⟨a, c, h1, h2, h4⟩ := h
  refine ⟨a, c, h1, h2, fun i hi => ?_⟩
  obtain ⟨g, o, vi, e, hc, hr⟩ := h4 i hi
  exact ⟨g, o, vi, e, hf.cell hc (hS g (lt_of_cell hc)), hr.frB hf hS⟩

set_option maxHeartbeats 4000000 in
set_option maxRecDepth 10000 in
theorem creach_any (f : Int) (vn : Value) (G : List (List Int)) (w : World) (hN : Nm w vn G) (hf : okI f) (hG : G.length ≤ 1000) (hR : ∀ l ∈ G, l.length ≤ 1000 ∧ ∀ x ∈ l, okI x) :
    Calls Try.prog 17 #[.int .i64 f, vn] w fun e w' => ∃ v A, e = .returned v ∧ w'.ownsRow w.heap.size 3 1 v A.length (rowV A) ∧ A.Pairwise (· < ·) ∧ (∀ i, i ∈ A ↔ Rch G f i) ∧ Fr noB w w' := by
  have hN2 := hN
  obtain ⟨na, nc, rfl, hnc, hcells⟩ := hN
  have hcells2 := Lib.hid hcells
  replace hN2 := Lib.hid hN2
  replace hcells := Lib.hid hcells
  replace hR := Lib.hid hR
  have hmm := @run_makeMap Try.prog
  have hn0 := Lib.hid (rfl : G.length = G.length)
  generalize hn : G.length = n at hcells hcells2 hnc hG hN2 hn0 ⊢
  replace hn := Lib.hid hn
  clear hn0
  have s1 : (w.alloc (.cells #[.slice na n nc] 28)).heap.size = w.heap.size + 1 := by simp
  have s2 : ((w.alloc (.cells #[.slice na n nc] 28)).alloc (.map #[] 0)).heap.size = w.heap.size + 1 + 1 := by simp
  have s3 : (((w.alloc (.cells #[.slice na n nc] 28)).alloc (.map #[] 0)).alloc (.cells #[.map (some (w.heap.size + 1))] 63)).heap.size = w.heap.size + 1 + 1 + 1 := by simp
  have s4 : ((((w.alloc (.cells #[.slice na n nc] 28)).alloc (.map #[] 0)).alloc (.cells #[.map (some (w.heap.size + 1))] 63)).alloc (.cells #[.slice none 0 0] 27)).heap.size = w.heap.size + 1 + 1 + 1 + 1 := by simp
  have b1 := Blk.new w 28 [.slice na n nc]
  have m2 : Mp Try.prog 3 klI mkU ((w.alloc (.cells #[.slice na n nc] 28)).alloc (.map #[] 0)) (w.alloc (.cells #[.slice na n nc] 28)).heap.size 0 ([] : List (Int × Unit)) := Mp.made _
  rw [s1] at m2
  have b3 := Blk.new ((w.alloc (.cells #[.slice na n nc] 28)).alloc (.map #[] 0)) 63 [.map (some (w.heap.size + 1))]
  rw [s2] at b3
  have b4 := Blk.new (((w.alloc (.cells #[.slice na n nc] 28)).alloc (.map #[] 0)).alloc (.cells #[.map (some (w.heap.size + 1))] 63)) 27 [.slice none 0 0]
  rw [s3] at b4
  have f0 := (Fr.refl noB w).alloc (.cells #[.slice na n nc] 28)
  have f1 := (Fr.refl noB (w.alloc (.cells #[.slice na n nc] 28))).alloc (.map #[] 0)
  have f2 := (Fr.refl noB ((w.alloc (.cells #[.slice na n nc] 28)).alloc (.map #[] 0))).alloc (.cells #[.map (some (w.heap.size + 1))] 63)
  have f3 := (Fr.refl noB (((w.alloc (.cells #[.slice na n nc] 28)).alloc (.map #[] 0)).alloc (.cells #[.map (some (w.heap.size + 1))] 63))).alloc (.cells #[.slice none 0 0] 27)
  have st0 : Rs w ((((w.alloc (.cells #[.slice na n nc] 28)).alloc (.map #[] 0)).alloc (.cells #[.map (some (w.heap.size + 1))] 63)).alloc (.cells #[.slice none 0 0] 27)) w.heap.size (w.heap.size + 1 + 1) (w.heap.size + 1 + 1 + 1) (w.heap.size + 1) (w.heap.size + 1 + 1 + 1 + 1) (.slice na n nc) [] none 0 :=
    ⟨(f3.blk b3 (fun q => q)).cell 0, (((f1.seqN f2).seqN f3).blk b1 (fun q => q)).cell 0, b4, m2.fr (f2.seqN f3) (fun q => q), World.ownsRow_nil _ _ _ _, (((f0.seqN f1).seqN f2).seqN f3).mono (fun _ _ q => False.elim q), by omega, by omega, by omega, by omega, by omega, by omega, by omega, by omega, by omega, by omega⟩
  have hcall := cmeet_any w _ _ _ _ _ _ n nc na [] none 0 f st0 hf (by simp) (by omega)
  clear s1 s2 s3 s4 b1 m2 b3 b4 f0 f1 f2 f3 st0
  go_enter Try.func17, Try.ntmps17
  go_wp2_with fail
  refine hcall.mono ?_
  rintro e w1 ⟨rfl, a1, c1, st1⟩
  clear hcall
  have hbf : Bf G f (meetI n [] f) 0 [] := by rw [← hn.out]; exact Bf.start G f
  replace hbf := Lib.hid hbf
  generalize meetI n [] f = A1 at *
  generalize hh : w.heap.size = h0 at *
  replace hh := Lib.hid hh
  go_wp2_with fail
  go_loopw [8] (fun i wr => ∃ (k : Nat) (A : List Int) (a : Option Addr) (c : Nat), i = .int .i64 k ∧ Rs w wr h0 (h0 + 1 + 1) (h0 + 1 + 1 + 1) (h0 + 1) (h0 + 1 + 1 + 1 + 1) (.slice na n nc) A a c ∧ Hid (Bf G f A k [])) (fun i _ => n - (RowKit.intOf i).toNat)
  case atStart => exact ⟨0, A1, a1, c1, rfl, st1, hbf⟩
  case round =>
    clear st1 hbf
    obtain ⟨k, A, a, c, rfl, st, bf⟩ := hrel
    have d1 : wr.cell? ⟨h0 + 1 + 1 + 1, 0, none⟩ = some (.slice a A.length c) := st.bq.cell 0
    have hlen := bf.out.len
    have hkl := bf.out.kl
    rw [hn.out] at hlen
    by_cases hlt : k < A.length
    · obtain ⟨x, hx⟩ : ∃ x, A[k]? = some x := ⟨_, List.getElem?_eq_getElem hlt⟩
      have hrx := (bf.out.rch x (List.mem_of_getElem? hx)).range
      rw [hn.out] at hrx
      obtain ⟨p, rfl⟩ : ∃ p : Nat, x = (p : Int) := ⟨x.toNat, by omega⟩
      have hp : p < n := by omega
      have hca : ∃ g o, a = some ⟨g, o, none⟩ ∧ wr.cell? ⟨g, o + k, none⟩ = some (.int .i64 p) := by
        obtain ⟨a6, c6, q1, q2, q3, q4⟩ := RdI.of_own st.own
        cases q1
        obtain ⟨g, o, q5, q6⟩ := q4 k hlt
        refine ⟨g, o, q5, ?_⟩
        rw [q6]; simp [List.getD, hx]
      obtain ⟨ga, oa, rfl, e1⟩ := hca
      obtain ⟨gn, on', vi, hna, e2, hrd⟩ := hcells.out p hp
      have hR2 : (G.getD p []).length ≤ 1000 ∧ ∀ y ∈ G.getD p [], okI y := by
        have : p < G.length := by rw [hn.out]; exact hp
        refine hR.out _ ?_
        simp [List.getD, this]
      obtain ⟨ai, ci, rfl, _, hmc, hrow⟩ := hrd
      obtain ⟨hm1, hok2⟩ := hR2
      have hS : ∀ g, g < w.heap.size → ¬ h0 ≤ g := fun g q => by have := hh.out; omega
      have e3 : wr.cell? ⟨gn, on' + p, none⟩ = some (.slice ai (G.getD p []).length ci) := st.fr.cell e2 (hS _ (lt_of_cell e2))
      have e4 := st.cn
      rw [hna] at e4
      replace hna := Lib.hid hna
      have hrowl := Lib.hid hrow
      generalize hm : (G.getD p []).length = m at *
      generalize hlA : A.length = lA at *
      replace hlA := Lib.hid hlA
      replace hm := Lib.hid hm
      replace hx := Lib.hid hx
      replace bf := Lib.hid bf.out
      replace hok2 := Lib.hid hok2
      replace hS := Lib.hid hS
      clear hrow hrx
      go_wp2_with fail
      go_quiet (fail)
      rename_i nq
      have fd := (Fr.refl noB wr).drewN nq
      have st2 := st.frN fd
      clear st e1 e2 e3 e4 d1 fd
      generalize wr.drewN nq = wd at *
      go_wp2_with fail
      go_loopw [30] (fun jj wr => ∃ (q : Nat) (A2 : List Int) (a2 : Option Addr) (c2 : Nat), q ≤ m ∧ jj = .int .i64 q ∧ Rs w wr h0 (h0 + 1 + 1) (h0 + 1 + 1 + 1) (h0 + 1) (h0 + 1 + 1 + 1 + 1) (.slice na n nc) A2 a2 c2 ∧ Hid (Bf G f A2 k ((G.getD p []).take q) ∧ A2[k]? = some (p : Int) ∧ k < A2.length)) (fun jj _ => m - (RowKit.intOf jj).toNat)
      case atStart => exact ⟨0, A, _, c, by omega, rfl, st2, Lib.hid ⟨bf.out, hx.out, by rw [hlA.out]; exact hlt⟩⟩
      case round =>
        clear st2 bf hx
        obtain ⟨wr2, rfl⟩ : ∃ wr2 : World, wr2 = wr := ⟨_, rfl⟩
        obtain ⟨q, A2, a2, c2, hq, rfl, st, hbf⟩ := hrel
        have hlen2 := hbf.out.1.len
        rw [hn.out] at hlen2
        by_cases hlq : q < m
        · obtain ⟨gi, oi, rfl, e5⟩ := hrowl.out q hlq
          have e6 := st.fr.cell e5 (hS.out _ (lt_of_cell e5))
          have hqy : q < (G.getD p []).length := by rw [hm.out]; exact hlq
          have hy : (G.getD p [])[q]? = some ((G.getD p []).getD q 0) := get_getD hqy
          have hoy := hok2.out _ (List.mem_of_getElem? hy)
          have hstep : (G.getD p []).take (q + 1) = (G.getD p []).take q ++ [(G.getD p []).getD q 0] := take_getD hqy
          have hb1 : Bf G f (meetI n A2 ((G.getD p []).getD q 0)) k ((G.getD p []).take (q + 1)) ∧ (meetI n A2 ((G.getD p []).getD q 0))[k]? = some (p : Int) ∧ k < (meetI n A2 ((G.getD p []).getD q 0)).length := by
            refine ⟨?_, by rw [meetI_get _ _ _ _ hbf.out.2.2]; exact hbf.out.2.1, Nat.lt_of_lt_of_le hbf.out.2.2 (meetI_len _ _ _)⟩
            rw [hstep, ← hn.out]
            exact hbf.out.1.meet _ (fun y0 y1 => Rch.step (hbf.out.1.rch _ (List.mem_of_getElem? hbf.out.2.1)) (by rw [Int.toNat_natCast]; exact List.mem_of_getElem? hy) y0 y1)
          have hcall := cmeet_any w _ _ _ _ _ _ n nc na A2 a2 c2 _ st hoy (by omega) (by omega)
          replace hb1 := Lib.hid hb1
          clear e5 hy hstep hqy hbf hoy st
          generalize (G.getD p []).getD q 0 = y at *
          generalize meetI n A2 y = A3 at *
          go_wp2_with fail
          refine hcall.mono ?_
          rintro e w5 ⟨rfl, a5, c5, st5⟩
          clear hcall e6
          go_wp2_with fail
          go_roundw
          case rel => exact ⟨q + 1, A3, a5, c5, by omega, by go_num, st5, hb1⟩
          case measure => simp [RowKit.intOf]; omega
        · obtain rfl : q = m := by omega
          have hb2 : Bf G f A2 (k + 1) [] := by
            refine Bf.next (a := (p : Int)) ?_ hbf.out.2.1
            rw [Int.toNat_natCast]
            have := hbf.out.1
            rw [List.take_of_length_le (by rw [hm.out]; exact Nat.le_refl _)] at this
            exact this
          replace hb2 := Lib.hid hb2
          clear hbf
          go_wp2_with fail
          go_roundw
          case rel => exact ⟨k + 1, A2, a2, c2, by go_num, st, hb2⟩
          case measure => simp [RowKit.intOf]; omega
    · obtain rfl : k = A.length := by omega
      have hsrt := sort_own _ A (h0 + 1 + 1 + 1 + 1) A.length wr st.own (by omega)
      have hdone := bf.out.done
      have hnd := bf.out.nd
      have hfin : (sortI A).Pairwise (· < ·) := by
        have h1 := sortI_sorted A
        have h2 : (sortI A).Nodup := (sortI_perm A).nodup_iff.2 hnd
        exact (h1.and h2).imp (fun hab => by omega)
      have hmem : ∀ i, i ∈ sortI A ↔ Rch G f i := fun i => by rw [(sortI_perm A).mem_iff]; exact hdone i
      have hsl := sortI_len A
      have hlo : ∀ q, (Value.slice a A.length c).ownBlock = some q → h0 + 1 + 1 + 1 + 1 ≤ q := fun q hq => (st.own.lt q hq).1
      generalize sortI A = A9 at *
      generalize hlA : A.length = lA at *
      replace hfin := Lib.hid hfin
      replace hmem := Lib.hid hmem
      replace hsl := Lib.hid hsl
      clear hdone hnd hlA bf
      go_wp2_with fail
      refine hsrt.mono ?_
      rintro e w5 ⟨rfl, o5, g5⟩
      have f5 := (Fr.refl (fun k => h0 + 1 + 1 + 1 + 1 ≤ k) wr).grown g5 (fun q hq _ => hlo q hq)
      have d5 : w5.cell? ⟨h0 + 1 + 1 + 1, 0, none⟩ = some (.slice a lA c) := f5.cell d1 (by omega)
      have f6 : Fr (fun k => h0 ≤ k) w w5 := st.fr.trans f5 (fun _ _ q => q) (fun i _ q => by omega)
      clear hsrt d1
      go_wp2_with fail
      go_ret
      exact ⟨_, A9, rfl, by rw [hsl.out, hh.out]; exact ownsRow_mono o5 (by omega), hfin.out, hmem.out, f6.mono (fun i hi q => by have := hh.out; omega)⟩
end Go.Proofs.Ytbepkhldgfmmbaa
