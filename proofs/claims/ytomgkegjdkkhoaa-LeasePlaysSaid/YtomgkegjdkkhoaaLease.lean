/-
  The leases' calls, each by what it does to the two maps.
-/
import Derived.Test.YtomgkegjdkkhoaaMapA
import Derived.Test.YtomgkegjdkkhoaaAppend
import Derived.OwnWalk
import Derived.Deep.DeepMust
set_option linter.unusedVariables false
set_option linter.unusedSimpArgs false
namespace Go.Proofs.Ytomgkegjdkkhoaa
open Go.RowKit Go Go.Lib

theorem KI : KeyLit Try.prog 3 kvI klI okI := keyLit_int Try.underlying3
def mkI (x : Int) : Value := .int .i64 x
theorem mkI_inj (x y : Int) (h : mkI x = mkI y) : x = y := by cases h; rfl
/-- a hold: the job, and the last tick -/
def mkH (x : Int × Int) : Value := .agg #[.int .i64 x.1, .int .i64 x.2]
theorem mkH_inj (x y : Int × Int) (h : mkH x = mkH y) : x = y := by cases x; cases y; cases h; rfl
theorem zeroInt (w : World) : (zeroValue 3).run Try.prog w = .ok (mkI 0) w := by kernel_rfl
theorem zeroHold (w : World) : (zeroValue 54).run Try.prog w = .ok (mkH (0, 0)) w := by kernel_rfl

abbrev MH (w : World) (b n : Nat) (H : List (Int × (Int × Int))) : Prop := Mp Try.prog 3 klI mkH w b n H
abbrev MO (w : World) (b n : Nat) (O : List (Int × Int)) : Prop := Mp Try.prog 3 klI mkI w b n O
/-- Leases at block g: its two maps at bh and bo. -/
structure Ls (w : World) (g bh bo : Nat) (G : List Int) (T now : Int) (H : List (Int × (Int × Int))) (O : List (Int × Int)) : Prop where
  blk : Blk w g 52 [.int .i64 T, .int .i64 now, .map (some bh), .map (some bo)]
  mh : MH w bh G.length H
  mo : MO w bo G.length O
  hG : ∀ p ∈ H, p.1 ∈ G
  oG : ∀ p ∈ O, p.1 ∈ G
  n1 : bh ≠ g
  n2 : bo ≠ g
  n3 : bh ≠ bo
  t0 : 1 ≤ T
  t1 : T ≤ 1000
  w0 : 0 ≤ now
  w1 : now ≤ 1000000
  sz : G.length ≤ 1000000000
def lsB (g bh bo : Nat) : Nat → Prop := fun k => k = g ∨ k = bh ∨ k = bo
theorem Ls.fr {w w' : World} {g bh bo : Nat} {G : List Int} {T now : Int} {H : List (Int × (Int × Int))} {O : List (Int × Int)} {S : Nat → Prop} (h : Ls w g bh bo G T now H O) (hf : Fr S w w') (hg : ∀ k, lsB g bh bo k → ¬ S k) : Ls w' g bh bo G T now H O :=
  ⟨hf.blk h.blk (hg _ (Or.inl rfl)), h.mh.fr hf (hg _ (Or.inr (Or.inl rfl))), h.mo.fr hf (hg _ (Or.inr (Or.inr rfl))), h.hG, h.oG, h.n1, h.n2, h.n3, h.t0, h.t1, h.w0, h.w1, h.sz⟩
theorem Ls.drewN {w : World} {g bh bo : Nat} {G : List Int} {T now : Int} {H : List (Int × (Int × Int))} {O : List (Int × Int)} (h : Ls w g bh bo G T now H O) (q : Nat) : Ls (w.drewN q) g bh bo G T now H O :=
  h.fr ((Fr.refl noB w).drewN q) (fun _ _ q => q)
theorem Ls.lt {w : World} {g bh bo : Nat} {G : List Int} {T now : Int} {H : List (Int × (Int × Int))} {O : List (Int × Int)} (h : Ls w g bh bo G T now H O) : ∀ k, lsB g bh bo k → k < w.heap.size := by
  rintro k (rfl | rfl | rfl)
  · exact h.blk.lt
  · exact h.mh.lt
  · exact h.mo.lt

theorem field0 (x y : Int) (w : World) : (Instr.field 54 (.agg #[.int .i64 x, .int .i64 y]) 0).run Try.prog w = .ok (.int .i64 x) w := by kernel_rfl
theorem field1 (x y : Int) (w : World) : (Instr.field 54 (.agg #[.int .i64 x, .int .i64 y]) 1).run Try.prog w = .ok (.int .i64 y) w := by kernel_rfl
theorem lnew_no (T : Int) (w : World) (h : T < 1 ∨ 1000 < T) : Calls Try.prog 7 #[.int .i64 T] w fun e w' => e = .returned (.tuple #[.pointer none, .int .i64 1]) ∧ w' = w := by
  rcases h with h | h
  · go_enter Try.func7, Try.ntmps7
    go_wp2
    go_ret2
    exact ⟨rfl, rfl⟩
  · have h2 : ¬ T < 1 := by omega
    go_enter Try.func7, Try.ntmps7
    go_wp2
    go_ret2
    exact ⟨rfl, rfl⟩
theorem lnew_any (T : Int) (w : World) (h0 : 1 ≤ T) (h1 : T ≤ 1000) : Calls Try.prog 7 #[.int .i64 T] w fun e w' => e = .returned (.tuple #[.pointer (some ⟨w.heap.size + 2, 0, none⟩), .int .i64 0]) ∧ Ls w' (w.heap.size + 2) w.heap.size (w.heap.size + 1) [] T 0 [] [] ∧ Fr noB w w' := by
  have hmm := @run_makeMap Try.prog
  go_enter Try.func7, Try.ntmps7
  go_wp2
  go_ret2
  have f1 := (Fr.refl noB w).alloc (.map #[] 0)
  have f2 := (Fr.refl noB (w.alloc (.map #[] 0))).alloc (.map #[] 0)
  have f3 := (Fr.refl noB ((w.alloc (.map #[] 0)).alloc (.map #[] 0))).alloc (.cells #[.int .i64 T, .int .i64 0, .map (some w.heap.size), .map (some (w.heap.size + 1))] 52)
  have s1 : (w.alloc (.map #[] 0)).heap.size = w.heap.size + 1 := by simp
  have s2 : ((w.alloc (.map #[] 0)).alloc (.map #[] 0)).heap.size = w.heap.size + 2 := by simp
  have b3 := Blk.new ((w.alloc (.map #[] 0)).alloc (.map #[] 0)) 52 [.int .i64 T, .int .i64 0, .map (some w.heap.size), .map (some (w.heap.size + 1))]
  rw [s2] at b3
  have m1 : MH _ _ 0 [] := Mp.made w
  have m2 : MO _ _ 0 [] := Mp.made (w.alloc (.map #[] 0))
  rw [s1] at m2
  exact ⟨rfl, ⟨b3, (m1.fr f2 (fun q => q)).fr f3 (fun q => q), m2.fr f3 (fun q => q), by simp, by simp, by omega, by omega, by omega, h0, h1, by omega, by omega, by simp⟩, (f1.seqN f2).seqN f3⟩

theorem lgrant_nil (t j : Int) (w : World) : Calls Try.prog 8 #[.pointer none, .int .i64 t, .int .i64 j] w fun e w' => e = .returned (.tuple #[]) ∧ w' = w := by
  go_enter Try.func8, Try.ntmps8
  go_wp2
  go_end0
  exact ⟨rfl, rfl⟩
theorem lgrant_any (g bh bo : Nat) (G : List Int) (T now t j : Int) (H : List (Int × (Int × Int))) (O : List (Int × Int)) (w : World) (h : Ls w g bh bo G T now H O) (ht : okI t) (hn : G.length < 1000000000) :
    Calls Try.prog 8 #[.pointer (some ⟨g, 0, none⟩), .int .i64 t, .int .i64 j] w fun e w' => e = .returned (.tuple #[]) ∧ Ls w' g bh bo (t :: G) T now (withKey H t (j, now + T)) O ∧ Fr (lsB g bh bo) w w' := by
  have h2 := h
  obtain ⟨hb, mh, mo, hG, oG, n1, n2, n3, t0, t1, w0, w1, sz⟩ := h
  have c0 : w.cell? ⟨g, 0, none⟩ = some (.int .i64 T) := hb.cell 0
  have c1 : w.cell? ⟨g, 1, none⟩ = some (.int .i64 now) := hb.cell 1
  have c2 : w.cell? ⟨g, 2, none⟩ = some (.map (some bh)) := hb.cell 2
  have hs := IntWalk.i64_in (now + T) (by omega)
  have hne := run_neq_map_nil (P := Try.prog) w _ _ _ (some bh) Try.underlying50
  go_enter Try.func8, Try.ntmps8
  go_wp2_with fail
  go_still_tail 16, (by kernel_rfl)
  have mh' := mh.fr ((Fr.refl noB w).drewN 1) (fun q => q)
  change wpList _ _ _ _ _ w.drew
  replace mh' : MH w.drew bh G.length H := mh'
  have fd : Fr (lsB g bh bo) w w.drew := (Fr.refl (lsB g bh bo) w).drewN 1
  have fd2 : Fr (onlyB bh) w w.drew := (Fr.refl (onlyB bh) w).drewN 1
  generalize w.drew = w2 at *
  go_wp2_with (first
    | (at_mapUpdate; refine wpList_put_mp _ rfl _ _ _ 50 rfl KI Try.underlying50 mkH_inj mh' (by unfold maxLen; omega) t (j, now + T) ht rfl rfl (by first | rfl | (simp only [hs]; rfl)) ?_; intro w5 m5 f5)
    | fail)
  go_wp2
  go_end0
  have f6 : Fr (lsB g bh bo) w w5 := fd.seqB f5 (fun _ => Or.inr (Or.inl rfl))
  have f2 : Fr (onlyB bh) w w5 := fd2.trans f5 (fun _ _ q => q) (fun _ _ q => q)
  exact ⟨rfl, ⟨f2.blk hb (fun q => n1 q.symm), m5, (mo.fr f2 (fun q => n3 q.symm)).mono (by simp), (fun p hp => by
    rcases List.mem_cons.1 hp with rfl | hp
    · simp
    · exact List.mem_cons_of_mem _ (hG p (List.mem_filter.1 hp).1)), (fun p hp => List.mem_cons_of_mem _ (oG p hp)), n1, n2, n3, t0, t1, w0, w1, by simp; omega⟩, f6⟩

theorem lend_nil (t : Int) (w : World) : Calls Try.prog 10 #[.pointer none, .int .i64 t] w fun e w' => e = .returned (.tuple #[]) ∧ w' = w := by
  go_enter Try.func10, Try.ntmps10
  go_wp2
  go_end0
  exact ⟨rfl, rfl⟩
theorem lend_any (g bh bo : Nat) (G : List Int) (T now t : Int) (H : List (Int × (Int × Int))) (O : List (Int × Int)) (w : World) (h : Ls w g bh bo G T now H O) (ht : okI t) :
    Calls Try.prog 10 #[.pointer (some ⟨g, 0, none⟩), .int .i64 t] w fun e w' => e = .returned (.tuple #[]) ∧ Ls w' g bh bo G T now (without H t) O ∧ Fr (lsB g bh bo) w w' := by
  obtain ⟨hb, mh, mo, hG, oG, n1, n2, n3, t0, t1, w0, w1, sz⟩ := h
  have c2 : w.cell? ⟨g, 2, none⟩ = some (.map (some bh)) := hb.cell 2
  go_enter Try.func10, Try.ntmps10
  go_wp2_with (first
    | (at_delete; refine wpList_del_mp _ rfl _ _ 50 3 rfl KI Try.underlying50 mh t ht rfl rfl ?_; intro w5 m5 f5)
    | fail)
  go_wp2
  go_end0
  exact ⟨rfl, ⟨f5.blk hb (fun q => n1 q.symm), m5, (mo.fr f5 (fun q => n3 q.symm)), (fun p hp => hG p (List.mem_filter.1 hp).1), oG, n1, n2, n3, t0, t1, w0, w1, sz⟩, f5.mono (fun i _ q => by unfold onlyB at q; subst q; exact Or.inr (Or.inl rfl))⟩

theorem ljob_nil (t : Int) (w : World) : Calls Try.prog 16 #[.pointer none, .int .i64 t] w fun e w' => e = .returned (.int .i64 0) ∧ w' = w := by
  go_enter Try.func16, Try.ntmps16
  go_wp2
  go_ret
  exact ⟨rfl, rfl⟩
theorem ljob_any (g bh bo : Nat) (G : List Int) (T now t : Int) (H : List (Int × (Int × Int))) (O : List (Int × Int)) (w : World) (h : Ls w g bh bo G T now H O) (ht : okI t) :
    Calls Try.prog 16 #[.pointer (some ⟨g, 0, none⟩), .int .i64 t] w fun e w' => e = .returned (.int .i64 ((look H t).getD (0, 0)).1) ∧ w' = w := by
  obtain ⟨hb, mh, mo, hG, oG, n1, n2, n3, t0, t1, w0, w1, sz⟩ := h
  have c2 : w.cell? ⟨g, 2, none⟩ = some (.map (some bh)) := hb.cell 2
  have hrun := mh.run_look KI Try.underlying50 (zeroHold w) mkH_inj t ht
  unfold mkH kvI at hrun
  generalize (look H t).getD (0, 0) = y at *
  have hf0 := field0 y.1 y.2 w
  go_enter Try.func16, Try.ntmps16
  go_wp2
  go_ret
  exact ⟨rfl, rfl⟩

theorem lleft_nil (t : Int) (w : World) : Calls Try.prog 17 #[.pointer none, .int .i64 t] w fun e w' => e = .returned (.int .i64 0) ∧ w' = w := by
  go_enter Try.func17, Try.ntmps17
  go_wp2
  go_ret
  exact ⟨rfl, rfl⟩
/-- how many ticks are left of a hold -/
def leftOf (now : Int) : Option (Int × Int) → Int
  | none => 0
  | some x => x.2 - now
theorem lleft_any (g bh bo : Nat) (G : List Int) (T now t : Int) (H : List (Int × (Int × Int))) (O : List (Int × Int)) (w : World) (h : Ls w g bh bo G T now H O) (ht : okI t) (hb0 : ∀ x, look H t = some x → 0 ≤ x.2 ∧ x.2 ≤ 2000000) :
    Calls Try.prog 17 #[.pointer (some ⟨g, 0, none⟩), .int .i64 t] w fun e w' => e = .returned (.int .i64 (leftOf now (look H t))) ∧ Fr noB w w' := by
  obtain ⟨hb, mh, mo, hG, oG, n1, n2, n3, t0, t1, w0, w1, sz⟩ := h
  have c1 : w.cell? ⟨g, 1, none⟩ = some (.int .i64 now) := hb.cell 1
  have c2 : w.cell? ⟨g, 2, none⟩ = some (.map (some bh)) := hb.cell 2
  have hg := hb.lt
  have hrun := mh.run_look_ok KI Try.underlying50 (zeroHold w) mkH_inj t ht
  unfold mkH kvI at hrun
  cases hl : look H t with
  | none =>
    rw [hl] at hrun
    replace hl := Lib.hid hl
    simp only [Option.getD_none, Option.isSome_none] at hrun
    clear hb0
    go_enter Try.func17, Try.ntmps17
    go_wp2
    go_ret
    exact ⟨rfl, (Fr.refl noB w).alloc _⟩
  | some y =>
    rw [hl] at hrun
    obtain ⟨y0, y1⟩ := hb0 y hl
    replace hl := Lib.hid hl
    simp only [Option.getD_some, Option.isSome_some] at hrun
    obtain ⟨a, b⟩ := y
    simp only [] at y0 y1 hrun
    clear hb0
    have hs := IntWalk.i64_in (b - now) (by omega)
    have z1 := (((Fr.refl noB w).alloc (.cells #[.int .i64 a, .int .i64 b] 54)).blk hb (fun q => q)).cell 1
    have z2 := (Blk.new w 54 [.int .i64 a, .int .i64 b]).cell 1
    go_enter Try.func17, Try.ntmps17
    go_wp2_with fail
    go_quiet (fail)
    go_wp2
    go_ret
    exact ⟨rfl, ((Fr.refl noB w).alloc _).drewN _⟩
theorem lover_nil (t : Int) (w : World) : Calls Try.prog 18 #[.pointer none, .int .i64 t] w fun e w' => e = .returned (.int .i64 0) ∧ w' = w := by
  go_enter Try.func18, Try.ntmps18
  go_wp2
  go_ret
  exact ⟨rfl, rfl⟩
theorem lover_any (g bh bo : Nat) (G : List Int) (T now t : Int) (H : List (Int × (Int × Int))) (O : List (Int × Int)) (w : World) (h : Ls w g bh bo G T now H O) (ht : okI t) :
    Calls Try.prog 18 #[.pointer (some ⟨g, 0, none⟩), .int .i64 t] w fun e w' => e = .returned (.int .i64 ((look O t).getD 0)) ∧ w' = w := by
  obtain ⟨hb, mh, mo, hG, oG, n1, n2, n3, t0, t1, w0, w1, sz⟩ := h
  have c2 : w.cell? ⟨g, 3, none⟩ = some (.map (some bo)) := hb.cell 3
  have hrun := mo.run_look KI Try.underlying47 (zeroInt w) mkI_inj t ht
  unfold mkI kvI at hrun
  generalize (look O t).getD 0 = y at *
  go_enter Try.func18, Try.ntmps18
  go_wp2
  go_ret
  exact ⟨rfl, rfl⟩
theorem llen_nil (w : World) : Calls Try.prog 20 #[.pointer none] w fun e w' => e = .returned (.int .i64 0) ∧ w' = w := by
  go_enter Try.func20, Try.ntmps20
  go_wp2
  go_ret
  exact ⟨rfl, rfl⟩
theorem llen_any (g bh bo : Nat) (G : List Int) (T now : Int) (H : List (Int × (Int × Int))) (O : List (Int × Int)) (w : World) (h : Ls w g bh bo G T now H O) :
    Calls Try.prog 20 #[.pointer (some ⟨g, 0, none⟩)] w fun e w' => e = .returned (.int .i64 H.length) ∧ w' = w := by
  obtain ⟨hb, mh, mo, hG, oG, n1, n2, n3, t0, t1, w0, w1, sz⟩ := h
  have c2 : w.cell? ⟨g, 2, none⟩ = some (.map (some bh)) := hb.cell 2
  have hrun := mh.run_len Try.underlying50 3
  generalize H.length = y at *
  go_enter Try.func20, Try.ntmps20
  go_wp2
  go_ret
  exact ⟨rfl, rfl⟩
theorem ltick_nil (w : World) : Calls Try.prog 13 #[.pointer none] w fun e w' => e = .returned (.slice none 0 0) ∧ w' = w := by
  go_enter Try.func13, Try.ntmps13
  go_wp2
  go_ret
  exact ⟨rfl, rfl⟩
end Go.Proofs.Ytomgkegjdkkhoaa
