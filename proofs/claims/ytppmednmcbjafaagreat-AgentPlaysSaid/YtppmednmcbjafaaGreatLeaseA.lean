/-
  The leases' calls, each by what it does to the two maps.
-/
import Derived.Test.YtppmednmcbjafaaGreatKeep
import Derived.OwnWalk
import Derived.Deep.DeepMust
set_option linter.unusedVariables false
set_option linter.unusedSimpArgs false
set_option maxRecDepth 100000
namespace Go.Proofs.YtppmednmcbjafaaGreat
open Go.RowKit Go Go.Lib

def mkI (x : Int) : Value := .int .i64 x
theorem mkI_inj (x y : Int) (h : mkI x = mkI y) : x = y := by cases h; rfl
/-- a hold: the job, and the last tick -/
def mkH (x : Int × Int) : Value := .agg #[.int .i64 x.1, .int .i64 x.2]
theorem mkH_inj (x y : Int × Int) (h : mkH x = mkH y) : x = y := by cases x; cases y; cases h; rfl
theorem zeroInt (w : World) : (zeroValue 3).run Tryz.prog w = .ok (mkI 0) w := by kernel_rfl
theorem zeroHold (w : World) : (zeroValue 168).run Tryz.prog w = .ok (mkH (0, 0)) w := by kernel_rfl

abbrev MH (w : World) (b n : Nat) (H : List (Int × (Int × Int))) : Prop := Mp Tryz.prog 3 klI mkH w b n H
abbrev MO (w : World) (b n : Nat) (O : List (Int × Int)) : Prop := Mp Tryz.prog 3 klI mkI w b n O
/-- Leases at block g: its two maps at bh and bo. -/
structure Ls (w : World) (g bh bo : Nat) (G : List Int) (T now : Int) (H : List (Int × (Int × Int))) (O : List (Int × Int)) : Prop where
  blk : Blk w g 156 [.int .i64 T, .int .i64 now, .map (some bh), .map (some bo)]
  mh : MH w bh G.length H
  mo : MO w bo G.length O
  hG : ∀ p ∈ H, p.1 ∈ G
  oG : ∀ p ∈ O, p.1 ∈ G
  n1 : bh ≠ g
  n2 : bo ≠ g
  n3 : bh ≠ bo
  t0 : 1 ≤ T
  t1 : T ≤ 1000
  w0 : 0 ≤ now
  w1 : now ≤ 1000000
  sz : G.length ≤ 1000000000
def lsB (g bh bo : Nat) : Nat → Prop := fun k => k = g ∨ k = bh ∨ k = bo
theorem Ls.fr {w w' : World} {g bh bo : Nat} {G : List Int} {T now : Int} {H : List (Int × (Int × Int))} {O : List (Int × Int)} {S : Nat → Prop} (h : Ls w g bh bo G T now H O) (hf : Fr S w w') (hg : ∀ k, lsB g bh bo k → ¬ S k) : Ls w' g bh bo G T now H O :=
  ⟨hf.blk h.blk (hg _ (Or.inl rfl)), h.mh.fr hf (hg _ (Or.inr (Or.inl rfl))), h.mo.fr hf (hg _ (Or.inr (Or.inr rfl))), h.hG, h.oG, h.n1, h.n2, h.n3, h.t0, h.t1, h.w0, h.w1, h.sz⟩
theorem Ls.drewN {w : World} {g bh bo : Nat} {G : List Int} {T now : Int} {H : List (Int × (Int × Int))} {O : List (Int × Int)} (h : Ls w g bh bo G T now H O) (q : Nat) : Ls (w.drewN q) g bh bo G T now H O :=
  h.fr ((Fr.refl noB w).drewN q) (fun _ _ q => q)
theorem Ls.lt {w : World} {g bh bo : Nat} {G : List Int} {T now : Int} {H : List (Int × (Int × Int))} {O : List (Int × Int)} (h : Ls w g bh bo G T now H O) : ∀ k, lsB g bh bo k → k < w.heap.size := by
  rintro k (rfl | rfl | rfl)
  · exact h.blk.lt
  · exact h.mh.lt
  · exact h.mo.lt

theorem field0 (x y : Int) (w : World) : (Instr.field 168 (.agg #[.int .i64 x, .int .i64 y]) 0).run Tryz.prog w = .ok (.int .i64 x) w := by kernel_rfl
theorem field1 (x y : Int) (w : World) : (Instr.field 168 (.agg #[.int .i64 x, .int .i64 y]) 1).run Tryz.prog w = .ok (.int .i64 y) w := by kernel_rfl
theorem lnew_no (T : Int) (w : World) (h : T < 1 ∨ 1000 < T) : Calls Tryz.prog 42 #[.int .i64 T] w fun e w' => e = .returned (.tuple #[.pointer none, .int .i64 1]) ∧ w' = w := by
  rcases h with h | h
  · go_enter Tryz.func42, Tryz.ntmps42
    go_wp2
    go_ret2
    exact ⟨rfl, rfl⟩
  · have h2 : ¬ T < 1 := by omega
    go_enter Tryz.func42, Tryz.ntmps42
    go_wp2
    go_ret2
    exact ⟨rfl, rfl⟩
theorem lnew_any (T : Int) (w : World) (h0 : 1 ≤ T) (h1 : T ≤ 1000) : Calls Tryz.prog 42 #[.int .i64 T] w fun e w' => e = .returned (.tuple #[.pointer (some ⟨w.heap.size + 2, 0, none⟩), .int .i64 0]) ∧ Ls w' (w.heap.size + 2) w.heap.size (w.heap.size + 1) [] T 0 [] [] ∧ Fr noB w w' := by
  have hmm := @run_makeMap Tryz.prog
  go_enter Tryz.func42, Tryz.ntmps42
  go_wp2
  go_ret2
  have f1 := (Fr.refl noB w).alloc (.map #[] 0)
  have f2 := (Fr.refl noB (w.alloc (.map #[] 0))).alloc (.map #[] 0)
  have f3 := (Fr.refl noB ((w.alloc (.map #[] 0)).alloc (.map #[] 0))).alloc (.cells #[.int .i64 T, .int .i64 0, .map (some w.heap.size), .map (some (w.heap.size + 1))] 156)
  have s1 : (w.alloc (.map #[] 0)).heap.size = w.heap.size + 1 := by simp
  have s2 : ((w.alloc (.map #[] 0)).alloc (.map #[] 0)).heap.size = w.heap.size + 2 := by simp
  have b3 := Blk.new ((w.alloc (.map #[] 0)).alloc (.map #[] 0)) 156 [.int .i64 T, .int .i64 0, .map (some w.heap.size), .map (some (w.heap.size + 1))]
  rw [s2] at b3
  have m1 : MH _ _ 0 [] := Mp.made w
  have m2 : MO _ _ 0 [] := Mp.made (w.alloc (.map #[] 0))
  rw [s1] at m2
  exact ⟨rfl, ⟨b3, (m1.fr f2 (fun q => q)).fr f3 (fun q => q), m2.fr f3 (fun q => q), by simp, by simp, by omega, by omega, by omega, h0, h1, by omega, by omega, by simp⟩, (f1.seqN f2).seqN f3⟩

theorem lgrant_nil (t j : Int) (w : World) : Calls Tryz.prog 128 #[.pointer none, .int .i64 t, .int .i64 j] w fun e w' => e = .returned (.tuple #[]) ∧ w' = w := by
  go_enter Tryz.func128, Tryz.ntmps128
  go_wp2
  go_end0
  exact ⟨rfl, rfl⟩
theorem lgrant_any (g bh bo : Nat) (G : List Int) (T now t j : Int) (H : List (Int × (Int × Int))) (O : List (Int × Int)) (w : World) (h : Ls w g bh bo G T now H O) (ht : okI t) (hn : G.length < 1000000000) :
    Calls Tryz.prog 128 #[.pointer (some ⟨g, 0, none⟩), .int .i64 t, .int .i64 j] w fun e w' => e = .returned (.tuple #[]) ∧ Ls w' g bh bo (t :: G) T now (withKey H t (j, now + T)) O ∧ Fr (lsB g bh bo) w w' := by
  have h2 := h
  obtain ⟨hb, mh, mo, hG, oG, n1, n2, n3, t0, t1, w0, w1, sz⟩ := h
  have c0 : w.cell? ⟨g, 0, none⟩ = some (.int .i64 T) := hb.cell 0
  have c1 : w.cell? ⟨g, 1, none⟩ = some (.int .i64 now) := hb.cell 1
  have c2 : w.cell? ⟨g, 2, none⟩ = some (.map (some bh)) := hb.cell 2
  have hs := IntWalk.i64_in (now + T) (by omega)
  have hne := run_neq_map_nil (P := Tryz.prog) w _ _ _ (some bh) Tryz.underlying154
  go_enter Tryz.func128, Tryz.ntmps128
  go_wp2_with fail
  go_still_tail 16, (by kernel_rfl)
  have mh' := mh.fr ((Fr.refl noB w).drewN 1) (fun q => q)
  change wpList _ _ _ _ _ w.drew
  replace mh' : MH w.drew bh G.length H := mh'
  have fd : Fr (lsB g bh bo) w w.drew := (Fr.refl (lsB g bh bo) w).drewN 1
  have fd2 : Fr (onlyB bh) w w.drew := (Fr.refl (onlyB bh) w).drewN 1
  generalize w.drew = w2 at *
  go_wp2_with (first
    | (at_mapUpdate; refine wpList_put_mp _ rfl _ _ _ 154 rfl KI Tryz.underlying154 mkH_inj mh' (by unfold maxLen; omega) t (j, now + T) ht rfl rfl (by first | rfl | (simp only [hs]; rfl)) ?_; intro w5 m5 f5)
    | fail)
  go_wp2
  go_end0
  have f6 : Fr (lsB g bh bo) w w5 := fd.seqB f5 (fun _ => Or.inr (Or.inl rfl))
  have f2 : Fr (onlyB bh) w w5 := fd2.trans f5 (fun _ _ q => q) (fun _ _ q => q)
  exact ⟨rfl, ⟨f2.blk hb (fun q => n1 q.symm), m5, (mo.fr f2 (fun q => n3 q.symm)).mono (by simp), (fun p hp => by
    rcases List.mem_cons.1 hp with rfl | hp
    · simp
    · exact List.mem_cons_of_mem _ (hG p (List.mem_filter.1 hp).1)), (fun p hp => List.mem_cons_of_mem _ (oG p hp)), n1, n2, n3, t0, t1, w0, w1, by simp; omega⟩, f6⟩

theorem lend_nil (t : Int) (w : World) : Calls Tryz.prog 131 #[.pointer none, .int .i64 t] w fun e w' => e = .returned (.tuple #[]) ∧ w' = w := by
  go_enter Tryz.func131, Tryz.ntmps131
  go_wp2
  go_end0
  exact ⟨rfl, rfl⟩
theorem lend_any (g bh bo : Nat) (G : List Int) (T now t : Int) (H : List (Int × (Int × Int))) (O : List (Int × Int)) (w : World) (h : Ls w g bh bo G T now H O) (ht : okI t) :
    Calls Tryz.prog 131 #[.pointer (some ⟨g, 0, none⟩), .int .i64 t] w fun e w' => e = .returned (.tuple #[]) ∧ Ls w' g bh bo G T now (without H t) O ∧ Fr (lsB g bh bo) w w' := by
  obtain ⟨hb, mh, mo, hG, oG, n1, n2, n3, t0, t1, w0, w1, sz⟩ := h
  have c2 : w.cell? ⟨g, 2, none⟩ = some (.map (some bh)) := hb.cell 2
  go_enter Tryz.func131, Tryz.ntmps131
  go_wp2_with (first
    | (at_delete; refine wpList_del_mp _ rfl _ _ 154 3 rfl KI Tryz.underlying154 mh t ht rfl rfl ?_; intro w5 m5 f5)
    | fail)
  go_wp2
  go_end0
  exact ⟨rfl, ⟨f5.blk hb (fun q => n1 q.symm), m5, (mo.fr f5 (fun q => n3 q.symm)), (fun p hp => hG p (List.mem_filter.1 hp).1), oG, n1, n2, n3, t0, t1, w0, w1, sz⟩, f5.mono (fun i _ q => by unfold onlyB at q; subst q; exact Or.inr (Or.inl rfl))⟩

theorem ljob_nil (t : Int) (w : World) : Calls Tryz.prog 77 #[.pointer none, .int .i64 t] w fun e w' => e = .returned (.int .i64 0) ∧ w' = w := by
  go_enter Tryz.func77, Tryz.ntmps77
  go_wp2
  go_ret
  exact ⟨rfl, rfl⟩
theorem ljob_any (g bh bo : Nat) (G : List Int) (T now t : Int) (H : List (Int × (Int × Int))) (O : List (Int × Int)) (w : World) (h : Ls w g bh bo G T now H O) (ht : okI t) :
    Calls Tryz.prog 77 #[.pointer (some ⟨g, 0, none⟩), .int .i64 t] w fun e w' => e = .returned (.int .i64 ((look H t).getD (0, 0)).1) ∧ w' = w := by
  obtain ⟨hb, mh, mo, hG, oG, n1, n2, n3, t0, t1, w0, w1, sz⟩ := h
  have c2 : w.cell? ⟨g, 2, none⟩ = some (.map (some bh)) := hb.cell 2
  have hrun := mh.run_look KI Tryz.underlying154 (zeroHold w) mkH_inj t ht
  unfold mkH kvI at hrun
  generalize (look H t).getD (0, 0) = y at *
  have hf0 := field0 y.1 y.2 w
  go_enter Tryz.func77, Tryz.ntmps77
  go_wp2
  go_ret
  exact ⟨rfl, rfl⟩

/-- how many ticks are left of a hold -/
def leftOf (now : Int) : Option (Int × Int) → Int
  | none => 0
  | some x => x.2 - now
theorem lover_nil (t : Int) (w : World) : Calls Tryz.prog 126 #[.pointer none, .int .i64 t] w fun e w' => e = .returned (.int .i64 0) ∧ w' = w := by
  go_enter Tryz.func126, Tryz.ntmps126
  go_wp2
  go_ret
  exact ⟨rfl, rfl⟩
theorem lover_any (g bh bo : Nat) (G : List Int) (T now t : Int) (H : List (Int × (Int × Int))) (O : List (Int × Int)) (w : World) (h : Ls w g bh bo G T now H O) (ht : okI t) :
    Calls Tryz.prog 126 #[.pointer (some ⟨g, 0, none⟩), .int .i64 t] w fun e w' => e = .returned (.int .i64 ((look O t).getD 0)) ∧ w' = w := by
  obtain ⟨hb, mh, mo, hG, oG, n1, n2, n3, t0, t1, w0, w1, sz⟩ := h
  have c2 : w.cell? ⟨g, 3, none⟩ = some (.map (some bo)) := hb.cell 3
  have hrun := mo.run_look KI Tryz.underlying108 (zeroInt w) mkI_inj t ht
  unfold mkI kvI at hrun
  generalize (look O t).getD 0 = y at *
  go_enter Tryz.func126, Tryz.ntmps126
  go_wp2
  go_ret
  exact ⟨rfl, rfl⟩
theorem ltick_nil (w : World) : Calls Tryz.prog 56 #[.pointer none] w fun e w' => e = .returned (.slice none 0 0) ∧ w' = w := by
  go_enter Tryz.func56, Tryz.ntmps56
  go_wp2
  go_ret
  exact ⟨rfl, rfl⟩
end Go.Proofs.YtppmednmcbjafaaGreat
