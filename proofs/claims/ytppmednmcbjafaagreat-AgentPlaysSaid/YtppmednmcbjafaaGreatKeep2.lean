/-
  A keeper's Pin, Unpin, Forget, Spans, Traces, Used, Evicted.
-/
import Derived.Test.YtppmednmcbjafaaGreatKeep
set_option linter.unusedVariables false
set_option linter.unusedSimpArgs false
set_option maxRecDepth 100000
namespace Go.Proofs.YtppmednmcbjafaaGreat
open Go.RowKit Go Go.Maps Go.Lib

theorem clone_own {w : World} {B n : Nat} {v : Value} {X : List Int} (h : w.ownsRow B 3 1 v n (rowV X)) (hn : n ≤ 1000000) :
    Calls Tryz.prog 102 #[v] w fun e w' => ∃ u, e = .returned u ∧ w'.ownsRow w.heap.size 3 1 u n (rowV X) ∧ Fr noB w w' := by
  have hl : X.length = n := by simpa [rowV] using h.1
  rcases h.2 with ⟨rfl, h1⟩ | ⟨g, cap, cur, rfl, hbg, hg, hnc, hcm, hcs, htake⟩
  · subst h1
    have : X = [] := List.eq_nil_of_length_eq_zero hl
    subst this
    refine (Tryz.slices_Clone_int_nil 0 0 w).mono ?_
    rintro e w' ⟨rfl, rfl⟩
    exact ⟨_, rfl, World.ownsRow_nil _ _ _ _, Fr.refl _ _⟩
  · subst hl
    have hc : ∀ j, j < X.length → w.cell? ⟨g, 0 + j, none⟩ = some (.int .i64 (X.getD j 0)) := fun j hj => by
      have := h.cells (g := g) rfl j (.int .i64 (X.getD j 0)) (by simp [rowV, List.getD, hj])
      rwa [Addr.add_mid] at this
    have hcl := Tryz.slices_Clone_int g 0 X.length cap X w (Nat.le_refl _) (by omega) hc
    rw [List.take_length] at hcl
    refine hcl.mono ?_
    rintro e w' ⟨v', rfl, o, _, hb⟩
    exact ⟨v', rfl, o, Fr.of_below hb⟩

section
variable (k g bp bl B N wc : Nat) (wa : Option Addr) (K : KS) (t : Int) (w : World)
theorem kpin_nil : Calls Tryz.prog 129 #[.pointer none, .int .i64 t] w fun e w' => e = .returned (.tuple #[]) ∧ Fr noB w w' := by
  go_enter Tryz.func129, Tryz.ntmps129
  go_wp2
  go_end0
  exact ⟨rfl, Fr.refl _ _⟩
theorem kunpin_nil : Calls Tryz.prog 57 #[.pointer none, .int .i64 t] w fun e w' => e = .returned (.tuple #[]) ∧ Fr noB w w' := by
  go_enter Tryz.func57, Tryz.ntmps57
  go_wp2
  go_end0
  exact ⟨rfl, Fr.refl _ _⟩
theorem kforget_nil : Calls Tryz.prog 132 #[.pointer none, .int .i64 t] w fun e w' => e = .returned (.tuple #[]) ∧ Fr noB w w' := by
  go_enter Tryz.func132, Tryz.ntmps132
  go_wp2
  go_end0
  exact ⟨rfl, Fr.refl _ _⟩
theorem kspans_nil : Calls Tryz.prog 74 #[.pointer none, .int .i64 t] w fun e w' => e = .returned (.slice none 0 0) ∧ Fr noB w w' := by
  go_enter Tryz.func74, Tryz.ntmps74
  go_wp2
  go_ret
  exact ⟨rfl, Fr.refl _ _⟩
theorem kused_nil : Calls Tryz.prog 79 #[.pointer none] w fun e w' => e = .returned (.int .i64 0) ∧ Fr noB w w' := by
  go_enter Tryz.func79, Tryz.ntmps79
  go_wp2
  go_ret
  exact ⟨rfl, Fr.refl _ _⟩
theorem kevicted_nil : Calls Tryz.prog 81 #[.pointer none] w fun e w' => e = .returned (.slice none 0 0) ∧ Fr noB w w' := by
  go_enter Tryz.func81, Tryz.ntmps81
  go_wp2
  go_ret
  exact ⟨rfl, Fr.refl _ _⟩
theorem kpin_any (h : Kp w k g bp bl B N wa wc K) (ht : okI t) (hz : K.pins.length < 1000000) : Calls Tryz.prog 129 #[.pointer (some ⟨k, 0, none⟩), .int .i64 t] w fun e w' => e = .returned (.tuple #[]) ∧ KTo w w' k g bp bl B N wa { K with pins := outL K.pins t ++ [t] } := by
  have c2 : w.cell? ⟨k, 2, none⟩ = some (.map (some bp)) := h.blk.cell 2
  have hne := fun w => run_neq_map_nil (P := Tryz.prog) w _ _ _ (some bp) Tryz.underlying151
  have mp := h.mp
  replace h := Lib.hid h
  go_enter Tryz.func129, Tryz.ntmps129
  go_wp2_with (first
    | (at_mapUpdate; refine wpList_put_mp _ rfl _ _ _ 151 rfl KI Tryz.underlying151 mkU_inj mp (by unfold maxLen; omega) t () ht rfl rfl rfl ?_; intro w5 m5 f5)
    | fail)
  go_wp2
  go_end0
  have h := h.out
  have m6 := (m5.perm (withKey_perm K.pins t)).tight (m := (outL K.pins t ++ [t]).length) (by unfold keysU; simp)
  have key : Kp w5 k g bp bl B N wa wc { K with pins := outL K.pins t ++ [t] } := ⟨f5.blk h.blk h.kp, ownsRow_fr h.row f5 (fun q hq e => by have := (h.row.lt q hq).1; have := h.pB; unfold onlyB at e; omega), h.po.fr f5 h.gp, m6, h.ml.fr f5 (fun e => h.pl e.symm), h.kB, h.gB, h.pB, h.lB, Nat.le_trans h.Bw f5.size, h.kg, h.kp, h.kl, h.gp, h.gl, h.pl, h.sd, h.lost⟩
  exact ⟨rfl, wa, wc, key, f5.mono (fun q _ e => Or.inr (Or.inr (Or.inl e))), fun q _ e => e⟩
theorem kunpin_any (h : Kp w k g bp bl B N wa wc K) (ht : okI t) : Calls Tryz.prog 57 #[.pointer (some ⟨k, 0, none⟩), .int .i64 t] w fun e w' => e = .returned (.tuple #[]) ∧ Kp w' k g bp bl B N wa wc { K with pins := outL K.pins t } ∧ Fr (onlyB bp) w w' := by
  have c2 : w.cell? ⟨k, 2, none⟩ = some (.map (some bp)) := h.blk.cell 2
  have mp := h.mp
  replace h := Lib.hid h
  go_enter Tryz.func57, Tryz.ntmps57
  go_wp2_with (first
    | (at_delete; refine wpList_del_mp _ rfl _ _ 151 3 rfl KI Tryz.underlying151 mp t ht rfl rfl ?_; intro w5 m5 f5)
    | fail)
  go_wp2
  go_end0
  have h := h.out
  rw [without_keysU] at m5
  have m6 := m5.tight (m := (outL K.pins t).length) (by unfold keysU; simp)
  exact ⟨rfl, ⟨f5.blk h.blk h.kp, ownsRow_fr h.row f5 (fun q hq e => by have := (h.row.lt q hq).1; have := h.pB; unfold onlyB at e; omega), h.po.fr f5 h.gp, m6, h.ml.fr f5 (fun e => h.pl e.symm), h.kB, h.gB, h.pB, h.lB, Nat.le_trans h.Bw f5.size, h.kg, h.kp, h.kl, h.gp, h.gl, h.pl, h.sd, h.lost⟩, f5⟩
theorem kforget_any (h : Kp w k g bp bl B N wa wc K) (ht : okI t) : Calls Tryz.prog 132 #[.pointer (some ⟨k, 0, none⟩), .int .i64 t] w fun e w' => e = .returned (.tuple #[]) ∧ KTo w w' k g bp bl B N wa { K with P := without K.P t, pins := outL K.pins t, loss := outL K.loss t } := by
  have hu := kunpin_any k g bp bl B N wc wa K t w h ht
  have hw := h.Bw
  replace h := Lib.hid h
  go_enter Tryz.func132, Tryz.ntmps132
  go_wp2_with fail
  refine hu.mono ?_
  rintro e w1 ⟨rfl, h1, f1⟩
  clear hu
  have c0 : w1.cell? ⟨k, 0, none⟩ = some (.pointer (some ⟨g, 0, none⟩)) := h1.blk.cell 0
  have hd := pdrop_p g N K.P t w1 h1.po
  replace h1 := Lib.hid h1
  go_wp2_with fail
  refine hd.mono ?_
  rintro e w2 ⟨⟨m, rfl⟩, p2, f2⟩
  clear hd
  have h1 := h1.out
  have b2 := f2.blk h1.blk h1.kg
  have c3 : w2.cell? ⟨k, 3, none⟩ = some (.map (some bl)) := b2.cell 3
  have ml2 := h1.ml.fr f2 (fun e => h1.gl e.symm)
  replace h1 := Lib.hid h1
  replace b2 := Lib.hid b2
  go_wp2_with (first
    | (at_delete; refine wpList_del_mp _ rfl _ _ 151 3 rfl KI Tryz.underlying151 ml2 t ht rfl rfl ?_; intro w5 m5 f5)
    | fail)
  go_wp2
  go_end0
  have h := h.out
  have h1 := h1.out
  rw [without_keysU] at m5
  have m6 := m5.tight (m := (outL K.loss t).length) (by unfold keysU; simp)
  have key : Kp w5 k g bp bl B N wa wc { K with P := without K.P t, pins := outL K.pins t, loss := outL K.loss t } :=
    ⟨f5.blk b2.out h.kl, ownsRow_fr (ownsRow_fr h1.row f2 (fun q hq e => by have := (h1.row.lt q hq).1; have := h.gB; unfold onlyB at e; omega)) f5 (fun q hq e => by have := (h1.row.lt q hq).1; have := h.lB; unfold onlyB at e; omega),
     p2.fr f5 h.gl, (h1.mp.fr f2 (fun e => h.gp e.symm)).fr f5 h.pl, m6, h.kB, h.gB, h.pB, h.lB, Nat.le_trans h1.Bw (Nat.le_trans f2.size f5.size), h.kg, h.kp, h.kl, h.gp, h.gl, h.pl, h.sd, fun u hu => by
      obtain ⟨hu1, hu2⟩ := outL_mem.1 hu
      obtain ⟨q1, q2⟩ := h.lost u hu1
      exact ⟨by rw [txt_drop_other K.P hu2]; exact q1, q2⟩⟩
  have F1 : Fr (kpS k g bp bl wa) w w1 := f1.mono (fun q _ e => Or.inr (Or.inr (Or.inl e)))
  have F2 : Fr (kpS k g bp bl wa) w w2 := F1.trans f2 (fun _ _ q => q) (fun q _ e => Or.inr (Or.inl e))
  exact ⟨rfl, wa, wc, key, F2.trans f5 (fun _ _ q => q) (fun q _ e => Or.inr (Or.inr (Or.inr (Or.inl e)))), fun q _ e => e⟩
theorem kspans_any (h : Kp w k g bp bl B N wa wc K) : Calls Tryz.prog 74 #[.pointer (some ⟨k, 0, none⟩), .int .i64 t] w fun e w' => ∃ u, e = .returned u ∧ w'.ownsRow w.heap.size 38 3 u (txt K.P t).length ((spansOf t (txt K.P t)).flatMap spC) ∧ Fr noB w w' := by
  have c0 : w.cell? ⟨k, 0, none⟩ = some (.pointer (some ⟨g, 0, none⟩)) := h.blk.cell 0
  have hd := pspans_p g N K.P t w h.po
  clear h
  go_enter Tryz.func74, Tryz.ntmps74
  go_wp2_with fail
  refine hd.mono ?_
  rintro e w2 ⟨u, rfl, o, f2⟩
  clear hd
  go_wp2_with fail
  go_ret
  exact ⟨_, rfl, o, f2⟩
theorem kused_any (h : Kp w k g bp bl B N wa wc K) : Calls Tryz.prog 79 #[.pointer (some ⟨k, 0, none⟩)] w fun e w' => e = .returned (.int .i64 (used K.P)) ∧ Fr noB w w' := by
  have c0 : w.cell? ⟨k, 0, none⟩ = some (.pointer (some ⟨g, 0, none⟩)) := h.blk.cell 0
  have h1 := fun w' => psize_p g N K.P w'
  have h2 := fun w' => pfree_p g N K.P w'
  have hle := h.po.le
  have hn := h.po.n16
  have hpo : Hid (∀ q, Po (w.drewN q) g N K.P) := Lib.hid (fun q => h.po.frN ((Fr.refl noB w).drewN q))
  obtain ⟨M, hM⟩ : ∃ M, M = N - used K.P := ⟨_, rfl⟩
  have hM2 : M ≤ N := by omega
  have hM3 : used K.P = N - M := by omega
  rw [← hM] at h2
  rw [hM3, show (((N - M : Nat)) : Int) = (N : Int) - (M : Int) by omega]
  clear h hle hM hM3
  go_enter Tryz.func79, Tryz.ntmps79
  go_wp2_with fail
  go_quiet (first
    | (go_at_call 103; refine Calls.quiet_of_same (h1 _ (hpo.out _)))
    | (go_at_call 104; refine Calls.quiet_of_same (h2 _ (hpo.out _))))
  go_wp2_with fail
  go_ret
  exact ⟨rfl, (Fr.refl _ _).drewN _⟩
theorem kevicted_any (h : Kp w k g bp bl B N wa wc K) (hz : K.gone.length < 1000000) : Calls Tryz.prog 81 #[.pointer (some ⟨k, 0, none⟩)] w fun e w' => ∃ u, e = .returned u ∧ w'.ownsRow w.heap.size 3 1 u K.gone.length (rowV K.gone) ∧ Fr noB w w' := by
  have c4 : w.cell? ⟨k, 4, none⟩ = some (.slice wa K.gone.length wc) := h.blk.cell 4
  have hd := clone_own h.row (by omega)
  clear h
  go_enter Tryz.func81, Tryz.ntmps81
  go_wp2_with fail
  refine hd.mono ?_
  rintro e w2 ⟨u, rfl, o, f2⟩
  clear hd
  go_wp2_with fail
  go_ret
  exact ⟨_, rfl, o, f2⟩
end
end Go.Proofs.YtppmednmcbjafaaGreat
