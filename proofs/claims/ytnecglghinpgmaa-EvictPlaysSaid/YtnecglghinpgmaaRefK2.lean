/-
  The document's keeper, by definition: Pin, Unpin, Forget.
-/
import Derived.Test.YtnecglghinpgmaaRefK
set_option linter.unusedVariables false
set_option linter.unusedSimpArgs false
namespace Go.Proofs.Ytnecglghinpgmaa
open Go.RowKit Go Go.Maps Go.Lib

theorem Rp.sg {w : World} {g B N : Nat} {P : TP} {S : Nat → Prop} (h : Rp w g B N P S) : S g := by
  obtain ⟨vt, vs, V, h1, h2⟩ := h
  exact h2 g (Or.inl rfl)
/-- what nothing but the keeper's own block and new rows have turned -/
theorem Rk.to_x {w w' : World} {k g B N : Nat} {K : KS} {vp vl vg : Value} {S : Nat → Prop} {T : Nat → Prop} (h : Rk w' k g B N K vp vl vg S) (hT : ∀ q, rkS k vp vl vg S q → T q ∨ w.heap.size ≤ q) : Rx w' k g B N K (nx T w w') :=
  ⟨vp, vl, vg, S, h, fun q hq => (hT q hq).imp id (fun e => ⟨e, h.lowk hq⟩)⟩
/-- a new row of pins -/
theorem Rk.setp {w w1 : World} {k g B N : Nat} {K : KS} {vp vl vg u : Value} {S : Nat → Prop} {L : List Int} (h : Rk w k g B N K vp vl vg S) (f : Fr noB w w1) (o : w1.ownsRow w.heap.size 3 1 u L.length (rowV L)) :
    Rk (w1.setCell ⟨k, 2, none⟩ u) k g B N { K with pins := L } u vl vg S ∧ Fr (onlyB k) w (w1.setCell ⟨k, 2, none⟩ u) := by
  have h1 := h.frN f
  have fs : Fr (onlyB k) w1 (w1.setCell ⟨k, 2, none⟩ u) := (Fr.refl _ w1).store rfl
  have hw := h.Bw
  have hk := h.kB
  have hu : ∀ q, u.ownBlock = some q → w.heap.size ≤ q := fun q hq => (o.lt q hq).1
  have hkr : ∀ {v : Value} {L : List Int}, w1.ownsRow B 3 1 v L.length (rowV L) → ∀ q, v.ownBlock = some q → ¬ onlyB k q := fun hv q hq e => by have := (hv.lt q hq).1; unfold onlyB at e; omega
  refine ⟨⟨h1.blk.set 2 u, h1.pool.fr fs (fun q hq e => h.sk (by unfold onlyB at e; exact e ▸ hq)), ownsRow_mono (ownsRow_fr o fs (fun q hq e => by have := hu q hq; unfold onlyB at e; omega)) hw, ownsRow_fr h1.rl fs (hkr h1.rl), ownsRow_fr h1.rg fs (hkr h1.rg), hk, h.gB, Nat.le_trans h1.Bw fs.size, h.sk, fun q hq e => by have := hu q hq; have := h.low q e; omega, h.sl, h.sg, fun q hq e => by have := hu q hq; have := (h.rl.lt q e).2; omega, fun q hq e => by have := hu q hq; have := (h.rg.lt q e).2; omega, h.lg, fun q hq => Nat.lt_of_lt_of_le (h.low q hq) (Nat.le_trans f.size fs.size)⟩, (f.mono (fun _ _ q => False.elim q)).seqB fs (fun _ => rfl)⟩
/-- a new row of losses -/
theorem Rk.setl {w w1 : World} {k g B N : Nat} {K : KS} {vp vl vg u : Value} {S : Nat → Prop} {L : List Int} (h : Rk w k g B N K vp vl vg S) (f : Fr noB w w1) (o : w1.ownsRow w.heap.size 3 1 u L.length (rowV L)) :
    Rk (w1.setCell ⟨k, 3, none⟩ u) k g B N { K with loss := L } vp u vg S ∧ Fr (onlyB k) w (w1.setCell ⟨k, 3, none⟩ u) := by
  have h1 := h.frN f
  have fs : Fr (onlyB k) w1 (w1.setCell ⟨k, 3, none⟩ u) := (Fr.refl _ w1).store rfl
  have hw := h.Bw
  have hk := h.kB
  have hu : ∀ q, u.ownBlock = some q → w.heap.size ≤ q := fun q hq => (o.lt q hq).1
  have hkr : ∀ {v : Value} {L : List Int}, w1.ownsRow B 3 1 v L.length (rowV L) → ∀ q, v.ownBlock = some q → ¬ onlyB k q := fun hv q hq e => by have := (hv.lt q hq).1; unfold onlyB at e; omega
  refine ⟨⟨h1.blk.set 3 u, h1.pool.fr fs (fun q hq e => h.sk (by unfold onlyB at e; exact e ▸ hq)), ownsRow_fr h1.rp fs (hkr h1.rp), ownsRow_mono (ownsRow_fr o fs (fun q hq e => by have := hu q hq; unfold onlyB at e; omega)) hw, ownsRow_fr h1.rg fs (hkr h1.rg), hk, h.gB, Nat.le_trans h1.Bw fs.size, h.sk, h.sp, fun q hq e => by have := hu q hq; have := h.low q e; omega, h.sg, fun q hq e => by have := hu q e; have := (h.rp.lt q hq).2; omega, h.pg, fun q hq e => by have := hu q hq; have := (h.rg.lt q e).2; omega, fun q hq => Nat.lt_of_lt_of_le (h.low q hq) (Nat.le_trans f.size fs.size)⟩, (f.mono (fun _ _ q => False.elim q)).seqB fs (fun _ => rfl)⟩

set_option maxHeartbeats 1000000 in
set_option maxRecDepth 10000 in
theorem rkunpin_any (k g B N : Nat) (K : KS) (t : Int) (T : Nat → Prop) (w : World) (h : Rx w k g B N K T) (hz : K.pins.length ≤ 1000000) :
    Calls Try.prog 15 #[.pointer (some ⟨k, 0, none⟩), .int .i64 t] w fun e w' => e = .returned (.tuple #[]) ∧ Rx w' k g B N { K with pins := outL K.pins t } (nx T w w') ∧ Fr T w w' := by
  obtain ⟨vp, vl, vg, S, h, hT⟩ := h
  have c2 : w.cell? ⟨k, 2, none⟩ = some vp := h.blk.cell 2
  have ho := rout_any vp K.pins t w h.pin hz
  have hT0 := hT k (Or.inl rfl)
  replace h := Lib.hid h
  replace hT := Lib.hid hT
  go_enter Try.func15, Try.ntmps15
  go_wp2_with fail
  refine ho.mono ?_
  rintro e w1 ⟨u, rfl, o1, f1⟩
  obtain ⟨h2, f2⟩ := h.out.setp f1 o1
  have hu : Hid (∀ q, u.ownBlock = some q → w.heap.size ≤ q) := Lib.hid (fun q hq => (o1.lt q hq).1)
  have z2 := (f1.blk h.out.blk (fun q => q)).frozen 2
  have c3 : w1.cell? ⟨k, 2, none⟩ = some vp := (f1.blk h.out.blk (fun q => q)).cell 2
  obtain ⟨ua, uc, rfl⟩ := ownsRow_slice o1
  have hx : Hid (Rx (w1.setCell ⟨k, 2, none⟩ (.slice ua (outL K.pins t).length uc)) k g B N { K with pins := outL K.pins t } (nx T w (w1.setCell ⟨k, 2, none⟩ (.slice ua (outL K.pins t).length uc)))) := Lib.hid (h2.to_x (fun q hq => by
    rcases hq with e | e | e | e | e
    · exact Or.inl (hT.out q (Or.inl e))
    · exact Or.inr (hu.out q e)
    · exact Or.inl (hT.out q (Or.inr (Or.inr (Or.inl e))))
    · exact Or.inl (hT.out q (Or.inr (Or.inr (Or.inr (Or.inl e)))))
    · exact Or.inl (hT.out q (Or.inr (Or.inr (Or.inr (Or.inr e)))))))
  have hf : Hid (Fr T w (w1.setCell ⟨k, 2, none⟩ (.slice ua (outL K.pins t).length uc))) := Lib.hid (f2.mono (fun q _ e => by unfold onlyB at e; exact e ▸ hT0))
  clear ho o1 f1 h2 f2 hu c2
  go_wp2_with fail
  go_end0
  exact ⟨rfl, hx.out, hf.out⟩

set_option maxHeartbeats 1000000 in
set_option maxRecDepth 10000 in
theorem rkpin_any (k g B N : Nat) (K : KS) (t : Int) (T : Nat → Prop) (w : World) (h : Rx w k g B N K T) (hz : K.pins.length ≤ 1000000) :
    Calls Try.prog 14 #[.pointer (some ⟨k, 0, none⟩), .int .i64 t] w fun e w' => e = .returned (.tuple #[]) ∧ Rx w' k g B N { K with pins := outL K.pins t ++ [t] } (nx T w w') ∧ Fr T w w' := by
  obtain ⟨i0, hi0, hz0, hz1, hz2⟩ : ∃ i0, Try.prog.info? 3 = some i0 ∧ i0.zero = some (.int .i64 0) ∧ i0.size = 1 ∧ i0.bytes = 8 := by
    have hI := infoIntR
    cases hq : Try.prog.info? 3 with
    | none => rw [hq] at hI; cases hI
    | some k => rw [hq] at hI; simp at hI; exact ⟨k, rfl, hI⟩
  obtain ⟨vp, vl, vg, S, h, hT⟩ := h
  have c2 : w.cell? ⟨k, 2, none⟩ = some vp := h.blk.cell 2
  have ho := rout_any vp K.pins t w h.pin hz
  have hT0 := hT k (Or.inl rfl)
  have hol := outL_len K.pins t
  replace h := Lib.hid h
  replace hT := Lib.hid hT
  generalize hO : outL K.pins t = O at *
  go_enter Try.func14, Try.ntmps14
  go_wp2_with fail
  refine ho.mono ?_
  rintro e w1 ⟨u, rfl, o1, f1⟩
  have hA : (w1.alloc (.cells #[.int .i64 t] 3)).ownsRow w.heap.size 3 1 u O.length (rowV O) := ownsRow_fr o1 ((Fr.refl noB w1).alloc _) (fun _ _ q => q)
  have hN := cell_new w1 (.int .i64 t) 3
  have hs1 := f1.size
  clear ho
  replace hO := Lib.hid hO
  go_wp2_with (first
    | (at_builtin; go_must (refine wpList_append_at _ rfl (.tmp 10) (.tmp 12) 44 rfl w.heap.size 3 i0 _ 1 8 Try.underlying44 hi0 hz0 hz1 hz2 rfl (by omega) _ O.length _ rfl hA ⟨w1.heap.size, 0, none⟩ 1 1 [.int .i64 t] rfl rfl hN (one_int _ _) ?_ ?_ ?_ ?_))
    | fail)
  · unfold maxLen; omega
  · omega
  · have := ((Fr.refl noB w1).alloc (.cells #[.int .i64 t] 3)).size; omega
  intro v' w2 o2 gr2 _
  have e1 : rowV (O ++ [t]) = rowV O ++ [.int .i64 t] := by simp [rowV]
  have e2 : (O ++ [t]).length = O.length + 1 := by simp
  rw [← e1, ← e2] at o2
  have fw2 : Fr noB w w2 := (f1.alloc _).grown gr2 (fun q hq hlt => by have := (hA.lt q hq).1; omega)
  obtain ⟨h2, f2⟩ := h.out.setp fw2 o2
  have hu : Hid (∀ q, v'.ownBlock = some q → w.heap.size ≤ q) := Lib.hid (fun q hq => (o2.lt q hq).1)
  have z2 := (fw2.blk h.out.blk (fun q => q)).frozen 2
  have c3 : w2.cell? ⟨k, 2, none⟩ = some vp := (fw2.blk h.out.blk (fun q => q)).cell 2
  obtain ⟨ua, uc, rfl⟩ := ownsRow_slice o2
  have hx := Lib.hid (h2.to_x (T := T) (w := w) (fun q hq => by
    rcases hq with e | e | e | e | e
    · exact Or.inl (hT.out q (Or.inl e))
    · exact Or.inr (hu.out q e)
    · exact Or.inl (hT.out q (Or.inr (Or.inr (Or.inl e))))
    · exact Or.inl (hT.out q (Or.inr (Or.inr (Or.inr (Or.inl e)))))
    · exact Or.inl (hT.out q (Or.inr (Or.inr (Or.inr (Or.inr e)))))))
  have hf := Lib.hid (f2.mono (T := T) (fun q _ e => by unfold onlyB at e; exact e ▸ hT0))
  clear o1 f1 h2 f2 hu c2 hA hN gr2 o2 fw2 e1
  replace e2 := Lib.hid e2
  go_wp2_with fail
  go_end0
  rw [← e2.out]
  exact ⟨rfl, hx.out, hf.out⟩

/-- Drop, whatever the trace -/
theorem rpdrop_any (g B N : Nat) (P : TP) (S : Nat → Prop) (t : Int) (w : World) (h : Rp w g B N P S) :
    Calls Try.prog 36 #[.pointer (some ⟨g, 0, none⟩), .int .i64 t] w fun e w' => (∃ m : Int, e = .returned (.int .i64 m)) ∧ Rp w' g B N (without P t) (nx S w w') ∧ Fr S w w' := by
  obtain ⟨vt, vs, V, h, hS⟩ := h
  obtain ⟨r, hr⟩ := AtT.ex P t
  rcases hr with ⟨j, p, hj, hp, _⟩ | ⟨hn, _⟩
  · subst hp
    exact rpdrop_at g B N P vt vs V S j p w h hS hj
  · refine (rpdrop_no g B N P vt vs V t w h hn).mono ?_
    rintro e w' ⟨rfl, hw⟩
    obtain rfl := hw.symm
    have : without P t = P := by
      unfold without
      exact List.filter_eq_self.2 (fun p hp => by simpa using hn p hp)
    rw [this]
    exact ⟨⟨_, rfl⟩, ⟨vt, vs, V, h, fun q hq => Or.inl (hS q hq)⟩, Fr.refl _ _⟩
/-- the pool has turned -/
theorem Rk.setP {w w1 : World} {k g B N : Nat} {K : KS} {vp vl vg : Value} {S : Nat → Prop} {P' : TP} (h : Rk w k g B N K vp vl vg S) (hp : Rp w1 g B N P' (nx S w w1)) (f : Fr S w w1) :
    Rk w1 k g B N { K with P := P' } vp vl vg (nx S w w1) := by
  have key : ∀ {v : Value} {L : List Int}, w.ownsRow B 3 1 v L.length (rowV L) → (∀ q, v.ownBlock = some q → ¬ S q) → ∀ q, v.ownBlock = some q → ¬ nx S w w1 q := fun hv hs q hq e => by
    rcases e with e | e
    · exact hs q hq e
    · have := (hv.lt q hq).2; omega
  have hkw : k < w.heap.size := by have := h.kB; have := h.Bw; omega
  exact ⟨f.blk h.blk h.sk, hp, ownsRow_fr h.rp f h.sp, ownsRow_fr h.rl f h.sl, ownsRow_fr h.rg f h.sg, h.kB, h.gB, Nat.le_trans h.Bw f.size, (fun e => by
    rcases e with e | e
    · exact h.sk e
    · omega), key h.rp h.sp, key h.rl h.sl, key h.rg h.sg, h.pl, h.pg, h.lg, fun q hq => by
    rcases hq with e | e
    · exact Nat.lt_of_lt_of_le (h.low q e) f.size
    · exact e.2⟩

set_option maxHeartbeats 1000000 in
set_option maxRecDepth 10000 in
theorem rkforget_any (k g B N : Nat) (K : KS) (t : Int) (T : Nat → Prop) (w : World) (h : Rx w k g B N K T) (hz : K.pins.length ≤ 1000000) (hzl : K.loss.length ≤ 1000000) :
    Calls Try.prog 16 #[.pointer (some ⟨k, 0, none⟩), .int .i64 t] w fun e w' => e = .returned (.tuple #[]) ∧ Rx w' k g B N { K with P := without K.P t, pins := outL K.pins t, loss := outL K.loss t } (nx T w w') ∧ Fr T w w' := by
  have hun := rkunpin_any k g B N K t T w h hz
  clear h
  go_enter Try.func16, Try.ntmps16
  go_wp2_with fail
  refine hun.mono ?_
  rintro e w1 ⟨rfl, ⟨vp, vl, vg, S, h1, hT1⟩, f1⟩
  clear hun
  have c0 : w1.cell? ⟨k, 0, none⟩ = some (.pointer (some ⟨g, 0, none⟩)) := h1.blk.cell 0
  have hdr := rpdrop_any g B N K.P S t w1 h1.pool
  replace h1 := Lib.hid h1
  replace hT1 := Lib.hid hT1
  replace f1 := Lib.hid f1
  go_wp2_with fail
  refine hdr.mono ?_
  rintro e w2 ⟨⟨m, rfl⟩, hp2, f2⟩
  have h2 := h1.out.setP hp2 f2
  have c3 : w2.cell? ⟨k, 3, none⟩ = some vl := h2.blk.cell 3
  have ho := rout_any vl K.loss t w2 h2.los hzl
  have hs2 := f2.size
  have hs1 := f1.out.size
  have hT2 : Hid (∀ q, rkS k vp vl vg (nx S w1 w2) q → T q ∨ w.heap.size ≤ q) := Lib.hid (fun q hq => by
    have key : ∀ q, rkS k vp vl vg S q → T q ∨ w.heap.size ≤ q := fun q e => (hT1.out q e).imp id (fun e => e.1)
    rcases hq with e | e | e | e | e
    · exact key q (Or.inl e)
    · exact key q (Or.inr (Or.inl e))
    · exact key q (Or.inr (Or.inr (Or.inl e)))
    · exact key q (Or.inr (Or.inr (Or.inr (Or.inl e))))
    · rcases e with e | e
      · exact key q (Or.inr (Or.inr (Or.inr (Or.inr e))))
      · exact Or.inr (by omega))
  have fw2 : Hid (Fr T w w2) := Lib.hid (f1.out.trans f2 (fun _ _ q => q) (fun q hq e => by
    rcases hT1.out q (Or.inr (Or.inr (Or.inr (Or.inr e)))) with q1 | q1
    · exact q1
    · omega))
  clear c0 hdr f2 hp2
  replace h2 := Lib.hid h2
  go_wp2_with fail
  refine ho.mono ?_
  rintro e w3 ⟨u, rfl, o3, f3⟩
  obtain ⟨h4, f4⟩ := h2.out.setl f3 o3
  have hu : Hid (∀ q, u.ownBlock = some q → w.heap.size ≤ q) := Lib.hid (fun q hq => by have := (o3.lt q hq).1; omega)
  have z2 := (f3.blk h2.out.blk (fun q => q)).frozen 3
  have c4 : w3.cell? ⟨k, 3, none⟩ = some vl := (f3.blk h2.out.blk (fun q => q)).cell 3
  obtain ⟨ua, uc, rfl⟩ := ownsRow_slice o3
  have hx := Lib.hid (h4.to_x (T := T) (w := w) (fun q hq => by
    rcases hq with e | e | e | e | e
    · exact hT2.out q (Or.inl e)
    · exact hT2.out q (Or.inr (Or.inl e))
    · exact Or.inr (hu.out q e)
    · exact hT2.out q (Or.inr (Or.inr (Or.inr (Or.inl e))))
    · exact hT2.out q (Or.inr (Or.inr (Or.inr (Or.inr e))))))
  have hf := Lib.hid (fw2.out.trans f4 (fun _ _ q => q) (fun q hq e => by
    unfold onlyB at e
    rcases hT2.out q (Or.inl e) with q1 | q1
    · exact q1
    · omega))
  clear ho o3 f3 h4 f4 hu c3
  go_wp2_with fail
  go_end0
  exact ⟨rfl, hx.out, hf.out⟩
end Go.Proofs.Ytnecglghinpgmaa
