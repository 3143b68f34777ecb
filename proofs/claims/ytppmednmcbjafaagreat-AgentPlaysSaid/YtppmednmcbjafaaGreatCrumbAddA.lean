/-
  An agent is named: the crumbs' Add.
-/
import Derived.Test.YtppmednmcbjafaaGreatInsertA
set_option linter.unusedVariables false
set_option linter.unusedSimpArgs false
set_option maxRecDepth 100000
namespace Go.Proofs.YtppmednmcbjafaaGreat
open Go.RowKit Go Go.Lib

theorem cadd_nil (t a : Int) (w : World) : Calls Tryz.prog 51 #[.pointer none, .int .i64 t, .int .i64 a] w fun e w' => e = .returned (.int .i64 9) ∧ w' = w := by
  go_enter Tryz.func51, Tryz.ntmps51
  go_wp2
  go_ret
  exact ⟨rfl, rfl⟩
theorem cadd_arg (g bm B n : Nat) (N t a : Int) (X : Int → List Int) (M : List (Int × SV)) (w : World) (h : Cm w g bm B n N X M) (ht : t < 1 ∨ 65535 < t) :
    Calls Tryz.prog 51 #[.pointer (some ⟨g, 0, none⟩), .int .i64 t, .int .i64 a] w fun e w' => e = .returned (.int .i64 1) ∧ w' = w := by
  clear h
  rcases ht with ht | ht
  · go_enter Tryz.func51, Tryz.ntmps51
    go_wp2
    go_ret
    exact ⟨rfl, rfl⟩
  · have h2 : ¬ t < 1 := by omega
    go_enter Tryz.func51, Tryz.ntmps51
    go_wp2
    go_ret
    exact ⟨rfl, rfl⟩
theorem cadd_range (g bm B n : Nat) (N t a : Int) (X : Int → List Int) (M : List (Int × SV)) (w : World) (h : Cm w g bm B n N X M) (ht1 : 1 ≤ t) (ht2 : t ≤ 65535) (ha : a < 0 ∨ N ≤ a) :
    Calls Tryz.prog 51 #[.pointer (some ⟨g, 0, none⟩), .int .i64 t, .int .i64 a] w fun e w' => e = .returned (.int .i64 2) ∧ w' = w := by
  have c0 : w.cell? ⟨g, 0, none⟩ = some (.int .i64 N) := h.blk.cell 0
  clear h
  have h1 : decide (t < 1) = false := by simp; omega
  have h2 : decide (65535 < t) = false := by simp; omega
  rcases ha with ha | ha
  · go_enter Tryz.func51, Tryz.ntmps51
    go_wp2
    go_ret
    exact ⟨rfl, rfl⟩
  · by_cases ha0 : a < 0
    · go_enter Tryz.func51, Tryz.ntmps51
      go_wp2
      go_ret
      exact ⟨rfl, rfl⟩
    · have h3 : decide (a < 0) = false := by simp; omega
      have h4 : decide (N ≤ a) = true := by simp; omega
      go_enter Tryz.func51, Tryz.ntmps51
      go_wp2
      go_ret
      exact ⟨rfl, rfl⟩
/-- where a number would stand -/
def placeI (X : List Int) (a : Int) : Nat := X.countP fun x => decide (x < a)
theorem placeI_le (X : List Int) (a : Int) : placeI X a ≤ X.length := List.countP_le_length
theorem bs_any (g bm B n : Nat) (N t a : Int) (X : Int → List Int) (M : List (Int × SV)) (w : World) (h : Cm w g bm B n N X M) :
    Calls Tryz.prog 87 #[mkS ((look M t).getD (none, 0, 0)), .int .i64 a] w fun e w' => e = .returned (.tuple #[.int .i64 (placeI (X t) a : Nat), .bool ((X t).contains a)]) ∧ ∃ q, w' = w.drewN q := by
  rcases h.at_key t with ⟨hx, hl⟩ | ⟨b, c, hl, ho, hne⟩
  · rw [hl, hx]
    refine (Tryz.slices_BinarySearch_int_empty none 0 a w).mono ?_
    rintro e w' ⟨rfl, rfl⟩
    exact ⟨rfl, 0, rfl⟩
  · rw [hl]
    have h4 := h.lenX t
    have := Tryz.slices_BinarySearch_int b 0 (X t).length c (X t) a w (Nat.le_refl _) (by omega) (own_cells ho) (by rw [List.take_length]; exact (h.sorted t).imp (fun hab => by omega))
    rw [List.take_length] at this
    exact this

theorem placeI_sorted {X : List Int} {a : Int} (hs : X.Pairwise (· < ·)) (ha : a ∉ X) : (insAt X (placeI X a) a).Pairwise (· < ·) := by
  induction X with
  | nil => simp [insAt, placeI]
  | cons x r ih =>
    have hc := List.pairwise_cons.1 hs
    have hxa : x ≠ a := fun e => ha (by simp [e])
    have hra : a ∉ r := fun e => ha (by simp [e])
    by_cases hlt : x < a
    · have e1 : placeI (x :: r) a = placeI r a + 1 := by simp [placeI, hlt]
      have e2 : insAt (x :: r) (placeI r a + 1) a = x :: insAt r (placeI r a) a := by simp [insAt]
      rw [e1, e2]
      refine List.pairwise_cons.2 ⟨fun y hy => ?_, ih hc.2 hra⟩
      unfold insAt at hy
      rcases List.mem_append.1 hy with h1 | h1
      · exact hc.1 y (List.mem_of_mem_take h1)
      · rcases List.mem_cons.1 h1 with rfl | h1
        · exact hlt
        · exact hc.1 y (List.mem_of_mem_drop h1)
    · have e1 : placeI (x :: r) a = 0 := by
        unfold placeI
        rw [List.countP_eq_zero]
        intro y hy
        rcases List.mem_cons.1 hy with rfl | hy
        · simp; omega
        · have := hc.1 y hy; simp; omega
      rw [e1]
      simp only [insAt, List.take_zero, List.nil_append, List.drop_zero]
      refine List.pairwise_cons.2 ⟨fun y hy => ?_, hs⟩
      rcases List.mem_cons.1 hy with rfl | hy
      · omega
      · have := hc.1 y hy; omega
theorem mem_insAt {X : List Int} {i : Nat} {a y : Int} : y ∈ insAt X i a ↔ y = a ∨ y ∈ X := by
  have h : X = X.take i ++ X.drop i := (List.take_append_drop i X).symm
  constructor
  · intro hy
    unfold insAt at hy
    rcases List.mem_append.1 hy with h1 | h1
    · exact Or.inr (List.mem_of_mem_take h1)
    · rcases List.mem_cons.1 h1 with rfl | h1
      · exact Or.inl rfl
      · exact Or.inr (List.mem_of_mem_drop h1)
  · intro hy
    unfold insAt
    rw [List.mem_append, List.mem_cons]
    rcases hy with rfl | hy
    · exact Or.inr (Or.inl rfl)
    · rw [h, List.mem_append] at hy
      rcases hy with h1 | h1
      · exact Or.inl h1
      · exact Or.inr (Or.inr h1)

/-- one is named more -/
def addX (X : Int → List Int) (t a : Int) : Int → List Int := fun k => if k = t then insAt (X t) (placeI (X t) a) a else X k

set_option maxHeartbeats 1000000 in
set_option maxRecDepth 10000 in
theorem cadd_once (g bm B n : Nat) (N t a : Int) (X : Int → List Int) (M : List (Int × SV)) (w : World) (h : Cm w g bm B n N X M) (ht1 : 1 ≤ t) (ht2 : t ≤ 65535) (ha0 : 0 ≤ a) (ha1 : a < N) (hm : a ∈ X t) :
    Calls Tryz.prog 51 #[.pointer (some ⟨g, 0, none⟩), .int .i64 t, .int .i64 a] w fun e w' => e = .returned (.int .i64 8) ∧ Fr noB w w' := by
  have c0 : w.cell? ⟨g, 0, none⟩ = some (.int .i64 N) := h.blk.cell 0
  have c1 : w.cell? ⟨g, 1, none⟩ = some (.map (some bm)) := h.blk.cell 1
  have hrun := h.mp.run_look KI Tryz.underlying145 (zeroSl w) mkS_inj t (okI_of (by omega) (by omega))
  have hbs := bs_any g bm B n N t a X M w h
  have hcon : (X t).contains a = true := by simpa using hm
  rw [hcon] at hbs
  generalize (look M t).getD (none, 0, 0) = s at *
  clear h hcon hm
  have h1 : decide (t < 1) = false := by simp; omega
  have h2 : decide (65535 < t) = false := by simp; omega
  have h3 : decide (a < 0) = false := by simp; omega
  have h4 : decide (N ≤ a) = false := by simp; omega
  unfold kvI at hrun
  go_enter Tryz.func51, Tryz.ntmps51
  go_wp2_with fail
  refine hbs.mono ?_
  rintro e w' ⟨rfl, q, rfl⟩
  go_wp2_with fail
  go_ret
  exact ⟨rfl, (Fr.refl noB w).drewN q⟩

theorem Cm.added {w1 X w5 w6 : World} {g bm B n : Nat} {N t a : Int} {XX : Int → List Int} {M : List (Int × SV)} {s s' : SV} (h : Cm w1 g bm B n N XX M) (hs : (look M t).getD (none, 0, 0) = s) (ha0 : 0 ≤ a) (ha1 : a < N) (hm : a ∉ XX t)
    (hX : Fr noB w1 X) (hXs : w1.heap.size ≤ X.heap.size) (own5 : w5.ownsRow B 3 1 (mkS s') ((XX t).length + 1) (rowV (insAt (XX t) (placeI (XX t) a) a))) (mv5 : (mkS s').ownBlock = (mkS s).ownBlock ∨ (mkS s').ownBlock = some X.heap.size)
    (f5 : Fr (fun k => (mkS s).ownBlock = some k) X w5) (hob : ∀ b, (mkS s).ownBlock = some b → ∃ p ∈ M, p.1 = t ∧ (mkS p.2).ownBlock = some b)
    (mp6 : Mp Tryz.prog 3 klI mkS w6 bm (n + 1) (withKey M t s')) (f6 : Fr (onlyB bm) w5 w6) : Cm w6 g bm B (n + 1) N (addX XX t a) (withKey M t s') ∧ Fr (cmB w1 g bm B M) w1 w6 ∧ ∀ b, (mkS s').ownBlock = some b → cmB w1 g bm B M b ∨ w1.heap.size ≤ b := by
  have hlow : ∀ b, (mkS s).ownBlock = some b → B ≤ b ∧ b < w1.heap.size := fun b hb => by
    obtain ⟨p, hp, _, hpb⟩ := hob b hb
    exact (h.row p hp).1.lt b hpb
  have hgB := h.gB
  have hmB := h.mB
  have hBw := h.Bw
  have bX := hX.blk h.blk (fun q => q)
  have b5 := f5.blk bX (fun q => by have := hlow _ q; omega)
  have b6 := f6.blk b5 (fun q => h.ne q.symm)
  refine ⟨⟨b6, mp6, fun p hp => ?_, fun k hk => ?_, fun p hp q hq hpq b hb => ?_, fun k => ?_, fun k y hy => ?_, h.gB, h.mB, h.ne, ?_, h.N0, h.N1⟩, ?_⟩
  · rcases List.mem_cons.1 hp with rfl | hp
    · simp only [addX, if_true]
      refine ⟨?_, fun e => ?_⟩
      · rw [insAt_len _ _ _ (placeI_le _ _)]
        exact ownsRow_fr own5 f6 (fun q hq z => by have := (own5.lt q hq).1; unfold onlyB at z; omega)
      · have := congrArg List.length e
        rw [insAt_len _ _ _ (placeI_le _ _)] at this
        simp at this
    · obtain ⟨hp1, hp2⟩ := mem_without.1 hp
      simp only [addX, if_neg hp2]
      have h1 := h.row p hp1
      refine ⟨ownsRow_fr (ownsRow_fr (ownsRow_fr h1.1 hX (fun _ _ q => q)) f5 (fun q hq z => ?_)) f6 (fun q hq z => by have := (h1.1.lt q hq).1; unfold onlyB at z; omega), h1.2⟩
      obtain ⟨p2, hp2m, hp2t, hp2b⟩ := hob q z
      exact h.apart p hp1 p2 hp2m (by omega) q hq hp2b
  · by_cases hkt : k = t
    · subst hkt; rw [look_withKey_same] at hk; cases hk
    · rw [look_withKey_other _ _ hkt] at hk
      simp only [addX, if_neg hkt]; exact h.non k hk
  · have hnew : ∀ p ∈ without M t, ∀ b, (mkS s').ownBlock = some b → (mkS p.2).ownBlock ≠ some b := fun p hp b hb hb2 => by
      obtain ⟨hp1, hp2⟩ := mem_without.1 hp
      rcases mv5 with e | e
      · rw [e] at hb
        obtain ⟨p2, hp2m, hp2t, hp2b⟩ := hob b hb
        exact h.apart p hp1 p2 hp2m (by omega) b hb2 hp2b
      · rw [e] at hb; cases hb
        have := ((h.row p hp1).1.lt _ hb2).2
        omega
    rcases List.mem_cons.1 hp with rfl | hp
    · rcases List.mem_cons.1 hq with rfl | hq
      · exact absurd rfl hpq
      · exact hnew q hq b hb
    · rcases List.mem_cons.1 hq with rfl | hq
      · exact fun e => hnew p hp b e hb
      · exact h.apart p (mem_without.1 hp).1 q (mem_without.1 hq).1 hpq b hb
  · by_cases hkt : k = t
    · subst hkt; simp only [addX, if_true]; exact placeI_sorted (h.sorted k) hm
    · simp only [addX, if_neg hkt]; exact h.sorted k
  · by_cases hkt : k = t
    · subst hkt
      simp only [addX, if_true] at hy
      rcases mem_insAt.1 hy with rfl | hy
      · exact ⟨ha0, ha1⟩
      · exact h.range k y hy
    · simp only [addX, if_neg hkt] at hy; exact h.range k y hy
  · have := f5.size; have := f6.size; omega
  · refine ⟨((hX.mono (fun _ _ q => False.elim q)).trans f5 (fun _ _ q => q) (fun i hi q => ?_)).trans f6 (fun _ _ q => q) (fun i hi q => Or.inr (Or.inl q)), fun b hb => ?_⟩
    · obtain ⟨p, hp, _, hpb⟩ := hob i q
      exact Or.inr (Or.inr ⟨p, hp, hpb⟩)
    · rcases mv5 with e | e
      · rw [e] at hb
        obtain ⟨p, hp, _, hpb⟩ := hob b hb
        exact Or.inl (Or.inr (Or.inr ⟨p, hp, hpb⟩))
      · rw [e] at hb; cases hb
        exact Or.inr hXs

set_option maxHeartbeats 2000000 in
set_option maxRecDepth 10000 in
theorem cadd_ok (g bm B n : Nat) (N t a : Int) (X : Int → List Int) (M : List (Int × SV)) (w : World) (h : Cm w g bm B n N X M) (ht1 : 1 ≤ t) (ht2 : t ≤ 65535) (ha0 : 0 ≤ a) (ha1 : a < N) (hm : a ∉ X t) (hn : n < 1000000) :
    Calls Tryz.prog 51 #[.pointer (some ⟨g, 0, none⟩), .int .i64 t, .int .i64 a] w fun e w' => e = .returned (.int .i64 0) ∧ (∃ s, Cm w' g bm B (n + 1) N (addX X t a) (withKey M t s) ∧ ∀ b, (mkS s).ownBlock = some b → cmB w g bm B M b ∨ w.heap.size ≤ b) ∧ Fr (cmB w g bm B M) w w' := by
  have c0 : w.cell? ⟨g, 0, none⟩ = some (.int .i64 N) := h.blk.cell 0
  have c1 : w.cell? ⟨g, 1, none⟩ = some (.map (some bm)) := h.blk.cell 1
  have hok : okI t := okI_of (by omega) (by omega)
  have hrun := h.mp.run_look KI Tryz.underlying145 (zeroSl w) mkS_inj t hok
  have hbs := bs_any g bm B n N t a X M w h
  have hcon : (X t).contains a = false := by simpa using hm
  rw [hcon] at hbs
  -- the row at the key
  have hrow : w.ownsRow B 3 1 (mkS ((look M t).getD (none, 0, 0))) (X t).length (rowV (X t)) ∧ ∀ b, (mkS ((look M t).getD (none, 0, 0))).ownBlock = some b → ∃ p ∈ M, p.1 = t ∧ (mkS p.2).ownBlock = some b := by
    rcases h.at_key t with ⟨hx, hl⟩ | ⟨b, c, hl, ho, hne⟩
    · rw [hl, hx]; exact ⟨World.ownsRow_nil _ _ _ _, fun b hb => by cases hb⟩
    · rw [hl]; exact ⟨ho, fun b' hb => ⟨_, look_some hl, rfl, hb⟩⟩
  obtain ⟨ho, hob⟩ := hrow
  have hpl := placeI_le (X t) a
  have h4l := h.lenX t
  generalize hs : (look M t).getD (none, 0, 0) = s at *
  replace hs := Lib.hid hs
  have h1 : decide (t < 1) = false := by simp; omega
  have h2 : decide (65535 < t) = false := by simp; omega
  have h3 : decide (a < 0) = false := by simp; omega
  have h4 : decide (N ≤ a) = false := by simp; omega
  unfold kvI at hrun
  have hrunq : ∀ q, (Instr.lookup 145 (.map (some bm)) (.int .i64 t) false).run Tryz.prog (w.drewN q) = .ok (mkS s) (w.drewN q) := fun q => by
    have := (h.mp.fr ((Fr.refl noB w).drewN q) (fun z => z)).run_look KI Tryz.underlying145 (zeroSl _) mkS_inj t hok
    rw [hs.out] at this
    exact this
  go_enter Tryz.func51, Tryz.ntmps51
  go_wp2_with fail
  refine hbs.mono ?_
  rintro e w1 ⟨rfl, q, hw1⟩
  have f1 : Fr noB w w1 := by rw [hw1]; exact (Fr.refl noB w).drewN q
  have k1 := h.frN f1
  have o1 := ownsRow_fr ho f1 (fun _ _ q => q)
  have d1 : w1.cell? ⟨g, 1, none⟩ = some (.map (some bm)) := k1.blk.cell 1
  have r1 : (Instr.lookup 145 (.map (some bm)) (.int .i64 t) false).run Tryz.prog w1 = .ok (mkS s) w1 := by rw [hw1]; exact hrunq q
  have r1d : (Instr.lookup 145 (.map (some bm)) (.int .i64 t) false).run Tryz.prog w1.drew = .ok (mkS s) w1.drew := by
    have := (k1.frN ((Fr.refl noB w1).drew)).mp.run_look KI Tryz.underlying145 (zeroSl _) mkS_inj t hok
    rw [hs.out] at this
    exact this
  clear hw1 hrunq hrun hbs c0 c1 ho h
  generalize hpp : placeI (X t) a = pl at *
  replace hpp := Lib.hid hpp
  have fX : Fr noB w1 (w1.alloc (.cells #[.int .i64 a] 3)).drew := ((Fr.refl noB w1).alloc _).drew
  have kX := k1.frN fX
  have oX := ownsRow_fr o1 fX (fun _ _ q => q)
  have bX : Blk (w1.alloc (.cells #[.int .i64 a] 3)).drew w1.heap.size 3 [.int .i64 a] := Blk.new w1 3 [.int .i64 a]
  have hne : (mkS s).ownBlock ≠ some w1.heap.size := fun e => by have := (o1.lt _ e).2; omega
  have rX : (Instr.lookup 145 (.map (some bm)) (.int .i64 t) false).run Tryz.prog (w1.alloc (.cells #[.int .i64 a] 3)).drew = .ok (mkS s) (w1.alloc (.cells #[.int .i64 a] 3)).drew := by
    have := kX.mp.run_look KI Tryz.underlying145 (zeroSl _) mkS_inj t hok
    rw [hs.out] at this
    exact this
  have hins := insert_own (mkS s) (X t) B (X t).length pl w1.heap.size a _ oX hpl (by omega) bX hne kX.Bw
  have dX : (w1.alloc (.cells #[.int .i64 a] 3)).cell? ⟨g, 1, none⟩ = some (.map (some bm)) := kX.blk.cell 1
  have hsX : (w1.alloc (.cells #[.int .i64 a] 3)).drew.heap.size = w1.heap.size + 1 := by simp
  have hfin := fun (w5 w6 : World) (s' : SV) => Cm.added (w5 := w5) (w6 := w6) (s' := s') k1 hs.out ha0 ha1 hm fX fX.size
  rw [hpp.out] at hfin
  have hmpX := kX.mp
  have hmX : ∀ b, (mkS s).ownBlock = some b → B ≤ b := fun b hb => (oX.lt b hb).1
  have hgB := k1.gB
  have hmB := k1.mB
  have hne2 := k1.ne
  have bgX := kX.blk
  replace hins := Lib.hid hins
  replace hfin := Lib.hid hfin
  replace hsX := Lib.hid hsX
  replace hob := Lib.hid hob
  replace hmpX := Lib.hid hmpX
  replace hmX := Lib.hid hmX
  replace bgX := Lib.hid bgX
  clear r1 k1 o1 fX kX oX bX hne
  go_wp2_with fail
  go_region_held3 (fun w' => w'.cell? ⟨g, 1, none⟩ = some (.map (some bm)))
    (first | exact d1 | exact dX | exact d5 | exact d6)
    (first
     | (go_at_call 88; refine hins.out.mono ?_; rintro e w5 ⟨v', rfl, own5, mv5, f5⟩; obtain ⟨a5, c5, rfl⟩ := ownsRow_slice own5; obtain ⟨w6, hupd, mp6, f6⟩ := (hmpX.out.fr f5 (fun z => by have := hmX.out _ z; omega)).run_put KI Tryz.underlying145 mkS_inj (by unfold maxLen; omega) t (a5, (X t).length + 1, c5) hok; have d5 : w5.cell? ⟨g, 1, none⟩ = some (.map (some bm)) := (f5.blk bgX.out (fun z => by have := hmX.out _ z; omega)).cell 1; have d6 : w6.cell? ⟨g, 1, none⟩ = some (.map (some bm)) := f6.cell d5 (fun z => hne2 z.symm); unfold mkS kvI at hupd))
  go_goals
  all_goals (go_wp2_with fail; go_ret; obtain ⟨C, F, O⟩ := hfin.out w5 w6 (a5, (X t).length + 1, c5) own5 mv5 f5 hob.out mp6 f6; have hsz := f1.size; exact ⟨rfl, ⟨_, C, fun b hb => (O b hb).imp id (fun q => by omega)⟩, (f1.mono (fun _ _ q => False.elim q)).trans F (fun _ _ q => q) (fun i hi q => q)⟩)
end Go.Proofs.YtppmednmcbjafaaGreat
