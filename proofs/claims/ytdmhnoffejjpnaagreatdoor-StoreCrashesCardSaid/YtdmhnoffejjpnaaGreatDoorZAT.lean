/-
  The spans of a part: spans.
  Missing: of which agents something is missing.
  Record: the record, when all of it came.
-/
import Derived.Test.YtdmhnoffejjpnaaGreatDoorZAS
import Derived.Laws.Rows
section
set_option linter.unusedVariables false
set_option linter.unusedSimpArgs false
set_option maxRecDepth 100000
set_option maxRecDepth 100000
namespace Go.Proofs.YtdmhnoffejjpnaaGreatDoor
open Go.RowKit Go Go.Maps Go.Lib

/-- the chunks of one agent, in their order -/
def rowsOf (L : List (Int × List Sp)) (n : Nat) : List (List Sp) := (List.range n).map fun (i : Nat) => (look L (i : Int)).getD []
/-- the spans of a part; none: it isn't there -/
def partOf (tr : Int) (C : CH) (p : Pn) : Option (List Sp) :=
  match look C p.a with
  | none => none
  | some (t, L) => if (L.length : Int) < t then none else if ((rowsOf L t.toNat).flatten.length : Int) = p.n ∧ rowF tr 0 (rowsOf L t.toNat).flatten = true then some (rowsOf L t.toNat).flatten else none
theorem rowsOf_succ (L : List (Int × List Sp)) (n : Nat) : rowsOf L (n + 1) = rowsOf L n ++ [(look L (n : Int)).getD []] := by
  unfold rowsOf
  rw [List.range_succ, List.map_append]
  rfl
theorem rows_len (L : List (Int × List Sp)) (h : ∀ e ∈ L, e.2.length ≤ 2) : ∀ n, (rowsOf L n).flatten.length ≤ 2 * n
  | 0 => by simp [rowsOf]
  | n + 1 => by
    rw [rowsOf_succ, List.flatten_append, List.length_append]
    have := rows_len L h n
    have h2 : ((look L (n : Int)).getD []).length ≤ 2 := by
      cases hl : look L (n : Int) with
      | none => simp
      | some x => exact h _ (look_some hl)
    have h3 : ([(look L (n : Int)).getD []] : List (List Sp)).flatten.length = ((look L (n : Int)).getD []).length := by simp
    omega
theorem rd_nil (w : World) : RdSp w (.slice none 0 0) [] := ⟨none, 0, rfl, by simp, by unfold maxLen; omega, fun _ => rfl, fun i s hi => by simp at hi⟩
theorem RdR.of_rd {w : World} {B : Nat} {v : Value} {P : List (Value × List Sp)} (h : w.ownsRow B 29 1 v P.length (P.map Prod.fst)) (hp : ∀ x ∈ P, RdSp w x.1 x.2) : RdR w v (P.map Prod.snd) := by
  have hcell := fun g (hg : v.ownBlock = some g) => h.cells hg
  rcases h.2 with ⟨rfl, h1⟩ | ⟨g, cap, cur, rfl, hb, hg, hnc, hcm, hcs, htake⟩
  · refine ⟨none, 0, by simp [h1], by simp [h1], by simp [maxLen], fun i l hi => ?_⟩
    rw [List.eq_nil_of_length_eq_zero h1] at hi
    simp at hi
  · refine ⟨_, cap, by rw [List.length_map], by rw [List.length_map]; exact hnc, hcm, fun i l hi => ?_⟩
    rw [List.getElem?_map] at hi
    cases hq : P[i]? with
    | none => rw [hq] at hi; cases hi
    | some p =>
      rw [hq] at hi
      simp at hi
      subst hi
      have h2 := hcell g rfl i p.1 (by rw [List.getElem?_map, hq]; rfl)
      rw [add_none] at h2
      exact ⟨g, 0, p.1, rfl, h2, hp p (List.mem_of_getElem? hq)⟩
theorem one_sl (a : Option Addr) (n c : Nat) : ∀ u ∈ [Value.slice a n c], u.oneCell' = true := by intro u hu; simp at hu; subst hu; rfl
def SpPost (e : Ending) (w w' : World) (r : Option (List Sp)) : Prop := ∃ v', e = .returned (.tuple #[v', .bool r.isSome]) ∧ (∀ S, r = some S → w'.ownsRow w.heap.size 118 3 v' S.length (S.flatMap spC)) ∧ (r = none → v' = .slice none 0 0) ∧ Fr noB w w'
theorem sp_none {w w' : World} (f : Fr noB w w') : SpPost (.returned (.tuple #[.slice none 0 0, .bool false])) w w' none := ⟨_, rfl, fun S e => (by cases e), fun _ => rfl, f⟩

set_option maxHeartbeats 8000000 in
theorem spans_any (p bm mb : Nat) (D : Nat → Prop) (A : AP) (q : Pn) (ua : Option Addr) (un uc : Nat) (w : World) (h : AsmP w p bm mb D A) (hq : pnB q = true) :
    Calls Tryz.prog 112 #[.pointer (some ⟨p, 0, none⟩), .agg #[.int .i64 q.a, .int .i64 q.t, .int .i64 q.j, .int .i64 q.n, .slice ua un uc, .bool q.lo]] w fun e w' => SpPost e w w' (partOf A.tr A.C q) := by
  obtain ⟨ha0, ha3, hn0, hn1, _⟩ := pn_in hq
  have oka : okI q.a := okI_of (by omega) (by omega)
  obtain ⟨qa, hqa⟩ : ∃ qa, q.a = qa := ⟨_, rfl⟩
  obtain ⟨qn, hqn⟩ : ∃ qn, q.n = qn := ⟨_, rfl⟩
  obtain ⟨qt, hqt⟩ : ∃ qt, q.t = qt := ⟨_, rfl⟩
  obtain ⟨qj, hqj⟩ : ∃ qj, q.j = qj := ⟨_, rfl⟩
  obtain ⟨ql, hql⟩ : ∃ ql, q.lo = ql := ⟨_, rfl⟩
  have hpart : partOf A.tr A.C q = match (A.at qa).map fun o => (o.t, enS o.E) with
      | none => none
      | some (t, L) => if (L.length : Int) < t then none else if ((rowsOf L t.toNat).flatten.length : Int) = qn ∧ rowF A.tr 0 (rowsOf L t.toNat).flatten = true then some (rowsOf L t.toNat).flatten else none := by
    rw [← hqa, ← hqn, ← c_look]; rfl
  rw [hqa] at oka ⊢
  rw [hqn, hqt, hqj, hql]
  clear hqa hqn hqt hqj hql
  obtain ⟨cv, hcv⟩ : ∃ cv : Int × Option Nat, ((A.at qa).map fun o => (o.t, some o.m)).getD (0, none) = cv := ⟨_, rfl⟩
  have hlk : ∀ w', Fr noB w w' → (Instr.lookup 178 (.map (some bm)) (.int .i64 qa) false).run Tryz.prog w' = .ok (.agg #[.int .i64 cv.1, .map cv.2]) w' := fun w' f => by
    have := (h.om.fr f (fun q => q)).run_look KI' Tryz.underlying178 (zeroC w') mkC_inj qa oka
    rw [ap_look, hcv] at this
    exact this
  have hc3 : ∀ w', Fr noB w w' → w'.cell? ⟨p, 3, none⟩ = some (.map (some bm)) := fun w' f => (h.frN f).blk.cell 3
  have hc0 : ∀ w', Fr noB w w' → w'.cell? ⟨p, 0, none⟩ = some (.int .i64 A.tr) := fun w' f => (h.frN f).blk.cell 0
  obtain ⟨cb, hcb⟩ : ∃ cb, w.heap.size = cb := ⟨_, rfl⟩
  have f1 : Fr noB w (w.alloc (.cells #[.int .i64 qa, .int .i64 qt, .int .i64 qj, .int .i64 qn, .slice ua un uc, .bool ql] 70)) := (Fr.refl _ _).alloc _
  have b1 := Blk.new w 70 [.int .i64 qa, .int .i64 qt, .int .i64 qj, .int .i64 qn, .slice ua un uc, .bool ql]
  have hs1 : (w.alloc (.cells #[.int .i64 qa, .int .i64 qt, .int .i64 qj, .int .i64 qn, .slice ua un uc, .bool ql] 70)).heap.size = cb + 1 := by rw [size_alloc, hcb]
  rw [hcb] at b1
  obtain ⟨R, hR⟩ : ∃ R, partOf A.tr A.C q = R := ⟨_, rfl⟩
  rw [hR] at hpart ⊢
  replace h := Lib.hid h
  replace hlk := Lib.hid hlk
  replace hc3 := Lib.hid hc3
  replace hc0 := Lib.hid hc0
  replace hpart := Lib.hid hpart
  replace hcv := Lib.hid hcv
  clear hR
  go_enter Tryz.func112, Tryz.ntmps112
  go_upto_region 1 with fail
  try rw [hcb]
  replace hcb := Lib.hid hcb
  generalize (w.alloc (.cells #[.int .i64 qa, .int .i64 qt, .int .i64 qj, .int .i64 qn, .slice ua un uc, .bool ql] 70)) = w1 at *
  have hS : ∀ w', Fr noB w1 w' → w'.cell? ⟨p, 3, none⟩ = some (.map (some bm)) ∧ w'.cell? ⟨cb, 0, none⟩ = some (.int .i64 qa) ∧ (Instr.lookup 178 (.map (some bm)) (.int .i64 qa) false).run Tryz.prog w' = .ok (.agg #[.int .i64 cv.1, .map cv.2]) w' := fun w' f => ⟨hc3.out _ (f1.seqN f), (f.blk b1 (fun q => q)).cell 0, hlk.out _ (f1.seqN f)⟩
  replace hS := Lib.hid hS
  replace b1 := Lib.hid b1
  replace f1 := Lib.hid f1
  replace hs1 := Lib.hid hs1
  go_cut [6] from 10 to 17 (fun cp wx => cp = .pointer (some ⟨cb + 1, 0, none⟩) ∧ wx = (w1.alloc (.cells #[.int .i64 cv.1, .map cv.2] 198)).drew)
  case first =>
    go_region_held3 (fun w' => w'.cell? ⟨p, 3, none⟩ = some (.map (some bm)) ∧ w'.cell? ⟨cb, 0, none⟩ = some (.int .i64 qa) ∧ (Instr.lookup 178 (.map (some bm)) (.int .i64 qa) false).run Tryz.prog w' = .ok (.agg #[.int .i64 cv.1, .map cv.2]) w')
      (first | exact hS.out _ ((Fr.refl noB _).drewN 1) | exact hS.out _ (((Fr.refl noB _).drewN 1).alloc _) | fail)
      (fail)
    all_goals (
      go_wp2_with fail
      go_meet
      exact ⟨by rw [hs1.out], rfl⟩)
  case rest =>
    obtain ⟨rfl, rfl⟩ := hcut
    have f2 : Fr noB w1 (w1.alloc (.cells #[.int .i64 cv.1, .map cv.2] 198)).drew := ((Fr.refl _ _).alloc _).drew
    have b2 : Blk (w1.alloc (.cells #[.int .i64 cv.1, .map cv.2] 198)).drew (cb + 1) 198 [.int .i64 cv.1, .map cv.2] := by
      have := Blk.new w1 198 [.int .i64 cv.1, .map cv.2]
      rw [hs1.out] at this
      exact this.drew
    have hs2 : (w1.alloc (.cells #[.int .i64 cv.1, .map cv.2] 198)).drew.heap.size = cb + 2 := by
      show (w1.alloc (.cells #[.int .i64 cv.1, .map cv.2] 198)).heap.size = cb + 2
      rw [size_alloc, hs1.out]
    generalize (w1.alloc (.cells #[.int .i64 cv.1, .map cv.2] 198)).drew = w2 at *
    have f12 := f1.out.seqN f2
    have bQ := f2.blk b1.out (fun q => q)
    have r0 : w2.cell? ⟨cb + 1, 0, none⟩ = some (.int .i64 cv.1) := b2.cell 0
    have r1 : w2.cell? ⟨cb + 1, 1, none⟩ = some (.map cv.2) := b2.cell 1
    replace bQ := Lib.hid bQ
    replace b2 := Lib.hid b2
    replace f12 := Lib.hid f12
    clear f2 hS hlk b1 f1 hs1 hc3 oka
    cases hat : A.at qa with
    | none =>
      obtain rfl : cv = (0, none) := by rw [← hcv.out, hat]; rfl
      obtain rfl : R = none := by have := hpart.out; rw [hat] at this; exact this
      go_wp2_with fail
      go_ret2
      exact sp_none f12.out
    | some o =>
      obtain rfl : cv = (o.t, some o.m) := by rw [← hcv.out, hat]; rfl
      obtain ⟨ho, hoa⟩ := ap_some hat
      have hO := (h.out.inn o ho).1
      have hkl := key_len hO
      have ht0 := hO.t0
      have ht5 := hO.t5
      obtain ⟨T, hT⟩ : ∃ T : Nat, o.t = T := ⟨o.t.toNat, by omega⟩
      have hpart2 : R = if (o.E.length : Int) < o.t then none else if ((rowsOf (enS o.E) T).flatten.length : Int) = qn ∧ rowF A.tr 0 (rowsOf (enS o.E) T).flatten = true then some (rowsOf (enS o.E) T).flatten else none := by
        have := hpart.out
        rw [hat] at this
        rw [this]
        show (if ((enS o.E).length : Int) < o.t then _ else _) = _
        rw [show (enS o.E).length = o.E.length by unfold enS; simp, show o.t.toNat = T by omega]
      have hO2 := hO.fr f12.out (fun _ _ q => q)
      have hml := hO2.mp.run_len Tryz.underlying196
      rw [enL_len] at hml
      have e0 : (o.t == 0) = false := by rw [beq_eq_false_iff_ne]; omega
      have e1 : decide (o.t = 0) = false := decide_eq_false (by omega)
      have hrdE : ∀ e ∈ o.E, RdSp w2 (mkS e.2.1) e.2.2 := fun e he => (hO2.rd e he).1
      have hE2 : ∀ e ∈ enS o.E, e.2.length ≤ 2 := by
        intro e he
        unfold enS at he
        obtain ⟨x, hx, rfl⟩ := List.mem_map.1 he
        exact (hO2.ix x hx).2.2
      have hmp2 := hO2.mp
      dsimp only at r0 r1
      rw [hT] at r0 e0 e1 ht0 ht5
      rw [hT] at hpart2
      have hlk2 : ∀ w', Fr noB w2 w' → ∀ k : Nat, k < T → ∃ a n c, (Instr.lookup 196 (.map (some o.m)) (.int .i64 (k : Int)) false).run Tryz.prog w' = .ok (.slice a n c) w' ∧ RdSp w2 (.slice a n c) ((look (enS o.E) (k : Int)).getD []) := fun w' f k hk => by
        have := (hmp2.fr f (fun q => q)).run_look KI' Tryz.underlying196 (zeroSp w') mkS_inj (k : Int) (okI_of (by omega) (by omega))
        obtain ⟨sv, hsv⟩ : ∃ sv, (look (enL o.E) (k : Int)).getD (none, 0, 0) = sv := ⟨_, rfl⟩
        rw [hsv] at this
        refine ⟨sv.1, sv.2.1, sv.2.2, this, ?_⟩
        rw [ens_look]
        rw [en_look] at hsv
        cases hl : look o.E (k : Int) with
        | none => rw [hl] at hsv; subst hsv; exact rd_nil w2
        | some x => rw [hl] at hsv; subst hsv; exact hrdE _ (look_some hl)
      replace hmp2 := Lib.hid hmp2
      replace hO2 := Lib.hid hO2
      replace hO := Lib.hid hO
      replace ho := Lib.hid ho
      replace hlk2 := Lib.hid hlk2
      replace hrdE := Lib.hid hrdE
      replace hE2 := Lib.hid hE2
      replace hT := Lib.hid hT
      replace hpart := Lib.hid hpart2
      clear hcv hat hpart2
      by_cases hlt : (o.E.length : Int) < (T : Int)
      · obtain rfl : R = none := by have := hpart.out; rw [if_pos hlt] at this; exact this
        have e2 : decide ((o.E.length : Int) < (T : Int)) = true := decide_eq_true hlt
        replace hpart := ()
        go_wp2_with fail
        go_ret2
        exact sp_none f12.out
      · have e2 : decide ((o.E.length : Int) < (T : Int)) = false := decide_eq_false hlt
        have hR : Hid (R = if ((rowsOf (enS o.E) T).flatten.length : Int) = qn ∧ rowF A.tr 0 (rowsOf (enS o.E) T).flatten = true then some (rowsOf (enS o.E) T).flatten else none) := Lib.hid (by have := hpart.out; rw [if_neg hlt] at this; exact this)
        clear hpart
        obtain ⟨i0, hi, hz0, hz1, hz2⟩ := info_parts Tryz.infoRow
        obtain ⟨B, hB⟩ : ∃ B, w2.heap.size = B := ⟨_, rfl⟩
        replace hB := Lib.hid hB
        go_wp2_with fail
        go_loopg [7, 30] T (fun gk vl i wr => ∃ (k : Nat) (P : List (Value × List Sp)), k + gk = T ∧ i = .int .i64 k ∧ Hid (P.length = k) ∧ Hid (wr.ownsRow B 29 1 vl k (P.map Prod.fst)) ∧ Hid (∀ x ∈ P, RdSp w2 x.1 x.2) ∧ Hid (P.map Prod.snd = rowsOf (enS o.E) k) ∧ Hid (Fr noB w2 wr))
        case atStart => exact ⟨0, [], Nat.zero_add _, rfl, Lib.hid rfl, Lib.hid ⟨rfl, Or.inl ⟨rfl, rfl⟩⟩, Lib.hid (fun x hx => by cases hx), Lib.hid rfl, Lib.hid (Fr.refl _ _)⟩
        case round =>
          obtain ⟨k, P, hk, rfl, hPk, hown, hrd, hrow, fr⟩ := hrel
          have k0 := fr.out.cell r0 (fun q => q)
          have k1 := fr.out.cell r1 (fun q => q)
          have hwB : B ≤ wr.heap.size := by have := fr.out.size; have := hB.out; omega
          clear r0 r1 hml
          by_cases hkT : k < T
          · obtain ⟨a, n, c, hl0, hl1⟩ := hlk2.out wr fr.out k hkT
            have hb1 : (k : Int) < T := by omega
            have hmeas : T - (k + 1) < gk := by omega
            have hkn2 : k + 1 + (T - (k + 1)) = T := by omega
            have f5 : Fr noB wr (wr.alloc (.cells #[.slice a n c] 29)) := (Fr.refl _ _).alloc _
            have ow5 := ownsRow_fr hown.out f5 (fun _ _ q => q)
            have cn := cell_new wr (.slice a n c) 29
            have hw5 : B ≤ (wr.alloc (.cells #[.slice a n c] 29)).heap.size := by have := f5.size; omega
            have hk5 : k < 500 := by omega
            replace hl1 := Lib.hid hl1
            replace hmeas := Lib.hid hmeas
            replace hkn2 := Lib.hid hkn2
            replace hk5 := Lib.hid hk5
            clear hk
            go_wp2_with (first
              | (at_builtin; go_must (refine wpList_append_at _ rfl (.tmp 33) (.tmp 38) 199 rfl B 29 i0 _ 1 24 Tryz.underlying199 hi hz0 hz1 hz2 rfl (by decide) _ k (P.map Prod.fst) rfl ow5 ⟨wr.heap.size, 0, none⟩ 1 1 [.slice a n c] rfl rfl cn (one_sl _ _ _) ?_ ?_ hw5 ?_))
              | fail)
            · have := hk5.out; unfold maxLen; omega
            · have := hk5.out; omega
            intro v8 w8 o8 gr8 _
            have f8 : Fr (rowB u7) (wr.alloc (.cells #[.slice a n c] 29)) w8 := (Fr.refl _ _).grown gr8 (fun k hk _ => hk)
            have fr8 : Fr noB w2 w8 := (fr.out.seqN f5).trans f8 (fun _ _ q => q) (fun i hi q => by have := (hown.out.lt i q).1; have := hB.out; omega)
            have o8' : w8.ownsRow B 29 1 v8 (k + 1) ((P ++ [(Value.slice a n c, (look (enS o.E) (k : Int)).getD [])]).map Prod.fst) := by
              rw [List.map_append]; exact o8
            have hl8 : (P ++ [(Value.slice a n c, (look (enS o.E) (k : Int)).getD [])]).length = k + 1 := by rw [List.length_append, hPk.out]; rfl
            have hrd8 : ∀ x ∈ P ++ [(Value.slice a n c, (look (enS o.E) (k : Int)).getD [])], RdSp w2 x.1 x.2 := by
              intro x hx
              rcases List.mem_append.1 hx with hx | hx
              · exact hrd.out x hx
              · obtain rfl := List.mem_singleton.1 hx; exact hl1.out
            have hrow8 : (P ++ [(Value.slice a n c, (look (enS o.E) (k : Int)).getD [])]).map Prod.snd = rowsOf (enS o.E) (k + 1) := by rw [List.map_append, hrow.out, rowsOf_succ]; rfl
            replace o8' := Lib.hid o8'
            replace hl8 := Lib.hid hl8
            replace hrd8 := Lib.hid hrd8
            replace hrow8 := Lib.hid hrow8
            replace fr8 := Lib.hid fr8
            clear o8 gr8 f8 ow5 cn f5 hl0 hl1 hown hrd hrow fr hPk
            go_wp2_with fail
            go_roundg (T - (k + 1))
            case rel => exact ⟨k + 1, P ++ [(Value.slice a n c, (look (enS o.E) (k : Int)).getD [])], hkn2.out, by go_num, hl8, o8', hrd8, hrow8, fr8⟩
            case measure => exact hmeas.out
          · obtain rfl : k = T := by omega
            have hcells : RdR wr u7 (rowsOf (enS o.E) k) := by
              rw [← hrow.out]
              exact RdR.of_rd (B := B) (by rw [hPk.out]; exact hown.out) (fun x hx => (hrd.out x hx).frN fr.out)
            have hfl : (rowsOf (enS o.E) k).flatten.length ≤ 100000 := by have := rows_len (enS o.E) hE2.out k; omega
            have hj := join_any u7 (rowsOf (enS o.E) k) wr hcells hfl
            obtain ⟨S, hS⟩ : ∃ S, (rowsOf (enS o.E) k).flatten = S := ⟨_, rfl⟩
            rw [hS] at hj hfl
            have hR2 : Hid (R = if (S.length : Int) = qn ∧ rowF A.tr 0 S = true then some S else none) := Lib.hid (by have := hR.out; rw [hS] at this; exact this)
            replace hj := Lib.hid hj
            replace hfl := Lib.hid hfl
            have hb1 : ¬ (k : Int) < k := by omega
            clear hR hS hrow hcells hown
            go_wp2_with fail
            go_fit hj.out
            rintro e w3 ⟨v3, rfl, o3, f3⟩
            obtain ⟨a3, c3, rfl⟩ := ownsRow_slice o3
            have g3 := fr.out.seqN f3
            have g13 := f12.out.seqN g3
            have q3 : w3.cell? ⟨cb, 3, none⟩ = some (.int .i64 qn) := (g3.blk bQ.out (fun q => q)).cell 3
            have p3 := hc0.out w3 g13
            have hs3 : RdSp w3 (.slice a3 S.length c3) S := RdSp.of_own o3 rfl
            have hrow := row_any _ S A.tr w3 hs3
            have hwb : w.heap.size ≤ wr.heap.size := (f12.out.seqN fr.out).size
            have o3' := ownsRow_mono o3 hwb
            obtain ⟨sn, hsn⟩ : ∃ sn, S.length = sn := ⟨_, rfl⟩
            rw [hsn] at hrow hR2 
            obtain ⟨rb, hrb⟩ : ∃ rb, rowF A.tr 0 S = rb := ⟨_, rfl⟩
            rw [hrb] at hrow hR2
            rw [hsn] at o3' ⊢
            replace hsn := Lib.hid hsn
            replace hrow := Lib.hid hrow
            replace o3' := Lib.hid o3'
            replace g13 := Lib.hid g13
            clear o3 hs3 hj k0 k1 f3 g3 hrb fr
            by_cases hnq : (sn : Int) = qn
            · subst hnq
              have e3 : ((sn : Int) != (sn : Int)) = false := by simp
              go_wp2_with fail
              go_fit hrow.out
              rintro e w4 ⟨rfl, f4⟩
              cases rb with
              | true =>
                obtain rfl : R = some S := by have := hR2.out; rw [if_pos (by simp)] at this; exact this
                go_wp2_with fail
                go_ret2
                exact ⟨.slice a3 sn c3, rfl, fun S' e => (by
                  injection e with e
                  subst e
                  rw [hsn.out]
                  exact ownsRow_fr o3'.out f4 (fun _ _ q => q)), fun e => (by cases e), g13.out.seqN f4⟩
              | false =>
                obtain rfl : R = none := by have := hR2.out; rw [if_neg (by simp)] at this; exact this
                go_wp2_with fail
                go_ret2
                exact sp_none (g13.out.seqN f4)
            · have e3 : ((sn : Int) != qn) = true := by simpa using hnq
              obtain rfl : R = none := by have := hR2.out; rw [if_neg (fun q => hnq q.1)] at this; exact this
              replace hnq := Lib.hid hnq
              go_wp2_with fail
              go_ret2
              exact sp_none g13.out
end Go.Proofs.YtdmhnoffejjpnaaGreatDoor
end

section
set_option linter.unusedVariables false
set_option linter.unusedSimpArgs false
set_option maxRecDepth 100000
set_option maxRecDepth 100000
namespace Go.Proofs.YtdmhnoffejjpnaaGreatDoor
open Go.RowKit Go Go.Maps Go.Lib

def missL (tr : Int) (C : CH) (ps : List Pn) : List Int := (ps.filter fun p => (partOf tr C p).isNone).map (·.a)
def AP.miss (A : AP) : List Int := match A.man with
  | none => []
  | some x => missL A.tr A.C x.2
theorem miss_step (tr : Int) (C : CH) (ps : List Pn) (k : Nat) (p : Pn) (h : ps[k]? = some p) : missL tr C (ps.take (k + 1)) = missL tr C (ps.take k) ++ (if (partOf tr C p).isNone = true then [p.a] else []) := by
  unfold missL
  rw [List.take_add_one, h, Option.toList_some, List.filter_append, List.map_append]
  congr 1
  by_cases hq : (partOf tr C p).isNone = true
  · simp [hq]
  · simp [hq]
theorem infoIntX : (Tryz.prog.info? 3).map (fun i => (i.zero, i.size, i.bytes)) = some (some (.int .i64 0), 1, 8) := by kernel_rfl
end Go.Proofs.YtdmhnoffejjpnaaGreatDoor
end

section
set_option linter.unusedVariables false
set_option linter.unusedSimpArgs false
set_option maxRecDepth 100000
set_option maxRecDepth 100000
namespace Go.Proofs.YtdmhnoffejjpnaaGreatDoor
open Go.RowKit Go Go.Maps Go.Lib

theorem results_cell_row2 {P : Program} {fn : Func} {p u : Tmp} {ty : TypeId} (h : fn.results = #[.cell p ty, .tmp u]) (tmps : Array Value) (w : World) (g : Nat) (t : TypeId) (cs : Array Value) (fr : Nat × Nat) (d : TypeDesc)
    (hp : tmps.getD p undef = .pointer (some ⟨g, 0, none⟩)) (hg : w.heap[g]? = some (.cells cs t fr))
    (hd : (match d with | .struct _ | .array _ _ => true | _ => false) = true) (hu : P.underlying ty = some d) (hi : (P.info? ty).map (·.size) = some cs.size) :
    (results fn tmps).run P w = .ok (.tuple #[.agg cs, tmps.getD u undef]) w := by
  have hp' : tmps[p]?.getD undef = .pointer (some ⟨g, 0, none⟩) := by simpa using hp
  simp [results, h, hp', asAddr, run_loadVar_row w g t ty cs fr d hg hu (by cases d <;> simp_all) hi]
theorem undRec : ((Tryz.prog.underlying 63).map fun d => match d with | .struct _ | .array _ _ => true | _ => false) = some true := by kernel_rfl
theorem infoRecS : (Tryz.prog.info? 63).map (·.size) = some 5 := by kernel_rfl
theorem rec_ret {fn : Func} (hf : fn.results = #[.cell 2 63, .tmp 3]) (tmps : Array Value) (w : World) {g : Nat} {cs : List Value} (hp : tmps.getD 2 undef = .pointer (some ⟨g, 0, none⟩)) (hb : Blk w g 63 cs) (hl : cs.length = 5) :
    (results fn tmps).run Tryz.prog w = .ok (.tuple #[.agg cs.toArray, tmps.getD 3 undef]) w := by
  have h := undRec
  cases hu : Tryz.prog.underlying 63 with
  | none => rw [hu] at h; cases h
  | some d =>
    rw [hu] at h
    injection h with h
    exact results_cell_row2 hf tmps w g 63 cs.toArray _ d hp hb h hu (by rw [infoRecS]; simp [hl])
def noRec : Value := .agg #[.int .i64 0, .int .i64 0, .int .i64 0, .bool false, .slice none 0 0]
theorem record_nil (w : World) : Calls Tryz.prog 89 #[.pointer none] w fun e w' => e = .returned (.tuple #[noRec, .bool false]) ∧ Fr noB w w' := by
  have b0 := Blk.new w 63 [.int .i64 0, .int .i64 0, .int .i64 0, .bool false, .slice none 0 0]
  have f0 : Fr noB w (w.alloc (.cells #[.int .i64 0, .int .i64 0, .int .i64 0, .bool false, .slice none 0 0] 63)) := (Fr.refl _ _).alloc _
  have c0 := b0.cell 0
  have c1 := b0.cell 1
  have c2 := b0.cell 2
  have c3 := b0.cell 3
  have c4 := b0.cell 4
  have z0 := b0.frozen 0
  have z1 := b0.frozen 1
  have z2 := b0.frozen 2
  have z3 := b0.frozen 3
  have z4 := b0.frozen 4
  replace b0 := Lib.hid b0
  replace f0 := Lib.hid f0
  go_enter Tryz.func89, Tryz.ntmps89
  go_wp2_with fail
  refine bodyPost_ret (rec_ret rfl _ _ (g := w.heap.size) (by rfl) b0.out rfl) rfl ?_
  exact ⟨rfl, f0.out⟩

theorem record_none (p bm mb : Nat) (D : Nat → Prop) (A : AP) (w : World) (h : AsmP w p bm mb D A) (hm : A.man = none) : Calls Tryz.prog 89 #[.pointer (some ⟨p, 0, none⟩)] w fun e w' => e = .returned (.tuple #[noRec, .bool false]) ∧ Fr noB w w' := by
  have b0 := Blk.new w 63 [.int .i64 0, .int .i64 0, .int .i64 0, .bool false, .slice none 0 0]
  have f0 : Fr noB w (w.alloc (.cells #[.int .i64 0, .int .i64 0, .int .i64 0, .bool false, .slice none 0 0] 63)) := (Fr.refl _ _).alloc _
  have cp : (w.alloc (.cells #[.int .i64 0, .int .i64 0, .int .i64 0, .bool false, .slice none 0 0] 63)).cell? ⟨p, 2, none⟩ = some (.pointer none) := by
    have := (h.frN f0).blk.cell 2
    rw [show A.mp mb = none by unfold AP.mp; rw [hm]] at this
    exact this
  have c0 := b0.cell 0
  have c1 := b0.cell 1
  have c2 := b0.cell 2
  have c3 := b0.cell 3
  have c4 := b0.cell 4
  have z0 := b0.frozen 0
  have z1 := b0.frozen 1
  have z2 := b0.frozen 2
  have z3 := b0.frozen 3
  have z4 := b0.frozen 4
  replace b0 := Lib.hid b0
  replace f0 := Lib.hid f0
  clear h hm
  go_enter Tryz.func89, Tryz.ntmps89
  go_wp2_with fail
  refine bodyPost_ret (rec_ret rfl _ _ (g := w.heap.size) (by rfl) b0.out rfl) rfl ?_
  exact ⟨rfl, f0.out⟩
theorem cloneo_any (v : Value) (xs : List Int) (w : World) (hv : RdI w v xs) (hl : xs.length ≤ 1000000) :
    Calls Tryz.prog 113 #[v] w fun e w' => ∃ ta tc, e = .returned (.slice ta xs.length tc) ∧ w'.ownsRow w.heap.size 3 1 (.slice ta xs.length tc) xs.length (xs.map (Value.int .i64)) ∧ Fr noB w w' := by
  obtain ⟨a, c, rfl, h1, h2, h3⟩ := hv
  by_cases h0 : xs.length = 0
  · have hx : xs = [] := List.eq_nil_of_length_eq_zero h0
    subst hx
    cases a with
    | none =>
      refine (Tryz.slices_Clone_int_nil _ c w).mono ?_
      rintro e w' ⟨rfl, rfl⟩
      exact ⟨none, 0, rfl, ⟨rfl, Or.inl ⟨rfl, rfl⟩⟩, Fr.refl _ _⟩
    | some ad =>
      refine (Tryz.slices_Clone_int_zero ad c w).mono ?_
      rintro e w' ⟨v', rfl, ow, _, hb⟩
      obtain ⟨a', c', rfl⟩ := ownsRow_slice ow
      exact ⟨a', c', rfl, ow, Fr.of_below hb⟩
  · obtain ⟨g, o, rfl, _⟩ := h3 0 (by omega)
    have hc : ∀ j, j < xs.length → w.cell? ⟨g, o + j, none⟩ = some (.int .i64 (xs.getD j 0)) := fun j hj => by
      obtain ⟨g2, o2, e2, h4⟩ := h3 j hj
      cases e2
      exact h4
    refine (Tryz.slices_Clone_int g o xs.length c xs w (Nat.le_refl _) (by omega) hc).mono ?_
    rintro e w' ⟨v', rfl, ow, _, hb⟩
    rw [List.take_length] at ow
    obtain ⟨a', c', rfl⟩ := ownsRow_slice ow
    exact ⟨a', c', rfl, ow, Fr.of_below hb⟩
/-- a part of a record, where it lies -/
structure RU where
  p : Pn
  S : List Sp
  sa : Option Addr
  sc : Nat
  ca : Option Addr
  cc : Nat
def RU.cs (u : RU) : List Value := [.int .i64 u.p.a, .slice u.sa u.S.length u.sc, .slice u.ca u.p.cr.length u.cc, .bool u.p.lo]
def OwnRU (w : World) (B : Nat) (U : List RU) : Prop := ∀ u ∈ U, w.ownsRow B 118 3 (.slice u.sa u.S.length u.sc) u.S.length (u.S.flatMap spC) ∧ w.ownsRow B 3 1 (.slice u.ca u.p.cr.length u.cc) u.p.cr.length (u.p.cr.map (Value.int .i64))
def RU.pair (u : RU) : Pn × List Sp := (u.p, u.S)
def wholeL (L : List (Pn × List Sp)) : Bool := L.all fun x => !x.1.lo
def pairOf (tr : Int) (C : CH) (p : Pn) : Pn × List Sp := (p, (partOf tr C p).getD [])
def recL (tr : Int) (C : CH) (ps : List Pn) : Option (List (Pn × List Sp)) := if ps.all (fun p => (partOf tr C p).isSome) = true then some (ps.map (pairOf tr C)) else none
def AP.recd (A : AP) : Option (Int × List (Pn × List Sp)) := match A.man with
  | none => none
  | some x => (recL A.tr A.C x.2).map fun L => (x.1, L)
def RecPost (e : Ending) (w w' : World) (tr jb : Int) (r : Option (Int × List (Pn × List Sp))) : Prop :=
  Fr noB w w' ∧ (r = none → e = .returned (.tuple #[noRec, .bool false])) ∧ ∀ c L, r = some (c, L) → ∃ v U, e = .returned (.tuple #[.agg #[.int .i64 tr, .int .i64 jb, .int .i64 c, .bool (wholeL L), v], .bool true]) ∧ w'.ownsRow w.heap.size 112 4 v U.length (U.flatMap RU.cs) ∧ OwnRU w' w.heap.size U ∧ U.map RU.pair = L
theorem recL_no {tr : Int} {C : CH} {ps : List Pn} {q : Pn} (hq : q ∈ ps) (h : partOf tr C q = none) : recL tr C ps = none := by
  unfold recL
  rw [if_neg]
  intro hall
  have := List.all_eq_true.1 hall q hq
  rw [h] at this
  cases this
theorem ru_one (u : RU) : ∀ x ∈ u.cs, x.oneCell' = true := by
  intro x hx
  unfold RU.cs at hx
  simp only [List.mem_cons, List.not_mem_nil, or_false] at hx
  rcases hx with rfl | rfl | rfl | rfl <;> rfl
theorem infoPart : (Tryz.prog.info? 112).map (fun i => (i.zero, i.size, i.bytes)) = some (some (.agg #[.int .i64 0, .slice none 0 0, .slice none 0 0, .bool false]), 4, 64) := by kernel_rfl
end Go.Proofs.YtdmhnoffejjpnaaGreatDoor
end
