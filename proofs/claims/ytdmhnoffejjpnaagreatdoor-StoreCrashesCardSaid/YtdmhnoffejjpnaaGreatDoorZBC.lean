/-
  store: collect, whole.
  store: Tick, whole.
-/
import Derived.Test.YtdmhnoffejjpnaaGreatDoorZBB
import Derived.Deep.DeepCutAuto
section
set_option linter.unusedVariables false
set_option linter.unusedSimpArgs false
set_option maxRecDepth 100000
namespace Go.Proofs.YtdmhnoffejjpnaaGreatDoor
open Go.RowKit Go Go.Maps Go.Lib

def SS.open (X : SS) (t j : Int) : Int → Int → Option PS := fun i u => if i = j ∧ u = t then some ((X.C j t).getD ⟨t, j, none, []⟩) else X.C i u
/-- the job's map is there -/
def Cut1 (w wx : World) (gS : Nat) (col : Nat → Tg) (n : Nat) (X : SS) (j : Int) : Prop := ∃ col1 a1 b I, StG wx gS col1 (n + 1) (bytesR X.all) (bytesR X.K).length X.st X.Wn X.R X.C a1 ∧ look a1.O j = some (b, I) ∧ Stp w wx col col1
/-- the assembler is there -/
def Cut2 (w wx : World) (gS : Nat) (col : Nat → Tg) (n : Nat) (X : SS) (t j : Int) : Prop := ∃ col1 a1 b I p, StG wx gS col1 (n + 2) (bytesR X.all) (bytesR X.K).length X.st X.Wn X.R (X.open t j) a1 ∧ look a1.O j = some (b, I) ∧ look I t = some p ∧ Stp w wx col col1
theorem AsmZ.few {w : World} {p : Nat} {D : Nat → Prop} {s : PS} {c : Int} {L : List (Pn × List Sp)} (h : AsmZ w p D s) (hr : s.recd = some (c, L)) : L.length ≤ 4 := by
  obtain ⟨A, bm, mb, rfl, hP⟩ := h
  unfold PS.recd AP.ps at hr
  simp only at hr
  cases hm : A.man with
  | none => rw [hm] at hr; cases hr
  | some x =>
    obtain ⟨c', ps⟩ := x
    rw [hm] at hr
    simp only [Option.map_eq_some_iff] at hr
    obtain ⟨L', hL, he⟩ := hr
    injection he with _ he
    subst he
    have h4 := (hP.man c' ps hm).2.2.2.1
    unfold recL at hL
    split at hL
    · injection hL with hL
      rw [← hL, List.length_map]
      exact h4
    · cases hL
theorem SS.col_no {X : SS} {m : Ms} {c : Int} {L : List (Pn × List Sp)} (hR : (X.asm m).recd = some (c, L)) (h : X.no (rcOf m.tj.1 m.tj.2 c L)) : X.col m = { X.put m with R := X.R + 1 } := by
  unfold SS.col; rw [hR]; simp only; rw [if_pos h]
theorem SS.col_yes {X : SS} {m : Ms} {c : Int} {L : List (Pn × List Sp)} (hR : (X.asm m).recd = some (c, L)) (h : ¬ X.no (rcOf m.tj.1 m.tj.2 c L)) : X.col m = X.wrt (rcOf m.tj.1 m.tj.2 c L) m.tj.2 := by
  unfold SS.col; rw [hR]; simp only; rw [if_neg h]
theorem SS.wrt_all (X : SS) (r : RC) (j : Int) : (X.wrt r j).all = X.all ++ [r] := by unfold SS.wrt SS.all; simp
theorem SS.wrt_st {X : SS} {r : RC} {j : Int} (hr : r.jb = j) (hs : X.st j = none) : (X.wrt r j).st = fun i => if i = j then some 1 else X.st i := by
  funext i
  have hn := SS.st_none.1 hs
  unfold SS.all at hn
  rw [jbs_app, List.mem_append] at hn
  unfold SS.st SS.wrt
  simp only [jbs_app, List.mem_append]
  by_cases hi : i = j
  · subst hi
    rw [if_neg (fun q => hn (Or.inl q)), if_pos (Or.inr (by simp [jbs, hr])), if_pos rfl]
  · rw [if_neg hi]
    have : ¬ i ∈ jbs [r] := by simp [jbs, hr]; exact hi
    simp only [this, or_false]
theorem SS.wrt_C (X : SS) (m : Ms) (r : RC) : (X.wrt r m.tj.2).C = fun i t => if i = m.tj.2 then none else (X.put m).C i t := by
  funext i t
  unfold SS.wrt SS.put
  simp only
  by_cases hi : i = m.tj.2
  · rw [if_pos hi, if_pos hi]
  · rw [if_neg hi, if_neg hi, if_neg (fun q => hi q.1)]
theorem Tryz.infoSto : (Tryz.prog.info? 76).map (fun i => (i.zero, i.size, i.bytes)) = some (some (.agg #[.int .i64 0, .int .i64 0]), 2, 16) := by kernel_rfl
def RU.su (u : RU) : SU := ⟨⟨u.p.a, u.S, u.p.cr, u.p.lo⟩, u.sa, u.sc, u.ca, u.cc⟩
theorem RdPt.of_ru {w : World} {B : Nat} {v : Value} {U : List RU} {t j c : Int} {L : List (Pn × List Sp)} (h : w.ownsRow B 112 4 v U.length (U.flatMap RU.cs)) (ho : OwnRU w B U) (hp : U.map RU.pair = L) (hb : U.length ≤ 1000000) : RdPt w v (rcOf t j c L).ps := by
  have e : U.flatMap RU.cs = (U.map RU.su).flatMap SU.cs := by rw [List.flatMap_map]; rfl
  rw [e] at h
  refine RdPt.of_own h ⟨fun q hq => ?_, fun q hq => ?_⟩ ?_ (List.length_map ..) hb
  · obtain ⟨u, hu, rfl⟩ := List.mem_map.1 hq
    exact (ho u hu).1
  · obtain ⟨u, hu, rfl⟩ := List.mem_map.1 hq
    exact (ho u hu).2
  · subst hp
    show _ = (U.map RU.pair).map _
    rw [List.map_map, List.map_map]
    rfl
set_option maxHeartbeats 8000000 in
theorem scol_any (gS : Nat) (col : Nat → Tg) (n : Nat) (X : SS) (a : Sd) (m : Ms) (v : Value) (t j : Int) (w : World) (hg : ∀ w', Fr (fun q => col q ≠ tg0) w w' → Gl w') (hn : n + 2 ≤ 100000) (h : StW w gS col n X a) (hm : ∀ w', Fr (fun q => col q ≠ tg0) w w' → MsW w' v m) (ht : m.tj.1 = t) (hj : m.tj.2 = j) (okt : okI t) (okj : okI j) (hs : X.st j = none) :
    Calls Tryz.prog 63 #[.pointer (some ⟨gS, 0, none⟩), .int .i64 t, .int .i64 j, v] w fun e w' => e = .returned (.tuple #[]) ∧ ∃ col', STo w w' gS col (n + 2) (X.col m) col' := by
  have qB : ∀ (w : World) (r : Option Nat), (binOp .eql 156 (.map r) (.map none)).run Tryz.prog w = .ok (.bool r.isNone) w := fun w r => run_eql_map_nil w _ _ _ r Tryz.underlying156
  have c3 : w.cell? ⟨gS, 3, none⟩ = some (.map (some a.bc)) := h.g.blk.cell 3
  have hl := came_look h.g.cm j okj
  rw [ou_look, show (Option.map (fun x : Nat × List (Int × Nat) => some x.1) (look a.O j)).getD none = (look a.O j).map (·.1) by cases look a.O j <;> rfl] at hl
  have hmm := @run_makeMap Tryz.prog
  obtain ⟨ob, hob⟩ : ∃ ob, (look a.O j).map (·.1) = ob := ⟨_, rfl⟩
  rw [hob] at hl
  replace hob := Lib.hid hob
  have hG := Lib.hid h.g
  have hI := Lib.hid h.inv
  replace hm := Lib.hid hm
  replace hg := Lib.hid hg
  replace hs := Lib.hid hs
  replace ht := Lib.hid ht
  replace hj := Lib.hid hj
  clear h
  go_enter Tryz.func63, Tryz.ntmps63
  go_upto_if 18 with fail
  go_cut [] (fun wx => Cut1 w wx gS col n X j)
  case first =>
    rcases hB : look a.O j with _ | ⟨b, I⟩
    · obtain rfl : ob = none := by rw [← hob.out, hB]; rfl
      have hM := (hG.out.cm).fr ((Fr.refl noB w).alloc (.map #[] 0)) (fun q => q)
      replace hB := Lib.hid hB
      go_wp2_with (first
        | (at_mapUpdate; refine wpList_put_mp _ rfl _ _ _ 81 rfl KI' Tryz.underlying81 mkB_inj hM (by have := hG.out.zn; unfold maxLen; omega) j (some w.heap.size) okj rfl rfl rfl ?_; intro w1 m1 f1)
        | fail)
      go_meet
      obtain ⟨col1, g1, s1⟩ := hG.out.outer hB.out f1 m1 (by omega)
      exact ⟨col1, _, w.heap.size, [], g1, by unfold look; simp, s1⟩
    · obtain rfl : ob = some b := by rw [← hob.out, hB]; rfl
      replace hB := Lib.hid hB
      go_wp2_with fail
      go_meet
      exact ⟨col, a, b, I, hG.out.up (by omega) (by omega), hB.out, Stp.ofN col (Fr.refl noB w)⟩
  case rest =>
    obtain ⟨col1, a1, b, I, g1, hk, s1⟩ := hcut
    have qP : ∀ (w : World) (r : Option Nat), (binOp .eql 157 (mkP r) (.pointer none)).run Tryz.prog w = .ok (.bool r.isNone) w := fun w r => by cases r <;> rfl
    have k3 : wc.cell? ⟨gS, 3, none⟩ = some (.map (some a1.bc)) := g1.blk.cell 3
    have hl1 := came_look g1.cm j okj
    rw [ou_look, hk] at hl1
    have hl1 : (Instr.lookup 81 (.map (some a1.bc)) (.int .i64 j) false).run Tryz.prog wc = .ok (.map (some b)) wc := hl1
    have hMi : Mp Tryz.prog 3 klI mkP wc b I.length (inL I) := (g1.im _ (look_some hk)).mp
    have hl2 := asm_look hMi t okt
    rw [in_look, show ((look I t).map some).getD none = look I t by cases look I t <;> rfl] at hl2
    obtain ⟨op, hop⟩ : ∃ op, look I t = op := ⟨_, rfl⟩
    rw [hop] at hl2
    obtain ⟨bc, hbc⟩ : ∃ bc, a1.bc = bc := ⟨_, rfl⟩
    rw [hbc] at k3 hl1
    obtain ⟨vp, hvp⟩ : ∃ vp, mkP op = vp := ⟨_, rfl⟩
    have qP' := fun w => qP w op
    have qG : ∀ w : World, (eqGuard .eql 157 (.tmp 32) (.const (.pointer none)) vp (.pointer none)).run Tryz.prog w = .ok () w := fun w => by rw [← hvp]; cases op <;> rfl
    rw [hvp] at hl2 qP'
    have hbb : b ≠ gS := ne_of_tg (g1.im _ (look_some hk)).c6 g1.c1 (by show (6 : Nat) ≠ 1; decide)
    have hbc4 : b ≠ bc := ne_of_tg (g1.im _ (look_some hk)).c6 (hbc ▸ g1.c4) (by show (6 : Nat) ≠ 4; decide)
    have hblt : b < wc.heap.size := hMi.lt
    replace hop := Lib.hid hop
    replace hvp := Lib.hid hvp
    replace hbc := Lib.hid hbc
    replace hk := Lib.hid hk
    have G1 := Lib.hid g1
    replace s1 := Lib.hid s1
    replace hMi := Lib.hid hMi
    clear g1 qB hmm c3 hl qP
    go_upto_if 33 with fail
    go_cut [] (fun wx => Cut2 w wx gS col n X t j)
    case first =>
      rcases hB : look I t with _ | p
      · obtain rfl : op = none := by rw [← hop.out, hB]
        replace hB := Lib.hid hB
        have hS8 : ∀ w', Fr noB wc w' → w'.cell? ⟨gS, 3, none⟩ = some (.map (some bc)) ∧ (Instr.lookup 81 (.map (some bc)) (.int .i64 j) false).run Tryz.prog w' = .ok (.map (some b)) w' := fun w' f => ⟨f.cell k3 (fun q => q), by
          have := came_look (G1.out.frN f).cm j okj
          rw [ou_look, hk.out, hbc.out] at this
          exact this⟩
        have hput : ∀ (w' : World) (f : Fr noB wc w') (v : Option Nat), ∃ w'', (Instr.mapUpdate 156 (.map (some b)) (.int .i64 t) (mkP v)).run Tryz.prog w' = .ok () w'' ∧ Mp Tryz.prog 3 klI mkP w'' b (I.length + 1) (withKey (inL I) t v) ∧ Fr (onlyB b) w' w'' := fun w' f v => (hMi.out.fr f (fun q => q)).run_put KI' Tryz.underlying156 mkP_inj (by have h1 : I.length ≤ n + 1 := (G1.out.im _ (look_some hk.out)).zn; unfold maxLen; omega) t v okt
        have hnew := fun w' => new_z t j w'
        replace hS8 := Lib.hid hS8
        replace hput := Lib.hid hput
        replace hnew := Lib.hid hnew
        clear k3 hl1 hl2
        obtain rfl := hvp.out
        go_wp2_with fail
        go_region_held3 (fun w' => w'.cell? ⟨gS, 3, none⟩ = some (.map (some bc)) ∧ (Instr.lookup 81 (.map (some bc)) (.int .i64 j) false).run Tryz.prog w' = .ok (.map (some b)) w')
          (first | exact hz8 | exact hS8.out _ z7 | exact hS8.out _ ((Fr.refl noB _).drewN 1) | fail)
          (first
            | (go_at_call 87; refine (hnew.out _).mono ?_; rintro e w7 ⟨p, D, rfl, hz, hD, z70⟩; have z7 := ((Fr.refl noB wc).drewN 1).seqN z70; obtain ⟨w8, hrun8, M8, y8⟩ := hput.out w7 z7 (some p); simp only [mkP, Option.map_some] at hrun8; have hz8 : w8.cell? ⟨gS, 3, none⟩ = some (.map (some bc)) ∧ (Instr.lookup 81 (.map (some bc)) (.int .i64 j) false).run Tryz.prog w8 = .ok (.map (some b)) w8 := ⟨y8.cell (hS8.out _ z7).1 (fun e => hbb (by unfold onlyB at e; exact e.symm)), (by
                have := came_look ((G1.out.frN z7).cm.fr y8 (fun e => hbc4 (by unfold onlyB at e; rw [← hbc.out]; exact e.symm))) j okj
                rw [ou_look, hk.out, hbc.out] at this
                exact this)⟩; replace M8 := Lib.hid M8; replace hz := Lib.hid hz; replace hD := Lib.hid hD)
            | fail)
        all_goals (
          go_wp2_with fail
          go_meet
          obtain ⟨col2, g2, s2⟩ := G1.out.inner hk.out hB.out z7 hz.out hD.out y8 M8.out (by omega)
          refine ⟨col2, { a1 with O := setO a1.O j (b, (t, p) :: I) }, b, (t, p) :: I, p, ?_, setO_self hk.out, by unfold look; simp, s1.out.trans s2⟩
          have hC : X.C j t = none := G1.out.hO j t (by rw [hk.out]; exact hB.out)
          have e : X.open t j = fun i u => if i = j ∧ u = t then some ⟨t, j, none, []⟩ else X.C i u := by
            funext i u
            unfold SS.open
            rw [hC]; rfl
          rw [e]
          exact g2)
      · obtain rfl : op = some p := by rw [← hop.out, hB]
        replace hB := Lib.hid hB
        obtain rfl := hvp.out
        go_wp2_with fail
        go_meet
        obtain ⟨s, D, h1, h2, h3⟩ := G1.out.asm hk.out hB.out
        have e : X.open t j = X.C := by
          funext i u
          unfold SS.open
          by_cases hq : i = j ∧ u = t
          · rw [if_pos hq, hq.1, hq.2, h1]; rfl
          · rw [if_neg hq]
        refine ⟨col1, a1, b, I, p, ?_, hk.out, hB.out, s1.out⟩
        rw [e]
        exact G1.out.up (by omega) (by omega)
    case rest =>
      clear k3 hl1 hl2 qP' qG hbb hbc4 hblt hop hvp hbc hk G1 s1 hMi
      obtain ⟨col2, a2, b2, I2, p2, g2, hk2, ht2, s2⟩ := hcut
      have k3 : wc.cell? ⟨gS, 3, none⟩ = some (.map (some a2.bc)) := g2.blk.cell 3
      have hl1 := came_look g2.cm j okj
      rw [ou_look, hk2] at hl1
      replace hl1 : (Instr.lookup 81 (.map (some a2.bc)) (.int .i64 j) false).run Tryz.prog wc = .ok (.map (some b2)) wc := hl1
      have hMi : Mp Tryz.prog 3 klI mkP wc b2 I2.length (inL I2) := (g2.im _ (look_some hk2)).mp
      have hl2 := asm_look hMi t okt
      rw [in_look, ht2] at hl2
      replace hl2 : (Instr.lookup 156 (.map (some b2)) (.int .i64 t) false).run Tryz.prog wc = .ok (.pointer (some ⟨p2, 0, none⟩)) wc := hl2
      obtain ⟨s0, D, hs0, hz, hD⟩ := g2.asm hk2 ht2
      have es0 : s0 = (X.C j t).getD ⟨t, j, none, []⟩ := by
        unfold SS.open at hs0
        rw [if_pos ⟨rfl, rfl⟩] at hs0
        injection hs0 with hs0
        exact hs0.symm
      have hX : X.asm m = (s0.hear m).2 := by
        unfold SS.asm
        rw [ht.out, hj.out, es0]
      have hh := hear_z p2 D s0 m v wc hz (hm.out wc s2.1)
      replace hh := Lib.hid hh
      replace hX := Lib.hid hX
      replace es0 := Lib.hid es0
      have G2 := Lib.hid g2
      replace hk2 := Lib.hid hk2
      replace ht2 := Lib.hid ht2
      replace s2 := Lib.hid s2
      replace hD := Lib.hid hD
      replace hs0 := Lib.hid hs0
      clear g2 hMi hz
      go_wp2_with fail
      go_fit hh.out
      rintro e w3 ⟨rfl, f3, D', hz', hn'⟩
      obtain ⟨col3, g3, s3⟩ := G2.out.heard hk2.out ht2.out f3 hD.out hz' hn'
      have eC : (fun i u => if i = j ∧ u = t then some (s0.hear m).2 else X.open t j i u) = (X.put m).C := by
        funext i u
        unfold SS.put SS.open
        simp only [ht.out, hj.out, hX.out]
        by_cases hq : i = j ∧ u = t
        · rw [if_pos hq, if_pos hq]
        · rw [if_neg hq, if_neg hq, if_neg hq]
      rw [eC] at g3
      have hrec := record_z p2 D' _ w3 hz'
      have hfew := fun c L => hz'.few (c := c) (L := L)
      rw [← hX.out] at hfew
      have hst := hI.out.asm m
      rw [hX.out, ht.out, hj.out] at hst
      rw [hst.1, hst.2, ← hX.out] at hrec
      have G3 := Lib.hid g3
      have S3 := Lib.hid (s2.out.trans s3)
      have hIp := Lib.hid (hI.out.put m)
      obtain ⟨bA, hbA⟩ : ∃ bA, (s0.hear m).1 = bA := ⟨_, rfl⟩
      try rw [hbA]
      replace hrec := Lib.hid hrec
      clear hh G2 s2 s3 g3 k3 hl1 hl2 hk2 ht2 hD hs0 hX es0 hst eC f3 hz' hn' hbA
      go_wp2_with fail
      go_fit hrec.out
      intro e w4 hpost
      obtain ⟨R, hR⟩ : ∃ R, (X.asm m).recd = R := ⟨_, rfl⟩
      rw [hR] at hpost
      obtain ⟨f4, hno, hyes⟩ := hpost
      replace f4 := Lib.hid f4
      clear hrec
      rcases R with _ | ⟨c, L⟩
      · obtain rfl := hno rfl
        replace hR := Lib.hid hR
        clear hno hyes
        unfold noRec
        go_wp2_with fail
        refine bodyPost_ret (results_none rfl _ _ _) rfl ?_
        refine ⟨rfl, col3, ⟨a2, ?_, ?_⟩, ?_⟩
        · unfold SS.col; rw [hR.out]; exact hIp.out
        · unfold SS.col; rw [hR.out]
          exact G3.out.frN (f4.out.alloc _)
        · exact S3.out.thenN (f4.out.alloc _)
      · obtain ⟨u, U, rfl, ow4, oU4, hU⟩ := hyes c L rfl
        obtain ⟨ua, uc, rfl⟩ := ownsRow_slice ow4
        have hU4 : U.length ≤ 4 := by
          have := hfew c L hR
          rw [← hU, List.length_map] at this
          exact this
        have f5 := f4.out.alloc (.cells #[.int .i64 t, .int .i64 j, .int .i64 c, .bool (wholeL L), .slice ua U.length uc] 63)
        have rd4 := (RdPt.of_ru (t := t) (j := j) (c := c) (L := L) ow4 oU4 hU (by omega)).frN ((Fr.refl noB w4).alloc (.cells #[.int .i64 t, .int .i64 j, .int .i64 c, .bool (wholeL L), .slice ua U.length uc] 63))
        have hpr := sgPrint_any (rcOf t j c L) (.slice ua U.length uc) _ (hg.out _ (S3.out.thenN f5).1) rd4
        obtain ⟨Z, hZ⟩ : ∃ Z, printRc (rcOf t j c L) = Z := ⟨_, rfl⟩
        rw [hZ] at hpr
        obtain ⟨wl, hwl⟩ : ∃ wl, wholeL L = wl := ⟨_, rfl⟩
        unfold rcV rcOf at hpr
        simp only [hwl] at hpr f5 ⊢
        generalize U.length = un at *
        replace hpr := Lib.hid hpr
        replace hZ := Lib.hid hZ
        replace hwl := Lib.hid hwl
        replace f5 := Lib.hid f5
        replace hR := Lib.hid hR
        clear hno hyes hfew ow4 oU4 hU hU4 rd4
        go_wp2_with fail
        go_fit hpr.out
        rintro e w6 ⟨rfl, f6⟩
        have f36 := Lib.hid (f5.out.seqN f6)
        clear f5 f6 hpr
        have G6 := Lib.hid (G3.out.frN f36.out)
        have S6 := Lib.hid (S3.out.thenN f36.out)
        clear f36 G3 S3
        have eR : printRc (rcOf t j c L) = Z := hZ.out
        have hcol1 : X.no (rcOf t j c L) → X.col m = { X.put m with R := X.R + 1 } := fun h => SS.col_no hR.out (by rw [ht.out, hj.out]; exact h)
        have hcol2 : ¬ X.no (rcOf t j c L) → X.col m = X.wrt (rcOf t j c L) j := fun h => by
          have := SS.col_yes hR.out (by rw [ht.out, hj.out]; exact h)
          rw [ht.out, hj.out] at this
          exact this
        by_cases hno : X.no (rcOf t j c L)
        · have k4 : w6.cell? ⟨gS, 4, none⟩ = some (.int .i64 X.R) := G6.out.blk.cell 4
          have z4 := G6.out.blk.frozen 4
          have hR1 : X.R + 1 ≤ n + 2 := by have := hG.out.zn; omega
          have wR : wrap64 ((X.R : Int) + 1) = (X.R : Int) + 1 := IntWalk.wrap64_in _ (by omega)
          by_cases hZ0 : Z = []
          · subst hZ0
            rw [show strB [] = ByteArray.mk #[] from rfl]
            replace hcol1 := Lib.hid (hcol1 hno)
            clear hcol2 hno
            go_wp2_with fail
            refine bodyPost_ret (results_none rfl _ _ _) rfl ?_
            obtain ⟨g7, s7⟩ := G6.out.ref hR1
            refine ⟨rfl, col3, ?_⟩
            rw [hcol1.out]
            exact ⟨⟨a2, ⟨hIp.out.nd, hIp.out.ok, hIp.out.tj, hIp.out.le⟩, g7⟩, S6.out.trans s7⟩
          · have hSe : ¬ (strB Z).toList = [] := fun e => hZ0 (by rw [show (strB Z).toList = Z from ByteArray.toList_mk Z] at e; exact e)
            have k0 : w6.cell? ⟨gS, 0, none⟩ = some (.pointer (some ⟨a2.gd, 0, none⟩)) := G6.out.blk.cell 0
            have hno2 := hno
            unfold SS.no at hno2
            rw [eR] at hno2
            have hover : 65536 < (bytesR X.all).length + (strB Z).size := by
              rw [strB_size]
              exact hno2.resolve_left hZ0
            have hZm : (strB Z).size ≤ maxLen := by
              rw [strB_size, ← eR]
              have h1 := (sgp_yes (r := rcOf t j c L) (by rw [eR]; exact hZ0))
              rw [h1.2]
              have h2 := frame_len (recT (rcOf t j c L))
              have h3 := h1.1.2
              unfold frR maxLen
              omega
            have hap := dappend_full a2.gd a2.B _ _ (strB Z) w6 G6.out.dk hZm hover
            replace hap := Lib.hid hap
            replace hcol1 := Lib.hid (hcol1 hno)
            clear hcol2 hno hno2 hover hZm hZ0
            go_wp2_with fail
            go_fit hap.out
            rintro e w7 ⟨rfl, hw⟩
            obtain rfl := hw.symm
            clear hap hw
            go_wp2_with fail
            refine bodyPost_ret (results_none rfl _ _ _) rfl ?_
            obtain ⟨g7, s7⟩ := G6.out.ref hR1
            refine ⟨rfl, col3, ?_⟩
            rw [hcol1.out]
            exact ⟨⟨a2, ⟨hIp.out.nd, hIp.out.ok, hIp.out.tj, hIp.out.le⟩, g7⟩, S6.out.trans s7⟩
        · have hno2 := hno
          unfold SS.no at hno2
          rw [eR] at hno2
          have hZ0 : ¬ Z = [] := fun e => hno2 (Or.inl e)
          have hSe : ¬ (strB Z).toList = [] := fun e => hZ0 (by rw [show (strB Z).toList = Z from ByteArray.toList_mk Z] at e; exact e)
          have hSi : (strB Z).toList.isEmpty = false := by cases hq : (strB Z).toList with
            | nil => exact absurd hq hSe
            | cons x y => rfl
          have hfit : (bytesR X.all).length + (strB Z).size ≤ 65536 := by
            rw [strB_size]
            exact Nat.le_of_not_lt (fun e => hno2 (Or.inr e))
          have k0 : w6.cell? ⟨gS, 0, none⟩ = some (.pointer (some ⟨a2.gd, 0, none⟩)) := G6.out.blk.cell 0
          have hap := dappend_any a2.gd a2.B _ _ (strB Z) w6 G6.out.dk hfit
          have hZr : Z = frR (rcOf t j c L) := by
            rw [← eR]
            exact (sgp_yes (r := rcOf t j c L) (by rw [eR]; exact hZ0)).2
          have hX8 := hcol2 hno
          have hI8 : (X.wrt (rcOf t j c L) j).Inv := hI.out.wrt rfl (SS.st_none.1 hs.out) hno
          replace hap := Lib.hid hap
          replace hX8 := Lib.hid hX8
          replace hI8 := Lib.hid hI8
          replace hZr := Lib.hid hZr
          clear hcol1 hcol2 hno hno2 hfit hZ0
          go_wp2_with fail
          go_fit hap.out
          rintro e w7 ⟨rfl, d7, f7, t7⟩
          obtain ⟨col7, g7, s7⟩ := G6.out.dsk f7 d7 t7
          have eZ : (strB Z).data.toList = Z := rfl
          rw [eZ] at d7 g7
          have hJ7 : Mp Tryz.prog 3 klI mkN w7 a2.bj a2.J.length a2.J := g7.jm
          have hJl : a2.J.length ≤ 65536 := jl_le (X := X.put m) ⟨hIp.out, G6.out⟩
          have hWl : X.Wn.length ≤ 65536 := by
            have h1 := bytes_few X.all
            have h2 := hI.out.le
            unfold SS.all at h1 h2
            rw [List.length_append] at h1
            omega
          have k1 : w7.cell? ⟨gS, 1, none⟩ = some (.map (some a2.bj)) := g7.blk.cell 1
          obtain ⟨i0, hi, hz0, hz1, hz2⟩ := info_parts Tryz.infoSto
          have G7 := Lib.hid g7
          have S7 := Lib.hid (S6.out.trans s7)
          clear g7 s7 d7 f7 t7 hap G6 S6 k0 hSe hSi
          go_upto_region 12 with (first
            | (at_mapUpdate; go_must (refine wpList_put_mp _ rfl _ _ _ 80 rfl KI' Tryz.underlying80 mkN_inj hJ7 (by unfold maxLen; omega) j 1 okj rfl rfl rfl ?_); intro w8 m8 f8)
            | fail)
          obtain ⟨g8, s8⟩ := G7.out.job f8 m8 (Nat.le_trans withKey_len (by show a2.J.length + 1 ≤ 70000; omega))
          have ow8 := ownsRow_mono g8.pd (Nat.zero_le _)
          have b8 : Blk (w8.alloc (.cells #[.int .i64 t, .int .i64 j] 76)) gS 84 _ := ((Fr.refl noB w8).alloc _).blk g8.blk (fun q => q)
          have k2 : w8.cell? ⟨gS, 2, none⟩ = some (.slice a2.pa X.Wn.length a2.pc) := g8.blk.cell 2
          have h51 : ∀ g, (Value.slice a2.pa X.Wn.length a2.pc).ownBlock = some g → gS ≠ g := fun g hg e => by
            have h5 := g8.c5 g hg
            rw [← e, g8.c1] at h5
            exact absurd h5 (by decide)
          have hone : ∀ u ∈ [Value.int .i64 t, .int .i64 j], u.oneCell' = true := by
            intro u hu
            simp only [List.mem_cons, List.not_mem_nil, or_false] at hu
            rcases hu with rfl | rfl <;> rfl
          have G8 := Lib.hid (g8.frN ((Fr.refl noB w8).alloc (.cells #[.int .i64 t, .int .i64 j] 76)))
          have S8 := Lib.hid ((S7.out.trans s8).thenN ((Fr.refl noB w8).alloc (.cells #[.int .i64 t, .int .i64 j] 76)))
          replace h51 := Lib.hid h51
          replace b8 := Lib.hid b8
          clear g8 s8 m8 f8 hJ7 k1 G7 S7
          go_upto_region 13 with (first
            | (at_builtin; go_must (refine wpList_append_at _ rfl (.tmp 91) (.tmp 95) 82 rfl 0 76 i0 _ 2 16 Tryz.underlying82 hi hz0 hz1 hz2 rfl (by decide) (.slice a2.pa X.Wn.length a2.pc) X.Wn.length _ rfl (ow8.alloc _) ⟨w8.heap.size, 0, none⟩ 1 1 [.int .i64 t, .int .i64 j] rfl rfl (news_at w8 _ _) hone (by unfold maxLen; omega) (by omega) (Nat.zero_le _) ?_); intro v9 w9 o9 gr9 mv9; obtain ⟨a9, c9, rfl⟩ := ownsRow_slice o9; have f9 : Fr (rowB (.slice a2.pa X.Wn.length a2.pc)) (w8.alloc (.cells #[.int .i64 t, .int .i64 j] 76)) w9 := (Fr.refl _ _).grown gr9 (fun k hk _ => hk); have b9 := f9.blk b8.out (fun q => h51.out _ q rfl); have k9 := b9.cell 2; have z9 := b9.frozen 2; replace o9 := Lib.hid o9; replace mv9 := Lib.hid mv9; replace b9 := Lib.hid b9; replace f9 := Lib.hid f9; simp only [List.getElem?_cons_zero, List.getElem?_cons_succ] at k9)
            | fail)
          obtain ⟨col10, g10, s10⟩ := G8.out.pend (r := rcOf t j c L) f9.out mv9.out o9.out
          have S10 := Lib.hid (S8.out.trans s10)
          clear G8 S8 f9 mv9 o9 b9 k9 z9 h51 b8 ow8 k2 gr9 s10
          generalize (w9.setCell ⟨gS, 2, none⟩ (.slice a9 (X.Wn.length + 1) c9)) = w10 at *
          have k10 : w10.cell? ⟨gS, 3, none⟩ = some (.map (some a2.bc)) := g10.blk.cell 3
          have hC10 : Mp Tryz.prog 3 klI mkB w10 a2.bc a2.O.length (ouL a2.O) := g10.cm
          have G10 := Lib.hid g10
          clear g10
          go_wp2_with (first
            | (at_delete; go_must (refine wpList_del_mp _ rfl _ _ 81 3 rfl KI' Tryz.underlying81 hC10 j okj rfl rfl ?_); intro w11 m11 f11)
            | fail)
          (first | go_end0 | ((try simp only [Exit.inBlock, Exit.then]); refine bodyPost_ret (results_none rfl _ _ _) rfl ?_))
          obtain ⟨g11, s11⟩ := G10.out.cdel f11 m11
          have e1 : bytesR (X.wrt (rcOf t j c L) j).all = bytesR X.all ++ Z := by rw [SS.wrt_all, bytesR_app, bytesR_one, hZr.out]
          have e2 : (X.wrt (rcOf t j c L) j).st = fun i => if i = j then some 1 else X.st i := SS.wrt_st rfl hs.out
          have e3 := X.wrt_C m (rcOf t j c L)
          rw [hj.out] at e3
          refine ⟨rfl, col10, ?_⟩
          rw [hX8.out]
          rw [← e1, ← e2] at g11
          have g12 : StG w11 gS col10 (n + 2) (bytesR (X.wrt (rcOf t j c L) j).all) (bytesR (X.wrt (rcOf t j c L) j).K).length (X.wrt (rcOf t j c L) j).st (X.wrt (rcOf t j c L) j).Wn (X.wrt (rcOf t j c L) j).R (X.wrt (rcOf t j c L) j).C _ := e3 ▸ g11
          exact ⟨⟨_, hI8.out, g12⟩, S10.out.trans s11⟩
end Go.Proofs.YtdmhnoffejjpnaaGreatDoor
end

section
set_option linter.unusedVariables false
set_option linter.unusedSimpArgs false
set_option maxRecDepth 100000
namespace Go.Proofs.YtdmhnoffejjpnaaGreatDoor
open Go.RowKit Go Go.Maps Go.Lib

theorem stC_get : ∀ (L : List RC) (k : Nat) (r : RC), L[k]? = some r → (L.flatMap stC)[k * 2]? = some (.int .i64 r.tr) ∧ (L.flatMap stC)[k * 2 + 1]? = some (.int .i64 r.jb)
  | [], k, r, h => by simp at h
  | x :: L, 0, r, h => by simp at h; subst h; exact ⟨rfl, rfl⟩
  | x :: L, k + 1, r, h => by
    have ih := stC_get L k r (by simpa using h)
    have hl : (stC x).length = 2 := rfl
    rw [List.flatMap_cons, List.getElem?_append_right (by rw [hl]; omega), List.getElem?_append_right (by rw [hl]; omega), hl, show (k + 1) * 2 - 2 = k * 2 by omega, show (k + 1) * 2 + 1 - 2 = k * 2 + 1 by omega]
    exact ih
theorem Tryz.infoMsS : (Tryz.prog.info? 40).map (fun i => (i.zero, i.size, i.bytes)) = some (some .nilIface, 1, 16) := by kernel_rfl
theorem SS.tick_st (X : SS) : X.tick.st = fun i => if i ∈ jbs X.Wn then some 2 else X.st i := by
  funext i
  unfold SS.st SS.tick
  simp only [jbs_app, List.mem_append]
  by_cases h1 : i ∈ jbs X.K
  · simp [h1]
  · by_cases h2 : i ∈ jbs X.Wn
    · rw [if_pos (Or.inr h2), if_pos h2]
    · rw [if_neg (fun q => q.elim h1 h2), if_neg h2, if_neg h1, if_neg h2]; simp [jbs]
theorem okI_jb {r : RC} (h : okW r) : okI r.jb := by
  have := (rc_ok h.1).jb
  exact okI_of (by omega) (by omega)
theorem Stp.thenNew {w w1 w2 : World} {col c1 : Nat → Tg} {S : Nat → Prop} (h : Stp w w1 col c1) (f : Fr S w1 w2) (hS : ∀ q, S q → w.heap.size ≤ q) : Stp w w2 col c1 :=
  ⟨h.1.trans f (fun _ _ q => q) (fun i hi q => absurd (hS i q) (by omega)), h.2⟩
theorem tk_st (X : SS) (k : Nat) (r : RC) (h : X.Wn[k]? = some r) : (fun i => if i = r.jb then some 2 else (if i ∈ jbs (X.Wn.take k) then some 2 else X.st i)) = fun i => if i ∈ jbs (X.Wn.take (k + 1)) then (some 2 : Option Int) else X.st i := by
  funext i
  rw [List.take_add_one, h]
  have e : i ∈ jbs (X.Wn.take k ++ (some r).toList) ↔ i ∈ jbs (X.Wn.take k) ∨ i = r.jb := by rw [jbs_app, List.mem_append]; simp [jbs]
  by_cases h1 : i = r.jb
  · rw [if_pos h1, if_pos (e.2 (Or.inr h1))]
  · rw [if_neg h1]
    by_cases h2 : i ∈ jbs (X.Wn.take k)
    · rw [if_pos h2, if_pos (e.2 (Or.inl h2))]
    · rw [if_neg h2, if_neg (fun q => (e.1 q).elim h2 h1)]
/-- amid Tick's loop: k are told -/
structure TkI (w wr : World) (gS : Nat) (col col1 : Nat → Tg) (n : Nat) (X : SS) (a1 : Sd) (B1 k : Nat) (la : Option Addr) (lc : Nat) (J : List (Int × Int)) : Prop where
  g : StG wr gS col1 n (bytesR X.all) (bytesR X.all).length (fun i => if i ∈ jbs (X.Wn.take k) then some 2 else X.st i) X.Wn X.R X.C { a1 with J := J }
  j : J.length ≤ 65536
  o : wr.ownsRow B1 40 1 (.slice la k lc) k ((X.Wn.take k).map fun r => mStored r.tr r.jb)
  s : Stp w wr col col1
  b : B1 ≤ wr.heap.size
set_option maxHeartbeats 8000000 in
theorem stick_any (gS : Nat) (col : Nat → Tg) (n : Nat) (X : SS) (a : Sd) (w : World) (h : StW w gS col n X a) :
    Calls Tryz.prog 11 #[.pointer (some ⟨gS, 0, none⟩)] w fun e w' => ∃ va vc col', e = .returned (.slice va X.Wn.length vc) ∧ STo w w' gS col n X.tick col' ∧ w'.ownsRow w.heap.size 40 1 (.slice va X.Wn.length vc) X.Wn.length (X.Wn.map fun r => mStored r.tr r.jb) ∧ ∀ g, (Value.slice va X.Wn.length vc).ownBlock = some g → col' g = tg0 := by
  by_cases h0 : X.Wn = []
  · have hb := h.g.blk
    have et : X.tick = X := by unfold SS.tick; rw [h0, List.append_nil]; cases X; simp_all
    rw [et]
    rw [h0] at hb ⊢
    refine (stick_no gS _ _ _ _ _ _ w hb).mono ?_
    rintro e w' ⟨rfl, rfl⟩
    exact ⟨none, 0, col, rfl, ⟨⟨a, h⟩, Stp.ofN col (Fr.refl _ _)⟩, World.ownsRow_nil _ _ _ _, fun g hg => by simp [Value.ownBlock] at hg⟩
  · have hn0 : 0 < X.Wn.length := List.length_pos_iff.2 h0
    obtain ⟨pb, pc, hsl, _⟩ := ownsRow_some h.g.pd hn0
    obtain ⟨hpa, hpc⟩ : a.pa = some ⟨pb, 0, none⟩ ∧ a.pc = pc := by injection hsl with h1 _ h2; exact ⟨h1, h2⟩
    have hWl : X.Wn.length ≤ 65536 := by
      have h1 := bytes_few X.all
      have h2 := h.inv.le
      unfold SS.all at h1 h2
      rw [List.length_append] at h1
      omega
    have hJl := jl_le h
    have hget : ∀ k, k < X.Wn.length → ∃ r, X.Wn[k]? = some r := fun k hk => ⟨X.Wn[k], List.getElem?_eq_getElem hk⟩
    have hok : ∀ r ∈ X.Wn, okW r := fun r hr => h.inv.ok r (List.mem_append.2 (Or.inr hr))
    have hsy := dsync_any a.gd a.B _ _ w h.g.dk
    have c0 : w.cell? ⟨gS, 0, none⟩ = some (.pointer (some ⟨a.gd, 0, none⟩)) := h.g.blk.cell 0
    have c2 : w.cell? ⟨gS, 2, none⟩ = some (.slice (some ⟨pb, 0, none⟩) X.Wn.length pc) := by rw [← hpa, ← hpc]; exact h.g.blk.cell 2
    have hI := Lib.hid h.inv
    have hst1 : ∀ r ∈ X.Wn, X.st r.jb ≠ none := fun r hr => by
      rw [ne_eq, SS.st_none, Classical.not_not]
      unfold SS.all
      rw [jbs_app]
      exact List.mem_append.2 (Or.inr (List.mem_map.2 ⟨r, hr, rfl⟩))
    obtain ⟨n0, hn0'⟩ : ∃ n0, X.Wn.length = n0 := ⟨_, rfl⟩
    have hG := Lib.hid h.g
    rw [hn0'] at hn0 hWl hget c2 ⊢
    have hnd : decide ((n0 : Int) = 0) = false := by simp; omega
    have hne : ((n0 : Int) == 0) = false := by simp; omega
    replace hn0' := Lib.hid hn0'
    replace hget := Lib.hid hget
    replace hok := Lib.hid hok
    replace hsy := Lib.hid hsy
    replace hst1 := Lib.hid hst1
    replace hpa := Lib.hid hpa
    replace hpc := Lib.hid hpc
    replace hJl := Lib.hid hJl
    clear h hsl h0
    go_enter Tryz.func11, Tryz.ntmps11
    go_wp2_with fail
    go_fit hsy.out
    rintro e w1 ⟨rfl, d1, f1, t1⟩
    obtain ⟨col1, g1, s1⟩ := hG.out.dsk f1 d1 (fun q hq => Or.inl (t1 q hq))
    have k2 : w1.cell? ⟨gS, 2, none⟩ = some (.slice (some ⟨pb, 0, none⟩) n0 pc) := by rw [← hpa.out, ← hpc.out, ← hn0'.out]; exact g1.blk.cell 2
    have hlow := Lib.hid g1.low
    obtain ⟨B1, hB1⟩ : ∃ B, w1.heap.size = B := ⟨_, rfl⟩
    have hB0 : w.heap.size ≤ B1 := by rw [← hB1]; exact f1.size
    have I0 : TkI w w1 gS col col1 n X { a with B := a.B } B1 0 none 0 a.J := ⟨by
      have e : (fun i => if i ∈ jbs (X.Wn.take 0) then some 2 else X.st i) = X.st := by funext i; simp [jbs]
      rw [e]; exact g1, hJl.out, World.ownsRow_nil _ _ _ _, s1, by omega⟩
    rw [hB1] at hlow
    replace hB1 := Lib.hid hB1
    replace I0 := Lib.hid I0
    clear hsy g1 s1 d1 f1 t1 c0 c2
    go_wp2_with fail
    go_loopg [3, 26] n0 (fun gk v3 v26 wr => ∃ (k : Nat) (la : Option Addr) (lc : Nat) (J : List (Int × Int)), k + gk = n0 ∧ v3 = .slice la k lc ∧ v26 = .int .i64 k ∧ Hid (TkI w wr gS col col1 n X { a with B := a.B } B1 k la lc J))
    case atStart => exact ⟨0, none, 0, _, by omega, rfl, rfl, I0⟩
    case round =>
      obtain ⟨k, la, lc, J, hkn, rfl, rfl, I⟩ := hrel
      clear I0 k2
      by_cases hlt : k < n0
      · obtain ⟨r, hr⟩ := hget.out k hlt
        have hg := I.out.g
        have ow : wr.ownsRow a.pB 76 2 (.slice (some ⟨pb, 0, none⟩) X.Wn.length pc) X.Wn.length (X.Wn.flatMap stC) := by rw [← hpa.out, ← hpc.out]; exact hg.pd
        have e0 := ow.cells (g := pb) rfl (k * 2) (.int .i64 r.tr) (stC_get X.Wn k r hr).1
        have e1 := ow.cells (g := pb) rfl (k * 2 + 1) (.int .i64 r.jb) (stC_get X.Wn k r hr).2
        rw [add_none, Nat.zero_add] at e0 e1
        have k1 : wr.cell? ⟨gS, 1, none⟩ = some (.map (some a.bj)) := hg.blk.cell 1
        have okj := okI_jb (hok.out r (List.mem_of_getElem? hr))
        have hJm : Mp Tryz.prog 3 klI mkN wr a.bj J.length J := hg.jm
        have hlJ : ∃ y, look J r.jb = some y := by
          have h1 : look J r.jb = if r.jb ∈ jbs (X.Wn.take k) then some 2 else X.st r.jb := hg.hJ r.jb
          by_cases h2 : r.jb ∈ jbs (X.Wn.take k)
          · rw [if_pos h2] at h1; exact ⟨_, h1⟩
          · rw [if_neg h2] at h1
            cases h3 : X.st r.jb with
            | none => exact absurd h3 (hst1.out r (List.mem_of_getElem? hr))
            | some y => exact ⟨y, h1.trans h3⟩
        have hjl : (withKey J r.jb 2).length = J.length := by obtain ⟨y, hy⟩ := hlJ; exact withKey_old hJm.nodup hy
        have hst := tk_st X k r hr
        have f2 := (Fr.refl noB wr).alloc (.cells #[.int .i64 r.tr, .int .i64 r.jb] 76)
        have bx := Blk.new wr 76 [.int .i64 r.tr, .int .i64 r.jb]
        obtain ⟨cb, hcb⟩ : ∃ cb, wr.heap.size = cb := ⟨_, rfl⟩
        rw [hcb] at bx
        have hbj : a.bj < cb := by rw [← hcb]; exact hJm.lt
        have G2 := hg.frN f2
        have o2 := ownsRow_fr I.out.o f2 (fun _ _ q => q)
        have s2 := I.out.s.thenN f2
        have hB2 : B1 ≤ (wr.alloc (.cells #[.int .i64 r.tr, .int .i64 r.jb] 76)).heap.size := Nat.le_trans I.out.b f2.size
        have q0 : (wr.alloc (.cells #[.int .i64 r.tr, .int .i64 r.jb] 76)).cell? ⟨gS, 1, none⟩ = some (.map (some a.bj)) := f2.cell k1 (fun q => q)
        have q1 : (wr.alloc (.cells #[.int .i64 r.tr, .int .i64 r.jb] 76)).cell? ⟨cb, 1, none⟩ = some (.int .i64 r.jb) := bx.cell 1
        have hmsg : (X.Wn.take (k + 1)).map (fun r => mStored r.tr r.jb) = (X.Wn.take k).map (fun r => mStored r.tr r.jb) ++ [mStored r.tr r.jb] := by rw [List.take_add_one, hr, List.map_append]; rfl
        obtain ⟨tr, htr⟩ : ∃ q, r.tr = q := ⟨_, rfl⟩
        obtain ⟨jb, hjb⟩ : ∃ q, r.jb = q := ⟨_, rfl⟩
        rw [htr, hjb] at f2 bx G2 o2 s2 hB2 q0 q1
        rw [htr, hjb] at hmsg
        rw [htr] at e0
        rw [hjb] at e1 okj hjl hst
        have hjl2 : J.length ≤ 65536 := I.out.j
        have hkn2 : k + 1 + (n0 - (k + 1)) = n0 := by omega
        have hmeas : n0 - (k + 1) < gk := by omega
        have hk6 : k ≤ 65536 := by omega
        have hlt' : (k : Int) < n0 := by omega
        have h0k : (0 : Int) ≤ k := by omega
        replace f2 := Lib.hid f2
        replace bx := Lib.hid bx
        replace G2 := Lib.hid G2
        replace o2 := Lib.hid o2
        replace s2 := Lib.hid s2
        replace hmsg := Lib.hid hmsg
        replace hst := Lib.hid hst
        replace hjl := Lib.hid hjl
        replace htr := Lib.hid htr
        replace hjb := Lib.hid hjb
        replace hkn2 := Lib.hid hkn2
        replace hcb := Lib.hid hcb
        clear hg ow I hlJ hJm hr
        go_upto_region 8 with fail
        try rw [hcb.out]
        generalize (wr.alloc (.cells #[.int .i64 tr, .int .i64 jb] 76)) = w2 at *
        clear k1 e0 e1
        go_still_tail 6, (by kernel_rfl)
        change wpList _ _ _ _ _ w2.drew
        have fd : Fr noB w2 w2.drew := (Fr.refl _ _).drew
        have G3 := G2.out.frN fd
        have o3 := ownsRow_fr o2.out fd (fun _ _ q => q)
        have s3 := s2.out.thenN fd
        have bx3 := fd.blk bx.out (fun q => q)
        have hB3 := Nat.le_trans hB2 fd.size
        generalize w2.drew = w3 at *
        have hJm : Mp Tryz.prog 3 klI mkN w3 a.bj J.length J := G3.jm
        have hone : ∀ u ∈ [mStored tr jb], u.oneCell' = true := by
          intro u hu
          simp only [List.mem_cons, List.not_mem_nil, or_false] at hu
          subst hu; rfl
        obtain ⟨i0, hi, hz0, hz1, hz2⟩ := info_parts Tryz.infoMsS
        replace G3 := Lib.hid G3
        replace o3 := Lib.hid o3
        replace s3 := Lib.hid s3
        replace bx3 := Lib.hid bx3
        clear G2 o2 s2 bx q0 q1 fd f2
        unfold mStored at hone
        go_wp2_with (first
          | (at_mapUpdate; go_must (refine wpList_put_mp _ rfl _ _ _ 80 rfl KI' Tryz.underlying80 mkN_inj hJm (by unfold maxLen; omega) jb 2 okj rfl rfl rfl ?_); intro w4 m4 f4; have bx4 := f4.blk bx3.out (by unfold onlyB; omega); have r0 : w4.cell? ⟨cb, 0, none⟩ = some (.int .i64 tr) := bx4.cell 0; have r1 : w4.cell? ⟨cb, 1, none⟩ = some (.int .i64 jb) := bx4.cell 1; have o4 := ownsRow_fr o3.out f4 (fun g hg e => by { have h1 := (o3.out.lt g hg).1; have h2 := hlow.out a.bj (by rw [G3.out.c3]; decide); unfold onlyB at e; omega }); have hB4 := Nat.le_trans hB3 f4.size; replace m4 := Lib.hid m4; replace f4 := Lib.hid f4; replace bx4 := Lib.hid bx4)
          | (at_builtin; go_must (refine wpList_append_at _ rfl (.tmp 36) (.tmp 39) 34 rfl B1 40 i0 _ 1 16 Tryz.underlying34 hi hz0 hz1 hz2 rfl (by decide) (.slice la k lc) k _ rfl (o4.alloc _) ⟨w4.heap.size, 0, none⟩ 1 1 [.iface 76 (.agg #[.int .i64 tr, .int .i64 jb])] rfl rfl (cell_new w4 _ _) hone (by unfold maxLen; omega) (by omega) (Nat.le_trans hB4 ((Fr.refl noB w4).alloc _).size) ?_); intro v5 w5 o5 gr5 mv5; obtain ⟨a5, c5, rfl⟩ := ownsRow_slice o5; have f5 : Fr (rowB (.slice la k lc)) (w4.alloc (.cells #[.iface 76 (.agg #[.int .i64 tr, .int .i64 jb])] 40)) w5 := (Fr.refl _ _).grown gr5 (fun k hk _ => hk); replace o5 := Lib.hid o5; replace f5 := Lib.hid f5)
          | fail)
        obtain ⟨g4, s4⟩ := G3.out.job f4.out m4.out (by rw [hjl.out]; show J.length ≤ 70000; omega)
        have hrow : ∀ q, rowB (.slice la k lc) q → B1 ≤ q := fun q hq => (o3.out.lt q hq).1
        have g5 := (g4.frN ((Fr.refl noB w4).alloc (.cells #[.iface 76 (.agg #[.int .i64 tr, .int .i64 jb])] 40))).fr f5.out (fun q hq e => by have h1 := hlow.out q hq; have h2 := hrow q e; omega)
        have s5 := ((s3.out.trans s4).thenN ((Fr.refl noB w4).alloc (.cells #[.iface 76 (.agg #[.int .i64 tr, .int .i64 jb])] 40))).thenNew f5.out (fun q hq => Nat.le_trans hB0 (hrow q hq))
        have hB5 : B1 ≤ w5.heap.size := Nat.le_trans hB4 (Nat.le_trans ((Fr.refl noB w4).alloc (.cells #[.iface 76 (.agg #[.int .i64 tr, .int .i64 jb])] 40)).size f5.out.size)
        have o6 : w5.ownsRow B1 40 1 (.slice a5 (k + 1) c5) (k + 1) ((X.Wn.take (k + 1)).map fun r => mStored r.tr r.jb) := by rw [hmsg.out]; exact o5.out
        rw [hst.out] at g5
        have I5 : TkI w w5 gS col col1 n X { a with B := a.B } B1 (k + 1) a5 c5 (withKey J jb 2) := ⟨g5, by rw [hjl.out]; exact hjl2, o6, s5, hB5⟩
        replace I5 := Lib.hid I5
        clear g4 s4 g5 s5 o6 o5 f5 gr5 mv5 o4 r0 r1 m4 f4 bx4 G3 o3 s3 bx3
        go_wp2_with fail
        go_roundg (n0 - (k + 1))
        case rel => exact ⟨k + 1, a5, c5, _, hkn2.out, rfl, by go_num, I5⟩
        case measure => exact hmeas
      · obtain rfl : k = n0 := by omega
        have hg := I.out.g
        have z2 := hg.blk.frozen 2
        have k2 := hg.blk.cell 2
        simp only [List.getElem?_cons_zero, List.getElem?_cons_succ] at k2
        clear hg
        go_wp2_with fail
        go_ret
        obtain ⟨g9, s9⟩ := I.out.g.pnil
        have hrow : ∀ q, rowB (.slice la k lc) q → B1 ≤ q := fun q hq => (I.out.o.lt q hq).1
        have htk : X.Wn.take k = X.Wn := List.take_of_length_le (by rw [hn0'.out]; exact Nat.le_refl _)
        have e1 : (fun i => if i ∈ jbs (X.Wn.take k) then (some 2 : Option Int) else X.st i) = X.tick.st := by rw [htk, SS.tick_st]
        rw [e1] at g9
        rw [← X.tick_all] at g9
        have o9 := ownsRow_fr I.out.o s9.1 (fun g hg e => by have h1 := hlow.out g e; have h2 := hrow g hg; omega)
        have eK : (bytesR X.tick.K).length = (bytesR X.tick.all).length := by rw [X.tick_all]; rfl
        rw [← eK] at g9
        refine ⟨la, lc, col1, rfl, ⟨⟨_, hI.out.tick, g9⟩, I.out.s.trans s9⟩, ?_, fun g hg => Classical.byContradiction (fun e => by have h1 := hlow.out g e; have h2 := hrow g hg; omega)⟩
        rw [htk] at o9
        exact ownsRow_mono o9 hB0
end Go.Proofs.YtdmhnoffejjpnaaGreatDoor
end
