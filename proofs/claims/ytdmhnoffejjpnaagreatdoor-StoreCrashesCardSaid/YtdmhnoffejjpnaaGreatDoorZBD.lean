/-
  store: Crash, whole.
  store: Hear, whatever the message; Tick; what they tell.
  What the layer's laws ask first.
  A message of a call: spoorlaw09.Make by its kind, spoorlaw13.message; may calls be played?
-/
import Derived.Test.YtdmhnoffejjpnaaGreatDoorZBC
import Derived.Test.YtdmhnoffejjpnaaGreatDoorZBA
import Derived.Test.YtdmhnoffejjpnaaGreatDoorZAL
import Derived.Test.YtdmhnoffejjpnaaGreatDoorZAA
section
set_option linter.unusedVariables false
set_option linter.unusedSimpArgs false
set_option maxRecDepth 100000
namespace Go.Proofs.YtdmhnoffejjpnaaGreatDoor
open Go.RowKit Go Go.Maps Go.Lib

theorem Mp.run_clear {α κ : Type} [DecidableEq κ] {P : Program} {K : TypeId} {kl : κ → Lit} {mk : α → Value} {w : World} {b n : Nat} {L : List (κ × α)} (h : Mp P K kl mk w b n L) {t e : TypeId} (ht : P.underlying t = some (.map K e)) :
    ∃ w', (∀ ty, (Builtin.clear_ #[t] ty #[.map (some b)]).run P w = .ok (.tuple #[]) w') ∧ Mp P K kl mk w' b 0 ([] : List (κ × α)) ∧ Fr (onlyB b) w w' := by
  obtain ⟨es0, ⟨es, clock, hb, hfit, hn, hD⟩, hp, hnd⟩ := h
  refine ⟨{ w with heap := w.heap.setIfInBounds b (.map #[] clock) }, fun ty => ?_, ⟨[], ⟨#[], clock, (MapKept.heap_set hb).1, ⟨by simp, MapKept.stamped_empty _, by simp⟩, Nat.zero_le _, rfl⟩, by simp, by simp⟩, ⟨rfl, rfl, rfl, by simp, fun k hk hn => (MapKept.heap_set hb).2 k hn⟩⟩
  simp [Builtin.clear_, run_underlying ht, MapKept.run_getObj_map hb, MapKept.run_setObj_map _ hb, Result.andThen]
theorem fit_cut (L : List RC) (m : Nat) (hL : ∀ r ∈ L, okW r) (hm : m ≤ (bytesR L).length) : ∃ t, (bytesR L).take m = bytesR (L.take (fitN L m)) ++ t ∧ sizeS t = none := by
  obtain ⟨k, t, h1, h2, h3, h4, _, h6⟩ := bytes_cut L m hL hm
  have e : k = fitN L m := Nat.le_antisymm (fit_max L m k h1 h4) (h6 _ (fit_le L m).1 (fit_le L m).2)
  rw [← e]
  exact ⟨t, h2, h3⟩
theorem SS.crash_st (X : SS) (k : Int) : (X.crash k).st = fun i => if i ∈ jbs (X.all.take (fitN X.all (X.left k))) then some 2 else none := by
  funext i
  unfold SS.st SS.crash
  by_cases h : i ∈ jbs (X.all.take (fitN X.all (X.left k)))
  · simp [h]
  · simp only [h]; simp [jbs]
theorem SS.crash_all (X : SS) (k : Int) : (X.crash k).all = X.all.take (fitN X.all (X.left k)) := by unfold SS.crash SS.all; simp
theorem cr_st (L : List RC) (k : Nat) (r : RC) (h : L[k]? = some r) : (fun i => if i = r.jb then some 2 else (if i ∈ jbs (L.take k) then some 2 else none)) = fun i => if i ∈ jbs (L.take (k + 1)) then (some 2 : Option Int) else none := by
  funext i
  rw [List.take_add_one, h]
  have e : i ∈ jbs (L.take k ++ (some r).toList) ↔ i ∈ jbs (L.take k) ∨ i = r.jb := by rw [jbs_app, List.mem_append]; simp [jbs]
  by_cases h1 : i = r.jb
  · rw [if_pos h1, if_pos (e.2 (Or.inr h1))]
  · rw [if_neg h1]
    by_cases h2 : i ∈ jbs (L.take k)
    · rw [if_pos h2, if_pos (e.2 (Or.inl h2))]
    · rw [if_neg h2, if_neg (fun q => (e.1 q).elim h2 h1)]
theorem StG.eqs {w : World} {gS : Nat} {col : Nat → Tg} {n : Nat} {bs bs' : List UInt8} {kb kb' : Nat} {st : Int → Option Int} {P : List RC} {R : Nat} {C : Int → Int → Option PS} {a : Sd} (h : StG w gS col n bs kb st P R C a) (h1 : bs = bs') (h2 : kb = kb') : StG w gS col n bs' kb' st P R C a := by
  subst h1; subst h2; exact h
/-- amid Crash's loop -/
structure CrI (w wr : World) (gS : Nat) (col col1 : Nat → Tg) (n : Nat) (L : List RC) (R : Nat) (a1 : Sd) (B1 k : Nat) (v : Value) (Q : List QU) (J : List (Int × Int)) : Prop where
  g : StG wr gS col1 n (bytesR L) (bytesR L).length (fun i => if i ∈ jbs (L.take k) then some 2 else none) [] R (fun _ _ => none) { a1 with J := J }
  j : J.length ≤ k
  o : wr.ownsRow B1 63 5 v L.length (Q.flatMap QU.cs)
  s : Stp w wr col col1
set_option maxHeartbeats 8000000 in
theorem scrash_any (gS : Nat) (col : Nat → Tg) (n : Nat) (X : SS) (a : Sd) (kk : Int) (w : World) (h : StW w gS col n X a) (hk : -9223372036854775808 ≤ kk ∧ kk ≤ 9223372036854775807) (hg : ∀ w', Fr (fun q => col q ≠ tg0) w w' → Gl w') :
    Calls Tryz.prog 13 #[.pointer (some ⟨gS, 0, none⟩), .int .i64 kk] w fun e w' => e = .returned (.tuple #[]) ∧ ∃ col', STo w w' gS col n (X.crash kk) col' := by
  have hI := Lib.hid h.inv
  have hM := X.left_le kk h.inv
  have hle := h.inv.le
  obtain ⟨t, ht, hts⟩ := fit_cut X.all (X.left kk) h.inv.ok hM.2
  have hcr := dcrash_any a.gd a.B _ _ kk w h.g.dk hk
  rw [show (bytesR X.K).length + crN kk ((bytesR X.all).length - (bytesR X.K).length) = X.left kk from rfl] at hcr
  obtain ⟨M, hMe⟩ : ∃ M, X.left kk = M := ⟨_, rfl⟩
  rw [hMe] at hcr ht hM
  obtain ⟨L, hL⟩ : ∃ L, X.all.take (fitN X.all M) = L := ⟨_, rfl⟩
  rw [hL] at ht
  have hokL : ∀ r ∈ L, okW r := fun r hr => h.inv.ok r (List.mem_of_mem_take (by rw [hL]; exact hr))
  have hlen : ((bytesR X.all).take M).length = M := by rw [List.length_take]; omega
  have hgoodle : (bytesR L).length ≤ M := by rw [← hlen, ht, List.length_append]; omega
  have hfew := bytes_few L
  have hG := Lib.hid h.g
  have c0 : w.cell? ⟨gS, 0, none⟩ = some (.pointer (some ⟨a.gd, 0, none⟩)) := h.g.blk.cell 0
  replace ht := Lib.hid ht
  replace hL := Lib.hid hL
  replace hcr := Lib.hid hcr
  replace hMe := Lib.hid hMe
  replace hlen := Lib.hid hlen
  replace hokL := Lib.hid hokL
  replace hg := Lib.hid hg
  clear h
  go_enter Tryz.func13, Tryz.ntmps13
  go_wp2_with fail
  go_fit hcr.out
  rintro e w1 ⟨rfl, d1, f1, t1⟩
  obtain ⟨col1, g1, s1⟩ := hG.out.dsk f1 d1 (fun q hq => Or.inl (t1 q hq))
  have k0 : w1.cell? ⟨gS, 0, none⟩ = some (.pointer (some ⟨a.gd, 0, none⟩)) := g1.blk.cell 0
  have hby := dbytes_any a.gd a.B _ _ w1 d1
  have hsc := sgScan_any (strB ((bytesR X.all).take M)) L t w1 (hg.out w1 s1.1) ht.out hts hokL.out (by rw [strB_size, hlen.out]; omega)
  obtain ⟨T, hT⟩ : ∃ T, strB ((bytesR X.all).take M) = T := ⟨_, rfl⟩
  rw [hT] at hby hsc
  have G1 := Lib.hid g1
  replace s1 := Lib.hid s1
  replace d1 := Lib.hid d1
  replace hby := Lib.hid hby
  replace hsc := Lib.hid hsc
  replace hT := Lib.hid hT
  clear hcr c0 g1 f1 t1
  go_wp2_with fail
  go_fit hby.out
  rintro e w1' ⟨rfl, hw⟩
  obtain rfl := hw.symm
  clear hw hby
  go_wp2_with fail
  go_fit hsc.out
  rintro e w2 ⟨ra, rc, Q, rfl, o2, q2, hQ, f2⟩
  have g2 := G1.out.frN f2
  have d2 := d1.out.frN f2
  have k2 : w2.cell? ⟨gS, 0, none⟩ = some (.pointer (some ⟨a.gd, 0, none⟩)) := g2.blk.cell 0
  have hcu := dcut_any a.gd a.B _ _ ((bytesR L).length : Int) w2 d2 (by omega)
  have ecut : cutN ((bytesR L).length : Int) ((bytesR X.all).take M).length = (bytesR L).length := by rw [hlen.out]; unfold cutN; omega
  have etake : ((bytesR X.all).take M).take (bytesR L).length = bytesR L := by rw [ht.out, List.take_left]
  rw [ecut, etake] at hcu
  obtain ⟨go, hgo⟩ : ∃ go, (bytesR L).length = go := ⟨_, rfl⟩
  obtain ⟨B1, hB1⟩ : ∃ B1, w1.heap.size = B1 := ⟨_, rfl⟩
  have hlow1 := G1.out.low
  rw [hB1] at hlow1 o2
  obtain ⟨n0, hn0⟩ : ∃ n0, L.length = n0 := ⟨_, rfl⟩
  have eQ : Q.length = n0 := by rw [← hn0, ← hQ, List.length_map]
  have hn6 : n0 ≤ 65536 := by omega
  rw [hgo] at hcu
  replace hcu := Lib.hid hcu
  have G2 := Lib.hid g2
  have S2 := Lib.hid (s1.out.thenN f2)
  replace o2 := Lib.hid o2
  replace hQ := Lib.hid hQ
  replace eQ := Lib.hid eQ
  replace hgo := Lib.hid hgo
  replace hB1 := Lib.hid hB1
  replace hlow1 := Lib.hid hlow1
  clear g2 d2 q2 k0 hsc G1 s1 d1 f2 ecut etake hgoodle
  rw [hgo.out, hn0]
  replace hn0 := Lib.hid hn0
  go_wp2_with fail
  go_fit hcu.out
  rintro e w3 ⟨rfl, d3, f3, t3⟩
  obtain ⟨col3, g3, s3⟩ := G2.out.dsk f3 d3 (fun q hq => Or.inl (t3 q hq))
  have z2 := g3.blk.frozen 2
  have y2 : w3.cell? ⟨gS, 2, none⟩ = some (.slice a.pa X.Wn.length a.pc) := g3.blk.cell 2
  obtain ⟨g4, s4⟩ := g3.pnil
  have o4 := (ownsRow_fr o2.out s3.1 (fun g hg e => by have h1 := hlow1.out g e; have h2 := (o2.out.lt g hg).1; omega))
  have hlow3 : ∀ q, B1 ≤ q → q < w2.heap.size → col3 q = tg0 := fun q h1 h2 => Classical.byContradiction fun e => by
    have e2 := s3.2 q h2
    rw [e2] at e
    have := hlow1.out q e
    omega
  have hrow : ∀ g, (Value.slice ra L.length rc).ownBlock = some g → col3 g = tg0 := fun g hg => hlow3 g (o2.out.lt g hg).1 (o2.out.lt g hg).2
  have o5 := ownsRow_fr o4 s4.1 (fun g hg e => e (hrow g hg))
  have S4 := (S2.out.trans s3).trans s4
  clear s4 o4 hlow3 hcu G2 S2 k2 d3 f3 t3
  replace g4 := Lib.hid g4
  replace o5 := Lib.hid o5
  replace S4 := Lib.hid S4
  replace hrow := Lib.hid hrow
  clear g3 s3 o2
  go_upto_region 5 with fail
  generalize (w3.setCell ⟨gS, 2, none⟩ (.slice none 0 0)) = w4 at *
  clear z2 y2
  have k3 : w4.cell? ⟨gS, 3, none⟩ = some (.map (some a.bc)) := g4.out.blk.cell 3
  obtain ⟨w5, r5, m5, f5⟩ := Mp.run_clear g4.out.cm Tryz.underlying81
  obtain ⟨g5, s5⟩ := g4.out.cclear f5 m5
  have k1 : w5.cell? ⟨gS, 1, none⟩ = some (.map (some a.bj)) := g5.blk.cell 1
  obtain ⟨w6, r6, m6, f6⟩ := Mp.run_clear g5.jm Tryz.underlying80
  obtain ⟨g6, s6⟩ := g5.jclear f6 m6
  have o6 := ownsRow_fr (ownsRow_fr o5.out s5.1 (fun g hg e => e (hrow.out g hg))) s6.1 (fun g hg e => e (hrow.out g hg))
  have S6 := (S4.out.trans s5).trans s6
  have r5' : ∀ ty, (Builtin.clear_ #[81] ty #[.map (some a.bc)]).run Tryz.prog w4 = .ok (.tuple #[]) w5 := r5
  have r6' : ∀ ty, (Builtin.clear_ #[80] ty #[.map (some a.bj)]).run Tryz.prog w5 = .ok (.tuple #[]) w6 := r6
  have I0 : CrI w w6 gS col col3 n L X.R { a with pa := none, pc := 0, pB := 0, O := [] } B1 0 (.slice ra L.length rc) Q [] := ⟨by
    have e : (fun i => if i ∈ jbs (L.take 0) then (some 2 : Option Int) else none) = fun _ => none := by funext i; simp [jbs]
    rw [e, hgo.out]; exact g6, Nat.le_refl _, o6, S6⟩
  replace I0 := Lib.hid I0
  clear r5 r6 m5 m6 f5 f6 g5 s5 g6 s6 o6 S6 g4 o5 S4
  go_wp2_with fail
  rw [hn0.out] at I0 hrow
  go_loopg [51] n0 (fun gk v51 wr => ∃ (k : Nat) (J : List (Int × Int)), k + gk = n0 ∧ v51 = .int .i64 k ∧ Hid (CrI w wr gS col col3 n L X.R { a with pa := none, pc := 0, pB := 0, O := [] } B1 k (.slice ra n0 rc) Q J))
  case atStart => exact ⟨0, [], by omega, rfl, I0⟩
  case round =>
    obtain ⟨k, J, hkn, rfl, I⟩ := hrel
    clear I0 k3 k1 r5' r6'
    by_cases hlt : k < n0
    · obtain ⟨r, hr⟩ : ∃ r, L[k]? = some r := ⟨_, List.getElem?_eq_getElem (by rw [hn0.out]; exact hlt)⟩
      obtain ⟨q, hq, hqx⟩ : ∃ q, Q[k]? = some q ∧ q.x = r := by
        have h1 := hr
        rw [← hQ.out, List.getElem?_map] at h1
        cases h2 : Q[k]? with
        | none => rw [h2] at h1; cases h1
        | some q => rw [h2] at h1; injection h1 with h1; exact ⟨q, rfl, h1⟩
      have hg := I.out.g
      have ow := I.out.o
      rw [hn0.out] at ow
      obtain ⟨rg, rc', hsl, _⟩ := ownsRow_some ow (by omega)
      obtain ⟨rfl, rfl⟩ : ra = some ⟨rg, 0, none⟩ ∧ rc = rc' := by injection hsl with h1 _ h2; exact ⟨h1, h2⟩
      have e0 := own_cellQ ow hq (q := 0) rfl
      have e1 := own_cellQ ow hq (q := 1) rfl
      have e2 := own_cellQ ow hq (q := 2) rfl
      have e3 := own_cellQ ow hq (q := 3) rfl
      have e4 := own_cellQ ow hq (q := 4) rfl
      rw [hqx] at e0 e1 e2 e3
      rw [Nat.add_zero] at e0
      obtain ⟨qa, qn, qc, hqv⟩ : ∃ a n c, q.v = .slice a n c := ⟨_, _, _, rfl⟩
      rw [hqv] at e4
      have k1 : wr.cell? ⟨gS, 1, none⟩ = some (.map (some a.bj)) := hg.blk.cell 1
      have okj := okI_jb (hokL.out r (List.mem_of_getElem? hr))
      have hJm : Mp Tryz.prog 3 klI mkN wr a.bj J.length J := hg.jm
      have hst := cr_st L k r hr
      have hjl : J.length ≤ k := I.out.j
      obtain ⟨cb, hcb⟩ : ∃ cb, wr.heap.size = cb := ⟨_, rfl⟩
      have hbj : a.bj < cb := by rw [← hcb]; exact hJm.lt
      have I2 := Lib.hid I.out
      obtain ⟨tr, htr⟩ : ∃ x, r.tr = x := ⟨_, rfl⟩
      obtain ⟨jb, hjb⟩ : ∃ x, r.jb = x := ⟨_, rfl⟩
      obtain ⟨cl, hcl⟩ : ∃ x, r.cl = x := ⟨_, rfl⟩
      obtain ⟨wh, hwh⟩ : ∃ x, r.wh = x := ⟨_, rfl⟩
      rw [htr] at e0
      rw [hjb] at e1 okj hst
      rw [hcl] at e2
      rw [hwh] at e3
      have f2 := (Fr.refl noB wr).alloc (.cells #[.int .i64 tr, .int .i64 jb, .int .i64 cl, .bool wh, .slice qa qn qc] 63)
      have bx := Blk.new wr 63 [.int .i64 tr, .int .i64 jb, .int .i64 cl, .bool wh, .slice qa qn qc]
      rw [hcb] at bx
      have q0 : (wr.alloc (.cells #[.int .i64 tr, .int .i64 jb, .int .i64 cl, .bool wh, .slice qa qn qc] 63)).cell? ⟨gS, 1, none⟩ = some (.map (some a.bj)) := f2.cell k1 (fun q => q)
      have q1 : (wr.alloc (.cells #[.int .i64 tr, .int .i64 jb, .int .i64 cl, .bool wh, .slice qa qn qc] 63)).cell? ⟨cb, 1, none⟩ = some (.int .i64 jb) := bx.cell 1
      have hkn2 : k + 1 + (n0 - (k + 1)) = n0 := by omega
      have hmeas : n0 - (k + 1) < gk := by omega
      have hk6 : k ≤ 65536 := by omega
      have hlt' : (k : Int) < n0 := by omega
      have h0k : (0 : Int) ≤ k := by omega
      replace f2 := Lib.hid f2
      replace hst := Lib.hid hst
      replace hkn2 := Lib.hid hkn2
      replace hcb := Lib.hid hcb
      clear hg ow I hJm hr hq hqx hqv htr hjb hcl hwh bx hsl
      go_upto_region 10 with fail
      try rw [hcb.out]
      generalize (wr.alloc (.cells #[.int .i64 tr, .int .i64 jb, .int .i64 cl, .bool wh, .slice qa qn qc] 63)) = w2 at *
      clear k1 e0 e1 e2 e3 e4
      go_still_tail 6, (by kernel_rfl)
      change wpList _ _ _ _ _ w2.drew
      have fd : Fr noB wr w2.drew := f2.out.drew
      generalize w2.drew = w3' at *
      have G3 := I2.out.g.frN fd
      have hJm : Mp Tryz.prog 3 klI mkN w3' a.bj J.length J := G3.jm
      replace G3 := Lib.hid G3
      replace fd := Lib.hid fd
      clear q0 q1 f2
      go_wp2_with (first
        | (at_mapUpdate; go_must (refine wpList_put_mp _ rfl _ _ _ 80 rfl KI' Tryz.underlying80 mkN_inj hJm (by unfold maxLen; omega) jb 2 okj rfl rfl rfl ?_); intro w4' m4 f4)
        | fail)
      obtain ⟨g4', s4'⟩ := G3.out.job f4 m4 (Nat.le_trans withKey_len (by show J.length + 1 ≤ 70000; omega))
      rw [hst.out] at g4'
      have o4 := ownsRow_fr (ownsRow_fr I2.out.o fd.out (fun _ _ q => q)) s4'.1 (fun g hg e => e (hrow.out g (by rw [← hn0.out]; exact hg)))
      have I5 : CrI w w4' gS col col3 n L X.R { a with pa := none, pc := 0, pB := 0, O := [] } B1 (k + 1) (.slice (some ⟨rg, 0, none⟩) n0 rc) Q (withKey J jb 2) := ⟨g4', Nat.le_trans withKey_len (by omega), o4, (I2.out.s.thenN fd.out).trans s4'⟩
      replace I5 := Lib.hid I5
      clear g4' s4' o4 G3 m4 f4 fd I2
      go_wp2_with fail
      go_roundg (n0 - (k + 1))
      case rel => exact ⟨k + 1, _, hkn2.out, by go_num, I5⟩
      case measure => exact hmeas
    · obtain rfl : k = n0 := by omega
      go_wp2_with fail
      (first | go_end0 | ((try simp only [Exit.inBlock, Exit.then]); refine bodyPost_ret (results_none rfl _ _ _) rfl ?_))
      have htk : L.take k = L := List.take_of_length_le (by rw [hn0.out]; exact Nat.le_refl _)
      have g9 := I.out.g
      rw [htk] at g9
      have eL : X.all.take (fitN X.all (X.left kk)) = L := by rw [hMe.out]; exact hL.out
      have e1 := X.crash_st kk
      rw [eL] at e1
      rw [← e1] at g9
      have e2 : (X.crash kk).all = L := by rw [X.crash_all]; exact eL
      have e3 : (X.crash kk).K = L := eL
      exact ⟨rfl, col3, ⟨_, hI.out.crash kk, g9.eqs (by rw [e2]) (by rw [e3])⟩, I.out.s⟩
end Go.Proofs.YtdmhnoffejjpnaaGreatDoor
end

section
set_option linter.unusedVariables false
set_option linter.unusedSimpArgs false
set_option maxRecDepth 100000
namespace Go.Proofs.YtdmhnoffejjpnaaGreatDoor
open Go.RowKit Go Go.Maps Go.Lib

/-- what is told to the coordinator: Stored, by trace and job, in a row of its own -/
def SRow (w0 w' : World) (col' : Nat → Tg) (v : Value) (L : List (Int × Int)) : Prop := ∃ a c, v = .slice a L.length c ∧ w'.ownsRow w0.heap.size 40 1 (.slice a L.length c) L.length (L.map fun p => mStored p.1 p.2) ∧ ∀ g, (Value.slice a L.length c).ownBlock = some g → col' g = tg0
def SS.back (X : SS) (m : Ms) : List (Int × Int) := if m.ok = false then [] else match m with
  | .manifest t j _ _ => if X.st j = some 2 then [(t, j)] else []
  | _ => []
def SS.told2 (X : SS) : List (Int × Int) := X.Wn.map fun r => (r.tr, r.jb)
theorem SRow.nil (w0 w' : World) (col' : Nat → Tg) : SRow w0 w' col' (.slice none 0 0) [] := ⟨none, 0, rfl, World.ownsRow_nil _ _ _ _, fun g hg => by simp [Value.ownBlock] at hg⟩
theorem stick_row (gS : Nat) (col : Nat → Tg) (n : Nat) (X : SS) (a : Sd) (w : World) (h : StW w gS col n X a) :
    Calls Tryz.prog 11 #[.pointer (some ⟨gS, 0, none⟩)] w fun e w' => ∃ v col', e = .returned v ∧ STo w w' gS col n X.tick col' ∧ SRow w w' col' v X.told2 := by
  refine (stick_any gS col n X a w h).mono ?_
  rintro e w' ⟨va, vc, col', rfl, h1, h2, h3⟩
  have e1 : X.told2.length = X.Wn.length := by unfold SS.told2; rw [List.length_map]
  have e2 : (X.told2.map fun p => mStored p.1 p.2) = X.Wn.map fun r => mStored r.tr r.jb := by unfold SS.told2; rw [List.map_map]; rfl
  exact ⟨_, col', rfl, h1, va, vc, by rw [e1], by rw [e1, e2]; exact h2, by rw [e1]; exact h3⟩
/-- a message of no concern is let go -/
theorem shear_other (gS : Nat) (col : Nat → Tg) (n : Nat) (X : SS) (a : Sd) (m : Ms) (t : TypeId) (x : Value) (w : World) (h : StW w gS col n X a) (hn : n + 2 ≤ 100000) (hm : MsW w (.iface t x) m) (ho : m.ok = true)
    (hX : X.hear m = X) (hB : X.back m = [])
    (h1 : ∀ w, (Instr.typeAssert (.iface t x) 40 73 true).run Tryz.prog w = .ok (.tuple #[.agg #[.int .i64 0, .int .i64 0, .int .i64 0, .slice none 0 0], .bool false]) w)
    (h2 : ∀ w, (Instr.typeAssert (.iface t x) 40 75 true).run Tryz.prog w = .ok (.tuple #[.agg #[.int .i64 0, .int .i64 0, .int .i64 0, .int .i64 0, .int .i64 0, .slice none 0 0], .bool false]) w) :
    Calls Tryz.prog 16 #[.pointer (some ⟨gS, 0, none⟩), .iface t x] w fun e w' => ∃ v' col', e = .returned v' ∧ STo w w' gS col (n + 2) (X.hear m) col' ∧ SRow w w' col' v' (X.back m) := by
  rw [hX, hB]
  have hr := right_ms _ m w hm
  rw [ho] at hr
  refine shear_yes gS a.gd _ _ _ _ _ w (fun e w' => ∃ v' col', e = .returned v' ∧ STo w w' gS col (n + 2) X col' ∧ SRow w w' col' v' []) h.g.blk hr (fun w1 f1 => ?_)
  refine (stake_other _ t x w1 h1 h2).mono ?_
  rintro e w' ⟨rfl, f⟩
  exact ⟨_, rfl, _, col, rfl, STo.same (h.up (by omega) hn) (f1.seqN f), SRow.nil _ _ _⟩
set_option maxHeartbeats 4000000 in
theorem shear_any (gS : Nat) (col : Nat → Tg) (n : Nat) (X : SS) (a : Sd) (m : Ms) (v : Value) (w : World) (h : StW w gS col n X a) (hn : n + 2 ≤ 100000) (hm : ∀ w', Fr (fun q => col q ≠ tg0) w w' → MsW w' v m) (hg : ∀ w', Fr (fun q => col q ≠ tg0) w w' → Gl w') :
    Calls Tryz.prog 16 #[.pointer (some ⟨gS, 0, none⟩), v] w fun e w' => ∃ v' col', e = .returned v' ∧ STo w w' gS col (n + 2) (X.hear m) col' ∧ SRow w w' col' v' (X.back m) := by
  have hm0 := hm w (Fr.refl _ _)
  cases ho : m.ok with
  | false =>
    have e1 : X.hear m = X := by unfold SS.hear; rw [if_pos ho]
    have e2 : X.back m = [] := by unfold SS.back; rw [if_pos ho]
    rw [e1, e2]
    have hr := right_ms v m w hm0
    rw [ho] at hr
    refine (shear_no gS a.gd _ _ _ _ v w h.g.blk hr).mono ?_
    rintro e w' ⟨rfl, f⟩
    exact ⟨_, col, rfl, STo.same (h.up (by omega) hn) f, SRow.nil _ _ _⟩
  | true =>
    have hno : ¬ m.ok = false := by rw [ho]; decide
    cases m with
    | trigger b t c => obtain rfl := hm0; exact shear_other gS col n X a _ _ _ w h hn rfl ho (by unfold SS.hear; rw [if_neg hno]) (by unfold SS.back; rw [if_neg hno]) (fun w => as_Trigger_Manifest _ w) (fun w => as_Trigger_Chunk _ w)
    | pin t j => obtain rfl := hm0; exact shear_other gS col n X a _ _ _ w h hn rfl ho (by unfold SS.hear; rw [if_neg hno]) (by unfold SS.back; rw [if_neg hno]) (fun w => as_Pin_Manifest _ w) (fun w => as_Pin_Chunk _ w)
    | pinned p => have hm1 := hm0; obtain ⟨u, rfl, _⟩ := hm0; exact shear_other gS col n X a _ _ _ w h hn hm1 ho (by unfold SS.hear; rw [if_neg hno]) (by unfold SS.back; rw [if_neg hno]) (fun w => as_Pinned_Manifest _ w) (fun w => as_Pinned_Chunk _ w)
    | gone b t j => obtain rfl := hm0; exact shear_other gS col n X a _ _ _ w h hn rfl ho (by unfold SS.hear; rw [if_neg hno]) (by unfold SS.back; rw [if_neg hno]) (fun w => as_Gone_Manifest _ w) (fun w => as_Gone_Chunk _ w)
    | collect t j => obtain rfl := hm0; exact shear_other gS col n X a _ _ _ w h hn rfl ho (by unfold SS.hear; rw [if_neg hno]) (by unfold SS.back; rw [if_neg hno]) (fun w => as_Collect_Manifest _ w) (fun w => as_Collect_Chunk _ w)
    | stored t j => obtain rfl := hm0; exact shear_other gS col n X a _ _ _ w h hn rfl ho (by unfold SS.hear; rw [if_neg hno]) (by unfold SS.back; rw [if_neg hno]) (fun w => as_Stored_Manifest _ w) (fun w => as_Stored_Chunk _ w)
    | unpin t j => obtain rfl := hm0; exact shear_other gS col n X a _ _ _ w h hn rfl ho (by unfold SS.hear; rw [if_neg hno]) (by unfold SS.back; rw [if_neg hno]) (fun w => as_Unpin_Manifest _ w) (fun w => as_Unpin_Chunk _ w)
    | unpinned b t j => obtain rfl := hm0; exact shear_other gS col n X a _ _ _ w h hn rfl ho (by unfold SS.hear; rw [if_neg hno]) (by unfold SS.back; rw [if_neg hno]) (fun w => as_Unpinned_Manifest _ w) (fun w => as_Unpinned_Chunk _ w)
    | chunk b t j i k sp =>
      obtain ⟨u, rfl, hu⟩ := hm0
      obtain ⟨sa, sc, rfl, _⟩ := hu
      have hr := right_ms _ _ w (hm w (Fr.refl _ _))
      rw [ho] at hr
      have hb : chunkB b t j i k sp = true := ho
      have hlim : (1 ≤ t ∧ t ≤ 65535) ∧ 1 ≤ j ∧ j ≤ 1073741824 := by
        unfold chunkB inB at hb
        simp only [Bool.and_eq_true, decide_eq_true_eq] at hb
        omega
      have okt : okI t := okI_of (by omega) (by omega)
      have okj : okI j := okI_of (by omega) (by omega)
      have e2 : X.back (.chunk b t j i k sp) = [] := by unfold SS.back; rw [if_neg hno]
      rw [e2]
      refine shear_yes gS a.gd _ _ _ _ _ w (fun e w' => ∃ v' col', e = .returned v' ∧ STo w w' gS col (n + 2) (X.hear (.chunk b t j i k sp)) col' ∧ SRow w w' col' v' []) h.g.blk hr (fun w1 f1 => ?_)
      have h1 := h.frN f1
      rcases X.st_cases j with hs | hs | hs
      · have e1 : X.hear (.chunk b t j i k sp) = X.col (.chunk b t j i k sp) := by unfold SS.hear; rw [if_neg hno]; simp only [hs, if_true]
        rw [e1]
        refine (stake_chunk0 (fun w' => ∃ col', STo w w' gS col (n + 2) (X.col (.chunk b t j i k sp)) col') gS a.bj _ a.J _ _ _ _ b t j i k sa _ sc w1 h1.g.blk h1.g.jm okj (by rw [h1.g.hJ]; exact hs) (fun w2 f2 => ?_)).mono ?_
        · have f02 := f1.seqN f2
          refine (scol_any gS col n X a (.chunk b t j i k sp) _ t j w2 (fun w' f => hg w' (f02.trans f (fun _ _ q => False.elim q) (fun _ _ q => q))) hn (h.frN f02) (fun w' f => hm w' (f02.trans f (fun _ _ q => False.elim q) (fun _ _ q => q))) rfl rfl okt okj hs).mono ?_
          rintro e w' ⟨rfl, col', h9⟩
          exact ⟨rfl, col', STo.wrapN f02 h9 (Fr.refl _ _)⟩
        · rintro e w' ⟨rfl, col', h9⟩
          exact ⟨_, rfl, _, col', rfl, h9, SRow.nil _ _ _⟩
      · have e1 : X.hear (.chunk b t j i k sp) = X := by unfold SS.hear; rw [if_neg hno]; simp [hs]
        rw [e1]
        refine (stake_chunk gS a.bj _ a.J _ _ _ _ b t j i k 1 sa _ sc w1 h1.g.blk h1.g.jm okj (Or.inl rfl) (by rw [h1.g.hJ]; exact hs)).mono ?_
        rintro e w' ⟨rfl, f⟩
        exact ⟨_, rfl, _, col, rfl, STo.same (h.up (by omega) hn) (f1.seqN f), SRow.nil _ _ _⟩
      · have e1 : X.hear (.chunk b t j i k sp) = X := by unfold SS.hear; rw [if_neg hno]; simp [hs]
        rw [e1]
        refine (stake_chunk gS a.bj _ a.J _ _ _ _ b t j i k 2 sa _ sc w1 h1.g.blk h1.g.jm okj (Or.inr rfl) (by rw [h1.g.hJ]; exact hs)).mono ?_
        rintro e w' ⟨rfl, f⟩
        exact ⟨_, rfl, _, col, rfl, STo.same (h.up (by omega) hn) (f1.seqN f), SRow.nil _ _ _⟩
    | manifest t j c ps =>
      obtain ⟨u, rfl, hu⟩ := hm0
      obtain ⟨sa, sc, rfl, _⟩ := hu
      have hr := right_ms _ _ w (hm w (Fr.refl _ _))
      rw [ho] at hr
      have hb : manB t j c ps = true := ho
      have hlim : (1 ≤ t ∧ t ≤ 65535) ∧ 1 ≤ j ∧ j ≤ 1073741824 := by
        unfold manB inB at hb
        simp only [Bool.and_eq_true, decide_eq_true_eq] at hb
        omega
      have okt : okI t := okI_of (by omega) (by omega)
      have okj : okI j := okI_of (by omega) (by omega)
      refine shear_yes gS a.gd _ _ _ _ _ w (fun e w' => ∃ v' col', e = .returned v' ∧ STo w w' gS col (n + 2) (X.hear (.manifest t j c ps)) col' ∧ SRow w w' col' v' (X.back (.manifest t j c ps))) h.g.blk hr (fun w1 f1 => ?_)
      have h1 := h.frN f1
      rcases X.st_cases j with hs | hs | hs
      · have e1 : X.hear (.manifest t j c ps) = X.col (.manifest t j c ps) := by unfold SS.hear; rw [if_neg hno]; simp only [hs, if_true]
        have e2 : X.back (.manifest t j c ps) = [] := by unfold SS.back; rw [if_neg hno]; simp [hs]
        rw [e1, e2]
        refine (stake_man0 (fun w' => ∃ col', STo w w' gS col (n + 2) (X.col (.manifest t j c ps)) col') gS a.bj _ a.J _ _ _ _ t j c sa _ sc w1 h1.g.blk h1.g.jm okj (by rw [h1.g.hJ]; exact hs) (fun w2 f2 => ?_)).mono ?_
        · have f02 := f1.seqN f2
          refine (scol_any gS col n X a (.manifest t j c ps) _ t j w2 (fun w' f => hg w' (f02.trans f (fun _ _ q => False.elim q) (fun _ _ q => q))) hn (h.frN f02) (fun w' f => hm w' (f02.trans f (fun _ _ q => False.elim q) (fun _ _ q => q))) rfl rfl okt okj hs).mono ?_
          rintro e w' ⟨rfl, col', h9⟩
          exact ⟨rfl, col', STo.wrapN f02 h9 (Fr.refl _ _)⟩
        · rintro e w' ⟨rfl, col', h9⟩
          exact ⟨_, rfl, _, col', rfl, h9, SRow.nil _ _ _⟩
      · have e1 : X.hear (.manifest t j c ps) = X := by unfold SS.hear; rw [if_neg hno]; simp [hs]
        have e2 : X.back (.manifest t j c ps) = [] := by unfold SS.back; rw [if_neg hno]; simp [hs]
        rw [e1, e2]
        refine (stake_man1 gS a.bj _ a.J _ _ _ _ t j c sa _ sc w1 h1.g.blk h1.g.jm okj (by rw [h1.g.hJ]; exact hs)).mono ?_
        rintro e w' ⟨rfl, f⟩
        exact ⟨_, rfl, _, col, rfl, STo.same (h.up (by omega) hn) (f1.seqN f), SRow.nil _ _ _⟩
      · have e1 : X.hear (.manifest t j c ps) = X := by unfold SS.hear; rw [if_neg hno]; simp [hs]
        have e2 : X.back (.manifest t j c ps) = [(t, j)] := by unfold SS.back; rw [if_neg hno]; simp [hs]
        rw [e1, e2]
        refine (stake_man gS a.bj _ a.J _ _ _ _ t j c sa _ sc w1 h1.g.blk h1.g.jm okj (by rw [h1.g.hJ]; exact hs)).mono ?_
        rintro e w' ⟨g, rfl, hge, hbl, f⟩
        have hge2 : w.heap.size ≤ g := Nat.le_trans f1.size hge
        refine ⟨_, rfl, _, col, rfl, STo.same (h.up (by omega) hn) (f1.seqN f), some ⟨g, 0, none⟩, 1, rfl, ⟨rfl, Or.inr ⟨g, 1, #[mStored t j], rfl, hge2, hbl, Nat.le_refl _, by unfold maxLen; omega, rfl, rfl⟩⟩, fun g' hg' => ?_⟩
        simp [Value.ownBlock] at hg'
        subst hg'
        exact Classical.byContradiction fun e => by have := h.g.low g e; omega
end Go.Proofs.YtdmhnoffejjpnaaGreatDoor
end

section
set_option linter.unusedVariables false
set_option linter.unusedSimpArgs false
set_option maxRecDepth 100000
set_option maxRecDepth 100000
namespace Go.Proofs.YtdmhnoffejjpnaaGreatDoor
open Go.RowKit Go Go.Maps Go.Lib

def aP0 : Pn := ⟨0, 7, 2, 1, [], false⟩
def aP1 : Pn := ⟨1, 7, 2, 0, [], false⟩
def aSp : Sp := ⟨7, 1, ⟨#[115]⟩⟩
def aS0 : PS := ⟨7, 2, none, []⟩
def aS1 : PS := ⟨7, 2, some (1, [aP0, aP1]), []⟩
def aS2 : PS := ⟨7, 2, some (1, [aP0, aP1]), [(0, 1, [(0, [aSp])])]⟩
def aS3 : PS := ⟨7, 2, some (1, [aP0, aP1]), [(1, 1, [(0, [])]), (0, 1, [(0, [aSp])])]⟩
theorem ah1 : aS0.hear (.manifest 7 2 1 [aP0, aP1]) = (true, aS1) := by rfl
theorem ah2 : aS1.hear (.chunk 0 7 2 0 1 [aSp]) = (true, aS2) := by rfl
theorem ah3 : aS2.hear (.chunk 1 7 2 0 1 []) = (true, aS3) := by rfl
theorem ah4 : aS3.hear (.chunk 1 7 2 0 1 []) = (false, aS3) := by rfl
theorem am2 : aS2.miss = [1] := by rfl
theorem am3 : aS3.miss = [] := by rfl
theorem ar2 : aS2.recd = none := by rfl
theorem ar3 : aS3.recd = some (1, [(aP0, [aSp]), (aP1, [])]) := by rfl
theorem rdi_nil (w : World) : RdI w (.slice none 0 0) [] := ⟨none, 0, rfl, by simp, by simp, fun i hi => by simp at hi⟩
theorem rd_two (w : World) : RdPs (w.alloc (.cells #[.int .i64 0, .int .i64 7, .int .i64 2, .int .i64 1, .slice none 0 0, .bool false, .int .i64 1, .int .i64 7, .int .i64 2, .int .i64 0, .slice none 0 0, .bool false] 70)) (.slice (some ⟨w.heap.size, 0, none⟩) 2 2) [aP0, aP1] := by
  have b := Blk.new w 70 [.int .i64 0, .int .i64 7, .int .i64 2, .int .i64 1, .slice none 0 0, .bool false, .int .i64 1, .int .i64 7, .int .i64 2, .int .i64 0, .slice none 0 0, .bool false]
  refine ⟨some ⟨w.heap.size, 0, none⟩, 2, rfl, Nat.le_refl _, by decide, fun i p hi => ?_⟩
  match i, hi with
  | 0, hi =>
    injection hi with hi
    subst hi
    refine ⟨w.heap.size, 0, none, 0, rfl, fun q x hx => ?_, rdi_nil _⟩
    rw [Nat.zero_add]
    refine (b.cell (0 * 6 + q)).trans ?_
    match q, hx with
    | 0, hx => exact hx
    | 1, hx => exact hx
    | 2, hx => exact hx
    | 3, hx => exact hx
    | 4, hx => exact hx
    | 5, hx => exact hx
  | 1, hi =>
    injection hi with hi
    subst hi
    refine ⟨w.heap.size, 0, none, 0, rfl, fun q x hx => ?_, rdi_nil _⟩
    rw [Nat.zero_add]
    refine (b.cell (1 * 6 + q)).trans ?_
    match q, hx with
    | 0, hx => exact hx
    | 1, hx => exact hx
    | 2, hx => exact hx
    | 3, hx => exact hx
    | 4, hx => exact hx
    | 5, hx => exact hx
theorem two_of : ∀ (U : List RU), U.length = 2 → ∃ u0 u1, U = [u0, u1]
  | [u0, u1], _ => ⟨u0, u1, rfl⟩
end Go.Proofs.YtdmhnoffejjpnaaGreatDoor
end

section
set_option linter.unusedVariables false
set_option linter.unusedSimpArgs false
set_option maxRecDepth 100000
namespace Go.Proofs.YtdmhnoffejjpnaaGreatDoor
open Go.RowKit Go Go.Lib

set_option maxHeartbeats 1000000 in
set_option maxRecDepth 10000 in
theorem make_1 (a t j c n : Int) (ua : Option Addr) (un uc : Nat) (lo : Bool) (sa : Option Addr) (sn sc : Nat) (w : World) :
    Calls Tryz.prog 39 #[.int .i64 1, .int .i64 a, .int .i64 t, .int .i64 j, .int .i64 c, .int .i64 n, .slice ua un uc, .bool lo, .slice sa sn sc] w fun e w' => e = .returned (mTrigger a t c) ∧ Fr noB w w' := by
  unfold mTrigger
  have fX := (Fr.refl noB w).alloc (.cells #[.int .i64 a, .int .i64 t, .int .i64 j, .int .i64 n, .slice ua un uc, .bool lo] 70)
  go_enter Tryz.func39, Tryz.ntmps39
  go_wp2_with fail
  go_ret
  exact ⟨rfl, fX⟩
set_option maxHeartbeats 1000000 in
set_option maxRecDepth 10000 in
theorem make_2 (a t j c n : Int) (ua : Option Addr) (un uc : Nat) (lo : Bool) (sa : Option Addr) (sn sc : Nat) (w : World) :
    Calls Tryz.prog 39 #[.int .i64 2, .int .i64 a, .int .i64 t, .int .i64 j, .int .i64 c, .int .i64 n, .slice ua un uc, .bool lo, .slice sa sn sc] w fun e w' => e = .returned (mPin t j) ∧ Fr noB w w' := by
  unfold mPin
  have fX := (Fr.refl noB w).alloc (.cells #[.int .i64 a, .int .i64 t, .int .i64 j, .int .i64 n, .slice ua un uc, .bool lo] 70)
  go_enter Tryz.func39, Tryz.ntmps39
  go_wp2_with fail
  go_ret
  exact ⟨rfl, fX⟩
set_option maxHeartbeats 1000000 in
set_option maxRecDepth 10000 in
theorem make_3 (a t j c n : Int) (ua : Option Addr) (un uc : Nat) (lo : Bool) (sa : Option Addr) (sn sc : Nat) (w : World) :
    Calls Tryz.prog 39 #[.int .i64 3, .int .i64 a, .int .i64 t, .int .i64 j, .int .i64 c, .int .i64 n, .slice ua un uc, .bool lo, .slice sa sn sc] w fun e w' => e = .returned (mPinned a t j n (.slice ua un uc) lo) ∧ Fr noB w w' := by
  unfold mPinned
  have fX := (Fr.refl noB w).alloc (.cells #[.int .i64 a, .int .i64 t, .int .i64 j, .int .i64 n, .slice ua un uc, .bool lo] 70)
  go_enter Tryz.func39, Tryz.ntmps39
  go_wp2_with fail
  go_ret
  exact ⟨rfl, fX⟩
set_option maxHeartbeats 1000000 in
set_option maxRecDepth 10000 in
theorem make_4 (a t j c n : Int) (ua : Option Addr) (un uc : Nat) (lo : Bool) (sa : Option Addr) (sn sc : Nat) (w : World) :
    Calls Tryz.prog 39 #[.int .i64 4, .int .i64 a, .int .i64 t, .int .i64 j, .int .i64 c, .int .i64 n, .slice ua un uc, .bool lo, .slice sa sn sc] w fun e w' => e = .returned (mGone a t j) ∧ Fr noB w w' := by
  unfold mGone
  have fX := (Fr.refl noB w).alloc (.cells #[.int .i64 a, .int .i64 t, .int .i64 j, .int .i64 n, .slice ua un uc, .bool lo] 70)
  go_enter Tryz.func39, Tryz.ntmps39
  go_wp2_with fail
  go_ret
  exact ⟨rfl, fX⟩
set_option maxHeartbeats 1000000 in
set_option maxRecDepth 10000 in
theorem make_5 (a t j c n : Int) (ua : Option Addr) (un uc : Nat) (lo : Bool) (sa : Option Addr) (sn sc : Nat) (w : World) :
    Calls Tryz.prog 39 #[.int .i64 5, .int .i64 a, .int .i64 t, .int .i64 j, .int .i64 c, .int .i64 n, .slice ua un uc, .bool lo, .slice sa sn sc] w fun e w' => e = .returned (mCollect t j) ∧ Fr noB w w' := by
  unfold mCollect
  have fX := (Fr.refl noB w).alloc (.cells #[.int .i64 a, .int .i64 t, .int .i64 j, .int .i64 n, .slice ua un uc, .bool lo] 70)
  go_enter Tryz.func39, Tryz.ntmps39
  go_wp2_with fail
  go_ret
  exact ⟨rfl, fX⟩
set_option maxHeartbeats 1000000 in
set_option maxRecDepth 10000 in
theorem make_6 (a t j c n : Int) (ua : Option Addr) (un uc : Nat) (lo : Bool) (sa : Option Addr) (sn sc : Nat) (w : World) :
    Calls Tryz.prog 39 #[.int .i64 6, .int .i64 a, .int .i64 t, .int .i64 j, .int .i64 c, .int .i64 n, .slice ua un uc, .bool lo, .slice sa sn sc] w fun e w' => e = .returned (mChunk a t j c n (.slice sa sn sc)) ∧ Fr noB w w' := by
  unfold mChunk
  have fX := (Fr.refl noB w).alloc (.cells #[.int .i64 a, .int .i64 t, .int .i64 j, .int .i64 n, .slice ua un uc, .bool lo] 70)
  go_enter Tryz.func39, Tryz.ntmps39
  go_wp2_with fail
  go_ret
  exact ⟨rfl, fX⟩
set_option maxHeartbeats 1000000 in
set_option maxRecDepth 10000 in
theorem make_8 (a t j c n : Int) (ua : Option Addr) (un uc : Nat) (lo : Bool) (sa : Option Addr) (sn sc : Nat) (w : World) :
    Calls Tryz.prog 39 #[.int .i64 8, .int .i64 a, .int .i64 t, .int .i64 j, .int .i64 c, .int .i64 n, .slice ua un uc, .bool lo, .slice sa sn sc] w fun e w' => e = .returned (mStored t j) ∧ Fr noB w w' := by
  unfold mStored
  have fX := (Fr.refl noB w).alloc (.cells #[.int .i64 a, .int .i64 t, .int .i64 j, .int .i64 n, .slice ua un uc, .bool lo] 70)
  go_enter Tryz.func39, Tryz.ntmps39
  go_wp2_with fail
  go_ret
  exact ⟨rfl, fX⟩
set_option maxHeartbeats 1000000 in
set_option maxRecDepth 10000 in
theorem make_9 (a t j c n : Int) (ua : Option Addr) (un uc : Nat) (lo : Bool) (sa : Option Addr) (sn sc : Nat) (w : World) :
    Calls Tryz.prog 39 #[.int .i64 9, .int .i64 a, .int .i64 t, .int .i64 j, .int .i64 c, .int .i64 n, .slice ua un uc, .bool lo, .slice sa sn sc] w fun e w' => e = .returned (mUnpin t j) ∧ Fr noB w w' := by
  unfold mUnpin
  have fX := (Fr.refl noB w).alloc (.cells #[.int .i64 a, .int .i64 t, .int .i64 j, .int .i64 n, .slice ua un uc, .bool lo] 70)
  go_enter Tryz.func39, Tryz.ntmps39
  go_wp2_with fail
  go_ret
  exact ⟨rfl, fX⟩
set_option maxHeartbeats 1000000 in
set_option maxRecDepth 10000 in
theorem make_10 (a t j c n : Int) (ua : Option Addr) (un uc : Nat) (lo : Bool) (sa : Option Addr) (sn sc : Nat) (w : World) :
    Calls Tryz.prog 39 #[.int .i64 10, .int .i64 a, .int .i64 t, .int .i64 j, .int .i64 c, .int .i64 n, .slice ua un uc, .bool lo, .slice sa sn sc] w fun e w' => e = .returned (mUnpinned a t j) ∧ Fr noB w w' := by
  unfold mUnpinned
  have fX := (Fr.refl noB w).alloc (.cells #[.int .i64 a, .int .i64 t, .int .i64 j, .int .i64 n, .slice ua un uc, .bool lo] 70)
  go_enter Tryz.func39, Tryz.ntmps39
  go_wp2_with fail
  go_ret
  exact ⟨rfl, fX⟩
set_option maxHeartbeats 1000000 in
set_option maxRecDepth 10000 in
theorem make_0 (k a t j c n : Int) (ua : Option Addr) (un uc : Nat) (lo : Bool) (sa : Option Addr) (sn sc : Nat) (w : World) (h : k < 1 ∨ 10 < k) :
    Calls Tryz.prog 39 #[.int .i64 k, .int .i64 a, .int .i64 t, .int .i64 j, .int .i64 c, .int .i64 n, .slice ua un uc, .bool lo, .slice sa sn sc] w fun e w' => e = .returned .nilIface ∧ Fr noB w w' := by
  have h1 : (k == 1) = false := beq_eq_false_iff_ne.2 (by omega)
  have h2 : (k == 2) = false := beq_eq_false_iff_ne.2 (by omega)
  have h3 : (k == 3) = false := beq_eq_false_iff_ne.2 (by omega)
  have h4 : (k == 4) = false := beq_eq_false_iff_ne.2 (by omega)
  have h5 : (k == 5) = false := beq_eq_false_iff_ne.2 (by omega)
  have h6 : (k == 6) = false := beq_eq_false_iff_ne.2 (by omega)
  have h7 : (k == 7) = false := beq_eq_false_iff_ne.2 (by omega)
  have h8 : (k == 8) = false := beq_eq_false_iff_ne.2 (by omega)
  have h9 : (k == 9) = false := beq_eq_false_iff_ne.2 (by omega)
  have h10 : (k == 10) = false := beq_eq_false_iff_ne.2 (by omega)
  have fX := (Fr.refl noB w).alloc (.cells #[.int .i64 a, .int .i64 t, .int .i64 j, .int .i64 n, .slice ua un uc, .bool lo] 70)
  go_enter Tryz.func39, Tryz.ntmps39
  go_wp2_with fail
  go_ret
  exact ⟨rfl, fX⟩
set_option maxHeartbeats 1000000 in
set_option maxRecDepth 10000 in
theorem make_7 (a t j c n : Int) (ua : Option Addr) (un uc : Nat) (lo : Bool) (sa : Option Addr) (sn sc : Nat) (w : World) :
    Calls Tryz.prog 39 #[.int .i64 7, .int .i64 a, .int .i64 t, .int .i64 j, .int .i64 c, .int .i64 n, .slice ua un uc, .bool lo, .slice sa sn sc] w fun e w' => ∃ g, e = .returned (mManifest t j c (.slice (some ⟨g, 0, none⟩) 2 2)) ∧ w.heap.size ≤ g ∧
      Blk w' g 70 [.int .i64 a, .int .i64 t, .int .i64 j, .int .i64 n, .slice ua un uc, .bool lo, .int .i64 (wrap64 (a + 1)), .int .i64 t, .int .i64 j, .int .i64 n, .slice ua un uc, .bool lo] ∧ Fr noB w w' := by
  unfold mManifest
  have fX := (Fr.refl noB w).alloc (.cells #[.int .i64 a, .int .i64 t, .int .i64 j, .int .i64 n, .slice ua un uc, .bool lo] 70)
  go_enter Tryz.func39, Tryz.ntmps39
  go_wp2_with fail
  go_ret
  refine ⟨w.heap.size + 1 + 1, rfl, by omega, ?_, ((fX.alloc _).alloc _)⟩
  have hb := Blk.new ((w.alloc (.cells #[.int .i64 a, .int .i64 t, .int .i64 j, .int .i64 n, .slice ua un uc, .bool lo] 70)).alloc (.cells #[.int .i64 (wrap64 (a + 1)), .int .i64 t, .int .i64 j, .int .i64 n, .slice ua un uc, .bool lo] 70)) 70 [.int .i64 a, .int .i64 t, .int .i64 j, .int .i64 n, .slice ua un uc, .bool lo, .int .i64 (wrap64 (a + 1)), .int .i64 t, .int .i64 j, .int .i64 n, .slice ua un uc, .bool lo]
  simp at hb
  exact hb
end Go.Proofs.YtdmhnoffejjpnaaGreatDoor
end
