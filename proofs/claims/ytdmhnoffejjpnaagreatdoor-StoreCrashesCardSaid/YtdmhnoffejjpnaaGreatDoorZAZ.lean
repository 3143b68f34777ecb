/-
  Record, with its manifest there.
-/
import Derived.Test.YtdmhnoffejjpnaaGreatDoorZAT
section
set_option linter.unusedVariables false
set_option linter.unusedSimpArgs false
set_option maxRecDepth 100000
set_option maxRecDepth 100000
namespace Go.Proofs.YtdmhnoffejjpnaaGreatDoor
open Go.RowKit Go Go.Maps Go.Lib

theorem OwnRU.fr {w w' : World} {B : Nat} {S : Nat → Prop} {U : List RU} (h : OwnRU w B U) (f : Fr S w w') (hS : ∀ u ∈ U, (∀ g, (Value.slice u.sa u.S.length u.sc).ownBlock = some g → ¬ S g) ∧ ∀ g, (Value.slice u.ca u.p.cr.length u.cc).ownBlock = some g → ¬ S g) : OwnRU w' B U :=
  fun u hu => ⟨ownsRow_fr (h u hu).1 f (hS u hu).1, ownsRow_fr (h u hu).2 f (hS u hu).2⟩
theorem OwnRU.frN {w w' : World} {B : Nat} {U : List RU} (h : OwnRU w B U) (f : Fr noB w w') : OwnRU w' B U := h.fr f (fun _ _ => ⟨fun _ _ q => q, fun _ _ q => q⟩)
/-- what is amid the loop: the record so far at block rb, k parts -/
structure RecI (w wr : World) (tr jb c : Int) (C : CH) (ps : List Pn) (cb rb k : Nat) (wh : Bool) (pa : Option Addr) (pc : Nat) (U : List RU) : Prop where
  ul : U.length = k
  up : U.map RU.pair = (ps.take k).map (pairOf tr C)
  al : (ps.take k).all (fun p => (partOf tr C p).isSome) = true
  hw : wh = wholeL ((ps.take k).map (pairOf tr C))
  b0 : Blk wr cb 63 [.int .i64 0, .int .i64 0, .int .i64 0, .bool false, .slice none 0 0]
  b1 : Blk wr rb 63 [.int .i64 tr, .int .i64 jb, .int .i64 c, .bool wh, .slice pa k pc]
  ow : wr.ownsRow w.heap.size 112 4 (.slice pa k pc) k (U.flatMap RU.cs)
  ou : OwnRU wr w.heap.size U
  fr : Fr noB w wr
theorem RecI.frN {w wr w' : World} {tr jb c : Int} {C : CH} {ps : List Pn} {cb rb k : Nat} {wh : Bool} {pa : Option Addr} {pc : Nat} {U : List RU} (h : RecI w wr tr jb c C ps cb rb k wh pa pc U) (f : Fr noB wr w') : RecI w w' tr jb c C ps cb rb k wh pa pc U :=
  ⟨h.ul, h.up, h.al, h.hw, f.blk h.b0 (fun q => q), f.blk h.b1 (fun q => q), ownsRow_fr h.ow f (fun _ _ q => q), h.ou.frN f, h.fr.seqN f⟩

theorem rec_set {w w' : World} {cb : Nat} {t : TypeId} {o0 o1 o2 o3 o4 : Value} (h : Blk w' cb t [o0, o1, o2, o3, o4]) (f : Fr noB w w') (hc : w.heap.size ≤ cb) (x0 x1 x2 x3 x4 : Value) :
    Blk (((((w'.setCell ⟨cb, 0, none⟩ x0).setCell ⟨cb, 1, none⟩ x1).setCell ⟨cb, 2, none⟩ x2).setCell ⟨cb, 3, none⟩ x3).setCell ⟨cb, 4, none⟩ x4) cb t [x0, x1, x2, x3, x4] ∧ Fr noB w (((((w'.setCell ⟨cb, 0, none⟩ x0).setCell ⟨cb, 1, none⟩ x1).setCell ⟨cb, 2, none⟩ x2).setCell ⟨cb, 3, none⟩ x3).setCell ⟨cb, 4, none⟩ x4) ∧ Fr (onlyB cb) w' (((((w'.setCell ⟨cb, 0, none⟩ x0).setCell ⟨cb, 1, none⟩ x1).setCell ⟨cb, 2, none⟩ x2).setCell ⟨cb, 3, none⟩ x3).setCell ⟨cb, 4, none⟩ x4) := by
  have := ((((h.set 0 x0).set 1 x1).set 2 x2).set 3 x3).set 4 x4
  simp only [List.set_cons_zero, List.set_cons_succ] at this
  exact ⟨this, ((((f.storeNew hc).storeNew hc).storeNew hc).storeNew hc).storeNew hc, (((((Fr.refl _ _).store (onlyB_self cb)).store (onlyB_self cb)).store (onlyB_self cb)).store (onlyB_self cb)).store (onlyB_self cb)⟩
theorem rec_next {w w8 w9 : World} {tr jb c : Int} {C : CH} {ps : List Pn} {cb rb k : Nat} {wh : Bool} {pa a9 : Option Addr} {pc c9 : Nat} {U : List RU} (I : RecI w w8 tr jb c C ps cb rb k wh pa pc U) (u : RU)
    (hs : ps[k]? = some u.p) (hR : partOf tr C u.p = some u.S) (hou : OwnRU w8 w.heap.size [u]) (o9 : w9.ownsRow w.heap.size 112 4 (.slice a9 (k + 1) c9) (k + 1) (U.flatMap RU.cs ++ u.cs)) (f9 : Fr (rowB (.slice pa k pc)) w8 w9) (hrb : cb ≠ rb) (hlo : w.heap.size ≤ rb) :
    Blk (w9.setCell ⟨rb, 4, none⟩ (.slice a9 (k + 1) c9)) rb 63 [.int .i64 tr, .int .i64 jb, .int .i64 c, .bool wh, .slice a9 (k + 1) c9] ∧
    ∀ x : Bool, x = (wh && !u.p.lo) → RecI w ((w9.setCell ⟨rb, 4, none⟩ (.slice a9 (k + 1) c9)).setCell ⟨rb, 3, none⟩ (.bool x)) tr jb c C ps cb rb (k + 1) x a9 c9 (U ++ [u]) := by
  have b19 := f9.blk I.b1 (fun q => row_not I.ow I.b1 (by decide) q)
  have b09 := f9.blk I.b0 (fun q => row_not I.ow I.b0 (by decide) q)
  have b110 := b19.set 4 (.slice a9 (k + 1) c9)
  simp only [List.set_cons_zero, List.set_cons_succ] at b110
  refine ⟨b110, fun x hx => ?_⟩
  have b111 := b110.set 3 (.bool x)
  simp only [List.set_cons_zero, List.set_cons_succ] at b111
  have s : Fr (onlyB rb) w9 ((w9.setCell ⟨rb, 4, none⟩ (.slice a9 (k + 1) c9)).setCell ⟨rb, 3, none⟩ (.bool x)) := ((Fr.refl _ _).store (onlyB_self rb)).store (onlyB_self rb)
  have ou9 : OwnRU w9 w.heap.size (U ++ [u]) := by
    intro y hy
    have hy8 : w8.ownsRow w.heap.size 118 3 (.slice y.sa y.S.length y.sc) y.S.length (y.S.flatMap spC) ∧ w8.ownsRow w.heap.size 3 1 (.slice y.ca y.p.cr.length y.cc) y.p.cr.length (y.p.cr.map (Value.int .i64)) := by
      rcases List.mem_append.1 hy with h | h
      · exact I.ou y h
      · exact hou y h
    exact ⟨ownsRow_fr hy8.1 f9 (own_apart hy8.1 I.ow (by decide)), ownsRow_fr hy8.2 f9 (own_apart hy8.2 I.ow (by decide))⟩
  have htk : ps.take (k + 1) = ps.take k ++ [u.p] := by rw [List.take_add_one, hs]; rfl
  refine ⟨by rw [List.length_append, I.ul]; rfl, ?_, ?_, ?_, s.blk b09 (fun q => hrb q), b111, ?_, ?_, ?_⟩
  · rw [htk, List.map_append, List.map_append, I.up]
    congr 1
    show [(u.p, u.S)] = [(u.p, (partOf tr C u.p).getD [])]
    rw [hR]; rfl
  · rw [htk, List.all_append, I.al]
    simp [hR]
  · rw [htk, List.map_append, hx, I.hw]
    unfold wholeL
    rw [List.all_append]
    simp [pairOf]
  · rw [List.flatMap_append]
    have : [u].flatMap RU.cs = u.cs := by simp
    rw [this]
    exact ownsRow_fr o9 s (fun g hg q => row_not o9 b19 (by decide) (by unfold onlyB at q; subst q; exact hg))
  · exact ou9.fr s (fun y hy => ⟨fun g hg q => row_not (ou9 y hy).1 b19 (by decide) (by unfold onlyB at q; subst q; exact hg), fun g hg q => row_not (ou9 y hy).2 b19 (by decide) (by unfold onlyB at q; subst q; exact hg)⟩)
  · exact ((I.fr.trans f9 (fun _ _ q => q) (fun i hi q => by have := (I.ow.lt i q).1; omega)).storeNew hlo).storeNew hlo
set_option maxHeartbeats 16000000 in
theorem record_some (p bm mb : Nat) (D : Nat → Prop) (A : AP) (c : Int) (ps : List Pn) (w : World) (h : AsmP w p bm mb D A) (hman : A.man = some (c, ps)) :
    Calls Tryz.prog 89 #[.pointer (some ⟨p, 0, none⟩)] w fun e w' => RecPost e w w' A.tr A.jb ((recL A.tr A.C ps).map fun L => (c, L)) := by
  obtain ⟨⟨v, hmb, hps⟩, _, _, h4, hpn⟩ := h.man c ps hman
  obtain ⟨a, cc, rfl, hl1, hl2, hl3⟩ := hps
  obtain ⟨N, hN⟩ : ∃ N, ps.length = N := ⟨_, rfl⟩
  rw [hN] at h4 hl1 hmb
  have b0 := Blk.new w 63 [.int .i64 0, .int .i64 0, .int .i64 0, .bool false, .slice none 0 0]
  have f0 : Fr noB w (w.alloc (.cells #[.int .i64 0, .int .i64 0, .int .i64 0, .bool false, .slice none 0 0] 63)) := (Fr.refl _ _).alloc _
  have hget : ∀ k, k < N → ∃ m, ps[k]? = some m := fun k hk => ⟨ps[k]'(by omega), List.getElem?_eq_getElem (by omega)⟩
  have hc2 : ∀ w', Fr noB w w' → w'.cell? ⟨p, 2, none⟩ = some (.pointer (some ⟨mb, 0, none⟩)) ∧ w'.cell? ⟨p, 0, none⟩ = some (.int .i64 A.tr) ∧ w'.cell? ⟨p, 1, none⟩ = some (.int .i64 A.jb) ∧ w'.cell? ⟨mb, 2, none⟩ = some (.int .i64 c) ∧ w'.cell? ⟨mb, 3, none⟩ = some (.slice a N cc) := fun w' f => by
    refine ⟨?_, (h.frN f).blk.cell 0, (h.frN f).blk.cell 1, (f.blk hmb (fun q => q)).cell 2, (f.blk hmb (fun q => q)).cell 3⟩
    have := (h.frN f).blk.cell 2
    rw [show A.mp mb = some ⟨mb, 0, none⟩ by unfold AP.mp; rw [hman]] at this
    exact this
  obtain ⟨cb, hcb⟩ : ∃ cb, w.heap.size = cb := ⟨_, rfl⟩
  have hs0 : (w.alloc (.cells #[.int .i64 0, .int .i64 0, .int .i64 0, .bool false, .slice none 0 0] 63)).heap.size = cb + 1 := by rw [size_alloc, hcb]
  rw [hcb] at b0
  obtain ⟨i0, hi0, hz0, hz1, hz2⟩ := info_parts infoPart
  replace hN := Lib.hid hN
  replace hget := Lib.hid hget
  replace hpn := Lib.hid hpn
  replace hl3 := Lib.hid hl3
  have hc2h := Lib.hid hc2
  obtain ⟨cp0, _⟩ := hc2 _ f0
  replace h := Lib.hid h
  clear hmb hman hl2 hc2
  go_enter Tryz.func89, Tryz.ntmps89
  go_upto_region 3 with fail
  try rw [hcb]
  replace hcb := Lib.hid hcb
  generalize (w.alloc (.cells #[.int .i64 0, .int .i64 0, .int .i64 0, .bool false, .slice none 0 0] 63)) = w0 at *
  have hS : ∀ w', Fr noB w0 w' → w'.cell? ⟨p, 2, none⟩ = some (.pointer (some ⟨mb, 0, none⟩)) ∧ w'.cell? ⟨p, 0, none⟩ = some (.int .i64 A.tr) ∧ w'.cell? ⟨p, 1, none⟩ = some (.int .i64 A.jb) ∧ w'.cell? ⟨mb, 2, none⟩ = some (.int .i64 c) := fun w' f => ⟨(hc2h.out _ (f0.seqN f)).1, (hc2h.out _ (f0.seqN f)).2.1, (hc2h.out _ (f0.seqN f)).2.2.1, (hc2h.out _ (f0.seqN f)).2.2.2.1⟩
  replace hS := Lib.hid hS
  replace b0 := Lib.hid b0
  replace f0 := Lib.hid f0
  replace hs0 := Lib.hid hs0
  clear cp0
  go_region_held3 (fun w' => w'.cell? ⟨p, 2, none⟩ = some (.pointer (some ⟨mb, 0, none⟩)) ∧ w'.cell? ⟨p, 0, none⟩ = some (.int .i64 A.tr) ∧ w'.cell? ⟨p, 1, none⟩ = some (.int .i64 A.jb) ∧ w'.cell? ⟨mb, 2, none⟩ = some (.int .i64 c))
    (first | exact hS.out _ ((Fr.refl noB _).drewN 1) | exact hS.out _ (((Fr.refl noB _).drewN 1).alloc _) | fail)
    (fail)
  have f1 : Fr noB w0 (w0.alloc (.cells #[.int .i64 A.tr, .int .i64 A.jb, .int .i64 c, .bool true, .slice none 0 0] 63)).drew := ((Fr.refl _ _).alloc _).drew
  have b1 : Blk (w0.alloc (.cells #[.int .i64 A.tr, .int .i64 A.jb, .int .i64 c, .bool true, .slice none 0 0] 63)).drew (cb + 1) 63 [.int .i64 A.tr, .int .i64 A.jb, .int .i64 c, .bool true, .slice none 0 0] := by
    have := Blk.new w0 63 [.int .i64 A.tr, .int .i64 A.jb, .int .i64 c, .bool true, .slice none 0 0]
    rw [hs0.out] at this
    exact this.drew
  rw [hs0.out]
  generalize (w0.alloc (.cells #[.int .i64 A.tr, .int .i64 A.jb, .int .i64 c, .bool true, .slice none 0 0] 63)).drew = w1 at *
  have b01 := f1.blk b0.out (fun q => q)
  have f01 := f0.out.seqN f1
  have hI : Hid (RecI w w1 A.tr A.jb c A.C ps cb (cb + 1) 0 true none 0 []) := Lib.hid ⟨rfl, rfl, rfl, rfl, b01, b1, ⟨rfl, Or.inl ⟨rfl, rfl⟩⟩, fun u hu => (by cases hu), f01⟩
  obtain ⟨m2, _, _, _, m3⟩ := hc2h.out w1 f01
  clear b0 b1 b01 f1 hS f0 hs0 f01
  go_wp2_with fail
  go_loopg [43] N (fun gk i wr => ∃ (k : Nat) (wh : Bool) (pa : Option Addr) (pc : Nat) (U : List RU), k + gk = N ∧ i = .int .i64 k ∧ Hid (RecI w wr A.tr A.jb c A.C ps cb (cb + 1) k wh pa pc U))
  case atStart => exact ⟨0, true, none, 0, [], Nat.zero_add _, rfl, hI⟩
  case round =>
    clear m2 m3 hI
    obtain ⟨k, wh, pa, pc, U, hk, rfl, hI⟩ := hrel
    by_cases hlt : k < N
    · obtain ⟨q, hs⟩ := hget.out k hlt
      obtain ⟨g, ua, uc, rfl, _, hc, hri, _⟩ := hl3.out k q hs
      have fr := hI.out.fr
      have hwr : Hid (w.heap.size ≤ wr.heap.size ∧ cb + 1 < wr.heap.size) := Lib.hid ⟨fr.size, hI.out.b1.lt⟩
      have c0 : wr.cell? ⟨g, k * 6, none⟩ = some (.int .i64 q.a) := fr.cell (hc 0 _ rfl) (fun q => q)
      have c1 : wr.cell? ⟨g, k * 6 + 1, none⟩ = some (.int .i64 q.t) := fr.cell (hc 1 _ rfl) (fun q => q)
      have c2 : wr.cell? ⟨g, k * 6 + 2, none⟩ = some (.int .i64 q.j) := fr.cell (hc 2 _ rfl) (fun q => q)
      have c3 : wr.cell? ⟨g, k * 6 + 3, none⟩ = some (.int .i64 q.n) := fr.cell (hc 3 _ rfl) (fun q => q)
      have c4 : wr.cell? ⟨g, k * 6 + 4, none⟩ = some (.slice ua q.cr.length uc) := fr.cell (hc 4 _ rfl) (fun q => q)
      have c5 : wr.cell? ⟨g, k * 6 + 5, none⟩ = some (.bool q.lo) := fr.cell (hc 5 _ rfl) (fun q => q)
      have hb1 : (k : Int) < N := by omega
      have hmeas : N - (k + 1) < gk := by omega
      have hkn2 : k + 1 + (N - (k + 1)) = N := by omega
      have hcr4 : q.cr.length ≤ 4 := (pn_in (hpn.out q (List.mem_of_getElem? hs))).2.2.2.2
      have fA : Fr noB wr (wr.alloc (.cells #[.int .i64 q.a, .int .i64 q.t, .int .i64 q.j, .int .i64 q.n, .slice ua q.cr.length uc, .bool q.lo] 70)) := (Fr.refl _ _).alloc _
      have bA := Blk.new wr 70 [.int .i64 q.a, .int .i64 q.t, .int .i64 q.j, .int .i64 q.n, .slice ua q.cr.length uc, .bool q.lo]
      have hsp := spans_any p bm mb D A q ua q.cr.length uc _ ((h.out.frN fr).frN fA) (hpn.out q (List.mem_of_getElem? hs))
      obtain ⟨R, hR⟩ : ∃ R, partOf A.tr A.C q = R := ⟨_, rfl⟩
      rw [hR] at hsp
      obtain ⟨cl, hcl⟩ : ∃ cl, q.cr.length = cl := ⟨_, rfl⟩
      obtain ⟨qa, hqa⟩ : ∃ x, q.a = x := ⟨_, rfl⟩
      obtain ⟨qt, hqt⟩ : ∃ x, q.t = x := ⟨_, rfl⟩
      obtain ⟨qj, hqj⟩ : ∃ x, q.j = x := ⟨_, rfl⟩
      obtain ⟨qn, hqn⟩ : ∃ x, q.n = x := ⟨_, rfl⟩
      obtain ⟨ql, hql⟩ : ∃ x, q.lo = x := ⟨_, rfl⟩
      obtain ⟨cr, hcre⟩ : ∃ x, q.cr = x := ⟨_, rfl⟩
      have hri2 := hri.frN (fr.seqN fA)
      rw [hcl, hqa, hqt, hqj, hqn, hql] at hsp
      rw [hcl, hqa, hqt, hqj, hqn, hql] at fA bA hri2
      rw [hcl] at c4
      rw [hqa] at c0
      rw [hqt] at c1
      rw [hqj] at c2
      rw [hqn] at c3
      rw [hql] at c5
      rw [hcre] at hri2 hcl
      replace hsp := Lib.hid hsp
      replace hs := Lib.hid hs
      replace hR := Lib.hid hR
      replace hmeas := Lib.hid hmeas
      replace hkn2 := Lib.hid hkn2
      replace fA := Lib.hid fA
      replace bA := Lib.hid bA
      replace hcl := Lib.hid hcl
      replace hqa := Lib.hid hqa
      replace hql := Lib.hid hql
      replace hcre := Lib.hid hcre
      replace hri2 := Lib.hid hri2
      replace hcr4 := Lib.hid hcr4
      clear hk hc hri hqt hqj hqn fr
      go_wp2_with fail
      go_fit hsp.out
      rintro e w1 ⟨v1, rfl, o1, n1, f1⟩
      have g1 := fA.out.seqN f1
      have hI1 := hI.out.frN g1
      have bA1 := f1.blk bA.out (fun q => q)
      obtain ⟨pb, hpb⟩ : ∃ pb, wr.heap.size = pb := ⟨_, rfl⟩
      rw [hpb] at bA1
      try rw [hpb]
      replace hpb := Lib.hid hpb
      have hri1 := hri2.out.frN f1
      clear c0 c1 c2 c3 c4 c5 hsp fA bA f1 hI hri2
      cases R with
      | none =>
        have hnone : recL A.tr A.C ps = none := recL_no (List.mem_of_getElem? hs.out) hR.out
        replace hnone := Lib.hid hnone
        have k0 := hI1.b0.cell 0
        have k1 := hI1.b0.cell 1
        have k2 := hI1.b0.cell 2
        have k3 := hI1.b0.cell 3
        have k4 := hI1.b0.cell 4
        have z0 := hI1.b0.frozen 0
        have z1 := hI1.b0.frozen 1
        have z2 := hI1.b0.frozen 2
        have z3 := hI1.b0.frozen 3
        have z4 := hI1.b0.frozen 4
        have hb := Lib.hid hI1.b0
        have hf1 := Lib.hid hI1.fr
        clear hI1 bA1 hri1 o1 n1 g1
        go_wp2_with fail
        obtain ⟨hb', hf', _⟩ := rec_set hb.out hf1.out (by have := hcb.out; omega) (.int .i64 0) (.int .i64 0) (.int .i64 0) (.bool false) (.slice none 0 0)
        refine bodyPost_ret (rec_ret rfl _ _ (g := cb) (by rfl) hb' rfl) rfl ?_
        exact ⟨hf', fun _ => rfl, fun c L e => (by rw [hnone.out] at e; cases e)⟩
      | some S =>
        have o1' := o1 S rfl
        obtain ⟨sa, sc, rfl⟩ := ownsRow_slice o1'
        have o1w : w1.ownsRow w.heap.size 118 3 (.slice sa S.length sc) S.length (S.flatMap spC) := ownsRow_mono o1' (by have := hwr.out.1; simp; omega)
        obtain ⟨sn, hsn⟩ : ∃ sn, S.length = sn := ⟨_, rfl⟩
        have hcrl : ∀ w', Fr noB w1 w' → Calls Tryz.prog 113 #[.slice ua cl uc] w' fun e w'' => ∃ ta tc, e = .returned (.slice ta cl tc) ∧ w''.ownsRow w'.heap.size 3 1 (.slice ta cl tc) cl (cr.map (Value.int .i64)) ∧ Fr noB w' w'' := fun w' f => by
          have := cloneo_any (.slice ua cl uc) cr w' (hri1.frN f) (by have := hcr4.out; have := hcre.out; rw [← hcre.out]; omega)
          rw [hcl.out] at this
          exact this
        have hS8 : ∀ w', Fr noB w1 w' → w'.cell? ⟨pb, 0, none⟩ = some (.int .i64 qa) ∧ w'.cell? ⟨pb, 4, none⟩ = some (.slice ua cl uc) ∧ w'.cell? ⟨pb, 5, none⟩ = some (.bool ql) := fun w' f => ⟨(f.blk bA1 (fun q => q)).cell 0, (f.blk bA1 (fun q => q)).cell 4, (f.blk bA1 (fun q => q)).cell 5⟩
        have ka : (w1.drewN 1).cell? ⟨cb + 1, 4, none⟩ = some (.slice pa k pc) := hI1.b1.cell 4
        have kb : w1.drew.cell? ⟨cb + 1, 4, none⟩ = some (.slice pa k pc) := hI1.b1.cell 4
        have hk4 : k < 4 := by omega
        have hrp : cb + 1 < pb := by have := hpb.out; have := hwr.out.2; omega
        rw [hsn]
        replace hsn := Lib.hid hsn
        replace hcrl := Lib.hid hcrl
        replace hS8 := Lib.hid hS8
        replace hI1 := Lib.hid hI1
        replace bA1 := Lib.hid bA1
        replace o1w := Lib.hid o1w
        replace hk4 := Lib.hid hk4
        replace hrp := Lib.hid hrp
        clear o1 o1' n1 g1 hri1
        go_upto_region 10 with fail
        refine wp_region_held_drew (S := (fun w' => w'.cell? ⟨pb, 0, none⟩ = some (.int .i64 qa) ∧ w'.cell? ⟨pb, 4, none⟩ = some (.slice ua cl uc) ∧ w'.cell? ⟨pb, 5, none⟩ = some (.bool ql))) (by kernel_rfl) (hS8.out _ ((Fr.refl noB _).drewN 1)) (fun hHeld => ?_)
        (refine wpAnyH_take (i := 0) (oi := ?_) (v := ?_) ?_ (by kernel_rfl) (by kernel_rfl) (by kernel_rfl) ?_ ?_ (by assumption) ?_; rotate_left 2; (focus ((simp only [List.getElem?_toArray, List.getElem?_cons_succ, List.getElem?_cons_zero]); try rfl)); (focus (exact (fun _ _ _ h => h))); (focus (refine Or.inl ⟨by rfl, ?_⟩; intro w hSw; (try dsimp only at hSw); go_simp; try with_reducible rfl)); try simp only [Act.put, List.setIfInBounds_toArray, List.set_cons_zero, List.set_cons_succ])
        (refine wpAnyH_take (i := 2) (oi := ?_) (v := ?_) ?_ (by kernel_rfl) (by kernel_rfl) (by kernel_rfl) ?_ ?_ (by assumption) ?_; rotate_left 2; (focus ((simp only [List.getElem?_toArray, List.getElem?_cons_succ, List.getElem?_cons_zero]); try rfl)); (focus (exact (fun _ _ _ h => h))); (focus (refine Or.inl ⟨by rfl, ?_⟩; intro w hSw; (try dsimp only at hSw); go_simp; try with_reducible rfl)); try simp only [Act.put, List.setIfInBounds_toArray, List.set_cons_zero, List.set_cons_succ])
        (refine wpAnyH_take (i := 3) (oi := ?_) (v := ?_) ?_ (by kernel_rfl) (by kernel_rfl) (by kernel_rfl) ?_ ?_ (by assumption) ?_; rotate_left 2; (focus ((simp only [List.getElem?_toArray, List.getElem?_cons_succ, List.getElem?_cons_zero]); try rfl)); (focus (exact (fun _ _ _ h => h))); (focus (refine Or.inl ⟨by rfl, ?_⟩; intro w hSw; (try dsimp only at hSw); go_simp; try with_reducible rfl)); try simp only [Act.put, List.setIfInBounds_toArray, List.set_cons_zero, List.set_cons_succ])
        (refine wpAnyH_take (i := 4) (oi := ?_) (v := ?_) ?_ (by kernel_rfl) (by kernel_rfl) (by kernel_rfl) ?_ ?_ (by assumption) ?_; rotate_left 2; (focus ((simp only [List.getElem?_toArray, List.getElem?_cons_succ, List.getElem?_cons_zero]); try rfl)); (focus (exact (fun _ _ _ h => h))); (focus (refine Or.inl ⟨by rfl, ?_⟩; intro w hSw; (try dsimp only at hSw); go_simp; try with_reducible rfl)); try simp only [Act.put, List.setIfInBounds_toArray, List.set_cons_zero, List.set_cons_succ])
        (refine wpAnyH_take (i := 5) (oi := ?_) (v := ?_) ?_ (by kernel_rfl) (by kernel_rfl) (by kernel_rfl) ?_ ?_ (by assumption) ?_; rotate_left 2; (focus ((simp only [List.getElem?_toArray, List.getElem?_cons_succ, List.getElem?_cons_zero]); try rfl)); (focus (exact (fun _ _ _ h => h))); (focus (refine Or.inl ⟨by rfl, ?_⟩; intro w hSw; (try dsimp only at hSw); go_simp; try with_reducible rfl)); try simp only [Act.put, List.setIfInBounds_toArray, List.set_cons_zero, List.set_cons_succ])
        (refine wpAnyH_take (i := 6) (oi := ?_) (v := ?_) ?_ (by kernel_rfl) (by kernel_rfl) (by kernel_rfl) ?_ ?_ (by assumption) ?_; rotate_left 2; (focus ((simp only [List.getElem?_toArray, List.getElem?_cons_succ, List.getElem?_cons_zero]); try rfl)); (focus (exact (fun _ _ _ h => h))); (focus (refine Or.inl ⟨by rfl, ?_⟩; intro w hSw; (try dsimp only at hSw); go_simp; try with_reducible rfl)); try simp only [Act.put, List.setIfInBounds_toArray, List.set_cons_zero, List.set_cons_succ])
        (refine wpAnyH_take (i := 8) (oi := ?_) (v := ?_) ?_ (by kernel_rfl) (by kernel_rfl) (by kernel_rfl) ?_ ?_ (by assumption) ?_; rotate_left 2; (focus ((simp only [List.getElem?_toArray, List.getElem?_cons_succ, List.getElem?_cons_zero]); try rfl)); (focus (exact (fun _ _ _ h => h))); (focus (refine Or.inl ⟨by rfl, ?_⟩; intro w hSw; (try dsimp only at hSw); go_simp; try with_reducible rfl)); try simp only [Act.put, List.setIfInBounds_toArray, List.set_cons_zero, List.set_cons_succ])
        (refine wpAnyH_take (i := 9) (oi := ?_) (v := ?_) ?_ (by kernel_rfl) (by kernel_rfl) (by kernel_rfl) ?_ ?_ (by assumption) ?_; rotate_left 2; (focus ((simp only [List.getElem?_toArray, List.getElem?_cons_succ, List.getElem?_cons_zero]); try rfl)); (focus (exact (fun _ _ _ h => h))); (focus (refine Or.inl ⟨by rfl, ?_⟩; intro w hSw; (try dsimp only at hSw); go_simp; try with_reducible rfl)); try simp only [Act.put, List.setIfInBounds_toArray, List.set_cons_zero, List.set_cons_succ])
        (refine wpAnyH_ready (rs := [1, 7]) (by kernel_rfl) (by simp) (AllReadyH.cons (o := ?_) ?_ (fun K hK => ?_) (AllReadyH.cons (o := ?_) ?_ (fun K hK => ?_) AllReadyH.nil)); rotate_left 1; (focus ((simp only [List.getElem?_toArray, List.getElem?_cons_succ, List.getElem?_cons_zero]); try rfl)); rotate_left 2; (focus ((simp only [List.getElem?_toArray, List.getElem?_cons_succ, List.getElem?_cons_zero]); try rfl)); rotate_left 1)
        · go_simp
          refine hK.out _ _ (hS8.out _ ((Fr.refl noB _).drewN 1)) (fun hHeld => ?_)
          clear hK K
          try simp only [Act.put, List.setIfInBounds_toArray, List.set_cons_zero, List.set_cons_succ]
          (refine wpAnyH_ready (rs := [7]) (by kernel_rfl) (by simp) (AllReadyH.cons (o := ?_) ?_ (fun K hK => ?_) AllReadyH.nil); rotate_left 1; (focus ((simp only [List.getElem?_toArray, List.getElem?_cons_succ, List.getElem?_cons_zero]); try rfl)))
          go_simp
          (go_at_call 113; refine (hcrl.out _ ((Fr.refl noB _).drewN 1)).mono ?_; rintro e w7 ⟨ta, tc, rfl, o7, z70⟩; have z7 := ((Fr.refl noB w1).drewN 1).seqN z70; have z8 := z7.alloc (.cells #[.int .i64 qa, .slice sa sn sc, .slice ta cl tc, .bool ql] 112); have I8 := hI1.out.frN z8; have k47 : w7.cell? ⟨cb + 1, 4, none⟩ = some (.slice pa k pc) := (hI1.out.frN z7).b1.cell 4; have k48 : (w7.alloc (.cells #[.int .i64 qa, .slice sa sn sc, .slice ta cl tc, .bool ql] 112)).cell? ⟨cb + 1, 4, none⟩ = some (.slice pa k pc) := I8.b1.cell 4; have bA8 := z8.blk bA1.out (fun q => q); have cn8 := news_at w7 112 [.int .i64 qa, .slice sa sn sc, .slice ta cl tc, .bool ql]; have hw8 : w.heap.size ≤ (w7.alloc (.cells #[.int .i64 qa, .slice sa sn sc, .slice ta cl tc, .bool ql] 112)).heap.size := I8.fr.size; have hk48 := hk4.out; replace o7 := Lib.hid o7)
          go_wp2_with fail
          refine hK.out _ _ (hS8.out _ z7) (fun hHeld => ?_)
          clear hK K
          try simp only [Act.put, List.setIfInBounds_toArray, List.set_cons_zero, List.set_cons_succ]
          (refine wpAnyH_take (i := 10) (oi := ?_) (v := ?_) ?_ (by kernel_rfl) (by kernel_rfl) (by kernel_rfl) ?_ ?_ (by assumption) ?_; rotate_left 2; (focus ((simp only [List.getElem?_toArray, List.getElem?_cons_succ, List.getElem?_cons_zero]); try rfl)); (focus (exact (fun _ _ _ h => h))); (focus (refine Or.inl ⟨by rfl, ?_⟩; intro w hSw; (try dsimp only at hSw); go_simp; try with_reducible rfl)); try simp only [Act.put, List.setIfInBounds_toArray, List.set_cons_zero, List.set_cons_succ])
          (refine wpAnyH_ready (rs := [11]) (by kernel_rfl) (by simp) (AllReadyH.cons (o := ?_) ?_ (fun K hK => ?_) AllReadyH.nil); rotate_left 1; (focus ((simp only [List.getElem?_toArray, List.getElem?_cons_succ, List.getElem?_cons_zero]); try rfl)))
          go_simp
          refine hK.out _ _ (hS8.out _ z8) (fun hHeld => ?_)
          clear hK K
          try simp only [Act.put, List.setIfInBounds_toArray, List.set_cons_zero, List.set_cons_succ]
          (refine wpAnyH_ready (rs := [12]) (by kernel_rfl) (by simp) (AllReadyH.cons (o := ?_) ?_ (fun K hK => ?_) AllReadyH.nil); rotate_left 1; (focus ((simp only [List.getElem?_toArray, List.getElem?_cons_succ, List.getElem?_cons_zero]); try rfl)))
          (rw [if_pos (by rfl)]; refine (wp_append_at _ (.tmp 57) (.tmp 67) 61 rfl w.heap.size 112 i0 _ 4 64 Tryz.underlying61 hi0 hz0 hz1 hz2 rfl (by decide) (.slice pa k pc) k (U.flatMap RU.cs) (by simp [Act.eval, Act.put]) I8.ow ⟨w7.heap.size, 0, none⟩ 1 1 [.int .i64 qa, .slice sa sn sc, .slice ta cl tc, .bool ql] (by simp [Act.eval, Act.put]) rfl cn8 (by intro x hx; simp only [List.mem_cons, List.not_mem_nil, or_false] at hx; rcases hx with rfl | rfl | rfl | rfl <;> rfl) (by unfold maxLen; omega) (by omega) hw8 ?_); intro v9 w9 o9 gr9 mv9; obtain ⟨a9, c9, rfl⟩ := ownsRow_slice o9; have f9 : Fr (rowB (.slice pa k pc)) (w7.alloc (.cells #[.int .i64 qa, .slice sa sn sc, .slice ta cl tc, .bool ql] 112)) w9 := (Fr.refl _ _).grown gr9 (fun k hk _ => hk); have b19 := f9.blk I8.b1 (fun q => row_not I8.ow I8.b1 (by decide) q); have bp9 := f9.blk bA8 (fun q => row_not I8.ow bA8 (by decide) q); have hz9 : w9.cell? ⟨pb, 0, none⟩ = some (.int .i64 qa) ∧ w9.cell? ⟨pb, 4, none⟩ = some (.slice ua cl uc) ∧ w9.cell? ⟨pb, 5, none⟩ = some (.bool ql) := ⟨bp9.cell 0, bp9.cell 4, bp9.cell 5⟩; have zf9 := b19.frozen 4; have k49 : w9.cell? ⟨cb + 1, 4, none⟩ = some (.slice pa k pc) := b19.cell 4; have s10 : Fr (onlyB (cb + 1)) w9 (w9.setCell ⟨cb + 1, 4, none⟩ (.slice a9 (k + 1) c9)) := (Fr.refl _ _).store (onlyB_self _); have bp10 := s10.blk bp9 (fun q => by unfold onlyB at q; have := hrp.out; omega); have hz10 : (w9.setCell ⟨cb + 1, 4, none⟩ (.slice a9 (k + 1) c9)).cell? ⟨pb, 0, none⟩ = some (.int .i64 qa) ∧ (w9.setCell ⟨cb + 1, 4, none⟩ (.slice a9 (k + 1) c9)).cell? ⟨pb, 4, none⟩ = some (.slice ua cl uc) ∧ (w9.setCell ⟨cb + 1, 4, none⟩ (.slice a9 (k + 1) c9)).cell? ⟨pb, 5, none⟩ = some (.bool ql) := ⟨bp10.cell 0, bp10.cell 4, bp10.cell 5⟩; replace bp10 := Lib.hid bp10; replace o9 := Lib.hid o9; replace I8 := Lib.hid I8; replace b19 := Lib.hid b19; replace bp9 := Lib.hid bp9)
          refine hK.out _ _ hz9 (fun hHeld => ?_)
          clear hK K
          try simp only [Act.put, List.setIfInBounds_toArray, List.set_cons_zero, List.set_cons_succ]
          (refine wpAnyH_take (i := 13) (oi := ?_) (v := ?_) ?_ (by kernel_rfl) (by kernel_rfl) (by kernel_rfl) ?_ ?_ (by assumption) ?_; rotate_left 2; (focus ((simp only [List.getElem?_toArray, List.getElem?_cons_succ, List.getElem?_cons_zero]); try rfl)); (focus (exact (fun _ _ _ h => h))); (focus (refine Or.inl ⟨by rfl, ?_⟩; intro w hSw; (try dsimp only at hSw); go_simp; try with_reducible rfl)); try simp only [Act.put, List.setIfInBounds_toArray, List.set_cons_zero, List.set_cons_succ])
          (refine wpAnyH_ready (rs := [14]) (by kernel_rfl) (by simp) (AllReadyH.cons (o := ?_) ?_ (fun K hK => ?_) AllReadyH.nil); rotate_left 1; (focus ((simp only [List.getElem?_toArray, List.getElem?_cons_succ, List.getElem?_cons_zero]); try rfl)))
          go_simp
          refine hK.out _ _ hz10 (fun hHeld => ?_)
          clear hK K
          try simp only [Act.put, List.setIfInBounds_toArray, List.set_cons_zero, List.set_cons_succ]
          refine wpAnyH_done (by kernel_rfl) ?_ _
          have hu : (RU.mk q S sa sc ta tc).cs = [.int .i64 qa, .slice sa sn sc, .slice ta cl tc, .bool ql] := by
            unfold RU.cs
            show [Value.int .i64 q.a, .slice sa S.length sc, .slice ta q.cr.length tc, .bool q.lo] = _
            rw [hqa.out, hsn.out, hcre.out, hcl.out, hql.out]
          have o9' := o9.out
          rw [← hu] at o9'
          have hou : OwnRU (w7.alloc (.cells #[.int .i64 qa, .slice sa sn sc, .slice ta cl tc, .bool ql] 112)) w.heap.size [RU.mk q S sa sc ta tc] := by
            intro y hy
            obtain rfl := List.mem_singleton.1 hy
            refine ⟨ownsRow_fr o1w.out z8 (fun _ _ q => q), ?_⟩
            show World.ownsRow _ _ _ _ (.slice ta q.cr.length tc) q.cr.length (q.cr.map (Value.int .i64))
            rw [hcre.out, hcl.out]
            exact ownsRow_fr (ownsRow_mono o7.out (by have := hI1.out.fr.size; exact this)) ((Fr.refl noB w7).alloc _) (fun _ _ q => q)
          obtain ⟨bR, hfin⟩ := rec_next I8.out (RU.mk q S sa sc ta tc) hs.out hR.out hou o9' f9 (by omega) (by have := hcb.out; omega)
          have bp := bp10.out
          clear k49 zf9 hz10 hz9 s10 f9 o9 o9' o7 hou I8 bA8 cn8 gr9 mv9 z8 z7 z70 k47 k48 b19 bp9 bp10 ka kb hw8
          generalize (w9.setCell ⟨cb + 1, 4, none⟩ (.slice a9 (k + 1) c9)) = w10 at *
          have q3 : w10.cell? ⟨cb + 1, 3, none⟩ = some (.bool wh) := bR.cell 3
          have qz3 := bR.frozen 3
          have q5 : w10.cell? ⟨pb, 5, none⟩ = some (.bool ql) := bp.cell 5
          replace hfin := Lib.hid hfin
          replace bR := Lib.hid bR
          replace bp := Lib.hid bp
          cases wh with
          | true =>
            go_wp2_with fail
            go_roundg (N - (k + 1))
            case rel => exact ⟨k + 1, !ql, a9, c9, U ++ [RU.mk q S sa sc ta tc], hkn2.out, by go_num, Lib.hid (hfin.out _ (by show _ = (true && !q.lo); rw [hql.out]; rfl))⟩
            case measure => exact hmeas.out
          | false =>
            go_wp2_with fail
            go_roundg (N - (k + 1))
            case rel => exact ⟨k + 1, false, a9, c9, U ++ [RU.mk q S sa sc ta tc], hkn2.out, by go_num, Lib.hid (hfin.out _ rfl)⟩
            case measure => exact hmeas.out
        · go_simp
          (go_at_call 113; refine (hcrl.out _ ((Fr.refl noB _).drewN 1)).mono ?_; rintro e w7 ⟨ta, tc, rfl, o7, z70⟩; have z7 := ((Fr.refl noB w1).drewN 1).seqN z70; have z8 := z7.alloc (.cells #[.int .i64 qa, .slice sa sn sc, .slice ta cl tc, .bool ql] 112); have I8 := hI1.out.frN z8; have k47 : w7.cell? ⟨cb + 1, 4, none⟩ = some (.slice pa k pc) := (hI1.out.frN z7).b1.cell 4; have k48 : (w7.alloc (.cells #[.int .i64 qa, .slice sa sn sc, .slice ta cl tc, .bool ql] 112)).cell? ⟨cb + 1, 4, none⟩ = some (.slice pa k pc) := I8.b1.cell 4; have bA8 := z8.blk bA1.out (fun q => q); have cn8 := news_at w7 112 [.int .i64 qa, .slice sa sn sc, .slice ta cl tc, .bool ql]; have hw8 : w.heap.size ≤ (w7.alloc (.cells #[.int .i64 qa, .slice sa sn sc, .slice ta cl tc, .bool ql] 112)).heap.size := I8.fr.size; have hk48 := hk4.out; replace o7 := Lib.hid o7)
          go_wp2_with fail
          refine hK.out _ _ (hS8.out _ z7) (fun hHeld => ?_)
          clear hK K
          try simp only [Act.put, List.setIfInBounds_toArray, List.set_cons_zero, List.set_cons_succ]
          (refine wpAnyH_take (i := 10) (oi := ?_) (v := ?_) ?_ (by kernel_rfl) (by kernel_rfl) (by kernel_rfl) ?_ ?_ (by assumption) ?_; rotate_left 2; (focus ((simp only [List.getElem?_toArray, List.getElem?_cons_succ, List.getElem?_cons_zero]); try rfl)); (focus (exact (fun _ _ _ h => h))); (focus (refine Or.inl ⟨by rfl, ?_⟩; intro w hSw; (try dsimp only at hSw); go_simp; try with_reducible rfl)); try simp only [Act.put, List.setIfInBounds_toArray, List.set_cons_zero, List.set_cons_succ])
          (refine wpAnyH_ready (rs := [1, 11]) (by kernel_rfl) (by simp) (AllReadyH.cons (o := ?_) ?_ (fun K hK => ?_) (AllReadyH.cons (o := ?_) ?_ (fun K hK => ?_) AllReadyH.nil)); rotate_left 1; (focus ((simp only [List.getElem?_toArray, List.getElem?_cons_succ, List.getElem?_cons_zero]); try rfl)); rotate_left 2; (focus ((simp only [List.getElem?_toArray, List.getElem?_cons_succ, List.getElem?_cons_zero]); try rfl)); rotate_left 1)
          · go_simp
            refine hK.out _ _ (hS8.out _ z7) (fun hHeld => ?_)
            clear hK K
            try simp only [Act.put, List.setIfInBounds_toArray, List.set_cons_zero, List.set_cons_succ]
            (refine wpAnyH_ready (rs := [11]) (by kernel_rfl) (by simp) (AllReadyH.cons (o := ?_) ?_ (fun K hK => ?_) AllReadyH.nil); rotate_left 1; (focus ((simp only [List.getElem?_toArray, List.getElem?_cons_succ, List.getElem?_cons_zero]); try rfl)))
            go_simp
            refine hK.out _ _ (hS8.out _ z8) (fun hHeld => ?_)
            clear hK K
            try simp only [Act.put, List.setIfInBounds_toArray, List.set_cons_zero, List.set_cons_succ]
            (refine wpAnyH_ready (rs := [12]) (by kernel_rfl) (by simp) (AllReadyH.cons (o := ?_) ?_ (fun K hK => ?_) AllReadyH.nil); rotate_left 1; (focus ((simp only [List.getElem?_toArray, List.getElem?_cons_succ, List.getElem?_cons_zero]); try rfl)))
            (rw [if_pos (by rfl)]; refine (wp_append_at _ (.tmp 57) (.tmp 67) 61 rfl w.heap.size 112 i0 _ 4 64 Tryz.underlying61 hi0 hz0 hz1 hz2 rfl (by decide) (.slice pa k pc) k (U.flatMap RU.cs) (by simp [Act.eval, Act.put]) I8.ow ⟨w7.heap.size, 0, none⟩ 1 1 [.int .i64 qa, .slice sa sn sc, .slice ta cl tc, .bool ql] (by simp [Act.eval, Act.put]) rfl cn8 (by intro x hx; simp only [List.mem_cons, List.not_mem_nil, or_false] at hx; rcases hx with rfl | rfl | rfl | rfl <;> rfl) (by unfold maxLen; omega) (by omega) hw8 ?_); intro v9 w9 o9 gr9 mv9; obtain ⟨a9, c9, rfl⟩ := ownsRow_slice o9; have f9 : Fr (rowB (.slice pa k pc)) (w7.alloc (.cells #[.int .i64 qa, .slice sa sn sc, .slice ta cl tc, .bool ql] 112)) w9 := (Fr.refl _ _).grown gr9 (fun k hk _ => hk); have b19 := f9.blk I8.b1 (fun q => row_not I8.ow I8.b1 (by decide) q); have bp9 := f9.blk bA8 (fun q => row_not I8.ow bA8 (by decide) q); have hz9 : w9.cell? ⟨pb, 0, none⟩ = some (.int .i64 qa) ∧ w9.cell? ⟨pb, 4, none⟩ = some (.slice ua cl uc) ∧ w9.cell? ⟨pb, 5, none⟩ = some (.bool ql) := ⟨bp9.cell 0, bp9.cell 4, bp9.cell 5⟩; have zf9 := b19.frozen 4; have k49 : w9.cell? ⟨cb + 1, 4, none⟩ = some (.slice pa k pc) := b19.cell 4; have s10 : Fr (onlyB (cb + 1)) w9 (w9.setCell ⟨cb + 1, 4, none⟩ (.slice a9 (k + 1) c9)) := (Fr.refl _ _).store (onlyB_self _); have bp10 := s10.blk bp9 (fun q => by unfold onlyB at q; have := hrp.out; omega); have hz10 : (w9.setCell ⟨cb + 1, 4, none⟩ (.slice a9 (k + 1) c9)).cell? ⟨pb, 0, none⟩ = some (.int .i64 qa) ∧ (w9.setCell ⟨cb + 1, 4, none⟩ (.slice a9 (k + 1) c9)).cell? ⟨pb, 4, none⟩ = some (.slice ua cl uc) ∧ (w9.setCell ⟨cb + 1, 4, none⟩ (.slice a9 (k + 1) c9)).cell? ⟨pb, 5, none⟩ = some (.bool ql) := ⟨bp10.cell 0, bp10.cell 4, bp10.cell 5⟩; replace bp10 := Lib.hid bp10; replace o9 := Lib.hid o9; replace I8 := Lib.hid I8; replace b19 := Lib.hid b19; replace bp9 := Lib.hid bp9)
            refine hK.out _ _ hz9 (fun hHeld => ?_)
            clear hK K
            try simp only [Act.put, List.setIfInBounds_toArray, List.set_cons_zero, List.set_cons_succ]
            (refine wpAnyH_take (i := 13) (oi := ?_) (v := ?_) ?_ (by kernel_rfl) (by kernel_rfl) (by kernel_rfl) ?_ ?_ (by assumption) ?_; rotate_left 2; (focus ((simp only [List.getElem?_toArray, List.getElem?_cons_succ, List.getElem?_cons_zero]); try rfl)); (focus (exact (fun _ _ _ h => h))); (focus (refine Or.inl ⟨by rfl, ?_⟩; intro w hSw; (try dsimp only at hSw); go_simp; try with_reducible rfl)); try simp only [Act.put, List.setIfInBounds_toArray, List.set_cons_zero, List.set_cons_succ])
            (refine wpAnyH_ready (rs := [14]) (by kernel_rfl) (by simp) (AllReadyH.cons (o := ?_) ?_ (fun K hK => ?_) AllReadyH.nil); rotate_left 1; (focus ((simp only [List.getElem?_toArray, List.getElem?_cons_succ, List.getElem?_cons_zero]); try rfl)))
            go_simp
            refine hK.out _ _ hz10 (fun hHeld => ?_)
            clear hK K
            try simp only [Act.put, List.setIfInBounds_toArray, List.set_cons_zero, List.set_cons_succ]
            refine wpAnyH_done (by kernel_rfl) ?_ _
            have hu : (RU.mk q S sa sc ta tc).cs = [.int .i64 qa, .slice sa sn sc, .slice ta cl tc, .bool ql] := by
              unfold RU.cs
              show [Value.int .i64 q.a, .slice sa S.length sc, .slice ta q.cr.length tc, .bool q.lo] = _
              rw [hqa.out, hsn.out, hcre.out, hcl.out, hql.out]
            have o9' := o9.out
            rw [← hu] at o9'
            have hou : OwnRU (w7.alloc (.cells #[.int .i64 qa, .slice sa sn sc, .slice ta cl tc, .bool ql] 112)) w.heap.size [RU.mk q S sa sc ta tc] := by
              intro y hy
              obtain rfl := List.mem_singleton.1 hy
              refine ⟨ownsRow_fr o1w.out z8 (fun _ _ q => q), ?_⟩
              show World.ownsRow _ _ _ _ (.slice ta q.cr.length tc) q.cr.length (q.cr.map (Value.int .i64))
              rw [hcre.out, hcl.out]
              exact ownsRow_fr (ownsRow_mono o7.out (by have := hI1.out.fr.size; exact this)) ((Fr.refl noB w7).alloc _) (fun _ _ q => q)
            obtain ⟨bR, hfin⟩ := rec_next I8.out (RU.mk q S sa sc ta tc) hs.out hR.out hou o9' f9 (by omega) (by have := hcb.out; omega)
            have bp := bp10.out
            clear k49 zf9 hz10 hz9 s10 f9 o9 o9' o7 hou I8 bA8 cn8 gr9 mv9 z8 z7 z70 k47 k48 b19 bp9 bp10 ka kb hw8
            generalize (w9.setCell ⟨cb + 1, 4, none⟩ (.slice a9 (k + 1) c9)) = w10 at *
            have q3 : w10.cell? ⟨cb + 1, 3, none⟩ = some (.bool wh) := bR.cell 3
            have qz3 := bR.frozen 3
            have q5 : w10.cell? ⟨pb, 5, none⟩ = some (.bool ql) := bp.cell 5
            replace hfin := Lib.hid hfin
            replace bR := Lib.hid bR
            replace bp := Lib.hid bp
            cases wh with
            | true =>
              go_wp2_with fail
              go_roundg (N - (k + 1))
              case rel => exact ⟨k + 1, !ql, a9, c9, U ++ [RU.mk q S sa sc ta tc], hkn2.out, by go_num, Lib.hid (hfin.out _ (by show _ = (true && !q.lo); rw [hql.out]; rfl))⟩
              case measure => exact hmeas.out
            | false =>
              go_wp2_with fail
              go_roundg (N - (k + 1))
              case rel => exact ⟨k + 1, false, a9, c9, U ++ [RU.mk q S sa sc ta tc], hkn2.out, by go_num, Lib.hid (hfin.out _ rfl)⟩
              case measure => exact hmeas.out
          · go_simp
            refine hK.out _ _ (hS8.out _ z8) (fun hHeld => ?_)
            clear hK K
            try simp only [Act.put, List.setIfInBounds_toArray, List.set_cons_zero, List.set_cons_succ]
            (refine wpAnyH_ready (rs := [1]) (by kernel_rfl) (by simp) (AllReadyH.cons (o := ?_) ?_ (fun K hK => ?_) AllReadyH.nil); rotate_left 1; (focus ((simp only [List.getElem?_toArray, List.getElem?_cons_succ, List.getElem?_cons_zero]); try rfl)))
            go_simp
            refine hK.out _ _ (hS8.out _ z8) (fun hHeld => ?_)
            clear hK K
            try simp only [Act.put, List.setIfInBounds_toArray, List.set_cons_zero, List.set_cons_succ]
            (refine wpAnyH_ready (rs := [12]) (by kernel_rfl) (by simp) (AllReadyH.cons (o := ?_) ?_ (fun K hK => ?_) AllReadyH.nil); rotate_left 1; (focus ((simp only [List.getElem?_toArray, List.getElem?_cons_succ, List.getElem?_cons_zero]); try rfl)))
            (rw [if_pos (by rfl)]; refine (wp_append_at _ (.tmp 57) (.tmp 67) 61 rfl w.heap.size 112 i0 _ 4 64 Tryz.underlying61 hi0 hz0 hz1 hz2 rfl (by decide) (.slice pa k pc) k (U.flatMap RU.cs) (by simp [Act.eval, Act.put]) I8.ow ⟨w7.heap.size, 0, none⟩ 1 1 [.int .i64 qa, .slice sa sn sc, .slice ta cl tc, .bool ql] (by simp [Act.eval, Act.put]) rfl cn8 (by intro x hx; simp only [List.mem_cons, List.not_mem_nil, or_false] at hx; rcases hx with rfl | rfl | rfl | rfl <;> rfl) (by unfold maxLen; omega) (by omega) hw8 ?_); intro v9 w9 o9 gr9 mv9; obtain ⟨a9, c9, rfl⟩ := ownsRow_slice o9; have f9 : Fr (rowB (.slice pa k pc)) (w7.alloc (.cells #[.int .i64 qa, .slice sa sn sc, .slice ta cl tc, .bool ql] 112)) w9 := (Fr.refl _ _).grown gr9 (fun k hk _ => hk); have b19 := f9.blk I8.b1 (fun q => row_not I8.ow I8.b1 (by decide) q); have bp9 := f9.blk bA8 (fun q => row_not I8.ow bA8 (by decide) q); have hz9 : w9.cell? ⟨pb, 0, none⟩ = some (.int .i64 qa) ∧ w9.cell? ⟨pb, 4, none⟩ = some (.slice ua cl uc) ∧ w9.cell? ⟨pb, 5, none⟩ = some (.bool ql) := ⟨bp9.cell 0, bp9.cell 4, bp9.cell 5⟩; have zf9 := b19.frozen 4; have k49 : w9.cell? ⟨cb + 1, 4, none⟩ = some (.slice pa k pc) := b19.cell 4; have s10 : Fr (onlyB (cb + 1)) w9 (w9.setCell ⟨cb + 1, 4, none⟩ (.slice a9 (k + 1) c9)) := (Fr.refl _ _).store (onlyB_self _); have bp10 := s10.blk bp9 (fun q => by unfold onlyB at q; have := hrp.out; omega); have hz10 : (w9.setCell ⟨cb + 1, 4, none⟩ (.slice a9 (k + 1) c9)).cell? ⟨pb, 0, none⟩ = some (.int .i64 qa) ∧ (w9.setCell ⟨cb + 1, 4, none⟩ (.slice a9 (k + 1) c9)).cell? ⟨pb, 4, none⟩ = some (.slice ua cl uc) ∧ (w9.setCell ⟨cb + 1, 4, none⟩ (.slice a9 (k + 1) c9)).cell? ⟨pb, 5, none⟩ = some (.bool ql) := ⟨bp10.cell 0, bp10.cell 4, bp10.cell 5⟩; replace bp10 := Lib.hid bp10; replace o9 := Lib.hid o9; replace I8 := Lib.hid I8; replace b19 := Lib.hid b19; replace bp9 := Lib.hid bp9)
            refine hK.out _ _ hz9 (fun hHeld => ?_)
            clear hK K
            try simp only [Act.put, List.setIfInBounds_toArray, List.set_cons_zero, List.set_cons_succ]
            (refine wpAnyH_take (i := 13) (oi := ?_) (v := ?_) ?_ (by kernel_rfl) (by kernel_rfl) (by kernel_rfl) ?_ ?_ (by assumption) ?_; rotate_left 2; (focus ((simp only [List.getElem?_toArray, List.getElem?_cons_succ, List.getElem?_cons_zero]); try rfl)); (focus (exact (fun _ _ _ h => h))); (focus (refine Or.inl ⟨by rfl, ?_⟩; intro w hSw; (try dsimp only at hSw); go_simp; try with_reducible rfl)); try simp only [Act.put, List.setIfInBounds_toArray, List.set_cons_zero, List.set_cons_succ])
            (refine wpAnyH_ready (rs := [14]) (by kernel_rfl) (by simp) (AllReadyH.cons (o := ?_) ?_ (fun K hK => ?_) AllReadyH.nil); rotate_left 1; (focus ((simp only [List.getElem?_toArray, List.getElem?_cons_succ, List.getElem?_cons_zero]); try rfl)))
            go_simp
            refine hK.out _ _ hz10 (fun hHeld => ?_)
            clear hK K
            try simp only [Act.put, List.setIfInBounds_toArray, List.set_cons_zero, List.set_cons_succ]
            refine wpAnyH_done (by kernel_rfl) ?_ _
            have hu : (RU.mk q S sa sc ta tc).cs = [.int .i64 qa, .slice sa sn sc, .slice ta cl tc, .bool ql] := by
              unfold RU.cs
              show [Value.int .i64 q.a, .slice sa S.length sc, .slice ta q.cr.length tc, .bool q.lo] = _
              rw [hqa.out, hsn.out, hcre.out, hcl.out, hql.out]
            have o9' := o9.out
            rw [← hu] at o9'
            have hou : OwnRU (w7.alloc (.cells #[.int .i64 qa, .slice sa sn sc, .slice ta cl tc, .bool ql] 112)) w.heap.size [RU.mk q S sa sc ta tc] := by
              intro y hy
              obtain rfl := List.mem_singleton.1 hy
              refine ⟨ownsRow_fr o1w.out z8 (fun _ _ q => q), ?_⟩
              show World.ownsRow _ _ _ _ (.slice ta q.cr.length tc) q.cr.length (q.cr.map (Value.int .i64))
              rw [hcre.out, hcl.out]
              exact ownsRow_fr (ownsRow_mono o7.out (by have := hI1.out.fr.size; exact this)) ((Fr.refl noB w7).alloc _) (fun _ _ q => q)
            obtain ⟨bR, hfin⟩ := rec_next I8.out (RU.mk q S sa sc ta tc) hs.out hR.out hou o9' f9 (by omega) (by have := hcb.out; omega)
            have bp := bp10.out
            clear k49 zf9 hz10 hz9 s10 f9 o9 o9' o7 hou I8 bA8 cn8 gr9 mv9 z8 z7 z70 k47 k48 b19 bp9 bp10 ka kb hw8
            generalize (w9.setCell ⟨cb + 1, 4, none⟩ (.slice a9 (k + 1) c9)) = w10 at *
            have q3 : w10.cell? ⟨cb + 1, 3, none⟩ = some (.bool wh) := bR.cell 3
            have qz3 := bR.frozen 3
            have q5 : w10.cell? ⟨pb, 5, none⟩ = some (.bool ql) := bp.cell 5
            replace hfin := Lib.hid hfin
            replace bR := Lib.hid bR
            replace bp := Lib.hid bp
            cases wh with
            | true =>
              go_wp2_with fail
              go_roundg (N - (k + 1))
              case rel => exact ⟨k + 1, !ql, a9, c9, U ++ [RU.mk q S sa sc ta tc], hkn2.out, by go_num, Lib.hid (hfin.out _ (by show _ = (true && !q.lo); rw [hql.out]; rfl))⟩
              case measure => exact hmeas.out
            | false =>
              go_wp2_with fail
              go_roundg (N - (k + 1))
              case rel => exact ⟨k + 1, false, a9, c9, U ++ [RU.mk q S sa sc ta tc], hkn2.out, by go_num, Lib.hid (hfin.out _ rfl)⟩
              case measure => exact hmeas.out
    · obtain rfl : k = N := by omega
      have k0 := hI.out.b0.cell 0
      have k1 := hI.out.b0.cell 1
      have k2 := hI.out.b0.cell 2
      have k3 := hI.out.b0.cell 3
      have k4 := hI.out.b0.cell 4
      have z0 := hI.out.b0.frozen 0
      have z1 := hI.out.b0.frozen 1
      have z2 := hI.out.b0.frozen 2
      have z3 := hI.out.b0.frozen 3
      have z4 := hI.out.b0.frozen 4
      have r0 : wr.cell? ⟨cb + 1, 0, none⟩ = some (.int .i64 A.tr) := hI.out.b1.cell 0
      have r1 : wr.cell? ⟨cb + 1, 1, none⟩ = some (.int .i64 A.jb) := hI.out.b1.cell 1
      have r2 : wr.cell? ⟨cb + 1, 2, none⟩ = some (.int .i64 c) := hI.out.b1.cell 2
      have r3 : wr.cell? ⟨cb + 1, 3, none⟩ = some (.bool wh) := hI.out.b1.cell 3
      have r4 : wr.cell? ⟨cb + 1, 4, none⟩ = some (.slice pa k pc) := hI.out.b1.cell 4
      go_wp2_with fail
      obtain ⟨hb', hf', hs'⟩ := rec_set hI.out.b0 hI.out.fr (by have := hcb.out; omega) (.int .i64 A.tr) (.int .i64 A.jb) (.int .i64 c) (.bool wh) (.slice pa k pc)
      refine bodyPost_ret (rec_ret rfl _ _ (g := cb) (by rfl) hb' rfl) rfl ?_
      have htk : ps.take k = ps := List.take_of_length_le (by rw [hN.out]; exact Nat.le_refl _)
      have hrec : recL A.tr A.C ps = some (ps.map (pairOf A.tr A.C)) := by
        unfold recL
        rw [if_pos (by have := hI.out.al; rw [htk] at this; exact this)]
      have hwh := hI.out.hw
      have hup := hI.out.up
      rw [htk] at hwh hup
      refine ⟨hf', fun e => (by rw [hrec] at e; cases e), fun c' L e => ?_⟩
      rw [hrec] at e
      injection e with e
      injection e with e1 e2
      subst e1 e2
      refine ⟨.slice pa k pc, U, by rw [← hwh]; rfl, ?_, hI.out.ou.fr hs' (fun u hu => ⟨fun g hg q => row_not (hI.out.ou u hu).1 hI.out.b0 (by decide) (by unfold onlyB at q; subst q; exact hg), fun g hg q => row_not (hI.out.ou u hu).2 hI.out.b0 (by decide) (by unfold onlyB at q; subst q; exact hg)⟩), hup⟩
      rw [hI.out.ul]
      exact ownsRow_fr hI.out.ow hs' (fun g hg q => row_not hI.out.ow hI.out.b0 (by decide) (by unfold onlyB at q; subst q; exact hg))
end Go.Proofs.YtdmhnoffejjpnaaGreatDoor
end
