/-
  slices.Clone of ints, and of parts; the parts of a manifest copied whole.
  New; what a chunk makes of what came.
  What a write into a map leaves of what came so far.
  A chunk comes: takeChunk.
-/
import Derived.Test.YtdmhnoffejjpnaaGreatDoorZAQ
import Derived.Test.YtdmhnoffejjpnaaGreatDoorShelf
import Derived.Deep.LoopGhost
import Derived.Deep.DeepCutAuto
import Derived.BigQuiet
section
set_option linter.unusedVariables false
set_option linter.unusedSimpArgs false
set_option maxRecDepth 100000
set_option maxRecDepth 100000
namespace Go.Proofs.YtdmhnoffejjpnaaGreatDoor
open Go.RowKit Go Go.Maps Go.Lib

theorem addr_own {w : World} {B e k n c : Nat} {a : Option Addr} {xs : List Value} (h : w.ownsRow B e k (.slice a n c) n xs) {g o : Nat} (ha : a = some ⟨g, o, none⟩) : B ≤ g := by
  subst ha
  exact (h.lt g rfl).1
theorem clonei_any (v : Value) (xs : List Int) (w : World) (hv : RdI w v xs) (hl : xs.length ≤ 1000000) :
    Calls Tryz.prog 113 #[v] w fun e w' => ∃ ta tc, e = .returned (.slice ta xs.length tc) ∧ RdI w' (.slice ta xs.length tc) xs ∧ (∀ g o, ta = some ⟨g, o, none⟩ → w.heap.size ≤ g) ∧ Fr noB w w' := by
  obtain ⟨a, c, rfl, h1, h2, h3⟩ := hv
  by_cases h0 : xs.length = 0
  · have hx : xs = [] := List.eq_nil_of_length_eq_zero h0
    subst hx
    cases a with
    | none =>
      refine (Tryz.slices_Clone_int_nil _ c w).mono ?_
      rintro e w' ⟨rfl, rfl⟩
      exact ⟨none, 0, rfl, ⟨none, 0, rfl, by simp, by simp, fun i hi => by simp at hi⟩, fun g o e => by (cases e), Fr.refl _ _⟩
    | some ad =>
      refine (Tryz.slices_Clone_int_zero ad c w).mono ?_
      rintro e w' ⟨v', rfl, ow, _, hb⟩
      obtain ⟨a', c', rfl⟩ := ownsRow_slice ow
      exact ⟨a', c', rfl, RdI.of_own (n := 0) (by simpa using ow), fun g o e => by (subst e; exact (addr_own ow rfl)), Fr.of_below hb⟩
  · obtain ⟨g, o, rfl, _⟩ := h3 0 (by omega)
    have hc : ∀ j, j < xs.length → w.cell? ⟨g, o + j, none⟩ = some (.int .i64 (xs.getD j 0)) := fun j hj => by
      obtain ⟨g2, o2, e2, h4⟩ := h3 j hj
      cases e2
      exact h4
    refine (Tryz.slices_Clone_int g o xs.length c xs w (Nat.le_refl _) (by omega) hc).mono ?_
    rintro e w' ⟨v', rfl, ow, _, hb⟩
    rw [List.take_length] at ow
    obtain ⟨a', c', rfl⟩ := ownsRow_slice ow
    exact ⟨a', c', rfl, RdI.of_own ow, fun g o e => by (subst e; exact (addr_own ow rfl)), Fr.of_below hb⟩
theorem infoPinC : (Tryz.prog.info? 70).map (fun i => (i.zero, i.size, i.bytes)) = some (some (.agg #[.int .i64 0, .int .i64 0, .int .i64 0, .int .i64 0, .slice none 0 0, .bool false]), 6, 64) := by kernel_rfl
theorem clonep_any (ad : Addr) (n c : Nat) (X : List Value) (w : World) (hnc : n ≤ c) (hn : n ≤ 1000000) (hX : X.length = n * 6) (hsrc : ∀ j u, X[j]? = some u → w.cell? (ad.add j) = some u) (hone : ∀ u ∈ X, u.oneCell' = true) :
    Calls Tryz.prog 141 #[.slice (some ad) n c] w fun e w' => ∃ v', e = .returned v' ∧ w'.ownsRow w.heap.size 70 6 v' n X ∧ Fr noB w w' := by
  obtain ⟨i0, hi, hz0, hz1, hz2⟩ := info_parts infoPinC
  have f1 : Fr noB w (w.alloc (.cells #[] 70)) := (Fr.refl _ _).alloc _
  have own1 := own_new w 70 [] 6 0 rfl (Nat.zero_le _)
  have hs2 : ∀ j u, X[j]? = some u → (w.alloc (.cells #[] 70)).cell? (ad.add j) = some u := fun j u q => cell?_alloc_some _ (hsrc j u q)
  replace hsrc := Lib.hid hsrc
  replace hs2 := Lib.hid hs2
  have hq : ∀ w, (binOp .eql 71 (.slice (some ad) n c) (.slice none 0 0)).run Tryz.prog w = .ok (.bool false) w := fun w => Go.Lib.run_eql_slice_nil w _ 70 _ _ _ _ _ Tryz.underlying71
  go_enter Tryz.func141, Tryz.ntmps141
  go_wp2_with (first
    | (at_builtin; go_must (refine wpList_append_at _ rfl (.tmp 5) (.tmp 6) 71 rfl w.heap.size 70 i0 _ 6 64 Tryz.underlying71 hi hz0 hz1 hz2 rfl (by decide) _ 0 [] rfl own1 ad n c X rfl hX hs2.out hone ?_ ?_ ?_ ?_))
    | fail)
  · unfold maxLen; omega
  · omega
  · have := f1.size; omega
  intro v8 w8 o8 gr8 _
  try rw [Nat.zero_add, List.nil_append] at o8
  have f8 : Fr (rowB (.slice (some ⟨w.heap.size, 0, none⟩) 0 0)) (w.alloc (.cells #[] 70)) w8 := (Fr.refl _ _).grown gr8 (fun k hk _ => hk)
  have fr8 : Fr noB w w8 := f1.rowN own1 (Nat.le_refl _) f8
  clear gr8 f8
  go_wp2_with fail
  go_ret
  exact ⟨_, rfl, o8, fr8⟩
end Go.Proofs.YtdmhnoffejjpnaaGreatDoor
end

section
set_option linter.unusedVariables false
set_option linter.unusedSimpArgs false
set_option maxRecDepth 100000
set_option maxRecDepth 100000
namespace Go.Proofs.YtdmhnoffejjpnaaGreatDoor
open Go.RowKit Go Go.Maps Go.Lib

theorem KI' : KeyLit Tryz.prog 3 kvI klI okI := keyLit_int Tryz.underlying3
theorem anew_any (t j : Int) (w : World) : Calls Tryz.prog 87 #[.int .i64 t, .int .i64 j] w fun e w' => ∃ p bm, e = .returned (.pointer (some ⟨p, 0, none⟩)) ∧ w.heap.size ≤ p ∧ w.heap.size ≤ bm ∧ AsmP w' p bm p (fun g => g = p ∨ g = bm) ⟨t, j, none, []⟩ ∧ Fr noB w w' := by
  have hmm := @run_makeMap Tryz.prog
  have hM := Mp.made (P := Tryz.prog) (K := 3) (kl := klI) (mk := mkC) w
  have f1 : Fr noB w (w.alloc (.map #[] 0)) := (Fr.refl _ _).alloc _
  have f2 : Fr noB (w.alloc (.map #[] 0)) ((w.alloc (.map #[] 0)).alloc (.cells #[.int .i64 t, .int .i64 j, .pointer none, .map (some w.heap.size)] 181)) := (Fr.refl _ _).alloc _
  have b2 := Blk.new (w.alloc (.map #[] 0)) 181 [.int .i64 t, .int .i64 j, .pointer none, .map (some w.heap.size)]
  have hs : (w.alloc (.map #[] 0)).heap.size = w.heap.size + 1 := by simp
  have hs2 : ((w.alloc (.map #[] 0)).alloc (.cells #[.int .i64 t, .int .i64 j, .pointer none, .map (some w.heap.size)] 181)).heap.size = w.heap.size + 1 + 1 := by simp
  rw [hs] at b2
  replace hM := hM.fr f2 (fun q => q)
  replace hM := Lib.hid hM
  replace b2 := Lib.hid b2
  replace hs2 := Lib.hid hs2
  have f12 := Lib.hid (f1.seqN f2)
  clear f1 f2 hs
  go_enter Tryz.func87, Tryz.ntmps87
  go_wp2_with fail
  go_ret
  refine ⟨w.heap.size + 1, w.heap.size, rfl, by omega, by omega, ⟨b2.out, fun c ps e => (by cases e), hM.out, fun o ho => (by cases ho), by simp, Or.inl rfl, Or.inr rfl, ⟨by omega, by omega, Or.inl rfl⟩, fun g hg => ?_⟩, f12.out⟩
  rw [hs2.out]
  rcases hg with rfl | rfl <;> omega
/-- all that came, by agents -/
def AP.C (A : AP) : List (Int × Int × List (Int × List Sp)) := A.O.map fun o => (o.a, o.t, enS o.E)
/-- a chunk comes -/
def chunkC (C : List (Int × Int × List (Int × List Sp))) (a i n : Int) (sp : List Sp) : Bool × List (Int × Int × List (Int × List Sp)) :=
  match look C a with
  | none => (true, (a, n, [(i, sp)]) :: C)
  | some (t, L) => if (look L i).isSome = true ∨ n ≠ t then (false, C) else (true, C.map fun c => if c.1 = a then (c.1, c.2.1, (i, sp) :: c.2.2) else c)
theorem c_look (A : AP) (a : Int) : look A.C a = (A.at a).map fun o => (o.t, enS o.E) := by
  unfold AP.at AP.C look
  induction A.O with
  | nil => rfl
  | cons o r ih =>
    rw [List.map_cons, List.find?_cons, List.find?_cons]
    show Option.map _ (match decide (o.a = a) with | true => some (o.a, o.t, enS o.E) | false => _) = _
    by_cases h : o.a = a
    · simp [h]
    · simp only [h, decide_false]
      exact ih
theorem without_none {α κ : Type} [DecidableEq κ] {L : List (κ × α)} {k : κ} (h : look L k = none) : without L k = L := by
  unfold without
  exact List.filter_eq_self.2 fun p hp => by simpa using look_none h p hp
theorem chunk_in {a t j i n : Int} {sp : List Sp} (h : chunkB a t j i n sp = true) : 0 ≤ a ∧ a ≤ 3 ∧ 1 ≤ n ∧ n ≤ 500 ∧ 0 ≤ i ∧ i < n ∧ sp.length ≤ 2 := by
  unfold chunkB inB at h
  simp only [Bool.and_eq_true, decide_eq_true_eq] at h
  omega
end Go.Proofs.YtdmhnoffejjpnaaGreatDoor
end

section
set_option linter.unusedVariables false
set_option linter.unusedSimpArgs false
set_option maxRecDepth 100000
set_option maxRecDepth 100000
namespace Go.Proofs.YtdmhnoffejjpnaaGreatDoor
open Go.RowKit Go Go.Maps Go.Lib

theorem Mp.nocell {κ α : Type} [DecidableEq κ] {K : TypeId} {kl : κ → Lit} {mk : α → Value} {w : World} {b n : Nat} {L : List (κ × α)} (h : Mp Tryz.prog K kl mk w b n L) (o : Nat) : w.cell? ⟨b, o, none⟩ = none := by
  obtain ⟨es, ⟨_, _, hb, _⟩, _⟩ := h
  simp [World.cell?, hb]
theorem frM_cell {w w' : World} {b g o : Nat} {v : Value} (hb : ∀ o, w.cell? ⟨b, o, none⟩ = none) (f : Fr (onlyB b) w w') (hc : w.cell? ⟨g, o, none⟩ = some v) : w'.cell? ⟨g, o, none⟩ = some v :=
  f.cell hc (fun e => by unfold onlyB at e; subst e; rw [hb o] at hc; cases hc)
theorem RdSp.frM {w w' : World} {b : Nat} {v : Value} {L : List Sp} (h : RdSp w v L) (hb : ∀ o, w.cell? ⟨b, o, none⟩ = none) (f : Fr (onlyB b) w w') : RdSp w' v L := by
  obtain ⟨a, c, rfl, hl, hc, hn, h1⟩ := h
  refine ⟨a, c, rfl, hl, hc, hn, fun i s hi => ?_⟩
  obtain ⟨g, o, rfl, c0, c1, c2⟩ := h1 i s hi
  exact ⟨g, o, rfl, frM_cell hb f c0, frM_cell hb f c1, frM_cell hb f c2⟩
theorem RdI.frM {w w' : World} {b : Nat} {v : Value} {xs : List Int} (h : RdI w v xs) (hb : ∀ o, w.cell? ⟨b, o, none⟩ = none) (f : Fr (onlyB b) w w') : RdI w' v xs := by
  obtain ⟨a, c, rfl, h1, h2, h3⟩ := h
  refine ⟨a, c, rfl, h1, h2, fun i hi => ?_⟩
  obtain ⟨g, o, rfl, h4⟩ := h3 i hi
  exact ⟨g, o, rfl, frM_cell hb f h4⟩
theorem RdPsD.frM {w w' : World} {b : Nat} {D : Nat → Prop} {v : Value} {ps : List Pn} (h : RdPsD w D v ps) (hb : ∀ o, w.cell? ⟨b, o, none⟩ = none) (f : Fr (onlyB b) w w') : RdPsD w' D v ps := by
  obtain ⟨a, c, rfl, h1, h2, h3⟩ := h
  refine ⟨a, c, rfl, h1, h2, fun i p hi => ?_⟩
  obtain ⟨g, ua, uc, e, hd, h4, h5, h6⟩ := h3 i p hi
  exact ⟨g, ua, uc, e, hd, fun q x hq => frM_cell hb f (h4 q x hq), h5.frM hb f, h6⟩
theorem OAp.frM {w w' : World} {b : Nat} {D : Nat → Prop} {o : OA} (h : OAp w D o) (hb : ∀ o, w.cell? ⟨b, o, none⟩ = none) (f : Fr (onlyB b) w w') (hm : o.m ≠ b) : OAp w' D o :=
  ⟨h.mp.fr f hm, fun e he => ⟨(h.rd e he).1.frM hb f, (h.rd e he).2⟩, h.dm, h.t0, h.t5, h.ix⟩
/-- all of it but the map of agents -/
structure AsmR (w : World) (p bm mb : Nat) (D : Nat → Prop) (A : AP) (O : List OA) : Prop where
  blk : Blk w p 181 [.int .i64 A.tr, .int .i64 A.jb, .pointer (A.mp mb), .map (some bm)]
  man : ∀ c ps, A.man = some (c, ps) → (∃ v, Blk w mb 73 [.int .i64 A.tr, .int .i64 A.jb, .int .i64 c, v] ∧ RdPsD w D v ps) ∧ D mb ∧ mb ≠ p ∧ ps.length ≤ 4 ∧ ∀ q ∈ ps, pnB q = true
  inn : ∀ o ∈ O, OAp w D o ∧ o.m ≠ p ∧ o.m ≠ bm ∧ o.m ≠ mb ∧ 0 ≤ o.a ∧ o.a ≤ 3
  nm : (O.map (·.m)).Nodup
  dp : D p
  db : D bm
  nb : p ≠ bm ∧ bm ≠ mb ∧ D mb
  lt : ∀ g, D g → g < w.heap.size
theorem AsmP.r {w : World} {p bm mb : Nat} {D : Nat → Prop} {A : AP} (h : AsmP w p bm mb D A) : AsmR w p bm mb D A A.O := ⟨h.blk, h.man, h.inn, h.nm, h.dp, h.db, h.nb, h.lt⟩
theorem AsmR.fr {w w' : World} {p bm mb : Nat} {D S : Nat → Prop} {A : AP} {O : List OA} (h : AsmR w p bm mb D A O) (hf : Fr S w w') (hS : ∀ g, D g → ¬ S g) : AsmR w' p bm mb D A O :=
  ⟨hf.blk h.blk (hS _ h.dp), fun c ps e => by
    obtain ⟨⟨v, h1, h2⟩, h3, h4⟩ := h.man c ps e
    exact ⟨⟨v, hf.blk h1 (hS _ h3), h2.fr hf hS⟩, h3, h4⟩, fun o ho => ⟨(h.inn o ho).1.fr hf hS, (h.inn o ho).2⟩, h.nm, h.dp, h.db, h.nb, fun g hg => Nat.lt_of_lt_of_le (h.lt g hg) hf.size⟩
theorem AsmR.frM {w w' : World} {p bm mb b : Nat} {D : Nat → Prop} {A : AP} {O : List OA} (h : AsmR w p bm mb D A O) (hb : ∀ o, w.cell? ⟨b, o, none⟩ = none) (f : Fr (onlyB b) w w') (h1 : p ≠ b) (h2 : A.man ≠ none → mb ≠ b) (h3 : ∀ o ∈ O, o.m ≠ b) : AsmR w' p bm mb D A O :=
  ⟨f.blk h.blk h1, fun c ps e => by
    obtain ⟨⟨v, k1, k2⟩, k3, k4⟩ := h.man c ps e
    exact ⟨⟨v, f.blk k1 (h2 (by rw [e]; simp)), k2.frM hb f⟩, k3, k4⟩, fun o ho => ⟨(h.inn o ho).1.frM hb f (h3 o ho), (h.inn o ho).2⟩, h.nm, h.dp, h.db, h.nb, fun g hg => Nat.lt_of_lt_of_le (h.lt g hg) f.size⟩
theorem AsmR.mono {w : World} {p bm mb : Nat} {D D' : Nat → Prop} {A : AP} {O : List OA} (h : AsmR w p bm mb D A O) (hD : ∀ g, D g → D' g) (hl : ∀ g, D' g → g < w.heap.size) : AsmR w p bm mb D' A O :=
  ⟨h.blk, fun c ps e => by
    obtain ⟨⟨v, h1, h2⟩, h3, h4⟩ := h.man c ps e
    exact ⟨⟨v, h1, h2.mono hD⟩, hD _ h3, h4⟩, fun o ho => ⟨(h.inn o ho).1.mono hD, (h.inn o ho).2⟩, h.nm, hD _ h.dp, hD _ h.db, ⟨h.nb.1, h.nb.2.1, hD _ h.nb.2.2⟩, hl⟩
theorem AsmR.sub {w : World} {p bm mb : Nat} {D : Nat → Prop} {A : AP} {O : List OA} (h : AsmR w p bm mb D A O) {O' : List OA} (hs : O'.Sublist O) : AsmR w p bm mb D A O' :=
  ⟨h.blk, h.man, fun o ho => h.inn o (hs.subset ho), (hs.map _).nodup h.nm, h.dp, h.db, h.nb, h.lt⟩
/-- what a call makes of it -/
def AsmTo (w w' : World) (p bm mb : Nat) (D : Nat → Prop) (A' : AP) : Prop := ∃ D', AsmP w' p bm mb D' A' ∧ (∀ g, D g → D' g) ∧ (∀ g, D' g → D g ∨ w.heap.size ≤ g) ∧ Fr D w w'
end Go.Proofs.YtdmhnoffejjpnaaGreatDoor
end

section
set_option linter.unusedVariables false
set_option linter.unusedSimpArgs false
set_option maxRecDepth 100000
set_option maxRecDepth 100000
namespace Go.Proofs.YtdmhnoffejjpnaaGreatDoor
open Go.RowKit Go Go.Maps Go.Lib

set_option maxHeartbeats 8000000 in
theorem chunk_new (p bm mb : Nat) (D : Nat → Prop) (A : AP) (a t j i n : Int) (spv : Value) (sp : List Sp) (w : World) (h : AsmP w p bm mb D A) (hb : chunkB a t j i n sp = true) (hs : RdSp w spv sp) (hl : A.at a = none) :
    Calls Tryz.prog 130 #[.pointer (some ⟨p, 0, none⟩), .agg #[.int .i64 a, .int .i64 t, .int .i64 j, .int .i64 i, .int .i64 n, spv]] w fun e w' => e = .returned (.bool true) ∧ ∃ A', A'.tr = A.tr ∧ A'.jb = A.jb ∧ A'.man = A.man ∧ A'.C = (a, n, [(i, sp)]) :: A.C ∧ AsmTo w w' p bm mb D A' := by
  obtain ⟨ha0, ha3, hn1, hn5, hi0, hin, hsl⟩ := chunk_in hb
  have oka : okI a := okI_of (by omega) (by omega)
  have oki : okI i := okI_of (by omega) (by omega)
  have hag := ag_len h
  have hlk0 : look (A.O.map OA.kv) a = none := by rw [ap_look, hl]; rfl
  have hlk : ∀ w', Fr noB w w' → (Instr.lookup 178 (.map (some bm)) (.int .i64 a) true).run Tryz.prog w' = .ok (.tuple #[.agg #[.int .i64 0, .map none], .bool false]) w' := fun w' f => by
    have := (h.om.fr f (fun q => q)).run_look_ok KI' Tryz.underlying178 (zeroC w') mkC_inj a oka
    rw [hlk0] at this
    exact this
  have hc3 : ∀ w', Fr noB w w' → w'.cell? ⟨p, 3, none⟩ = some (.map (some bm)) := fun w' f => (h.frN f).blk.cell 3
  obtain ⟨cb, hcb⟩ : ∃ cb, w.heap.size = cb := ⟨_, rfl⟩
  have f1 : Fr noB w (w.alloc (.cells #[.int .i64 a, .int .i64 t, .int .i64 j, .int .i64 i, .int .i64 n, spv] 75)) := (Fr.refl _ _).alloc _
  have b1 := Blk.new w 75 [.int .i64 a, .int .i64 t, .int .i64 j, .int .i64 i, .int .i64 n, spv]
  have hs1 : (w.alloc (.cells #[.int .i64 a, .int .i64 t, .int .i64 j, .int .i64 i, .int .i64 n, spv] 75)).heap.size = cb + 1 := by rw [size_alloc, hcb]
  rw [hcb] at b1
  have hA := Lib.hid h
  replace hs := Lib.hid hs
  replace hl := Lib.hid hl
  replace hlk := Lib.hid hlk
  replace hc3 := Lib.hid hc3
  replace hlk0 := Lib.hid hlk0
  clear h hb
  go_enter Tryz.func130, Tryz.ntmps130
  go_upto_region 1 with fail
  try rw [hcb]
  replace hcb := Lib.hid hcb
  generalize (w.alloc (.cells #[.int .i64 a, .int .i64 t, .int .i64 j, .int .i64 i, .int .i64 n, spv] 75)) = w1 at *
  have hS : ∀ w', Fr noB w1 w' → w'.cell? ⟨p, 3, none⟩ = some (.map (some bm)) ∧ w'.cell? ⟨cb, 0, none⟩ = some (.int .i64 a) ∧ (Instr.lookup 178 (.map (some bm)) (.int .i64 a) true).run Tryz.prog w' = .ok (.tuple #[.agg #[.int .i64 0, .map none], .bool false]) w' := fun w' f => ⟨hc3.out _ (f1.seqN f), (f.blk b1 (fun q => q)).cell 0, hlk.out _ (f1.seqN f)⟩
  replace hS := Lib.hid hS
  replace b1 := Lib.hid b1
  replace f1 := Lib.hid f1
  replace hs1 := Lib.hid hs1
  go_cut [5, 6] from 9 to 18 (fun cp is wx => cp = .pointer (some ⟨cb + 1, 0, none⟩) ∧ is = .bool false ∧ wx = (w1.alloc (.cells #[.int .i64 0, .map none] 198)).drew)
  case first =>
    go_region_held3 (fun w' => w'.cell? ⟨p, 3, none⟩ = some (.map (some bm)) ∧ w'.cell? ⟨cb, 0, none⟩ = some (.int .i64 a) ∧ (Instr.lookup 178 (.map (some bm)) (.int .i64 a) true).run Tryz.prog w' = .ok (.tuple #[.agg #[.int .i64 0, .map none], .bool false]) w')
      (first | exact hS.out _ ((Fr.refl noB _).drewN 1) | exact hS.out _ (((Fr.refl noB _).drewN 1).alloc _) | fail)
      (fail)
    all_goals (
      go_wp2_with fail
      go_meet
      exact ⟨by rw [hs1.out], rfl, rfl⟩)
  case rest =>
    obtain ⟨rfl, rfl, rfl⟩ := hcut
    have f2 : Fr noB w1 (w1.alloc (.cells #[.int .i64 0, .map none] 198)).drew := ((Fr.refl _ _).alloc _).drew
    have b2 : Blk (w1.alloc (.cells #[.int .i64 0, .map none] 198)).drew (cb + 1) 198 [.int .i64 0, .map none] := by
      have := Blk.new w1 198 [.int .i64 0, .map none]
      rw [hs1.out] at this
      exact this.drew
    have hs2 : (w1.alloc (.cells #[.int .i64 0, .map none] 198)).drew.heap.size = cb + 2 := by
      show (w1.alloc (.cells #[.int .i64 0, .map none] 198)).heap.size = cb + 2
      rw [size_alloc, hs1.out]
    generalize (w1.alloc (.cells #[.int .i64 0, .map none] 198)).drew = w2 at *
    have f12 := f1.out.seqN f2
    have bC := f2.blk b1.out (fun q => q)
    have hmm := @run_makeMap Tryz.prog
    -- the inner map
    have hM3 := Mp.made (P := Tryz.prog) (K := 3) (kl := klI) (mk := mkS) w2
    have f3 : Fr noB w2 (w2.alloc (.map #[] 0)) := (Fr.refl _ _).alloc _
    have b3 := f3.blk b2 (fun q => q)
    have bC3 := f3.blk bC (fun q => q)
    have k4 : w2.cell? ⟨cb, 4, none⟩ = some (.int .i64 n) := bC.cell 4
    have c30 : (w2.alloc (.map #[] 0)).cell? ⟨cb + 1, 0, none⟩ = some (.int .i64 0) := b3.cell 0
    have c31 : (w2.alloc (.map #[] 0)).cell? ⟨cb + 1, 1, none⟩ = some (.map none) := b3.cell 1
    have z30 := b3.frozen 0
    have z31 := b3.frozen 1
    have hs3 : (w2.alloc (.map #[] 0)).heap.size = cb + 3 := by rw [size_alloc, hs2]
    have f13 := f12.seqN f3
    rw [hs2] at hM3
    replace hM3 := Lib.hid hM3
    replace bC3 := Lib.hid bC3
    replace b3 := Lib.hid b3
    replace f13 := Lib.hid f13
    replace hs3 := Lib.hid hs3
    have hs2' := Lib.hid hs2
    clear f2 f12 f3 b2 bC hS hlk b1 f1 hs1 hs2
    go_wp2_with fail
    try rw [hs2'.out]
    have f4 : Fr noB w (((w2.alloc (.map #[] 0)).setCell ⟨cb + 1, 0, none⟩ (.int .i64 n)).setCell ⟨cb + 1, 1, none⟩ (.map (some (cb + 2)))) := (f13.out.storeNew (by have := hcb.out; omega)).storeNew (by have := hcb.out; omega)
    have b4 := (b3.out.set 0 (.int .i64 n)).set 1 (.map (some (cb + 2)))
    simp only [List.set_cons_zero, List.set_cons_succ] at b4
    have fs : Fr (onlyB (cb + 1)) (w2.alloc (.map #[] 0)) (((w2.alloc (.map #[] 0)).setCell ⟨cb + 1, 0, none⟩ (.int .i64 n)).setCell ⟨cb + 1, 1, none⟩ (.map (some (cb + 2)))) := ((Fr.refl _ _).store (onlyB_self _)).store (onlyB_self _)
    have M4 := hM3.out.fr fs (by unfold onlyB; omega)
    have bC4 := fs.blk bC3.out (by unfold onlyB; omega)
    have hs4 : (((w2.alloc (.map #[] 0)).setCell ⟨cb + 1, 0, none⟩ (.int .i64 n)).setCell ⟨cb + 1, 1, none⟩ (.map (some (cb + 2)))).heap.size = cb + 3 := by
      have := hs3.out
      simp [World.setCell] at this ⊢
      exact this
    generalize (((w2.alloc (.map #[] 0)).setCell ⟨cb + 1, 0, none⟩ (.int .i64 n)).setCell ⟨cb + 1, 1, none⟩ (.map (some (cb + 2)))) = w4 at *
    clear fs c30 c31 z30 z31 k4 hM3 b3 bC3 f13 hs3 hs2'
    have q3 := hc3.out _ f4
    have q0 : w4.cell? ⟨cb, 0, none⟩ = some (.int .i64 a) := bC4.cell 0
    have q10 : w4.cell? ⟨cb + 1, 0, none⟩ = some (.int .i64 n) := b4.cell 0
    have q11 : w4.cell? ⟨cb + 1, 1, none⟩ = some (.map (some (cb + 2))) := b4.cell 1
    go_still_tail 7, (by kernel_rfl)
    change wpList _ _ _ _ _ w4.drew
    have fd : Fr noB w4 w4.drew := (Fr.refl _ _).drew
    have A5 := hA.out.frN (f4.seqN fd)
    have b5 := fd.blk b4 (fun q => q)
    have bC5 := fd.blk bC4 (fun q => q)
    have M5 := M4.fr fd (fun q => q)
    have hs5 : w4.drew.heap.size = cb + 3 := hs4
    have f5 := f4.seqN fd
    generalize w4.drew = w5 at *
    clear q3 q0 q10 q11 fd f4 b4 bC4 M4 hs4
    have hom := A5.om
    have hbm : bm < cb := by have := hA.out.lt _ hA.out.db; have := hcb.out; omega
    have hnc := hom.nocell
    have hR5 := A5.r
    replace A5 := Lib.hid A5
    replace hR5 := Lib.hid hR5
    replace hnc := Lib.hid hnc
    replace b5 := Lib.hid b5
    replace bC5 := Lib.hid bC5
    replace M5 := Lib.hid M5
    replace f5 := Lib.hid f5
    replace hs5 := Lib.hid hs5
    go_wp2_with (first
      | (at_mapUpdate; refine wpList_put_mp _ rfl _ _ _ 178 rfl KI' Tryz.underlying178 mkC_inj hom (by unfold maxLen; omega) a (n, some (cb + 2)) oka rfl rfl rfl ?_; intro w6 m6 f6; have b6 := f6.blk b5.out (by unfold onlyB; omega); have bC6 := f6.blk bC5.out (by unfold onlyB; omega); have M6 := M5.out.fr f6 (by unfold onlyB; omega); have r0 : w6.cell? ⟨cb + 1, 0, none⟩ = some (.int .i64 n) := b6.cell 0; have r1 : w6.cell? ⟨cb + 1, 1, none⟩ = some (.map (some (cb + 2))) := b6.cell 1; have r3 : w6.cell? ⟨cb, 3, none⟩ = some (.int .i64 i) := bC6.cell 3; have r4 : w6.cell? ⟨cb, 4, none⟩ = some (.int .i64 n) := bC6.cell 4; have hl6 := M6.run_look_ok KI' Tryz.underlying196 (zeroSp w6) mkS_inj i oki; have hl6 : (Instr.lookup 196 (.map (some (cb + 2))) (.int .i64 i) true).run Tryz.prog w6 = .ok (.tuple #[.slice none 0 0, .bool false]) w6 := hl6; have enn : (n != n) = false := (by simp); replace m6 := Lib.hid m6; replace f6 := Lib.hid f6; replace b6 := Lib.hid b6; replace bC6 := Lib.hid bC6; replace M6 := Lib.hid M6; clear hom)
      | fail)
    have hs6 := f6.out.size
    rw [hs5.out] at hs6
    have R6 := Lib.hid (hR5.out.frM hnc.out f6.out hR5.out.nb.1 (fun _ => Ne.symm hR5.out.nb.2.1) (fun o ho => (hR5.out.inn o ho).2.2.1))
    have hsp := hs.out.frN (f5.out)
    have hsp6 := Lib.hid (hsp.frM hnc.out f6.out)
    clear hsp hl6 r4 r0
    have hS8 : ∀ w', Fr noB w6 w' → w'.cell? ⟨cb + 1, 1, none⟩ = some (.map (some (cb + 2))) ∧ w'.cell? ⟨cb, 3, none⟩ = some (.int .i64 i) ∧ w'.cell? ⟨cb, 5, none⟩ = some spv := fun w' f => ⟨f.cell r1 (fun q => q), f.cell r3 (fun q => q), (f.blk bC6.out (fun q => q)).cell 5⟩
    have hcl : ∀ w', Fr noB w6 w' → Calls Tryz.prog 142 #[spv] w' fun e w'' => ∃ v', e = .returned v' ∧ w''.ownsRow w'.heap.size 118 3 v' sp.length (sp.flatMap spC) ∧ Fr noB w' w'' := fun w' f => clone_any spv sp w' (hsp6.out.frN f) (by omega)
    have hput : ∀ (w' : World) (f : Fr noB w6 w') (v : SV), ∃ w'', (Instr.mapUpdate 196 (.map (some (cb + 2))) (.int .i64 i) (mkS v)).run Tryz.prog w' = .ok () w'' ∧ Mp Tryz.prog 3 klI mkS w'' (cb + 2) 1 [(i, v)] ∧ Fr (onlyB (cb + 2)) w' w'' := fun w' f v => (M6.out.fr f (fun q => q)).run_put KI' Tryz.underlying196 mkS_inj (by unfold maxLen; omega) i v oki
    replace hS8 := Lib.hid hS8
    replace hcl := Lib.hid hcl
    replace hput := Lib.hid hput
    clear r1 r3
    go_upto_region 8 with fail
    go_region_held3 (fun w' => w'.cell? ⟨cb + 1, 1, none⟩ = some (.map (some (cb + 2))) ∧ w'.cell? ⟨cb, 3, none⟩ = some (.int .i64 i) ∧ w'.cell? ⟨cb, 5, none⟩ = some spv)
      (first | exact hz8 | exact hS8.out _ z7 | exact hS8.out _ ((Fr.refl noB _).drewN 1) | fail)
      (first
        | (go_at_call 142; refine (hcl.out _ ((Fr.refl noB _).drewN 1)).mono ?_; rintro e w7 ⟨v7, rfl, o7, z70⟩; have z7 := ((Fr.refl noB w6).drewN 1).seqN z70; obtain ⟨a7, c7, rfl⟩ := ownsRow_slice o7; obtain ⟨w8, hrun8, M8, y8⟩ := hput.out w7 z7 (a7, sp.length, c7); simp only [mkS] at hrun8; have hz8 : w8.cell? ⟨cb + 1, 1, none⟩ = some (.map (some (cb + 2))) ∧ w8.cell? ⟨cb, 3, none⟩ = some (.int .i64 i) ∧ w8.cell? ⟨cb, 5, none⟩ = some spv := ⟨y8.cell (hS8.out _ z7).1 (by unfold onlyB; omega), y8.cell (hS8.out _ z7).2.1 (by unfold onlyB; omega), y8.cell (hS8.out _ z7).2.2 (by unfold onlyB; omega)⟩; replace M8 := Lib.hid M8; replace o7 := Lib.hid o7)
        | fail)
    all_goals (
      go_wp2_with fail
      go_ret
      have hcb' := hcb.out
      have f68 : Fr (onlyB (cb + 2)) w6 w8 := z7.trans y8 (fun _ _ q => False.elim q) (fun _ _ q => q)
      have hDc : ∀ g, D g → g < cb := fun g hg => by have := hA.out.lt g hg; omega
      have R8 := R6.out.fr f68 (fun g hg e => by have := hDc g hg; unfold onlyB at e; omega)
      have m8 := m6.out.fr f68 (by unfold onlyB; omega)
      have hsr7 : RdSp w7 (.slice a7 sp.length c7) sp := RdSp.of_own o7.out rfl
      have hlo7 : ∀ g, (Value.slice a7 sp.length c7).ownBlock = some g → cb + 3 ≤ g := fun g hg => by
        have h1 := (o7.out.lt g hg).1
        have h2 : cb + 3 ≤ w6.heap.size := hs6
        have h3 : w6.heap.size ≤ g := h1
        omega
      have hsr8 : RdSp w8 (.slice a7 sp.length c7) sp := hsr7.fr y8 (fun g o n c e q => by
        have h1 := hlo7 g (by rw [e]; rfl)
        unfold onlyB at q
        omega)
      have hs8 : cb + 3 ≤ w8.heap.size := Nat.le_trans hs6 f68.size
      have ha7 : ∀ g q, a7 = some ⟨g, q, none⟩ → cb ≤ g ∧ g < w8.heap.size := fun g q e => by
        have h1 := hlo7 g (by rw [e]; rfl)
        have h2 := (o7.out.lt g (by rw [e]; rfl)).2
        have h3 := y8.size
        omega
      refine ⟨rfl, { A with O := ⟨a, n, cb + 2, [(i, ((a7, sp.length, c7), sp))]⟩ :: A.O }, rfl, rfl, rfl, rfl, fun g => D g ∨ (cb ≤ g ∧ g < w8.heap.size), ?_, fun g hg => Or.inl hg, fun g hg => hg.elim Or.inl (fun e => Or.inr (by omega)), ?_⟩
      · have Rm := R8.mono (D' := fun g => D g ∨ (cb ≤ g ∧ g < w8.heap.size)) (fun g hg => Or.inl hg) (fun g hg => hg.elim (R8.lt g) (fun e => e.2))
        refine ⟨Rm.blk, Rm.man, ?_, fun o ho => ?_, ?_, Rm.dp, Rm.db, Rm.nb, Rm.lt⟩
        · unfold withKey at m8
          rw [without_none hlk0.out] at m8
          exact m8
        · rcases List.mem_cons.1 ho with rfl | ho
          · refine ⟨⟨M8.out, fun e he => ?_, Or.inr ⟨by show cb ≤ cb + 2; omega, by show cb + 2 < _; omega⟩, hn1, hn5, fun e he => ?_⟩, ?_, ?_, ?_, ha0, ha3⟩
            · simp at he
              subst he
              exact ⟨hsr8, fun _ g q e => Or.inr (ha7 g q e)⟩
            · simp at he
              subst he
              exact ⟨hi0, by show i < 500; omega, hsl⟩
            · have := hDc _ hA.out.dp; show cb + 2 ≠ p; omega
            · show cb + 2 ≠ bm; omega
            · have := hDc _ hA.out.nb.2.2; show cb + 2 ≠ mb; omega
          · exact Rm.inn o ho
        · show ((cb + 2) :: A.O.map (·.m)).Nodup
          rw [List.nodup_cons]
          refine ⟨fun hm => ?_, hA.out.nm⟩
          obtain ⟨o, ho, he⟩ := List.mem_map.1 hm
          have := hDc _ (hA.out.inn o ho).1.dm
          omega
      · exact (f5.out.trans f6.out (fun _ _ q => False.elim q) (fun g hg e => by unfold onlyB at e; subst e; exact hA.out.db)).trans f68 (fun _ _ q => q) (fun g hg e => by unfold onlyB at e; omega))
theorem oa_inj {α : Type} {O : List OA} (f : OA → α) (hn : (O.map f).Nodup) {x y : OA} (hx : x ∈ O) (hy : y ∈ O) (h : f x = f y) : x = y := by
  induction O with
  | nil => cases hx
  | cons z r ih =>
    rw [List.map_cons, List.nodup_cons] at hn
    rcases List.mem_cons.1 hx with e1 | h1
    · rcases List.mem_cons.1 hy with e2 | h2
      · rw [e1, e2]
      · exact absurd (List.mem_map.2 ⟨y, h2, by rw [← h, e1]⟩) hn.1
    · rcases List.mem_cons.1 hy with e2 | h2
      · exact absurd (List.mem_map.2 ⟨x, h1, by rw [h, e2]⟩) hn.1
      · exact ih hn.2 h1 h2
theorem kv_a (O : List OA) : (O.map OA.kv).map (·.1) = O.map (·.a) := by rw [List.map_map]; rfl
theorem kv_upd (O : List OA) (a : Int) (e : EN) : (O.map fun x => if x.a = a then { x with E := e :: x.E } else x).map OA.kv = O.map OA.kv := by
  rw [List.map_map]
  refine List.map_congr_left fun x _ => ?_
  show OA.kv (if _ then _ else _) = _
  split <;> rfl
def OldPost (e : Ending) (w w' : World) (p bm mb : Nat) (D : Nat → Prop) (A : AP) (a i n : Int) (sp : List Sp) (ot : Int) (cm : Bool) : Prop :=
  (cm = true ∨ n ≠ ot → e = .returned (.bool false) ∧ AsmTo w w' p bm mb D A) ∧ (¬ (cm = true ∨ n ≠ ot) → e = .returned (.bool true) ∧ ∃ A', A'.tr = A.tr ∧ A'.jb = A.jb ∧ A'.man = A.man ∧ A'.C = (A.C.map fun c => if c.1 = a then (c.1, c.2.1, (i, sp) :: c.2.2) else c) ∧ AsmTo w w' p bm mb D A')
set_option maxHeartbeats 8000000 in
theorem chunk_old (p bm mb : Nat) (D : Nat → Prop) (A : AP) (a t j i n : Int) (spv : Value) (sp : List Sp) (o : OA) (w : World) (h : AsmP w p bm mb D A) (hb : chunkB a t j i n sp = true) (hs : RdSp w spv sp) (hl : A.at a = some o) :
    Calls Tryz.prog 130 #[.pointer (some ⟨p, 0, none⟩), .agg #[.int .i64 a, .int .i64 t, .int .i64 j, .int .i64 i, .int .i64 n, spv]] w fun e w' => OldPost e w w' p bm mb D A a i n sp o.t (look (enS o.E) i).isSome := by
  obtain ⟨ha0, ha3, hn1, hn5, hi0, hin, hsl⟩ := chunk_in hb
  obtain ⟨ho, hoa⟩ := ap_some hl
  obtain ⟨hOp, hop, hobm, homb, _, _⟩ := h.inn o ho
  have oka : okI a := okI_of (by omega) (by omega)
  have oki : okI i := okI_of (by omega) (by omega)
  have hkl := key_len hOp
  have hlk0 : look (A.O.map OA.kv) a = some (o.t, some o.m) := by rw [ap_look, hl]; rfl
  have hlk : ∀ w', Fr noB w w' → (Instr.lookup 178 (.map (some bm)) (.int .i64 a) true).run Tryz.prog w' = .ok (.tuple #[.agg #[.int .i64 o.t, .map (some o.m)], .bool true]) w' := fun w' f => by
    have := (h.om.fr f (fun q => q)).run_look_ok KI' Tryz.underlying178 (zeroC w') mkC_inj a oka
    rw [hlk0] at this
    exact this
  obtain ⟨sv0, hsv0⟩ : ∃ sv0 : SV, ((look (enL o.E) i).getD (none, 0, 0)) = sv0 := ⟨_, rfl⟩
  obtain ⟨cm, hcm⟩ : ∃ cm, (look (enL o.E) i).isSome = cm := ⟨_, rfl⟩
  have hcm2 : (look (enS o.E) i).isSome = cm := by rw [ens_look, ← hcm, en_look]; cases look o.E i <;> rfl
  have hlk2 : ∀ w', Fr noB w w' → (Instr.lookup 196 (.map (some o.m)) (.int .i64 i) true).run Tryz.prog w' = .ok (.tuple #[mkS sv0, .bool cm]) w' := fun w' f => by
    have := (hOp.mp.fr f (fun q => q)).run_look_ok KI' Tryz.underlying196 (zeroSp w') mkS_inj i oki
    rw [hsv0, hcm] at this
    exact this
  have hc3 : ∀ w', Fr noB w w' → w'.cell? ⟨p, 3, none⟩ = some (.map (some bm)) := fun w' f => (h.frN f).blk.cell 3
  rw [hcm2]
  obtain ⟨cb, hcb⟩ : ∃ cb, w.heap.size = cb := ⟨_, rfl⟩
  have f1 : Fr noB w (w.alloc (.cells #[.int .i64 a, .int .i64 t, .int .i64 j, .int .i64 i, .int .i64 n, spv] 75)) := (Fr.refl _ _).alloc _
  have b1 := Blk.new w 75 [.int .i64 a, .int .i64 t, .int .i64 j, .int .i64 i, .int .i64 n, spv]
  have hs1 : (w.alloc (.cells #[.int .i64 a, .int .i64 t, .int .i64 j, .int .i64 i, .int .i64 n, spv] 75)).heap.size = cb + 1 := by rw [size_alloc, hcb]
  rw [hcb] at b1
  have hA := Lib.hid h
  replace hs := Lib.hid hs
  replace hl := Lib.hid hl
  replace hlk := Lib.hid hlk
  replace hlk2 := Lib.hid hlk2
  replace hc3 := Lib.hid hc3
  replace hlk0 := Lib.hid hlk0
  replace hcm := Lib.hid hcm
  replace hcm2 := Lib.hid hcm2
  replace hsv0 := Lib.hid hsv0
  replace ho := Lib.hid ho
  replace hoa := Lib.hid hoa
  replace hOp := Lib.hid hOp
  replace hop := Lib.hid hop
  replace hobm := Lib.hid hobm
  replace homb := Lib.hid homb
  clear h hb
  go_enter Tryz.func130, Tryz.ntmps130
  go_upto_region 1 with fail
  try rw [hcb]
  replace hcb := Lib.hid hcb
  generalize (w.alloc (.cells #[.int .i64 a, .int .i64 t, .int .i64 j, .int .i64 i, .int .i64 n, spv] 75)) = w1 at *
  have hS : ∀ w', Fr noB w1 w' → w'.cell? ⟨p, 3, none⟩ = some (.map (some bm)) ∧ w'.cell? ⟨cb, 0, none⟩ = some (.int .i64 a) ∧ (Instr.lookup 178 (.map (some bm)) (.int .i64 a) true).run Tryz.prog w' = .ok (.tuple #[.agg #[.int .i64 o.t, .map (some o.m)], .bool true]) w' := fun w' f => ⟨hc3.out _ (f1.seqN f), (f.blk b1 (fun q => q)).cell 0, hlk.out _ (f1.seqN f)⟩
  replace hS := Lib.hid hS
  replace b1 := Lib.hid b1
  replace f1 := Lib.hid f1
  replace hs1 := Lib.hid hs1
  go_cut [5, 6] from 9 to 18 (fun cp is wx => cp = .pointer (some ⟨cb + 1, 0, none⟩) ∧ is = .bool true ∧ wx = (w1.alloc (.cells #[.int .i64 o.t, .map (some o.m)] 198)).drew)
  case first =>
    go_region_held3 (fun w' => w'.cell? ⟨p, 3, none⟩ = some (.map (some bm)) ∧ w'.cell? ⟨cb, 0, none⟩ = some (.int .i64 a) ∧ (Instr.lookup 178 (.map (some bm)) (.int .i64 a) true).run Tryz.prog w' = .ok (.tuple #[.agg #[.int .i64 o.t, .map (some o.m)], .bool true]) w')
      (first | exact hS.out _ ((Fr.refl noB _).drewN 1) | exact hS.out _ (((Fr.refl noB _).drewN 1).alloc _) | fail)
      (fail)
    all_goals (
      go_wp2_with fail
      go_meet
      exact ⟨by rw [hs1.out], rfl, rfl⟩)
  case rest =>
    obtain ⟨rfl, rfl, rfl⟩ := hcut
    have f2 : Fr noB w1 (w1.alloc (.cells #[.int .i64 o.t, .map (some o.m)] 198)).drew := ((Fr.refl _ _).alloc _).drew
    have b2 : Blk (w1.alloc (.cells #[.int .i64 o.t, .map (some o.m)] 198)).drew (cb + 1) 198 [.int .i64 o.t, .map (some o.m)] := by
      have := Blk.new w1 198 [.int .i64 o.t, .map (some o.m)]
      rw [hs1.out] at this
      exact this.drew
    have hs2 : (w1.alloc (.cells #[.int .i64 o.t, .map (some o.m)] 198)).drew.heap.size = cb + 2 := by
      show (w1.alloc (.cells #[.int .i64 o.t, .map (some o.m)] 198)).heap.size = cb + 2
      rw [size_alloc, hs1.out]
    generalize (w1.alloc (.cells #[.int .i64 o.t, .map (some o.m)] 198)).drew = w2 at *
    have f12 := f1.out.seqN f2
    have bC := f2.blk b1.out (fun q => q)
    have r0 : w2.cell? ⟨cb + 1, 0, none⟩ = some (.int .i64 o.t) := b2.cell 0
    have r1 : w2.cell? ⟨cb + 1, 1, none⟩ = some (.map (some o.m)) := b2.cell 1
    have r3 : w2.cell? ⟨cb, 3, none⟩ = some (.int .i64 i) := bC.cell 3
    have r4 : w2.cell? ⟨cb, 4, none⟩ = some (.int .i64 n) := bC.cell 4
    have hl6 := hlk2.out w2 f12
    have A2 := hA.out.frN f12
    have hDc : ∀ g, D g → g < cb := fun g hg => by have := hA.out.lt g hg; have := hcb.out; omega
    replace hDc := Lib.hid hDc
    replace bC := Lib.hid bC
    replace b2 := Lib.hid b2
    replace f12 := Lib.hid f12
    replace hs2 := Lib.hid hs2
    replace A2 := Lib.hid A2
    clear f2 hS hlk b1 f1 hs1 hlk2
    unfold mkS at hl6
    have hno : ∀ w', Fr noB w w' → AsmTo w w' p bm mb D A := fun w' f => ⟨D, hA.out.frN f, fun g hg => hg, fun g hg => Or.inl hg, f.mono (fun _ _ q => False.elim q)⟩
    replace hno := Lib.hid hno
    cases cm
    rotate_left
    · go_wp2_with fail
      go_ret
      exact ⟨fun _ => ⟨rfl, hno.out _ f12.out⟩, fun q => absurd (Or.inl rfl) q⟩
    by_cases hnt : n = o.t
    rotate_left
    · have e1 : (n != o.t) = true := by simpa using hnt
      have e2 : decide (n = o.t) = false := by simpa using hnt
      replace hnt := Lib.hid hnt
      go_wp2_with fail
      go_ret
      exact ⟨fun _ => ⟨rfl, hno.out _ f12.out⟩, fun q => absurd (Or.inr hnt.out) q⟩
    have e1 : (n != o.t) = false := by simpa using hnt
    replace hnt := Lib.hid hnt
    have hsp2 := Lib.hid (hs.out.frN f12.out)
    have M2 := (A2.out.inn o ho.out).1.mp
    have hom2 := o.m
    have hcol : o.m < cb := hDc.out _ hOp.out.dm
    have hnone : look (enL o.E) i = none := by
      cases hq : look (enL o.E) i with
      | none => rfl
      | some v => have := hcm.out; rw [hq] at this; cases this
    have hS8 : ∀ w', Fr noB w2 w' → w'.cell? ⟨cb + 1, 1, none⟩ = some (.map (some o.m)) ∧ w'.cell? ⟨cb, 3, none⟩ = some (.int .i64 i) ∧ w'.cell? ⟨cb, 5, none⟩ = some spv := fun w' f => ⟨f.cell r1 (fun q => q), f.cell r3 (fun q => q), (f.blk bC.out (fun q => q)).cell 5⟩
    have hcl : ∀ w', Fr noB w2 w' → Calls Tryz.prog 142 #[spv] w' fun e w'' => ∃ v', e = .returned v' ∧ w''.ownsRow w'.heap.size 118 3 v' sp.length (sp.flatMap spC) ∧ Fr noB w' w'' := fun w' f => clone_any spv sp w' (hsp2.out.frN f) (by omega)
    have hput : ∀ (w' : World) (f : Fr noB w2 w') (v : SV), ∃ w'', (Instr.mapUpdate 196 (.map (some o.m)) (.int .i64 i) (mkS v)).run Tryz.prog w' = .ok () w'' ∧ Mp Tryz.prog 3 klI mkS w'' o.m ((enL o.E).length + 1) ((i, v) :: enL o.E) ∧ Fr (onlyB o.m) w' w'' := fun w' f v => by
      have := (M2.fr f (fun q => q)).run_put KI' Tryz.underlying196 mkS_inj (by rw [enL_len]; unfold maxLen; omega) i v oki
      unfold withKey at this
      rw [without_none hnone] at this
      exact this
    have hncm : ∀ w', Fr noB w2 w' → ∀ q, w'.cell? ⟨o.m, q, none⟩ = none := fun w' f => (M2.fr f (fun q => q)).nocell
    replace hS8 := Lib.hid hS8
    replace hcl := Lib.hid hcl
    replace hput := Lib.hid hput
    replace hncm := Lib.hid hncm
    replace hcol := Lib.hid hcol
    have hcol1 : cb + 1 ≠ o.m ∧ cb ≠ o.m := by have := hcol.out; omega
    replace hcol1 := Lib.hid hcol1
    clear M2 hnone
    go_upto_region 8 with fail
    clear r0 r1 r3 r4 hl6 e1
    go_region_held3 (fun w' => w'.cell? ⟨cb + 1, 1, none⟩ = some (.map (some o.m)) ∧ w'.cell? ⟨cb, 3, none⟩ = some (.int .i64 i) ∧ w'.cell? ⟨cb, 5, none⟩ = some spv)
      (first | exact hz8 | exact hS8.out _ z7 | exact hS8.out _ ((Fr.refl noB _).drewN 1) | fail)
      (first
        | (go_at_call 142; refine (hcl.out _ ((Fr.refl noB _).drewN 1)).mono ?_; rintro e w7 ⟨v7, rfl, o7, z70⟩; have z7 := ((Fr.refl noB w2).drewN 1).seqN z70; obtain ⟨a7, c7, rfl⟩ := ownsRow_slice o7; obtain ⟨w8, hrun8, M8, y8⟩ := hput.out w7 z7 (a7, sp.length, c7); simp only [mkS] at hrun8; have hz8 : w8.cell? ⟨cb + 1, 1, none⟩ = some (.map (some o.m)) ∧ w8.cell? ⟨cb, 3, none⟩ = some (.int .i64 i) ∧ w8.cell? ⟨cb, 5, none⟩ = some spv := ⟨y8.cell (hS8.out _ z7).1 (by have := hcol1.out; unfold onlyB; omega), y8.cell (hS8.out _ z7).2.1 (by have := hcol1.out; unfold onlyB; omega), y8.cell (hS8.out _ z7).2.2 (by have := hcol1.out; unfold onlyB; omega)⟩; replace M8 := Lib.hid M8; replace o7 := Lib.hid o7)
        | fail)
    all_goals (
      go_wp2_with fail
      go_ret
      have hcb' := hcb.out
      have R7 := (A2.out.frN z7).r
      have hnA : (A.O.map (·.a)).Nodup := by rw [← kv_a]; exact hA.out.om.nodup
      have hoth : ∀ x ∈ A.O, x.a ≠ a → x.m ≠ o.m := fun x hx hxa e => hxa (by rw [oa_inj (·.m) hA.out.nm hx ho.out e]; exact hoa.out)
      have Rf := R7.sub (O' := A.O.filter fun x => decide (x.a ≠ a)) List.filter_sublist
      have Rf8 := Rf.frM (hncm.out w7 z7) y8 (fun e => hop.out e.symm) (fun _ e => homb.out e.symm) (fun x hx => by
        obtain ⟨h1, h2⟩ := List.mem_filter.1 hx
        exact hoth x h1 (by simpa using h2))
      have om8 : Mp Tryz.prog 3 klI mkC w8 bm A.O.length (A.O.map OA.kv) := (A2.out.frN z7).om.fr y8 (fun e => hobm.out (by unfold onlyB at e; exact e.symm))
      have hsr7 : RdSp w7 (.slice a7 sp.length c7) sp := RdSp.of_own o7.out rfl
      have hsr8 := hsr7.frM (hncm.out w7 z7) y8
      have hsz2 : cb + 2 ≤ w2.heap.size := Nat.le_of_eq hs2.out.symm
      have ha7 : ∀ g q, a7 = some ⟨g, q, none⟩ → cb ≤ g ∧ g < w8.heap.size := fun g q e => by
        have h1 := (o7.out.lt g (by rw [e]; rfl)).1
        have h2 := (o7.out.lt g (by rw [e]; rfl)).2
        have h3 := y8.size
        have h4 : w2.heap.size ≤ g := h1
        omega
      unfold OldPost
      refine ⟨fun q => ?_, fun _ => ⟨rfl, { A with O := A.O.map fun x => if x.a = a then { x with E := (i, ((a7, sp.length, c7), sp)) :: x.E } else x }, rfl, rfl, rfl, ?_, fun g => D g ∨ (cb ≤ g ∧ g < w8.heap.size), ?_, fun g hg => Or.inl hg, fun g hg => hg.elim Or.inl (fun e => Or.inr (by omega)), ?_⟩⟩
      · rcases q with q | q
        · cases q
        · exact absurd hnt.out q
      · unfold AP.C
        rw [List.map_map, List.map_map]
        refine List.map_congr_left fun x hx => ?_
        show _ = (if x.a = a then _ else _)
        show ((if x.a = a then _ else _ : OA).a, (if x.a = a then _ else _ : OA).t, enS (if x.a = a then _ else _ : OA).E) = _
        split <;> rfl
      · have Rm := Rf8.mono (D' := fun g => D g ∨ (cb ≤ g ∧ g < w8.heap.size)) (fun g hg => Or.inl hg) (fun g hg => hg.elim (Rf8.lt g) (fun e => e.2))
        refine ⟨Rm.blk, Rm.man, ?_, fun y hy => ?_, ?_, Rm.dp, Rm.db, Rm.nb, Rm.lt⟩
        · show Mp Tryz.prog 3 klI mkC w8 bm (A.O.map _).length _
          rw [List.length_map, kv_upd]
          exact om8
        · obtain ⟨x, hx, rfl⟩ := List.mem_map.1 hy
          by_cases hxa : x.a = a
          · rw [if_pos hxa]
            obtain rfl := oa_inj (·.a) hnA hx ho.out (hxa.trans hoa.out.symm)
            refine ⟨⟨?_, fun e he => ?_, Or.inl hOp.out.dm, hOp.out.t0, hOp.out.t5, fun e he => ?_⟩, hop.out, hobm.out, homb.out, by show 0 ≤ x.a; omega, by show x.a ≤ 3; omega⟩
            · exact M8.out
            · rcases List.mem_cons.1 he with rfl | he
              · exact ⟨hsr8, fun _ g q e => Or.inr (ha7 g q e)⟩
              · obtain ⟨k1, k2⟩ := (R7.inn x hx).1.rd e he
                exact ⟨k1.frM (hncm.out w7 z7) y8, fun hne g q e => Or.inl (k2 hne g q e)⟩
            · rcases List.mem_cons.1 he with rfl | he
              · exact ⟨hi0, by show i < 500; omega, hsl⟩
              · exact hOp.out.ix e he
          · rw [if_neg hxa]
            exact Rm.inn x (List.mem_filter.2 ⟨hx, by simpa using hxa⟩)
        · show ((A.O.map _).map _).Nodup
          have : (A.O.map fun x => if x.a = a then { x with E := (i, ((a7, sp.length, c7), sp)) :: x.E } else x).map (·.m) = A.O.map (·.m) := by
            rw [List.map_map]
            refine List.map_congr_left fun x _ => ?_
            show OA.m (if _ then _ else _) = _
            split <;> rfl
          rw [this]
          exact hA.out.nm
      · exact (f12.out.seqN z7).trans y8 (fun _ _ q => False.elim q) (fun g hg e => by unfold onlyB at e; subst e; exact hOp.out.dm))
end Go.Proofs.YtdmhnoffejjpnaaGreatDoor
end
