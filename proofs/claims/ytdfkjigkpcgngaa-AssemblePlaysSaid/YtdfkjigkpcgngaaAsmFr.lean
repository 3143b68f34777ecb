/-
  What a write into a map leaves of what came so far.
-/
import Derived.Test.YtdfkjigkpcgngaaAsmChunk0
set_option linter.unusedVariables false
set_option linter.unusedSimpArgs false
set_option maxRecDepth 100000
set_option maxRecDepth 100000
namespace Go.Proofs.Ytdfkjigkpcgngaa
open Go.RowKit Go Go.Maps Go.Lib

theorem Mp.nocell {κ α : Type} [DecidableEq κ] {K : TypeId} {kl : κ → Lit} {mk : α → Value} {w : World} {b n : Nat} {L : List (κ × α)} (h : Mp Try.prog K kl mk w b n L) (o : Nat) : w.cell? ⟨b, o, none⟩ = none := by
  obtain ⟨es, ⟨_, _, hb, _⟩, _⟩ := h
  simp [World.cell?, hb]
theorem frM_cell {w w' : World} {b g o : Nat} {v : Value} (hb : ∀ o, w.cell? ⟨b, o, none⟩ = none) (f : Fr (onlyB b) w w') (hc : w.cell? ⟨g, o, none⟩ = some v) : w'.cell? ⟨g, o, none⟩ = some v :=
  f.cell hc (fun e => by unfold onlyB at e; subst e; rw [hb o] at hc; cases hc)
theorem RdSp.frM {w w' : World} {b : Nat} {v : Value} {L : List Sp} (h : RdSp w v L) (hb : ∀ o, w.cell? ⟨b, o, none⟩ = none) (f : Fr (onlyB b) w w') : RdSp w' v L := by
  obtain ⟨a, c, rfl, hl, hc, hn, h1⟩ := h
  refine ⟨a, c, rfl, hl, hc, hn, fun i s hi => ?_⟩
  obtain ⟨g, o, rfl, c0, c1, c2⟩ := h1 i s hi
  exact ⟨g, o, rfl, frM_cell hb f c0, frM_cell hb f c1, frM_cell hb f c2⟩
theorem RdI.frM {w w' : World} {b : Nat} {v : Value} {xs : List Int} (h : RdI w v xs) (hb : ∀ o, w.cell? ⟨b, o, none⟩ = none) (f : Fr (onlyB b) w w') : RdI w' v xs := by
  obtain ⟨a, c, rfl, h1, h2, h3⟩ := h
  refine ⟨a, c, rfl, h1, h2, fun i hi => ?_⟩
  obtain ⟨g, o, rfl, h4⟩ := h3 i hi
  exact ⟨g, o, rfl, frM_cell hb f h4⟩
theorem RdPsD.frM {w w' : World} {b : Nat} {D : Nat → Prop} {v : Value} {ps : List Pn} (h : RdPsD w D v ps) (hb : ∀ o, w.cell? ⟨b, o, none⟩ = none) (f : Fr (onlyB b) w w') : RdPsD w' D v ps := by
  obtain ⟨a, c, rfl, h1, h2, h3⟩ := h
  refine ⟨a, c, rfl, h1, h2, fun i p hi => ?_⟩
  obtain ⟨g, ua, uc, e, hd, h4, h5, h6⟩ := h3 i p hi
  exact ⟨g, ua, uc, e, hd, fun q x hq => frM_cell hb f (h4 q x hq), h5.frM hb f, h6⟩
theorem OAp.frM {w w' : World} {b : Nat} {D : Nat → Prop} {o : OA} (h : OAp w D o) (hb : ∀ o, w.cell? ⟨b, o, none⟩ = none) (f : Fr (onlyB b) w w') (hm : o.m ≠ b) : OAp w' D o :=
  ⟨h.mp.fr f hm, fun e he => ⟨(h.rd e he).1.frM hb f, (h.rd e he).2⟩, h.dm, h.t0, h.t5, h.ix⟩
/-- all of it but the map of agents -/
structure AsmR (w : World) (p bm mb : Nat) (D : Nat → Prop) (A : AP) (O : List OA) : Prop where
  blk : Blk w p 76 [.int .i64 A.tr, .int .i64 A.jb, .pointer (A.mp mb), .map (some bm)]
  man : ∀ c ps, A.man = some (c, ps) → (∃ v, Blk w mb 59 [.int .i64 A.tr, .int .i64 A.jb, .int .i64 c, v] ∧ RdPsD w D v ps) ∧ D mb ∧ mb ≠ p ∧ ps.length ≤ 4 ∧ ∀ q ∈ ps, pnB q = true
  inn : ∀ o ∈ O, OAp w D o ∧ o.m ≠ p ∧ o.m ≠ bm ∧ o.m ≠ mb ∧ 0 ≤ o.a ∧ o.a ≤ 3
  nm : (O.map (·.m)).Nodup
  dp : D p
  db : D bm
  nb : p ≠ bm ∧ bm ≠ mb ∧ D mb
  lt : ∀ g, D g → g < w.heap.size
theorem AsmP.r {w : World} {p bm mb : Nat} {D : Nat → Prop} {A : AP} (h : AsmP w p bm mb D A) : AsmR w p bm mb D A A.O := ⟨h.blk, h.man, h.inn, h.nm, h.dp, h.db, h.nb, h.lt⟩
theorem AsmR.fr {w w' : World} {p bm mb : Nat} {D S : Nat → Prop} {A : AP} {O : List OA} (h : AsmR w p bm mb D A O) (hf : Fr S w w') (hS : ∀ g, D g → ¬ S g) : AsmR w' p bm mb D A O :=
  ⟨hf.blk h.blk (hS _ h.dp), fun c ps e => by
    obtain ⟨⟨v, h1, h2⟩, h3, h4⟩ := h.man c ps e
    exact ⟨⟨v, hf.blk h1 (hS _ h3), h2.fr hf hS⟩, h3, h4⟩, fun o ho => ⟨(h.inn o ho).1.fr hf hS, (h.inn o ho).2⟩, h.nm, h.dp, h.db, h.nb, fun g hg => Nat.lt_of_lt_of_le (h.lt g hg) hf.size⟩
theorem AsmR.frM {w w' : World} {p bm mb b : Nat} {D : Nat → Prop} {A : AP} {O : List OA} (h : AsmR w p bm mb D A O) (hb : ∀ o, w.cell? ⟨b, o, none⟩ = none) (f : Fr (onlyB b) w w') (h1 : p ≠ b) (h2 : A.man ≠ none → mb ≠ b) (h3 : ∀ o ∈ O, o.m ≠ b) : AsmR w' p bm mb D A O :=
  ⟨f.blk h.blk h1, fun c ps e => by
    obtain ⟨⟨v, k1, k2⟩, k3, k4⟩ := h.man c ps e
    exact ⟨⟨v, f.blk k1 (h2 (by rw [e]; simp)), k2.frM hb f⟩, k3, k4⟩, fun o ho => ⟨(h.inn o ho).1.frM hb f (h3 o ho), (h.inn o ho).2⟩, h.nm, h.dp, h.db, h.nb, fun g hg => Nat.lt_of_lt_of_le (h.lt g hg) f.size⟩
theorem AsmR.mono {w : World} {p bm mb : Nat} {D D' : Nat → Prop} {A : AP} {O : List OA} (h : AsmR w p bm mb D A O) (hD : ∀ g, D g → D' g) (hl : ∀ g, D' g → g < w.heap.size) : AsmR w p bm mb D' A O :=
  ⟨h.blk, fun c ps e => by
    obtain ⟨⟨v, h1, h2⟩, h3, h4⟩ := h.man c ps e
    exact ⟨⟨v, h1, h2.mono hD⟩, hD _ h3, h4⟩, fun o ho => ⟨(h.inn o ho).1.mono hD, (h.inn o ho).2⟩, h.nm, hD _ h.dp, hD _ h.db, ⟨h.nb.1, h.nb.2.1, hD _ h.nb.2.2⟩, hl⟩
theorem AsmR.sub {w : World} {p bm mb : Nat} {D : Nat → Prop} {A : AP} {O : List OA} (h : AsmR w p bm mb D A O) {O' : List OA} (hs : O'.Sublist O) : AsmR w p bm mb D A O' :=
  ⟨h.blk, h.man, fun o ho => h.inn o (hs.subset ho), (hs.map _).nodup h.nm, h.dp, h.db, h.nb, h.lt⟩
/-- what a call makes of it -/
def AsmTo (w w' : World) (p bm mb : Nat) (D : Nat → Prop) (A' : AP) : Prop := ∃ D', AsmP w' p bm mb D' A' ∧ (∀ g, D g → D' g) ∧ (∀ g, D' g → D g ∨ w.heap.size ≤ g) ∧ Fr D w w'
end Go.Proofs.Ytdfkjigkpcgngaa
