/-
  What came of a record so far: the program's, by its numbers, and where it lies.
-/
import Derived.Test.YtdfkjigkpcgngaaMapA
import Derived.Test.YtdfkjigkpcgngaaSpanB5
import Derived.Test.YtdfkjigkpcgngaaMsTB
import Derived.Test.YtdfkjigkpcgngaaPUB
set_option linter.unusedVariables false
set_option linter.unusedSimpArgs false
set_option maxRecDepth 100000
set_option maxRecDepth 100000
namespace Go.Proofs.Ytdfkjigkpcgngaa
open Go.RowKit Go Go.Maps Go.Lib

abbrev SV := Option Addr × Nat × Nat
def mkS (s : SV) : Value := .slice s.1 s.2.1 s.2.2
theorem mkS_inj (x y : SV) (h : mkS x = mkS y) : x = y := by obtain ⟨a, b, c⟩ := x; obtain ⟨d, e, f⟩ := y; simp only [mkS, Value.slice.injEq] at h; obtain ⟨rfl, rfl, rfl⟩ := h; rfl
theorem zeroSp (w : World) : (zeroValue 32).run Try.prog w = .ok (mkS (none, 0, 0)) w := by kernel_rfl
/-- an agent's: how many chunks in all, and the map of those that came -/
def mkC (x : Int × Option Nat) : Value := .agg #[.int .i64 x.1, .map x.2]
theorem mkC_inj (x y : Int × Option Nat) (h : mkC x = mkC y) : x = y := by
  obtain ⟨a, b⟩ := x; obtain ⟨c, d⟩ := y
  simp only [mkC, Value.agg.injEq, Array.mk.injEq, List.cons.injEq, Value.int.injEq, Value.map.injEq, true_and, and_true] at h
  obtain ⟨rfl, rfl⟩ := h; rfl
theorem zeroC (w : World) : (zeroValue 101).run Try.prog w = .ok (mkC (0, none)) w := by kernel_rfl

abbrev EN := Int × (SV × List Sp)
structure OA where
  a : Int
  t : Int
  m : Nat
  E : List EN
def OA.kv (o : OA) : Int × (Int × Option Nat) := (o.a, (o.t, some o.m))
def enL (E : List EN) : List (Int × SV) := E.map fun e => (e.1, e.2.1)
def enS (E : List EN) : List (Int × List Sp) := E.map fun e => (e.1, e.2.2)
structure AP where
  tr : Int
  jb : Int
  man : Option (Int × List Pn)
  O : List OA
theorem RdSp.fr1 {w w' : World} {v : Value} {L : List Sp} {S : Nat → Prop} (h : RdSp w v L) (hf : Fr S w w') (hS : L ≠ [] → ∀ g o n c, v = .slice (some ⟨g, o, none⟩) n c → ¬ S g) : RdSp w' v L := by
  obtain ⟨a, c, rfl, hl, hc, hn, h1⟩ := h
  refine ⟨a, c, rfl, hl, hc, hn, fun i s hi => ?_⟩
  obtain ⟨g, o, rfl, c0, c1, c2⟩ := h1 i s hi
  have := hS (fun e => by rw [e] at hi; simp at hi) g o _ _ rfl
  exact ⟨g, o, rfl, hf.cell c0 this, hf.cell c1 this, hf.cell c2 this⟩
theorem RdI.fr1 {w w' : World} {v : Value} {xs : List Int} {S : Nat → Prop} (h : RdI w v xs) (hf : Fr S w w') (hS : xs ≠ [] → ∀ g o n c, v = .slice (some ⟨g, o, none⟩) n c → ¬ S g) : RdI w' v xs := by
  obtain ⟨a, c, rfl, h1, h2, h3⟩ := h
  refine ⟨a, c, rfl, h1, h2, fun i hi => ?_⟩
  obtain ⟨g, o, rfl, h4⟩ := h3 i hi
  exact ⟨g, o, rfl, hf.cell h4 (hS (fun e => by subst e; exact absurd hi (Nat.not_lt_zero _)) _ _ _ _ rfl)⟩
/-- parts that lie among the blocks of D -/
def RdPsD (w : World) (D : Nat → Prop) (v : Value) (ps : List Pn) : Prop :=
  ∃ a c, v = .slice a ps.length c ∧ ps.length ≤ c ∧ ps.length ≤ 1000000 ∧ ∀ i p, ps[i]? = some p → ∃ g ua uc, a = some ⟨g, 0, none⟩ ∧ D g ∧ (∀ q x, (pnC p (.slice ua p.cr.length uc))[q]? = some x → w.cell? ⟨g, i * 6 + q, none⟩ = some x) ∧ RdI w (.slice ua p.cr.length uc) p.cr ∧ (p.cr ≠ [] → ∀ g' o', ua = some ⟨g', o', none⟩ → D g')
theorem RdPsD.fr {w w' : World} {D S : Nat → Prop} {v : Value} {ps : List Pn} (h : RdPsD w D v ps) (hf : Fr S w w') (hS : ∀ g, D g → ¬ S g) : RdPsD w' D v ps := by
  obtain ⟨a, c, rfl, h1, h2, h3⟩ := h
  refine ⟨a, c, rfl, h1, h2, fun i p hi => ?_⟩
  obtain ⟨g, ua, uc, e, hd, h4, h5, h6⟩ := h3 i p hi
  exact ⟨g, ua, uc, e, hd, fun q x hq => hf.cell (h4 q x hq) (hS g hd), h5.fr1 hf (fun hne g' o n c e => hS g' (h6 hne g' o (by injection e))), h6⟩
theorem RdPsD.mono {w : World} {D D' : Nat → Prop} {v : Value} {ps : List Pn} (h : RdPsD w D v ps) (hD : ∀ g, D g → D' g) : RdPsD w D' v ps := by
  obtain ⟨a, c, rfl, h1, h2, h3⟩ := h
  refine ⟨a, c, rfl, h1, h2, fun i p hi => ?_⟩
  obtain ⟨g, ua, uc, e, hd, h4, h5, h6⟩ := h3 i p hi
  exact ⟨g, ua, uc, e, hD g hd, h4, h5, fun hne g' o' e => hD g' (h6 hne g' o' e)⟩
theorem RdPsD.ps {w : World} {D : Nat → Prop} {v : Value} {ps : List Pn} (h : RdPsD w D v ps) : RdPs w v ps := by
  obtain ⟨a, c, rfl, h1, h2, h3⟩ := h
  refine ⟨a, c, rfl, h1, by omega, fun i p hi => ?_⟩
  obtain ⟨g, ua, uc, e, hd, h4, h5, h6⟩ := h3 i p hi
  exact ⟨g, 0, ua, uc, e, fun q x hq => by rw [Nat.zero_add]; exact h4 q x hq, h5⟩

/-- an agent's chunks lie so -/
structure OAp (w : World) (D : Nat → Prop) (o : OA) : Prop where
  mp : Mp Try.prog 3 klI mkS w o.m (enL o.E).length (enL o.E)
  rd : ∀ e ∈ o.E, RdSp w (mkS e.2.1) e.2.2 ∧ (e.2.2 ≠ [] → ∀ g q, e.2.1.1 = some ⟨g, q, none⟩ → D g)
  dm : D o.m
  t0 : 1 ≤ o.t
  t5 : o.t ≤ 500
  ix : ∀ e ∈ o.E, 0 ≤ e.1 ∧ e.1 < 500 ∧ e.2.2.length ≤ 2
def AP.mp (A : AP) (mb : Nat) : Option Addr := match A.man with | none => none | some _ => some ⟨mb, 0, none⟩
/-- what came of a record so far, at block p; its blocks are those of D -/
structure AsmP (w : World) (p bm mb : Nat) (D : Nat → Prop) (A : AP) : Prop where
  blk : Blk w p 76 [.int .i64 A.tr, .int .i64 A.jb, .pointer (A.mp mb), .map (some bm)]
  man : ∀ c ps, A.man = some (c, ps) → (∃ v, Blk w mb 59 [.int .i64 A.tr, .int .i64 A.jb, .int .i64 c, v] ∧ RdPsD w D v ps) ∧ D mb ∧ mb ≠ p ∧ ps.length ≤ 4 ∧ ∀ q ∈ ps, pnB q = true
  om : Mp Try.prog 3 klI mkC w bm A.O.length (A.O.map OA.kv)
  inn : ∀ o ∈ A.O, OAp w D o ∧ o.m ≠ p ∧ o.m ≠ bm ∧ o.m ≠ mb ∧ 0 ≤ o.a ∧ o.a ≤ 3
  nm : (A.O.map (·.m)).Nodup
  dp : D p
  db : D bm
  nb : p ≠ bm ∧ bm ≠ mb ∧ D mb
  lt : ∀ g, D g → g < w.heap.size
theorem OAp.fr {w w' : World} {D S : Nat → Prop} {o : OA} (h : OAp w D o) (hf : Fr S w w') (hS : ∀ g, D g → ¬ S g) : OAp w' D o :=
  ⟨h.mp.fr hf (hS _ h.dm), fun e he => ⟨(h.rd e he).1.fr1 hf (fun hne g q n c e' => hS g ((h.rd e he).2 hne g q (by unfold mkS at e'; injection e'))), (h.rd e he).2⟩, h.dm, h.t0, h.t5, h.ix⟩
theorem OAp.mono {w : World} {D D' : Nat → Prop} {o : OA} (h : OAp w D o) (hD : ∀ g, D g → D' g) : OAp w D' o :=
  ⟨h.mp, fun e he => ⟨(h.rd e he).1, fun hne g q e' => hD g ((h.rd e he).2 hne g q e')⟩, hD _ h.dm, h.t0, h.t5, h.ix⟩
theorem AsmP.fr {w w' : World} {p bm mb : Nat} {D S : Nat → Prop} {A : AP} (h : AsmP w p bm mb D A) (hf : Fr S w w') (hS : ∀ g, D g → ¬ S g) : AsmP w' p bm mb D A :=
  ⟨hf.blk h.blk (hS _ h.dp), fun c ps e => by
    obtain ⟨⟨v, h1, h2⟩, h3, h4⟩ := h.man c ps e
    exact ⟨⟨v, hf.blk h1 (hS _ h3), h2.fr hf hS⟩, h3, h4⟩, h.om.fr hf (hS _ h.db), fun o ho => ⟨(h.inn o ho).1.fr hf hS, (h.inn o ho).2⟩, h.nm, h.dp, h.db, h.nb, fun g hg => Nat.lt_of_lt_of_le (h.lt g hg) hf.size⟩
theorem AsmP.frN {w w' : World} {p bm mb : Nat} {D : Nat → Prop} {A : AP} (h : AsmP w p bm mb D A) (hf : Fr noB w w') : AsmP w' p bm mb D A := h.fr hf (fun _ _ q => q)
/-! ### looking things up -/
theorem look_map {α β κ : Type} [DecidableEq κ] (f : α → β) (L : List (κ × α)) (k : κ) : look (L.map fun p => (p.1, f p.2)) k = (look L k).map f := by
  induction L with
  | nil => rfl
  | cons p r ih =>
    unfold look at ih ⊢
    rw [List.map_cons, List.find?_cons, List.find?_cons]
    by_cases h : p.1 = k
    · simp [h]
    · simp only [h, decide_false]
      exact ih
def AP.at (A : AP) (a : Int) : Option OA := A.O.find? fun o => decide (o.a = a)
theorem ap_some {A : AP} {a : Int} {o : OA} (h : A.at a = some o) : o ∈ A.O ∧ o.a = a := by
  unfold AP.at at h
  exact ⟨List.mem_of_find?_eq_some h, by have := List.find?_some h; simpa using this⟩
theorem ap_look (A : AP) (a : Int) : look (A.O.map OA.kv) a = (A.at a).map fun o => (o.t, some o.m) := by
  unfold AP.at look
  induction A.O with
  | nil => rfl
  | cons o r ih =>
    rw [List.map_cons, List.find?_cons, List.find?_cons]
    show Option.map _ (match decide (o.a = a) with | true => some o.kv | false => _) = _
    by_cases h : o.a = a
    · simp [h, OA.kv]
    · simp only [h, decide_false]
      exact ih
theorem en_look (E : List EN) (i : Int) : look (enL E) i = (look E i).map (·.1) := look_map (fun x : SV × List Sp => x.1) E i
theorem ens_look (E : List EN) (i : Int) : look (enS E) i = (look E i).map (·.2) := look_map (fun x : SV × List Sp => x.2) E i
theorem enL_len (E : List EN) : (enL E).length = E.length := by unfold enL; simp
theorem key_len {w : World} {D : Nat → Prop} {o : OA} (h : OAp w D o) : o.E.length ≤ 500 := by
  have hn := h.mp.nodup
  have hk : ∀ k ∈ (enL o.E).map (·.1), k ∈ (List.range 500).map Int.ofNat := by
    intro k hk
    obtain ⟨x, hx, rfl⟩ := List.mem_map.1 hk
    unfold enL at hx
    obtain ⟨e, he, rfl⟩ := List.mem_map.1 hx
    obtain ⟨h0, h5, _⟩ := h.ix e he
    exact List.mem_map.2 ⟨e.1.toNat, List.mem_range.2 (by omega), by show ((e.1.toNat : Nat) : Int) = e.1; omega⟩
  have := nodup_le hn hk
  simp at this
  rw [enL_len] at this
  exact this
theorem ag_len {w : World} {p bm mb : Nat} {D : Nat → Prop} {A : AP} (h : AsmP w p bm mb D A) : A.O.length ≤ 4 := by
  have hn := h.om.nodup
  have hk : ∀ k ∈ (A.O.map OA.kv).map (·.1), k ∈ (List.range 4).map Int.ofNat := by
    intro k hk
    obtain ⟨x, hx, rfl⟩ := List.mem_map.1 hk
    obtain ⟨o, ho, rfl⟩ := List.mem_map.1 hx
    obtain ⟨_, _, _, _, h0, h3⟩ := h.inn o ho
    exact List.mem_map.2 ⟨o.a.toNat, List.mem_range.2 (by omega), by show ((o.a.toNat : Nat) : Int) = o.a; omega⟩
  have := nodup_le hn hk
  simpa using this
end Go.Proofs.Ytdfkjigkpcgngaa
