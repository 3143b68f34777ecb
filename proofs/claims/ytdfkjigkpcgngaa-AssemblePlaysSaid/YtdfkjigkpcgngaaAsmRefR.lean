/-
  The reference's record.
-/
import Derived.Test.YtdfkjigkpcgngaaAsmRefM
set_option linter.unusedVariables false
set_option linter.unusedSimpArgs false
set_option maxRecDepth 100000
namespace Go.Proofs.Ytdfkjigkpcgngaa
open Go.RowKit Go Go.Maps Go.Lib

theorem recL_eq (tr : Int) (C : CH) (ps : List Pn) : recL tr C ps = if missL tr C ps = [] then some (ps.map (pairOf tr C)) else none := by
  unfold recL missL
  by_cases h : ps.all (fun p => (partOf tr C p).isSome) = true
  · rw [if_pos h, if_pos]
    rw [List.map_eq_nil_iff, List.filter_eq_nil_iff]
    intro p hp
    have := List.all_eq_true.1 h p hp
    cases hq : partOf tr C p with
    | none => rw [hq] at this; cases this
    | some x => simp
  · rw [if_neg h, if_neg]
    intro e
    apply h
    rw [List.map_eq_nil_iff, List.filter_eq_nil_iff] at e
    rw [List.all_eq_true]
    intro p hp
    have := e p hp
    cases hq : partOf tr C p with
    | none => rw [hq] at this; simp at this
    | some x => rfl
/-- parts of a record that read so -/
def RdRP (w : World) (v : Value) (L : List (Pn × List Sp)) : Prop := ∃ a c, v = .slice a L.length c ∧ L.length ≤ 100000 ∧ ∀ i x, L[i]? = some x → ∃ g sa sc ca cc, a = some ⟨g, 0, none⟩ ∧ w.cell? ⟨g, i * 4, none⟩ = some (.int .i64 x.1.a) ∧ w.cell? ⟨g, i * 4 + 1, none⟩ = some (.slice sa x.2.length sc) ∧ w.cell? ⟨g, i * 4 + 2, none⟩ = some (.slice ca x.1.cr.length cc) ∧ w.cell? ⟨g, i * 4 + 3, none⟩ = some (.bool x.1.lo) ∧ RdSp w (.slice sa x.2.length sc) x.2 ∧ RdI w (.slice ca x.1.cr.length cc) x.1.cr
theorem RdRP.frN {w w' : World} {v : Value} {L : List (Pn × List Sp)} (h : RdRP w v L) (f : Fr noB w w') : RdRP w' v L := by
  obtain ⟨a, c, rfl, h1, h2⟩ := h
  refine ⟨a, c, rfl, h1, fun i x hi => ?_⟩
  obtain ⟨g, sa, sc, ca, cc, e, c0, c1, c2, c3, s, r⟩ := h2 i x hi
  exact ⟨g, sa, sc, ca, cc, e, f.cell c0 (fun q => q), f.cell c1 (fun q => q), f.cell c2 (fun q => q), f.cell c3 (fun q => q), s.frN f, r.frN f⟩
theorem RdRP.of_own {w : World} {B : Nat} {v : Value} {U : List RU} (h : w.ownsRow B 69 4 v U.length (U.flatMap RU.cs)) (hu : ∀ u ∈ U, RdSp w (.slice u.sa u.S.length u.sc) u.S ∧ RdI w (.slice u.ca u.p.cr.length u.cc) u.p.cr) (hl : U.length ≤ 100000) : RdRP w v (U.map RU.pair) := by
  obtain ⟨a, c, rfl⟩ := ownsRow_slice h
  refine ⟨a, c, by rw [List.length_map], by rw [List.length_map]; exact hl, fun i x hi => ?_⟩
  rw [List.getElem?_map] at hi
  cases hq : U[i]? with
  | none => rw [hq] at hi; cases hi
  | some u =>
    rw [hq] at hi
    injection hi with hi
    subst hi
    have hpos : 0 < U.length := by have := (List.getElem?_eq_some_iff.1 hq).1; omega
    obtain ⟨g, cap, e, _⟩ := ownsRow_some h hpos
    injection e with e1 e2 e3
    subst e1
    have hc : ∀ j v, u.cs[j]? = some v → w.cell? ⟨g, i * 4 + j, none⟩ = some v := fun j v hj => by
      have hj4 : j < 4 := by have := (List.getElem?_eq_some_iff.1 hj).1; exact this
      have h2 := flat_getN RU.cs 4 (fun _ => rfl) U i j u hq hj4
      have h3 := h.cells (g := g) rfl (i * 4 + j) v (by rw [h2]; exact hj)
      rw [add_none, Nat.zero_add] at h3
      exact h3
    obtain ⟨s1, s2⟩ := hu u (List.mem_of_getElem? hq)
    exact ⟨g, u.sa, u.sc, u.ca, u.cc, rfl, hc 0 _ rfl, hc 1 _ rfl, hc 2 _ rfl, hc 3 _ rfl, s1, s2⟩
/-- a record that is handed back, or none -/
def RecRd (e : Ending) (w w' : World) (tr jb : Int) (r : Option (Int × List (Pn × List Sp))) : Prop :=
  Fr noB w w' ∧ (r = none → e = .returned (.tuple #[noRec, .bool false])) ∧ ∀ c L, r = some (c, L) → ∃ v, e = .returned (.tuple #[.agg #[.int .i64 tr, .int .i64 jb, .int .i64 c, .bool (wholeL L), v], .bool true]) ∧ RdRP w' v L
theorem RecPost.rd {e : Ending} {w w' : World} {tr jb : Int} {r : Option (Int × List (Pn × List Sp))} (h : RecPost e w w' tr jb r) (hl : ∀ c L, r = some (c, L) → L.length ≤ 100000) : RecRd e w w' tr jb r := by
  obtain ⟨h1, h2, h3⟩ := h
  refine ⟨h1, h2, fun c L e' => ?_⟩
  obtain ⟨v, U, k1, k2, k3, k4⟩ := h3 c L e'
  refine ⟨v, k1, ?_⟩
  have hll := hl c L e'
  rw [← k4]
  exact RdRP.of_own k2 (fun u hu => ⟨RdSp.of_own (k3 u hu).1 rfl, RdI.of_own (k3 u hu).2⟩) (by rw [← k4, List.length_map] at hll; exact hll)
/-- amid the reference's loop -/
structure RecJ (w wr : World) (tr jb c : Int) (C : CH) (ps : List Pn) (cb rb k : Nat) (wh : Bool) (pa : Option Addr) (pc : Nat) (U : List RU) : Prop where
  ul : U.length = k
  up : U.map RU.pair = (ps.take k).map (pairOf tr C)
  hw : wh = wholeL ((ps.take k).map (pairOf tr C))
  b0 : Blk wr cb 50 [.int .i64 0, .int .i64 0, .int .i64 0, .bool false, .slice none 0 0]
  b1 : Blk wr rb 50 [.int .i64 tr, .int .i64 jb, .int .i64 c, .bool wh, .slice pa k pc]
  ow : wr.ownsRow w.heap.size 69 4 (.slice pa k pc) k (U.flatMap RU.cs)
  ou : ∀ u ∈ U, wr.ownsRow w.heap.size 63 3 (.slice u.sa u.S.length u.sc) u.S.length (u.S.flatMap spC)
  oc : ∀ u ∈ U, RdI w (.slice u.ca u.p.cr.length u.cc) u.p.cr
  fr : Fr noB w wr
theorem RecJ.frN {w wr w' : World} {tr jb c : Int} {C : CH} {ps : List Pn} {cb rb k : Nat} {wh : Bool} {pa : Option Addr} {pc : Nat} {U : List RU} (h : RecJ w wr tr jb c C ps cb rb k wh pa pc U) (f : Fr noB wr w') : RecJ w w' tr jb c C ps cb rb k wh pa pc U :=
  ⟨h.ul, h.up, h.hw, f.blk h.b0 (fun q => q), f.blk h.b1 (fun q => q), ownsRow_fr h.ow f (fun _ _ q => q), fun u hu => ownsRow_fr (h.ou u hu) f (fun _ _ q => q), h.oc, h.fr.seqN f⟩
theorem recj_next {w w8 w9 : World} {tr jb c : Int} {C : CH} {ps : List Pn} {cb rb k : Nat} {wh : Bool} {pa a9 : Option Addr} {pc c9 : Nat} {U : List RU} (I : RecJ w w8 tr jb c C ps cb rb k wh pa pc U) (u : RU)
    (hs : ps[k]? = some u.p) (hR : partOf tr C u.p = some u.S) (hou : w8.ownsRow w.heap.size 63 3 (.slice u.sa u.S.length u.sc) u.S.length (u.S.flatMap spC)) (hoc : RdI w (.slice u.ca u.p.cr.length u.cc) u.p.cr)
    (o9 : w9.ownsRow w.heap.size 69 4 (.slice a9 (k + 1) c9) (k + 1) (U.flatMap RU.cs ++ u.cs)) (f9 : Fr (rowB (.slice pa k pc)) w8 w9) (hrb : cb ≠ rb) (hlo : w.heap.size ≤ rb) :
    Blk (w9.setCell ⟨rb, 4, none⟩ (.slice a9 (k + 1) c9)) rb 50 [.int .i64 tr, .int .i64 jb, .int .i64 c, .bool wh, .slice a9 (k + 1) c9] ∧
    ∀ x : Bool, x = (wh && !u.p.lo) → RecJ w ((w9.setCell ⟨rb, 4, none⟩ (.slice a9 (k + 1) c9)).setCell ⟨rb, 3, none⟩ (.bool x)) tr jb c C ps cb rb (k + 1) x a9 c9 (U ++ [u]) := by
  have b19 := f9.blk I.b1 (fun q => row_not I.ow I.b1 (by decide) q)
  have b09 := f9.blk I.b0 (fun q => row_not I.ow I.b0 (by decide) q)
  have b110 := b19.set 4 (.slice a9 (k + 1) c9)
  simp only [List.set_cons_zero, List.set_cons_succ] at b110
  refine ⟨b110, fun x hx => ?_⟩
  have b111 := b110.set 3 (.bool x)
  simp only [List.set_cons_zero, List.set_cons_succ] at b111
  have s : Fr (onlyB rb) w9 ((w9.setCell ⟨rb, 4, none⟩ (.slice a9 (k + 1) c9)).setCell ⟨rb, 3, none⟩ (.bool x)) := ((Fr.refl _ _).store (onlyB_self rb)).store (onlyB_self rb)
  have ou9 : ∀ y ∈ U ++ [u], w9.ownsRow w.heap.size 63 3 (.slice y.sa y.S.length y.sc) y.S.length (y.S.flatMap spC) := by
    intro y hy
    have hy8 : w8.ownsRow w.heap.size 63 3 (.slice y.sa y.S.length y.sc) y.S.length (y.S.flatMap spC) := by
      rcases List.mem_append.1 hy with h | h
      · exact I.ou y h
      · obtain rfl := List.mem_singleton.1 h; exact hou
    exact ownsRow_fr hy8 f9 (own_apart hy8 I.ow (by decide))
  have htk : ps.take (k + 1) = ps.take k ++ [u.p] := by rw [List.take_add_one, hs]; rfl
  refine ⟨by rw [List.length_append, I.ul]; rfl, ?_, ?_, s.blk b09 (fun q => hrb q), b111, ?_, ?_, ?_, ?_⟩
  · rw [htk, List.map_append, List.map_append, I.up]
    congr 1
    show [(u.p, u.S)] = [(u.p, (partOf tr C u.p).getD [])]
    rw [hR]; rfl
  · rw [htk, List.map_append, hx, I.hw]
    unfold wholeL
    rw [List.all_append]
    simp [pairOf]
  · rw [List.flatMap_append]
    have : [u].flatMap RU.cs = u.cs := by simp
    rw [this]
    exact ownsRow_fr o9 s (fun g hg q => row_not o9 b19 (by decide) (by unfold onlyB at q; subst q; exact hg))
  · exact fun y hy => ownsRow_fr (ou9 y hy) s (fun g hg q => row_not (ou9 y hy) b19 (by decide) (by unfold onlyB at q; subst q; exact hg))
  · intro y hy
    rcases List.mem_append.1 hy with h | h
    · exact I.oc y h
    · obtain rfl := List.mem_singleton.1 h; exact hoc
  · exact ((I.fr.trans f9 (fun _ _ q => q) (fun i hi q => by have := (I.ow.lt i q).1; omega)).storeNew hlo).storeNew hlo
def RS.recd (r : RS) (C : CH) : Option (Int × List (Pn × List Sp)) := match r.man with
  | none => none
  | some x => (recL r.tr C x.2).map fun L => (x.1, L)
set_option maxHeartbeats 4000000 in
theorem rrecord_none (q : Nat) (E : Nat → Prop) (M0 : Nat) (r : RS) (Mm : MR) (ca : Option Addr) (cc : Nat) (w : World) (h : AR w q E M0 r Mm ca cc) (hman : r.man = none) :
    Calls Try.prog 17 #[.pointer (some ⟨q, 0, none⟩)] w fun e w' => e = .returned (.tuple #[noRec, .bool false]) ∧ Fr noB w w' := by
  have b0 := Blk.new w 50 [.int .i64 0, .int .i64 0, .int .i64 0, .bool false, .slice none 0 0]
  have f0 : Fr noB w (w.alloc (.cells #[.int .i64 0, .int .i64 0, .int .i64 0, .bool false, .slice none 0 0] 50)) := (Fr.refl _ _).alloc _
  have d17 : (w.alloc (.cells #[.int .i64 0, .int .i64 0, .int .i64 0, .bool false, .slice none 0 0] 50)).cell? ⟨q, 17, none⟩ = some (.bool false) := by
    have : (w.alloc (.cells #[.int .i64 0, .int .i64 0, .int .i64 0, .bool false, .slice none 0 0] 50)).cell? ⟨q, 17, none⟩ = some (.bool r.man.isSome) := (h.frN f0).blk.cell 17
    rw [hman] at this; exact this
  have c0 := b0.cell 0
  have c1 := b0.cell 1
  have c2 := b0.cell 2
  have c3 := b0.cell 3
  have c4 := b0.cell 4
  have z0 := b0.frozen 0
  have z1 := b0.frozen 1
  have z2 := b0.frozen 2
  have z3 := b0.frozen 3
  have z4 := b0.frozen 4
  replace b0 := Lib.hid b0
  replace f0 := Lib.hid f0
  clear h hman
  go_enter Try.func17, Try.ntmps17
  go_wp2_with fail
  refine bodyPost_ret (rec_ret rfl _ _ (g := w.heap.size) (by rfl) b0.out rfl) rfl ?_
  exact ⟨rfl, f0.out⟩
end Go.Proofs.Ytdfkjigkpcgngaa
