/-
  The calls of the layer's laws: may they be played? the message of a call.
  The message of a call.
  store: amid a law: its blocks are the law's own; each call by what it makes of the plain state.
  store: what the layer's laws ask first.
-/
import Derived.Test.YtdmhnoffejjpnaaGreatDoorZBD
import Derived.Test.YtdmhnoffejjpnaaGreatDoorZAA
import Derived.Test.YtdmhnoffejjpnaaGreatDoorZAX
section
set_option linter.unusedVariables false
set_option linter.unusedSimpArgs false
set_option maxRecDepth 100000
set_option maxRecDepth 100000
namespace Go.Proofs.YtdmhnoffejjpnaaGreatDoor
open Go.ChangeShapes Go.WideShapes Go.ChangeAt Go.RowKit Go Go.Maps Go.Lib

/-- a call -/
structure OpA where
  k : Int
  a : Int
  t : Int
  j : Int
  i : Int
  n : Int
  sa : Option Addr
  sc : Nat
  ua : Option Addr
  uc : Nat
  lo : Bool
  sp : List Sp
  xs : List Int
def opaC (m : OpA) : List Value := [.int .i64 m.k, .int .i64 m.a, .int .i64 m.t, .int .i64 m.j, .int .i64 m.i, .int .i64 m.n, .slice m.sa m.sp.length m.sc, .slice m.ua m.xs.length m.uc, .bool m.lo]
def IsOpA (w : World) (cs : List Value) (m : OpA) : Prop := cs = opaC m ∧ RdSp w (.slice m.sa m.sp.length m.sc) m.sp ∧ RdI w (.slice m.ua m.xs.length m.uc) m.xs ∧ (Lit.int .i64 m.k).wf = true ∧ (Lit.int .i64 m.a).wf = true ∧ (Lit.int .i64 m.t).wf = true ∧ (Lit.int .i64 m.j).wf = true ∧ (Lit.int .i64 m.i).wf = true ∧ (Lit.int .i64 m.n).wf = true
def okOpA (m : OpA) : Bool := fewS m.sp && (decide (m.xs.length ≤ 20) && decide (m.a ≤ 1099511627776))
def fewAB (xs : List OpA) : Bool := xs.all okOpA && decide (xs.length ≤ 100)
theorem fewAB_no {xs : List OpA} {k : Nat} {m : OpA} (hk : xs[k]? = some m) (h : okOpA m = false) : fewAB xs = false := by
  unfold fewAB
  rw [show xs.all okOpA = false from by
    rw [Bool.eq_false_iff]
    intro q
    rw [List.all_eq_true] at q
    have := q m (List.mem_of_getElem? hk)
    rw [h] at this
    cases this]
  rfl
theorem fewAB_yes {xs : List OpA} (h : ∀ (i : Nat) (m : OpA), xs[i]? = some m → okOpA m = true) : fewAB xs = decide (xs.length ≤ 100) := by
  unfold fewAB
  rw [show xs.all okOpA = true from by
    rw [List.all_eq_true]
    intro x hx
    obtain ⟨i, hi, rfl⟩ := List.getElem_of_mem hx
    exact h i _ (List.getElem?_eq_getElem hi)]
  rfl
/-! ### opening the arguments -/
def IsSp (cs : List Value) (m : Sp) : Prop := cs = spC m
theorem list3x {α : Type} {cs : List α} (h : cs.length = 3) : cs = [cs[0], cs[1], cs[2]] := by
  match cs, h with
  | [a, b, c], _ => rfl
theorem list9 {α : Type} {cs : List α} (h : cs.length = 9) : cs = [cs[0], cs[1], cs[2], cs[3], cs[4], cs[5], cs[6], cs[7], cs[8]] := by
  match cs, h with
  | [a, b, c, d, e, f, g, h, i], _ => rfl
theorem sp_open {H : Type} {enc : TypeId × Value → H} {w : World} {base : Nat} {held : Bool} (n : Nat) (cs : List Value) (y : DataW H × List MemPlace) (hl : cs.length = 3)
    (h : DataW.trod enc Tryz.prog w base (fun _ => true) held n 118 cs = some y) : ∃ m, IsSp cs m := by
  obtain ⟨a, ha, wa⟩ := fld_int (i := 0) (off := 0) Tryz.underlying118 h rfl (by kernel_rfl) (by omega) Tryz.underlying3
  obtain ⟨b, hb, wb⟩ := fld_int (i := 1) (off := 1) Tryz.underlying118 h rfl (by kernel_rfl) (by omega) Tryz.underlying3
  obtain ⟨c, hc, wc⟩ := fld_str (i := 2) (off := 2) Tryz.underlying118 h rfl (by kernel_rfl) (by omega) Tryz.underlying9
  exact ⟨⟨a, b, c⟩, by unfold IsSp spC; rw [list3x hl, ha, hb, hc]⟩
theorem RdSp.of_slr {w : World} {v : Value} {L : List Sp} (h : SlR w v 3 IsSp L) : RdSp w v L := by
  obtain ⟨a, c, rfl, ⟨h1, h2⟩, h3, h4⟩ := h
  refine ⟨a, c, rfl, h1, h3, h2, fun i s hi => ?_⟩
  obtain ⟨g, o, cs, rfl, hl, hcs, hc⟩ := h4 i s hi
  unfold IsSp at hcs
  subst hcs
  refine ⟨g, o, rfl, ?_, ?_, ?_⟩
  · exact hc 0 _ rfl
  · have := hc 1 _ rfl; rwa [← Nat.add_assoc] at this
  · have := hc 2 _ rfl; rwa [← Nat.add_assoc] at this
theorem sprow_open {H : Type} {enc : TypeId × Value → H} {w : World} {base : Nat} {held : Bool} (n : Nat) (u : Value) (y : DataW H × List MemPlace)
    (h : DataW.trod enc Tryz.prog w base (fun _ => true) held n 29 [u] = some y) : ∃ L, RdSp w u L := by
  have hv : ∃ a l c, u = Value.slice a l c := by
    rcases DataW.trod_slice Tryz.underlying29 h with ⟨h1, _⟩ | ⟨a, len, cap, _, _, _, _, h1, _⟩
    · exact ⟨_, _, _, by simpa using h1⟩
    · exact ⟨_, _, _, by simpa using h1⟩
  obtain ⟨a, l, c, rfl⟩ := hv
  obtain ⟨L, hL⟩ := slr_of_trod (k := 3) IsSp Tryz.underlying29 (by kernel_rfl) (by omega) ⟨a, l, c, rfl⟩ h (fun n cs y hl h => sp_open n cs y hl h)
  exact ⟨L, RdSp.of_slr hL⟩
theorem irow_open {H : Type} {enc : TypeId × Value → H} {w : World} {base : Nat} {held : Bool} (n : Nat) (u : Value) (y : DataW H × List MemPlace)
    (h : DataW.trod enc Tryz.prog w base (fun _ => true) held n 30 [u] = some y) : ∃ xs, RdI w u xs := by
  have hv : ∃ a l c, u = Value.slice a l c := by
    rcases DataW.trod_slice Tryz.underlying30 h with ⟨h1, _⟩ | ⟨a, len, cap, _, _, _, _, h1, _⟩
    · exact ⟨_, _, _, by simpa using h1⟩
    · exact ⟨_, _, _, by simpa using h1⟩
  obtain ⟨a, l, c, rfl⟩ := hv
  obtain ⟨xs, a', c', e, h1, h2, h3⟩ := slr_of_trod (k := 1) (IsI .i64) Tryz.underlying30 (by kernel_rfl) (by omega) ⟨a, l, c, rfl⟩ h (fun n cs y hl h => by
    obtain ⟨q, hq, _, hw⟩ := DataW.trod_int Tryz.underlying3 h
    exact ⟨q, hq, hw⟩)
  simp only [Value.slice.injEq] at e
  obtain ⟨rfl, rfl, rfl⟩ := e
  unfold maxLen at h2
  refine ⟨xs, a, c, rfl, by omega, h1.1, fun i hi => ?_⟩
  obtain ⟨g, o, cs, e1, _, ⟨e2, _⟩, e3⟩ := h3 i (xs.getD i 0) (by simp [List.getD, hi])
  subst e2
  have := e3 0 _ rfl
  simp only [Nat.mul_one, Nat.add_zero] at this
  exact ⟨g, o, e1, this⟩
theorem opa_open {H : Type} {enc : TypeId × Value → H} {w : World} {base : Nat} {held : Bool} (n : Nat) (cs : List Value) (y : DataW H × List MemPlace) (hl : cs.length = 9)
    (h : DataW.trod enc Tryz.prog w base (fun _ => true) held n 32 cs = some y) : ∃ m, IsOpA w cs m := by
  obtain ⟨k, hk, wk⟩ := fld_int (i := 0) (off := 0) Tryz.underlying32 h rfl (by kernel_rfl) (by omega) Tryz.underlying3
  obtain ⟨a, ha, wa⟩ := fld_int (i := 1) (off := 1) Tryz.underlying32 h rfl (by kernel_rfl) (by omega) Tryz.underlying3
  obtain ⟨t, ht, wt⟩ := fld_int (i := 2) (off := 2) Tryz.underlying32 h rfl (by kernel_rfl) (by omega) Tryz.underlying3
  obtain ⟨j, hj, wj⟩ := fld_int (i := 3) (off := 3) Tryz.underlying32 h rfl (by kernel_rfl) (by omega) Tryz.underlying3
  obtain ⟨i, hi, wi⟩ := fld_int (i := 4) (off := 4) Tryz.underlying32 h rfl (by kernel_rfl) (by omega) Tryz.underlying3
  obtain ⟨m, hm, wm⟩ := fld_int (i := 5) (off := 5) Tryz.underlying32 h rfl (by kernel_rfl) (by omega) Tryz.underlying3
  obtain ⟨n1, z1, hz1⟩ := fld (i := 6) (off := 6) Tryz.underlying32 h rfl (by kernel_rfl) (by omega)
  obtain ⟨L, hL⟩ := sprow_open n1 _ z1 hz1
  obtain ⟨sa, sc, hs, _⟩ := id hL
  obtain ⟨n3, z3, hz3⟩ := fld (i := 7) (off := 7) Tryz.underlying32 h rfl (by kernel_rfl) (by omega)
  obtain ⟨xs, hx⟩ := irow_open n3 _ z3 hz3
  obtain ⟨ua, uc, hu, _⟩ := id hx
  obtain ⟨n2, z2, hz2⟩ := fld (i := 8) (off := 8) Tryz.underlying32 h rfl (by kernel_rfl) (by omega)
  obtain ⟨bb, hbb, _⟩ := DataW.trod_bool Tryz.underlying4 hz2
  simp only [List.cons.injEq, and_true] at hbb
  refine ⟨⟨k, a, t, j, i, m, sa, sc, ua, uc, bb, L, xs⟩, ?_, ?_, ?_, wk, wa, wt, wj, wi, wm⟩
  · rw [list9 hl, hk, ha, ht, hj, hi, hm, hs, hu, hbb]; rfl
  · rw [hs] at hL; exact hL
  · rw [hu] at hx; exact hx
theorem slra_one {w : World} {g : Nat} {m : OpA} {W : World} (b : Blk w g 32 (opaC m)) (h : IsOpA W (opaC m) m) : SlR w (.slice (some ⟨g, 0, none⟩) 1 1) 9 (IsOpA W) [m] :=
  ⟨_, 1, rfl, ⟨Nat.le_refl _, fun q => by cases q⟩, by unfold maxLen; omega, fun i m' hm' => by
    match i, hm' with
    | 0, hm' =>
      cases hm'
      exact ⟨g, 0, opaC m, rfl, rfl, h, fun j u hu => by rw [← hu, ← b.cell j]; simp⟩
    | i + 1, hm' => simp at hm'⟩
end Go.Proofs.YtdmhnoffejjpnaaGreatDoor
end

section
set_option linter.unusedVariables false
set_option linter.unusedSimpArgs false
set_option maxRecDepth 100000
set_option maxRecDepth 100000
namespace Go.Proofs.YtdmhnoffejjpnaaGreatDoor
open Go.RowKit Go Go.Maps Go.Lib

/-- the parts of a call's manifest, up to the k-th count -/
def partsK (m : OpA) (k : Nat) : List Pn := (List.range k).filterMap fun i => if 0 ≤ m.xs.getD i 0 then some ⟨i, m.t, m.j, m.xs.getD i 0, [], m.lo && ((i : Int) == 0)⟩ else none
theorem partsK_succ (m : OpA) (k : Nat) : partsK m (k + 1) = partsK m k ++ (if 0 ≤ m.xs.getD k 0 then [⟨k, m.t, m.j, m.xs.getD k 0, [], m.lo && ((k : Int) == 0)⟩] else []) := by
  unfold partsK
  rw [List.range_succ, List.filterMap_append]
  congr 1
  by_cases h : 0 ≤ m.xs.getD k 0
  · simp only [List.filterMap_cons, List.filterMap_nil, if_pos h]
  · simp only [List.filterMap_cons, List.filterMap_nil, if_neg h]
/-- the message of a call, plainly; none: no message -/
def OpA.ms (m : OpA) : Option Ms :=
  if m.k = 1 then some (.trigger m.a m.t m.i) else if m.k = 2 then some (.pin m.t m.j) else if m.k = 3 then some (.pinned ⟨m.a, m.t, m.j, m.n, [], m.lo⟩) else if m.k = 4 then some (.gone m.a m.t m.j)
  else if m.k = 5 then some (.collect m.t m.j) else if m.k = 6 then some (.chunk m.a m.t m.j m.i m.n m.sp) else if m.k = 7 then some (.manifest m.t m.j m.i (partsK m m.xs.length)) else if m.k = 8 then some (.stored m.t m.j)
  else if m.k = 9 then some (.unpin m.t m.j) else if m.k = 10 then some (.unpinned m.a m.t m.j) else none
def MsO (w : World) (v : Value) : Option Ms → Prop
  | none => v = .nilIface
  | some x => MsW w v x
theorem makeA_any (m : OpA) (w : World) (h7 : m.k ≠ 7) (hs : RdSp w (.slice m.sa m.sp.length m.sc) m.sp) :
    Calls Tryz.prog 39 #[.int .i64 m.k, .int .i64 m.a, .int .i64 m.t, .int .i64 m.j, .int .i64 m.i, .int .i64 m.n, .slice none 0 0, .bool m.lo, .slice m.sa m.sp.length m.sc] w fun e w' => ∃ v, e = .returned v ∧ MsO w' v m.ms ∧ Fr noB w w' := by
  unfold OpA.ms
  by_cases h0 : m.k < 1 ∨ 10 < m.k
  · iterate 10 rw [if_neg (by omega)]
    exact (make_0 m.k m.a m.t m.j m.i m.n none 0 0 m.lo m.sa _ m.sc w h0).mono fun e w' ⟨h1, h2⟩ => ⟨_, h1, rfl, h2⟩
  rcases (show m.k = 1 ∨ m.k = 2 ∨ m.k = 3 ∨ m.k = 4 ∨ m.k = 5 ∨ m.k = 6 ∨ m.k = 8 ∨ m.k = 9 ∨ m.k = 10 by omega) with h | h | h | h | h | h | h | h | h
  · rw [h]; exact (make_1 m.a m.t m.j m.i m.n none 0 0 m.lo m.sa _ m.sc w).mono fun e w' ⟨h1, h2⟩ => ⟨_, h1, rfl, h2⟩
  · rw [h]; exact (make_2 m.a m.t m.j m.i m.n none 0 0 m.lo m.sa _ m.sc w).mono fun e w' ⟨h1, h2⟩ => ⟨_, h1, rfl, h2⟩
  · rw [h]; exact (make_3 m.a m.t m.j m.i m.n none 0 0 m.lo m.sa _ m.sc w).mono fun e w' ⟨h1, h2⟩ => ⟨_, h1, ⟨_, rfl, rdi_nil _⟩, h2⟩
  · rw [h]; exact (make_4 m.a m.t m.j m.i m.n none 0 0 m.lo m.sa _ m.sc w).mono fun e w' ⟨h1, h2⟩ => ⟨_, h1, rfl, h2⟩
  · rw [h]; exact (make_5 m.a m.t m.j m.i m.n none 0 0 m.lo m.sa _ m.sc w).mono fun e w' ⟨h1, h2⟩ => ⟨_, h1, rfl, h2⟩
  · rw [h]; exact (make_6 m.a m.t m.j m.i m.n none 0 0 m.lo m.sa _ m.sc w).mono fun e w' ⟨h1, h2⟩ => ⟨_, h1, ⟨_, rfl, hs.frN h2⟩, h2⟩
  · rw [h]; exact (make_8 m.a m.t m.j m.i m.n none 0 0 m.lo m.sa _ m.sc w).mono fun e w' ⟨h1, h2⟩ => ⟨_, h1, rfl, h2⟩
  · rw [h]; exact (make_9 m.a m.t m.j m.i m.n none 0 0 m.lo m.sa _ m.sc w).mono fun e w' ⟨h1, h2⟩ => ⟨_, h1, rfl, h2⟩
  · rw [h]; exact (make_10 m.a m.t m.j m.i m.n none 0 0 m.lo m.sa _ m.sc w).mono fun e w' ⟨h1, h2⟩ => ⟨_, h1, rfl, h2⟩
/-- amid the loop over the counts: the manifest so far at block mb, np parts -/
structure ManI (w wr : World) (m : OpA) (ob mb k np : Nat) (pa : Option Addr) (pc : Nat) (P : List PU) : Prop where
  pl : P.length = np
  pk : np ≤ k
  pp : P.map PU.p = partsK m k
  pn : ∀ u ∈ P, u.a = none ∧ u.c = 0 ∧ u.p.cr = []
  bo : Blk wr ob 32 (opaC m)
  bm : Blk wr mb 73 [.int .i64 m.t, .int .i64 m.j, .int .i64 m.i, .slice pa np pc]
  ow : wr.ownsRow w.heap.size 70 6 (.slice pa np pc) np (P.flatMap PU.cs)
  fr : Fr noB w wr
theorem ManI.frN {w wr w' : World} {m : OpA} {ob mb k np : Nat} {pa : Option Addr} {pc : Nat} {P : List PU} (I : ManI w wr m ob mb k np pa pc P) (f : Fr noB wr w') : ManI w w' m ob mb k np pa pc P :=
  ⟨I.pl, I.pk, I.pp, I.pn, f.blk I.bo (fun q => q), f.blk I.bm (fun q => q), ownsRow_fr I.ow f (fun _ _ q => q), I.fr.seqN f⟩
theorem man_next {w w8 w9 : World} {m : OpA} {ob mb k np : Nat} {pa a9 : Option Addr} {pc c9 : Nat} {P : List PU} (I : ManI w w8 m ob mb k np pa pc P) (u : PU)
    (hu : u = ⟨⟨k, m.t, m.j, m.xs.getD k 0, [], m.lo && ((k : Int) == 0)⟩, none, 0⟩) (hx : 0 ≤ m.xs.getD k 0) (o9 : w9.ownsRow w.heap.size 70 6 (.slice a9 (np + 1) c9) (np + 1) (P.flatMap PU.cs ++ u.cs)) (f9 : Fr (rowB (.slice pa np pc)) w8 w9) (hb : ob ≠ mb) (hlo : w.heap.size ≤ mb) :
    ManI w (w9.setCell ⟨mb, 3, none⟩ (.slice a9 (np + 1) c9)) m ob mb (k + 1) (np + 1) a9 c9 (P ++ [u]) := by
  have bm9 := f9.blk I.bm (fun q => row_not I.ow I.bm (by decide) q)
  have bo9 := f9.blk I.bo (fun q => row_not I.ow I.bo (by decide) q)
  have bm10 := bm9.set 3 (.slice a9 (np + 1) c9)
  simp only [List.set_cons_zero, List.set_cons_succ] at bm10
  have s : Fr (onlyB mb) w9 (w9.setCell ⟨mb, 3, none⟩ (.slice a9 (np + 1) c9)) := (Fr.refl _ _).store (onlyB_self mb)
  refine ⟨by rw [List.length_append, I.pl]; rfl, by have := I.pk; omega, ?_, ?_, s.blk bo9 (fun q => hb q), bm10, ?_, ?_⟩
  · rw [List.map_append, I.pp, partsK_succ, if_pos hx, hu]; rfl
  · intro y hy
    rcases List.mem_append.1 hy with h | h
    · exact I.pn y h
    · obtain rfl := List.mem_singleton.1 h; subst hu; exact ⟨rfl, rfl, rfl⟩
  · rw [List.flatMap_append]
    have : [u].flatMap PU.cs = u.cs := by simp
    rw [this]
    exact ownsRow_fr o9 s (fun g hg q => row_not o9 bm9 (by decide) (by unfold onlyB at q; subst q; exact hg))
  · exact (I.fr.trans f9 (fun _ _ q => q) (fun i hi q => by have := (I.ow.lt i q).1; omega)).storeNew hlo
theorem ManI.skip {w wr : World} {m : OpA} {ob mb k np : Nat} {pa : Option Addr} {pc : Nat} {P : List PU} (I : ManI w wr m ob mb k np pa pc P) (hx : ¬ 0 ≤ m.xs.getD k 0) : ManI w wr m ob mb (k + 1) np pa pc P :=
  ⟨I.pl, by have := I.pk; omega, by rw [partsK_succ, if_neg hx, List.append_nil]; exact I.pp, I.pn, I.bo, I.bm, I.ow, I.fr⟩
theorem ManI.rd {w wr : World} {m : OpA} {ob mb k np : Nat} {pa : Option Addr} {pc : Nat} {P : List PU} (I : ManI w wr m ob mb k np pa pc P) (hk : np ≤ 1000000) : RdPs wr (.slice pa np pc) (partsK m k) :=
  RdPs.of_own I.ow (fun u hu => by
    obtain ⟨h1, h2, h3⟩ := I.pn u hu
    unfold PU.v
    rw [h1, h2, h3]
    exact ⟨rfl, Or.inl ⟨rfl, rfl⟩⟩) I.pp I.pl hk
set_option maxHeartbeats 8000000 in
theorem messageA_any (m : OpA) (w : World) (hs : RdSp w (.slice m.sa m.sp.length m.sc) m.sp) (hx : RdI w (.slice m.ua m.xs.length m.uc) m.xs) (h20 : m.xs.length ≤ 20) :
    Calls Tryz.prog 15 #[.agg (opaC m).toArray] w fun e w' => ∃ v, e = .returned v ∧ MsO w' v m.ms ∧ Fr noB w w' := by
  obtain ⟨ob, hob⟩ : ∃ ob, w.heap.size = ob := ⟨_, rfl⟩
  have f1 : Fr noB w (w.alloc (.cells (opaC m).toArray 32)) := (Fr.refl _ _).alloc _
  have b1 := Blk.new w 32 (opaC m)
  have hs1 : (w.alloc (.cells (opaC m).toArray 32)).heap.size = ob + 1 := by rw [size_alloc, hob]
  rw [hob] at b1
  by_cases h7 : m.k = 7
  · have e0 : m.ms = some (.manifest m.t m.j m.i (partsK m m.xs.length)) := by
      unfold OpA.ms
      iterate 6 rw [if_neg (by omega)]
      rw [if_pos h7]
    rw [e0]
    have fM : Fr noB (w.alloc (.cells (opaC m).toArray 32)) ((w.alloc (.cells (opaC m).toArray 32)).alloc (.cells #[.int .i64 m.t, .int .i64 m.j, .int .i64 m.i, .slice none 0 0] 73)) := (Fr.refl _ _).alloc _
    have bM := Blk.new (w.alloc (.cells (opaC m).toArray 32)) 73 [.int .i64 m.t, .int .i64 m.j, .int .i64 m.i, .slice none 0 0]
    rw [hs1] at bM
    have I0 : ManI w ((w.alloc (.cells (opaC m).toArray 32)).alloc (.cells #[.int .i64 m.t, .int .i64 m.j, .int .i64 m.i, .slice none 0 0] 73)) m ob (ob + 1) 0 0 none 0 [] := ⟨rfl, Nat.le_refl _, rfl, fun u hu => (by cases hu), fM.blk b1 (fun q => q), bM, ⟨rfl, Or.inl ⟨rfl, rfl⟩⟩, f1.seqN fM⟩
    have ek : ((7 : Int) != 7) = false := by decide
    have k7 : (w.alloc (.cells (opaC m).toArray 32)).cell? ⟨ob, 0, none⟩ = some (.int .i64 7) := by rw [← h7]; exact b1.cell 0
    obtain ⟨N, hN⟩ : ∃ N, m.xs.length = N := ⟨_, rfl⟩
    have hxc : ∀ w', Fr noB w w' → ∀ i, i < N → ∃ g o, m.ua = some ⟨g, o, none⟩ ∧ w'.cell? ⟨g, o + i, none⟩ = some (.int .i64 (m.xs.getD i 0)) := fun w' f i hi => by
      obtain ⟨a, c, e, _, _, h3⟩ := hx
      injection e with e1 _ _
      subst e1
      obtain ⟨g, o, e2, h4⟩ := h3 i (by omega)
      exact ⟨g, o, e2, f.cell h4 (fun q => q)⟩
    have hNc : N ≤ m.uc := by
      obtain ⟨a, c, e, _, h2, _⟩ := hx
      injection e with _ _ e3
      omega
    have o7 : ∀ k np pa pc P wr, ManI w wr m ob (ob + 1) k np pa pc P → wr.cell? ⟨ob, 2, none⟩ = some (.int .i64 m.t) ∧ wr.cell? ⟨ob, 3, none⟩ = some (.int .i64 m.j) ∧ wr.cell? ⟨ob, 4, none⟩ = some (.int .i64 m.i) ∧ wr.cell? ⟨ob, 7, none⟩ = some (.slice m.ua N m.uc) ∧ wr.cell? ⟨ob, 8, none⟩ = some (.bool m.lo) := fun k np pa pc P wr I => ⟨I.bo.cell 2, I.bo.cell 3, I.bo.cell 4, by rw [← hN]; exact I.bo.cell 7, I.bo.cell 8⟩
    obtain ⟨i0, hi0, hz0, hz1, hz2⟩ := info_parts infoPinC
    obtain ⟨p2, p3, p4, p7, p8⟩ := o7 _ _ _ _ _ _ I0
    have y2 : (w.alloc (.cells (opaC m).toArray 32)).cell? ⟨ob, 2, none⟩ = some (.int .i64 m.t) := b1.cell 2
    have y3 : (w.alloc (.cells (opaC m).toArray 32)).cell? ⟨ob, 3, none⟩ = some (.int .i64 m.j) := b1.cell 3
    have y4 : (w.alloc (.cells (opaC m).toArray 32)).cell? ⟨ob, 4, none⟩ = some (.int .i64 m.i) := b1.cell 4
    rw [hN] at h20
    have hone : ∀ u ∈ opaC m, u.oneCell' = true := by
      intro u hu
      unfold opaC at hu
      simp only [List.mem_cons, List.not_mem_nil, or_false] at hu
      rcases hu with rfl | rfl | rfl | rfl | rfl | rfl | rfl | rfl | rfl <;> rfl
    replace h7 := Lib.hid h7
    replace I0 := Lib.hid I0
    replace hxc := Lib.hid hxc
    replace o7 := Lib.hid o7
    replace hN := Lib.hid hN
    clear hs hx fM bM f1 e0
    unfold opaC
    unfold opaC at hs1 k7 p2 p3 p4 p7 p8 y2 y3 y4 I0
    obtain ⟨ua, hua⟩ : ∃ ua, m.ua = ua := ⟨_, rfl⟩
    rw [hua] at hs1 k7 p2 p3 p4 p7 p8 y2 y3 y4 I0 ⊢
    go_enter Tryz.func15, Tryz.ntmps15
    go_upto_region 4 with fail
    generalize ((w.alloc (.cells #[.int .i64 m.k, .int .i64 m.a, .int .i64 m.t, .int .i64 m.j, .int .i64 m.i, .int .i64 m.n, .slice m.sa m.sp.length m.sc, .slice ua m.xs.length m.uc, .bool m.lo] 32)).alloc (.cells #[.int .i64 m.t, .int .i64 m.j, .int .i64 m.i, .slice none 0 0] 73)) = w2 at *
    clear y2 y3 y4 k7 hs1 b1 p2 p3 p4 p8
    have hobl : Hid (w.heap.size ≤ ob + 1) := Lib.hid (by omega)
    replace hob := Lib.hid hob
    replace hua := Lib.hid hua
    go_wp2_with fail
    go_loopg [36] N (fun gk i wr => ∃ (k np : Nat) (pa : Option Addr) (pc : Nat) (P : List PU), k + gk = N ∧ i = .int .i64 k ∧ Hid (ManI w wr m ob (ob + 1) k np pa pc P))
    case atStart => exact ⟨0, 0, none, 0, [], Nat.zero_add _, rfl, I0⟩
    case round =>
      clear p7 I0
      obtain ⟨k, np, pa, pc, P, hk, rfl, hI⟩ := hrel
      obtain ⟨q2, q3, q4, q7, q8⟩ := o7.out _ _ _ _ _ _ hI.out
      have q13 : wr.cell? ⟨ob + 1, 3, none⟩ = some (.slice pa np pc) := hI.out.bm.cell 3
      by_cases hlt : k < N
      · obtain ⟨g, o, hua2, hcx⟩ := hxc.out wr hI.out.fr k hlt
        rw [hua.out] at hua2 q7
        subst hua2
        obtain ⟨x, hxx⟩ : ∃ x, m.xs.getD k 0 = x := ⟨_, rfl⟩
        obtain ⟨b, hb⟩ : ∃ b, (m.lo && ((k : Int) == 0)) = b := ⟨_, rfl⟩
        obtain ⟨lo, hlo⟩ : ∃ lo, m.lo = lo := ⟨_, rfl⟩
        rw [hxx] at hcx
        rw [hlo] at q8
        have hb1 : (k : Int) < N := by omega
        have hmeas : N - (k + 1) < gk := by omega
        have hkn2 : k + 1 + (N - (k + 1)) = N := by omega
        replace hxx := Lib.hid hxx
        replace hmeas := Lib.hid hmeas
        replace hkn2 := Lib.hid hkn2
        clear hk q4
        by_cases h0 : 0 ≤ x
        · have h0d : decide (0 ≤ x) = true := decide_eq_true h0
          cases lo with
          | false =>
            rw [hlo, Bool.false_and] at hb
            subst hb
            have hb : Hid ((m.lo && ((k : Int) == 0)) = false) := Lib.hid (by rw [hlo]; rfl)
            replace hlo := Lib.hid hlo
            have fA : Fr noB wr (wr.alloc (.cells #[.int .i64 k, .int .i64 m.t, .int .i64 m.j, .int .i64 x, .slice none 0 0, .bool false] 70)) := (Fr.refl _ _).alloc _
            have IA : ManI w (wr.alloc (.cells #[.int .i64 k, .int .i64 m.t, .int .i64 m.j, .int .i64 x, .slice none 0 0, .bool false] 70)) m ob (ob + 1) k np pa pc P := hI.out.frN fA
            have cn := news_at wr 70 [.int .i64 k, .int .i64 m.t, .int .i64 m.j, .int .i64 x, .slice none 0 0, .bool false]
            have hw8 : w.heap.size ≤ (wr.alloc (.cells #[.int .i64 k, .int .i64 m.t, .int .i64 m.j, .int .i64 x, .slice none 0 0, .bool false] 70)).heap.size := IA.fr.size
            have ow8 := IA.ow
            have hnp : np ≤ 20 := by have := IA.pk; omega
            have huc : (PU.mk ⟨k, m.t, m.j, m.xs.getD k 0, [], m.lo && ((k : Int) == 0)⟩ none 0).cs = [.int .i64 k, .int .i64 m.t, .int .i64 m.j, .int .i64 x, .slice none 0 0, .bool false] := by
              unfold PU.cs pnC PU.v
              simp only
              rw [hxx.out, hb.out]; rfl
            replace IA := Lib.hid IA
            replace huc := Lib.hid huc
            replace hw8 := Lib.hid hw8
            replace hnp := Lib.hid hnp
            clear fA
            go_wp2_with (first
              | (at_builtin; go_must (refine wpList_append_at _ rfl (.tmp 44) (.tmp 58) 71 rfl w.heap.size 70 i0 _ 6 64 Tryz.underlying71 hi0 hz0 hz1 hz2 rfl (by decide) _ np (P.flatMap PU.cs) rfl ow8 ⟨wr.heap.size, 0, none⟩ 1 1 [.int .i64 k, .int .i64 m.t, .int .i64 m.j, .int .i64 x, .slice none 0 0, .bool false] rfl rfl cn (by intro u hu; simp only [List.mem_cons, List.not_mem_nil, or_false] at hu; rcases hu with rfl | rfl | rfl | rfl | rfl | rfl <;> rfl) ?_ ?_ hw8.out ?_))
              | fail)
            · have := hnp.out; unfold maxLen; omega
            · have := hnp.out; omega
            intro v9 w9 o9 gr9 _
            obtain ⟨a9, c9, rfl⟩ := ownsRow_slice o9
            have f9 : Fr (rowB (.slice pa np pc)) (wr.alloc (.cells #[.int .i64 k, .int .i64 m.t, .int .i64 m.j, .int .i64 x, .slice none 0 0, .bool false] 70)) w9 := (Fr.refl _ _).grown gr9 (fun k hk _ => hk)
            rw [← huc.out] at o9
            have hfin := man_next IA.out _ rfl (by rw [hxx.out]; exact h0) o9 f9 (by omega) hobl.out
            have b9 := f9.blk IA.out.bm (fun q => row_not IA.out.ow IA.out.bm (by decide) q)
            have k9 : w9.cell? ⟨ob + 1, 3, none⟩ = some (.slice pa np pc) := b9.cell 3
            have z9 := b9.frozen 3
            replace hfin := Lib.hid hfin
            clear o9 gr9 f9 b9 cn ow8 IA hI
            go_wp2_with fail
            go_roundg (N - (k + 1))
            case rel => exact ⟨k + 1, np + 1, a9, c9, _, hkn2.out, by go_num, hfin⟩
            case measure => exact hmeas.out
          | true =>
            rw [hlo, Bool.true_and] at hb
            have e5 : ((k : Int) == 0) = b := hb
            clear hb
            have hb : Hid ((m.lo && ((k : Int) == 0)) = b) := Lib.hid (by rw [hlo, Bool.true_and]; exact e5)
            replace hlo := Lib.hid hlo
            have fA : Fr noB wr (wr.alloc (.cells #[.int .i64 k, .int .i64 m.t, .int .i64 m.j, .int .i64 x, .slice none 0 0, .bool b] 70)) := (Fr.refl _ _).alloc _
            have IA : ManI w (wr.alloc (.cells #[.int .i64 k, .int .i64 m.t, .int .i64 m.j, .int .i64 x, .slice none 0 0, .bool b] 70)) m ob (ob + 1) k np pa pc P := hI.out.frN fA
            have cn := news_at wr 70 [.int .i64 k, .int .i64 m.t, .int .i64 m.j, .int .i64 x, .slice none 0 0, .bool b]
            have hw8 : w.heap.size ≤ (wr.alloc (.cells #[.int .i64 k, .int .i64 m.t, .int .i64 m.j, .int .i64 x, .slice none 0 0, .bool b] 70)).heap.size := IA.fr.size
            have ow8 := IA.ow
            have hnp : np ≤ 20 := by have := IA.pk; omega
            have huc : (PU.mk ⟨k, m.t, m.j, m.xs.getD k 0, [], m.lo && ((k : Int) == 0)⟩ none 0).cs = [.int .i64 k, .int .i64 m.t, .int .i64 m.j, .int .i64 x, .slice none 0 0, .bool b] := by
              unfold PU.cs pnC PU.v
              simp only
              rw [hxx.out, hb.out]; rfl
            replace IA := Lib.hid IA
            replace huc := Lib.hid huc
            replace hw8 := Lib.hid hw8
            replace hnp := Lib.hid hnp
            clear fA
            go_wp2_with (first
              | (at_builtin; go_must (refine wpList_append_at _ rfl (.tmp 44) (.tmp 58) 71 rfl w.heap.size 70 i0 _ 6 64 Tryz.underlying71 hi0 hz0 hz1 hz2 rfl (by decide) _ np (P.flatMap PU.cs) rfl ow8 ⟨wr.heap.size, 0, none⟩ 1 1 [.int .i64 k, .int .i64 m.t, .int .i64 m.j, .int .i64 x, .slice none 0 0, .bool b] rfl rfl cn (by intro u hu; simp only [List.mem_cons, List.not_mem_nil, or_false] at hu; rcases hu with rfl | rfl | rfl | rfl | rfl | rfl <;> rfl) ?_ ?_ hw8.out ?_))
              | fail)
            · have := hnp.out; unfold maxLen; omega
            · have := hnp.out; omega
            intro v9 w9 o9 gr9 _
            obtain ⟨a9, c9, rfl⟩ := ownsRow_slice o9
            have f9 : Fr (rowB (.slice pa np pc)) (wr.alloc (.cells #[.int .i64 k, .int .i64 m.t, .int .i64 m.j, .int .i64 x, .slice none 0 0, .bool b] 70)) w9 := (Fr.refl _ _).grown gr9 (fun k hk _ => hk)
            rw [← huc.out] at o9
            have hfin := man_next IA.out _ rfl (by rw [hxx.out]; exact h0) o9 f9 (by omega) hobl.out
            have b9 := f9.blk IA.out.bm (fun q => row_not IA.out.ow IA.out.bm (by decide) q)
            have k9 : w9.cell? ⟨ob + 1, 3, none⟩ = some (.slice pa np pc) := b9.cell 3
            have z9 := b9.frozen 3
            replace hfin := Lib.hid hfin
            clear o9 gr9 f9 b9 cn ow8 IA hI
            go_wp2_with fail
            go_roundg (N - (k + 1))
            case rel => exact ⟨k + 1, np + 1, a9, c9, _, hkn2.out, by go_num, hfin⟩
            case measure => exact hmeas.out
        · have h0d : decide (0 ≤ x) = false := decide_eq_false h0
          have hfin := Lib.hid (hI.out.skip (by rw [hxx.out]; exact h0))
          replace hb := Lib.hid hb
          replace hlo := Lib.hid hlo
          go_wp2_with fail
          go_roundg (N - (k + 1))
          case rel => exact ⟨k + 1, np, pa, pc, P, hkn2.out, by go_num, hfin⟩
          case measure => exact hmeas.out
      · obtain rfl : k = N := by omega
        have r0 : wr.cell? ⟨ob + 1, 0, none⟩ = some (.int .i64 m.t) := hI.out.bm.cell 0
        have r1 : wr.cell? ⟨ob + 1, 1, none⟩ = some (.int .i64 m.j) := hI.out.bm.cell 1
        have r2 : wr.cell? ⟨ob + 1, 2, none⟩ = some (.int .i64 m.i) := hI.out.bm.cell 2
        go_wp2_with fail
        go_ret
        refine ⟨mManifest m.t m.j m.i (.slice pa np pc), rfl, ⟨.slice pa np pc, rfl, ?_⟩, hI.out.fr⟩
        rw [hN.out]
        exact hI.out.rd (by have := hI.out.pk; omega)
  · have hmk := makeA_any m (w.alloc (.cells (opaC m).toArray 32)) h7 (hs.frN f1)
    have ek : (m.k != 7) = true := by simpa using h7
    have y0 : (w.alloc (.cells (opaC m).toArray 32)).cell? ⟨ob, 0, none⟩ = some (.int .i64 m.k) := b1.cell 0
    have y1 : (w.alloc (.cells (opaC m).toArray 32)).cell? ⟨ob, 1, none⟩ = some (.int .i64 m.a) := b1.cell 1
    have y2 : (w.alloc (.cells (opaC m).toArray 32)).cell? ⟨ob, 2, none⟩ = some (.int .i64 m.t) := b1.cell 2
    have y3 : (w.alloc (.cells (opaC m).toArray 32)).cell? ⟨ob, 3, none⟩ = some (.int .i64 m.j) := b1.cell 3
    have y4 : (w.alloc (.cells (opaC m).toArray 32)).cell? ⟨ob, 4, none⟩ = some (.int .i64 m.i) := b1.cell 4
    have y5 : (w.alloc (.cells (opaC m).toArray 32)).cell? ⟨ob, 5, none⟩ = some (.int .i64 m.n) := b1.cell 5
    have y6 : (w.alloc (.cells (opaC m).toArray 32)).cell? ⟨ob, 6, none⟩ = some (.slice m.sa m.sp.length m.sc) := b1.cell 6
    have y8 : (w.alloc (.cells (opaC m).toArray 32)).cell? ⟨ob, 8, none⟩ = some (.bool m.lo) := b1.cell 8
    replace h7 := Lib.hid h7
    replace f1 := Lib.hid f1
    clear hs hx h20 b1 hs1
    unfold opaC at hmk y0 y1 y2 y3 y4 y5 y6 y8 ⊢
    replace hmk := Lib.hid hmk
    go_enter Tryz.func15, Tryz.ntmps15
    go_wp2_with fail
    go_fit hmk.out
    rintro e w1 ⟨v, rfl, hv, f2⟩
    have fz := Lib.hid (f1.out.seqN f2)
    replace hv := Lib.hid hv
    clear hmk f2
    go_wp2_with fail
    go_ret
    exact ⟨v, rfl, hv.out, fz.out⟩
end Go.Proofs.YtdmhnoffejjpnaaGreatDoor
end

section
set_option linter.unusedVariables false
set_option linter.unusedSimpArgs false
set_option maxRecDepth 100000
namespace Go.Proofs.YtdmhnoffejjpnaaGreatDoor
open Go.RowKit Go Go.Maps Go.Lib

structure StL (w0 w : World) (gS : Nat) (col : Nat → Tg) (n : Nat) (X : SS) : Prop where
  s : ∃ a, StW w gS col n X a
  hi : ∀ q, col q ≠ tg0 → w0.heap.size ≤ q
  f : Fr noB w0 w
theorem StL.frN {w0 w w' : World} {gS : Nat} {col : Nat → Tg} {n : Nat} {X : SS} (h : StL w0 w gS col n X) (f : Fr noB w w') : StL w0 w' gS col n X := by
  obtain ⟨⟨a, ha⟩, h1, h2⟩ := h
  exact ⟨⟨a, ha.frN f⟩, h1, h2.seqN f⟩
theorem StL.up {w0 w : World} {gS : Nat} {col : Nat → Tg} {n m : Nat} {X : SS} (h : StL w0 w gS col n X) (hm : n ≤ m) (h1 : m ≤ 100000) : StL w0 w gS col m X := by
  obtain ⟨⟨a, ha⟩, h2, h3⟩ := h
  exact ⟨⟨a, ha.up hm h1⟩, h2, h3⟩
theorem StL.step {w0 w w' : World} {gS : Nat} {col col' : Nat → Tg} {n m : Nat} {X Y : SS} (h : StL w0 w gS col n X) (k : STo w w' gS col m Y col') : StL w0 w' gS col' m Y :=
  ⟨k.1, fun q hq => by
    by_cases hl : q < w.heap.size
    · rw [k.2.2 q hl] at hq; exact h.hi q hq
    · have := h.f.size; omega, h.f.trans k.2.1 (fun _ _ q => q) (fun i hi q => by have := h.hi i q; omega)⟩
theorem StL.inv {w0 w : World} {gS : Nat} {col : Nat → Tg} {n : Nat} {X : SS} (h : StL w0 w gS col n X) : X.Inv := by obtain ⟨⟨a, ha⟩, _⟩ := h; exact ha.inv
theorem StL.after {w0 w w' : World} {gS : Nat} {col : Nat → Tg} {n : Nat} {X : SS} (h : StL w0 w gS col n X) (f : Fr (fun q => col q ≠ tg0) w w') : Fr noB w0 w' := h.f.trans f (fun _ _ q => q) (fun i hi q => by have := h.hi i q; omega)
theorem StL.low {w0 w : World} {gS : Nat} {col : Nat → Tg} {n : Nat} {X : SS} (h : StL w0 w gS col n X) : ∀ q, col q ≠ tg0 → q < w.heap.size := by obtain ⟨⟨a, ha⟩, _⟩ := h; exact ha.g.low
theorem snew_l (w : World) : Calls Tryz.prog 8 #[] w fun e w' => ∃ gS col, e = .returned (.pointer (some ⟨gS, 0, none⟩)) ∧ StL w w' gS col 0 SS.zero := by
  refine (snew_any w).mono ?_
  rintro e w' ⟨gS, gd, bj, bc, rfl, h1, h2, h3, h4, e1, e2, e3, e4, hs, f⟩
  have hdk : Dk w' gd w'.heap.size [] 0 := ⟨none, 0, h2, World.ownsRow_nil _ _ _ _, by omega, Nat.le_refl _, Nat.le_refl _, Nat.zero_le _⟩
  have htd : ∀ q, touched w' gd q → q = gd := fun q hq => by rcases hdk.touch hq with h | h; exact h; omega
  have n1 : bj ≠ gS := by omega
  have n2 : bj ≠ gd := by omega
  have n3 : bc ≠ gS := by omega
  have n4 : bc ≠ gd := by omega
  have n5 : bc ≠ bj := by omega
  refine ⟨gS, fun q => if q = gS then (1, 0, 0) else if q = gd then (2, 0, 0) else if q = bj then (3, 0, 0) else if q = bc then (4, 0, 0) else tg0, rfl, ⟨⟨⟨gd, w'.heap.size, bj, [], none, 0, 0, bc, []⟩, SS.Inv.zero, ?_⟩, ?_, f⟩⟩
  · refine ⟨h1, hdk, h3, fun j => rfl, World.ownsRow_nil _ _ _ _, h4, fun o ho => (by cases ho), fun _ _ _ => rfl, ?_, fun q hq => ?_, ?_, ?_, fun g hg => (by simp [Value.ownBlock] at hg), fun q hq => ?_, ⟨Nat.le_refl _, Nat.le_refl _, by omega⟩, Nat.zero_le _⟩
    · rw [if_pos rfl]
    · have := htd q hq
      rw [if_neg (by omega), if_pos this]
    · show (if bj = gS then _ else _) = _
      rw [if_neg n1, if_neg n2, if_pos rfl]
    · show (if bc = gS then _ else _) = _
      rw [if_neg n3, if_neg n4, if_neg n5, if_pos rfl]
    · refine Classical.byContradiction fun hlt => hq ?_
      show (if q = gS then _ else _) = _
      rw [if_neg (by omega), if_neg (by omega), if_neg (by omega), if_neg (by omega)]
  · intro q hq
    refine Classical.byContradiction fun hlt => hq ?_
    show (if q = gS then _ else _) = _
    rw [if_neg (by omega), if_neg (by omega), if_neg (by omega), if_neg (by omega)]
section
variable {w0 w : World} {gS : Nat} {col : Nat → Tg} {n : Nat} {X : SS}
theorem shear_l {m : Ms} {v : Value} (h : StL w0 w gS col n X) (hg : Gl w0) (hn : n + 2 ≤ 100000) (hm : ∀ w', Fr (fun q => col q ≠ tg0) w w' → MsW w' v m) :
    Calls Tryz.prog 16 #[.pointer (some ⟨gS, 0, none⟩), v] w fun e w' => ∃ v' col', e = .returned v' ∧ StL w0 w' gS col' (n + 2) (X.hear m) ∧ SRow w w' col' v' (X.back m) ∧ Stp w w' col col' := by
  obtain ⟨a, ha⟩ := h.s
  refine (shear_any gS col n X a m v w ha hn hm (fun w' f => hg.fr (h.after f))).mono ?_
  rintro e w' ⟨v', col', rfl, k, r⟩
  exact ⟨v', col', rfl, h.step k, r, k.2⟩
theorem stick_l (h : StL w0 w gS col n X) :
    Calls Tryz.prog 11 #[.pointer (some ⟨gS, 0, none⟩)] w fun e w' => ∃ v' col', e = .returned v' ∧ StL w0 w' gS col' n X.tick ∧ SRow w w' col' v' X.told2 ∧ Stp w w' col col' := by
  obtain ⟨a, ha⟩ := h.s
  refine (stick_row gS col n X a w ha).mono ?_
  rintro e w' ⟨v', col', rfl, k, r⟩
  exact ⟨v', col', rfl, h.step k, r, k.2⟩
theorem scrash_l {k : Int} (h : StL w0 w gS col n X) (hg : Gl w0) (hk : -9223372036854775808 ≤ k ∧ k ≤ 9223372036854775807) :
    Calls Tryz.prog 13 #[.pointer (some ⟨gS, 0, none⟩), .int .i64 k] w fun e w' => ∃ col', e = .returned (.tuple #[]) ∧ StL w0 w' gS col' n (X.crash k) ∧ Stp w w' col col' := by
  obtain ⟨a, ha⟩ := h.s
  refine (scrash_any gS col n X a k w ha hk (fun w' f => hg.fr (h.after f))).mono ?_
  rintro e w' ⟨rfl, col', kk⟩
  exact ⟨col', rfl, h.step kk, kk.2⟩
theorem SS.kept_bytes (X : SS) : (bytesR X.all).take (bytesR X.K).length = bytesR X.K := by unfold SS.all; rw [bytesR_app, List.take_left]
theorem srecords_l (h : StL w0 w gS col n X) (hg : Gl w0) :
    Calls Tryz.prog 20 #[.pointer (some ⟨gS, 0, none⟩)] w fun e w' => ∃ a c Q, e = .returned (.slice a X.K.length c) ∧ w'.ownsRow w.heap.size 63 5 (.slice a X.K.length c) X.K.length (Q.flatMap QU.cs) ∧ OwnQ w' w.heap.size Q ∧ Q.map QU.x = X.K ∧ Fr noB w w' := by
  obtain ⟨a, ha⟩ := h.s
  exact records_any gS a.gd a.B _ _ X.K _ _ _ _ w (hg.fr h.f) ha.g.blk ha.g.dk X.kept_bytes (fun r hr => ha.inv.ok r (List.mem_append.2 (Or.inl hr)))
theorem squery_l (tr cl : Int) (h : StL w0 w gS col n X) (hg : Gl w0) :
    Calls Tryz.prog 23 #[.pointer (some ⟨gS, 0, none⟩), .int .i64 tr, .int .i64 cl] w fun e w' => ∃ a c Q, e = .returned (.slice a (X.K.filter fun x => !goneQ tr cl x).length c) ∧ w'.ownsRow w.heap.size 63 5 (.slice a (X.K.filter fun x => !goneQ tr cl x).length c) (X.K.filter fun x => !goneQ tr cl x).length (Q.flatMap QU.cs) ∧ OwnQ w' w.heap.size Q ∧ Q.map QU.x = (X.K.filter fun x => !goneQ tr cl x) ∧ Fr noB w w' := by
  obtain ⟨a, ha⟩ := h.s
  exact query_any gS a.gd a.B _ _ X.K _ _ _ _ tr cl w (hg.fr h.f) ha.g.blk ha.g.dk X.kept_bytes (fun r hr => ha.inv.ok r (List.mem_append.2 (Or.inl hr)))
theorem wn_len {X : SS} (h : X.Inv) : X.Wn.length ≤ 65536 ∧ X.K.length ≤ 65536 := by
  have h1 := bytes_few X.all
  have h2 := h.le
  unfold SS.all at h1 h2
  rw [List.length_append] at h1
  omega
theorem spending_l (h : StL w0 w gS col n X) : Calls Tryz.prog 21 #[.pointer (some ⟨gS, 0, none⟩)] w fun e w' => e = .returned (.int .i64 X.Wn.length) ∧ w' = w := by
  obtain ⟨a, ha⟩ := h.s
  exact pending_any gS _ _ _ _ _ _ _ w ha.g.blk (by have := wn_len ha.inv; omega)
theorem srefused_l (h : StL w0 w gS col n X) : Calls Tryz.prog 22 #[.pointer (some ⟨gS, 0, none⟩)] w fun e w' => e = .returned (.int .i64 X.R) ∧ w' = w := by
  obtain ⟨a, ha⟩ := h.s
  exact refused_any gS _ _ _ _ _ w ha.g.blk
end
/-- what one message, or none, makes of it -/
noncomputable def SS.hearO (X : SS) : Option Ms → SS
  | none => X
  | some m => X.hear m
def SS.backO (X : SS) : Option Ms → List (Int × Int)
  | none => []
  | some m => X.back m
theorem right_nilS (w : World) : Calls Tryz.prog 40 #[.nilIface] w fun e w' => e = .returned (.bool false) ∧ Fr noB w w' := right_of ((mayBe_nil w).mono fun e w' ⟨h1, h2⟩ => ⟨h1, by rw [h2]; exact Fr.refl _ _⟩)
/-- Hear, of a message or of none -/
theorem shearO_l {w0 w : World} {gS : Nat} {col : Nat → Tg} {n : Nat} {X : SS} {m : Option Ms} {v : Value} (h : StL w0 w gS col n X) (hg : Gl w0) (hn : n + 2 ≤ 100000) (hm : ∀ w', Fr (fun q => col q ≠ tg0) w w' → MsO w' v m) :
    Calls Tryz.prog 16 #[.pointer (some ⟨gS, 0, none⟩), v] w fun e w' => ∃ v' col', e = .returned v' ∧ StL w0 w' gS col' (n + 2) (X.hearO m) ∧ SRow w w' col' v' (X.backO m) ∧ Stp w w' col col' := by
  cases m with
  | some x => exact shear_l h hg hn hm
  | none =>
    obtain rfl : v = .nilIface := hm w (Fr.refl _ _)
    obtain ⟨a, ha⟩ := h.s
    refine (shear_no gS a.gd _ _ _ _ _ w ha.g.blk (right_nilS w)).mono ?_
    rintro e w' ⟨rfl, f⟩
    exact ⟨_, col, rfl, (h.frN f).up (by omega) hn, SRow.nil _ _ _, Stp.ofN col f⟩
end Go.Proofs.YtdmhnoffejjpnaaGreatDoor
end

section
set_option linter.unusedVariables false
set_option linter.unusedSimpArgs false
set_option maxRecDepth 100000
namespace Go.Proofs.YtdmhnoffejjpnaaGreatDoor
open Go.RowKit Go Go.Maps Go.Lib

def rA : RC := ⟨7, 2, 1, true, [⟨0, [], [], false⟩]⟩
def pA : Pn := ⟨0, 7, 2, 0, [], false⟩
def mA : Ms := .manifest 7 2 1 [pA]
def cA : Ms := .chunk 0 7 2 0 1 []
theorem rA_ok : okRc rA = true := by rfl
theorem rA_len : (recT rA).length ≤ 60000 := by decide
theorem rA_print : printRc rA = frR rA := by
  unfold printRc
  rw [if_pos rA_ok, if_pos rA_len]; rfl
theorem rA_frl : (frR rA).length ≤ 60008 := by
  have := frame_len (recT rA)
  have := rA_len
  unfold frR; omega
def pz0 : PS := ⟨7, 2, none, []⟩
def pz1 : PS := ⟨7, 2, some (1, [pA]), []⟩
def pz2 : PS := ⟨7, 2, some (1, [pA]), [(0, 1, [(0, [])])]⟩
theorem pz_h1 : (pz0.hear mA).2 = pz1 := by rfl
theorem pz_h2 : (pz1.hear cA).2 = pz2 := by rfl
theorem pz_r1 : pz1.recd = none := by rfl
theorem pz_r2 : pz2.recd = some (1, [(pA, [])]) := by rfl
theorem pz_rc : rcOf 7 2 1 [(pA, [])] = rA := by rfl
theorem mA_ok : mA.ok = true := by rfl
theorem cA_ok : cA.ok = true := by rfl
def XA1 : SS := SS.zero.put mA
theorem XA_h1 : SS.zero.hear mA = XA1 := by
  have h1 : ¬ mA.ok = false := by rw [mA_ok]; decide
  have h2 : SS.zero.st 2 = none := by rfl
  have h3 : SS.zero.asm mA = pz1 := by rfl
  unfold SS.hear
  rw [if_neg h1]
  show (if SS.zero.st 2 = none then SS.zero.col mA else SS.zero) = _
  rw [if_pos h2]
  unfold SS.col
  rw [h3, pz_r1]
  rfl
theorem XA_C1 : XA1.C 2 7 = some pz1 := by rfl
theorem XA_no : ¬ XA1.no rA := by
  unfold SS.no
  rw [rA_print]
  have h1 : (bytesR XA1.all).length = 0 := by rfl
  have h2 := frame_len (recT rA)
  have h3 := rA_frl
  have h4 : frR rA = frameL (recT rA) := rfl
  rw [h1]
  intro h
  rcases h with h | h
  · rw [h4] at h; rw [h] at h2; simp at h2; omega
  · omega
def XA2 : SS := XA1.wrt rA 2
theorem XA_h2 : XA1.hear cA = XA2 := by
  have h1 : ¬ cA.ok = false := by rw [cA_ok]; decide
  have h2 : XA1.st 2 = none := by rfl
  have h3 : XA1.asm cA = pz2 := by rfl
  unfold SS.hear
  rw [if_neg h1]
  show (if XA1.st 2 = none then XA1.col cA else XA1) = _
  rw [if_pos h2]
  exact SS.col_yes (c := 1) (L := [(pA, [])]) (by rw [h3, pz_r2]) XA_no
theorem XA_K2 : XA2.K = [] ∧ XA2.Wn = [rA] ∧ XA2.R = 0 := ⟨rfl, rfl, rfl⟩
def XA3 : SS := XA2.tick
theorem XA_K3 : XA3.K = [rA] ∧ XA3.Wn = [] ∧ XA3.R = 0 := ⟨rfl, rfl, rfl⟩
theorem XA_s3 : XA3.st 2 = some 2 := by rfl
theorem XA_h3 : XA3.hear mA = XA3 := by
  have h1 : ¬ mA.ok = false := by rw [mA_ok]; decide
  unfold SS.hear
  rw [if_neg h1]
  show (if XA3.st 2 = none then XA3.col mA else XA3) = _
  rw [XA_s3, if_neg (by decide)]
theorem XA_b0 : SS.zero.back mA = [] := by rfl
theorem XA_b1 : XA1.back cA = [] := by rfl
theorem XA_t2 : XA2.told2 = [(7, 2)] := by rfl
theorem XA_b3 : XA3.back mA = [(7, 2)] := by rfl
theorem crash_nil {X : SS} (h : X.Inv) (hw : X.Wn = []) (k : Int) : (X.crash k).K = X.K := by
  have h1 := X.fit_ge k h
  have h2 : X.all = X.K := by unfold SS.all; rw [hw, List.append_nil]
  show X.all.take _ = _
  rw [h2] at h1 ⊢
  exact List.take_of_length_le h1
end Go.Proofs.YtdmhnoffejjpnaaGreatDoor
end
