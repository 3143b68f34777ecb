/-
  Record: the record, when all of it came.
-/
import Derived.Test.YtdfkjigkpcgngaaAsmMiss
import Derived.Laws.Rows
set_option linter.unusedVariables false
set_option linter.unusedSimpArgs false
set_option maxRecDepth 100000
set_option maxRecDepth 100000
namespace Go.Proofs.Ytdfkjigkpcgngaa
open Go.RowKit Go Go.Maps Go.Lib

theorem results_cell_row2 {P : Program} {fn : Func} {p u : Tmp} {ty : TypeId} (h : fn.results = #[.cell p ty, .tmp u]) (tmps : Array Value) (w : World) (g : Nat) (t : TypeId) (cs : Array Value) (fr : Nat × Nat) (d : TypeDesc)
    (hp : tmps.getD p undef = .pointer (some ⟨g, 0, none⟩)) (hg : w.heap[g]? = some (.cells cs t fr))
    (hd : (match d with | .struct _ | .array _ _ => true | _ => false) = true) (hu : P.underlying ty = some d) (hi : (P.info? ty).map (·.size) = some cs.size) :
    (results fn tmps).run P w = .ok (.tuple #[.agg cs, tmps.getD u undef]) w := by
  have hp' : tmps[p]?.getD undef = .pointer (some ⟨g, 0, none⟩) := by simpa using hp
  simp [results, h, hp', asAddr, run_loadVar_row w g t ty cs fr d hg hu (by cases d <;> simp_all) hi]
theorem undRec : ((Try.prog.underlying 50).map fun d => match d with | .struct _ | .array _ _ => true | _ => false) = some true := by kernel_rfl
theorem infoRecS : (Try.prog.info? 50).map (·.size) = some 5 := by kernel_rfl
theorem rec_ret {fn : Func} (hf : fn.results = #[.cell 2 50, .tmp 3]) (tmps : Array Value) (w : World) {g : Nat} {cs : List Value} (hp : tmps.getD 2 undef = .pointer (some ⟨g, 0, none⟩)) (hb : Blk w g 50 cs) (hl : cs.length = 5) :
    (results fn tmps).run Try.prog w = .ok (.tuple #[.agg cs.toArray, tmps.getD 3 undef]) w := by
  have h := undRec
  cases hu : Try.prog.underlying 50 with
  | none => rw [hu] at h; cases h
  | some d =>
    rw [hu] at h
    injection h with h
    exact results_cell_row2 hf tmps w g 50 cs.toArray _ d hp hb h hu (by rw [infoRecS]; simp [hl])
def noRec : Value := .agg #[.int .i64 0, .int .i64 0, .int .i64 0, .bool false, .slice none 0 0]
theorem record_nil (w : World) : Calls Try.prog 16 #[.pointer none] w fun e w' => e = .returned (.tuple #[noRec, .bool false]) ∧ Fr noB w w' := by
  have b0 := Blk.new w 50 [.int .i64 0, .int .i64 0, .int .i64 0, .bool false, .slice none 0 0]
  have f0 : Fr noB w (w.alloc (.cells #[.int .i64 0, .int .i64 0, .int .i64 0, .bool false, .slice none 0 0] 50)) := (Fr.refl _ _).alloc _
  have c0 := b0.cell 0
  have c1 := b0.cell 1
  have c2 := b0.cell 2
  have c3 := b0.cell 3
  have c4 := b0.cell 4
  have z0 := b0.frozen 0
  have z1 := b0.frozen 1
  have z2 := b0.frozen 2
  have z3 := b0.frozen 3
  have z4 := b0.frozen 4
  replace b0 := Lib.hid b0
  replace f0 := Lib.hid f0
  go_enter Try.func16, Try.ntmps16
  go_wp2_with fail
  refine bodyPost_ret (rec_ret rfl _ _ (g := w.heap.size) (by rfl) b0.out rfl) rfl ?_
  exact ⟨rfl, f0.out⟩

theorem record_none (p bm mb : Nat) (D : Nat → Prop) (A : AP) (w : World) (h : AsmP w p bm mb D A) (hm : A.man = none) : Calls Try.prog 16 #[.pointer (some ⟨p, 0, none⟩)] w fun e w' => e = .returned (.tuple #[noRec, .bool false]) ∧ Fr noB w w' := by
  have b0 := Blk.new w 50 [.int .i64 0, .int .i64 0, .int .i64 0, .bool false, .slice none 0 0]
  have f0 : Fr noB w (w.alloc (.cells #[.int .i64 0, .int .i64 0, .int .i64 0, .bool false, .slice none 0 0] 50)) := (Fr.refl _ _).alloc _
  have cp : (w.alloc (.cells #[.int .i64 0, .int .i64 0, .int .i64 0, .bool false, .slice none 0 0] 50)).cell? ⟨p, 2, none⟩ = some (.pointer none) := by
    have := (h.frN f0).blk.cell 2
    rw [show A.mp mb = none by unfold AP.mp; rw [hm]] at this
    exact this
  have c0 := b0.cell 0
  have c1 := b0.cell 1
  have c2 := b0.cell 2
  have c3 := b0.cell 3
  have c4 := b0.cell 4
  have z0 := b0.frozen 0
  have z1 := b0.frozen 1
  have z2 := b0.frozen 2
  have z3 := b0.frozen 3
  have z4 := b0.frozen 4
  replace b0 := Lib.hid b0
  replace f0 := Lib.hid f0
  clear h hm
  go_enter Try.func16, Try.ntmps16
  go_wp2_with fail
  refine bodyPost_ret (rec_ret rfl _ _ (g := w.heap.size) (by rfl) b0.out rfl) rfl ?_
  exact ⟨rfl, f0.out⟩
theorem cloneo_any (v : Value) (xs : List Int) (w : World) (hv : RdI w v xs) (hl : xs.length ≤ 1000000) :
    Calls Try.prog 30 #[v] w fun e w' => ∃ ta tc, e = .returned (.slice ta xs.length tc) ∧ w'.ownsRow w.heap.size 3 1 (.slice ta xs.length tc) xs.length (xs.map (Value.int .i64)) ∧ Fr noB w w' := by
  obtain ⟨a, c, rfl, h1, h2, h3⟩ := hv
  by_cases h0 : xs.length = 0
  · have hx : xs = [] := List.eq_nil_of_length_eq_zero h0
    subst hx
    cases a with
    | none =>
      refine (Try.slices_Clone_int_nil _ c w).mono ?_
      rintro e w' ⟨rfl, rfl⟩
      exact ⟨none, 0, rfl, ⟨rfl, Or.inl ⟨rfl, rfl⟩⟩, Fr.refl _ _⟩
    | some ad =>
      refine (Try.slices_Clone_int_zero ad c w).mono ?_
      rintro e w' ⟨v', rfl, ow, _, hb⟩
      obtain ⟨a', c', rfl⟩ := ownsRow_slice ow
      exact ⟨a', c', rfl, ow, Fr.of_below hb⟩
  · obtain ⟨g, o, rfl, _⟩ := h3 0 (by omega)
    have hc : ∀ j, j < xs.length → w.cell? ⟨g, o + j, none⟩ = some (.int .i64 (xs.getD j 0)) := fun j hj => by
      obtain ⟨g2, o2, e2, h4⟩ := h3 j hj
      cases e2
      exact h4
    refine (Try.slices_Clone_int g o xs.length c xs w (Nat.le_refl _) (by omega) hc).mono ?_
    rintro e w' ⟨v', rfl, ow, _, hb⟩
    rw [List.take_length] at ow
    obtain ⟨a', c', rfl⟩ := ownsRow_slice ow
    exact ⟨a', c', rfl, ow, Fr.of_below hb⟩
/-- a part of a record, where it lies -/
structure RU where
  p : Pn
  S : List Sp
  sa : Option Addr
  sc : Nat
  ca : Option Addr
  cc : Nat
def RU.cs (u : RU) : List Value := [.int .i64 u.p.a, .slice u.sa u.S.length u.sc, .slice u.ca u.p.cr.length u.cc, .bool u.p.lo]
def OwnRU (w : World) (B : Nat) (U : List RU) : Prop := ∀ u ∈ U, w.ownsRow B 63 3 (.slice u.sa u.S.length u.sc) u.S.length (u.S.flatMap spC) ∧ w.ownsRow B 3 1 (.slice u.ca u.p.cr.length u.cc) u.p.cr.length (u.p.cr.map (Value.int .i64))
def RU.pair (u : RU) : Pn × List Sp := (u.p, u.S)
def wholeL (L : List (Pn × List Sp)) : Bool := L.all fun x => !x.1.lo
def pairOf (tr : Int) (C : CH) (p : Pn) : Pn × List Sp := (p, (partOf tr C p).getD [])
def recL (tr : Int) (C : CH) (ps : List Pn) : Option (List (Pn × List Sp)) := if ps.all (fun p => (partOf tr C p).isSome) = true then some (ps.map (pairOf tr C)) else none
def AP.recd (A : AP) : Option (Int × List (Pn × List Sp)) := match A.man with
  | none => none
  | some x => (recL A.tr A.C x.2).map fun L => (x.1, L)
def RecPost (e : Ending) (w w' : World) (tr jb : Int) (r : Option (Int × List (Pn × List Sp))) : Prop :=
  Fr noB w w' ∧ (r = none → e = .returned (.tuple #[noRec, .bool false])) ∧ ∀ c L, r = some (c, L) → ∃ v U, e = .returned (.tuple #[.agg #[.int .i64 tr, .int .i64 jb, .int .i64 c, .bool (wholeL L), v], .bool true]) ∧ w'.ownsRow w.heap.size 69 4 v U.length (U.flatMap RU.cs) ∧ OwnRU w' w.heap.size U ∧ U.map RU.pair = L
theorem recL_no {tr : Int} {C : CH} {ps : List Pn} {q : Pn} (hq : q ∈ ps) (h : partOf tr C q = none) : recL tr C ps = none := by
  unfold recL
  rw [if_neg]
  intro hall
  have := List.all_eq_true.1 hall q hq
  rw [h] at this
  cases this
theorem ru_one (u : RU) : ∀ x ∈ u.cs, x.oneCell' = true := by
  intro x hx
  unfold RU.cs at hx
  simp only [List.mem_cons, List.not_mem_nil, or_false] at hx
  rcases hx with rfl | rfl | rfl | rfl <;> rfl
theorem infoPart : (Try.prog.info? 69).map (fun i => (i.zero, i.size, i.bytes)) = some (some (.agg #[.int .i64 0, .slice none 0 0, .slice none 0 0, .bool false]), 4, 64) := by kernel_rfl
end Go.Proofs.Ytdfkjigkpcgngaa
