/-
  The calls of stage 12's laws: may they be played? the message of a call.
  What calls make of an agent: what is always so; one call of the laws.
-/
import Derived.Test.YtppmednmcbjafaaGreatAgAwake2
import Derived.Test.YtppmednmcbjafaaGreatJobMsg
import Derived.Test.YtppmednmcbjafaaGreatAgA1
section
set_option linter.unusedVariables false
set_option linter.unusedSimpArgs false
set_option maxRecDepth 100000
set_option maxRecDepth 100000
set_option maxRecDepth 10000
namespace Go.Proofs.YtppmednmcbjafaaGreat
open Go.RowKit Go Go.Maps Go.Lib

/-- a call -/
structure OpA where
  k : Int
  t : Int
  n : Int
  s : ByteArray
def opC (m : OpA) : List Value := [.int .i64 m.k, .int .i64 m.t, .int .i64 m.n, .string m.s]
def IsOpA (_ : World) (cs : List Value) (m : OpA) : Prop := cs = opC m ∧ (Lit.int .i64 m.k).wf = true ∧ (Lit.int .i64 m.t).wf = true ∧ (Lit.int .i64 m.n).wf = true ∧ m.s.size ≤ 9223372036854775807
def okOp (m : OpA) : Bool := decide (m.s.size ≤ 100)
def fewB (xs : List OpA) : Bool := xs.all okOp && decide (xs.length ≤ 200)
theorem fewB_no {xs : List OpA} {k : Nat} {m : OpA} (hk : xs[k]? = some m) (h : okOp m = false) : fewB xs = false := by
  unfold fewB
  rw [show xs.all okOp = false from by
    rw [Bool.eq_false_iff]
    intro q
    rw [List.all_eq_true] at q
    have := q m (List.mem_of_getElem? hk)
    rw [h] at this
    cases this]
  rfl
theorem fewB_yes {xs : List OpA} (h : ∀ (i : Nat) (m : OpA), xs[i]? = some m → okOp m = true) : fewB xs = decide (xs.length ≤ 200) := by
  unfold fewB
  rw [show xs.all okOp = true from by
    rw [List.all_eq_true]
    intro x hx
    obtain ⟨i, hi, rfl⟩ := List.getElem_of_mem hx
    exact h i _ (List.getElem?_eq_getElem hi)]
  rfl
theorem fewB_ok {xs : List OpA} (h : fewB xs = true) : xs.length ≤ 200 ∧ ∀ (i : Nat) (m : OpA), xs[i]? = some m → m.s.size ≤ 100 := by
  unfold fewB at h
  simp only [Bool.and_eq_true, decide_eq_true_eq, List.all_eq_true] at h
  refine ⟨h.2, fun i m hm => ?_⟩
  have := h.1 m (List.mem_of_getElem? hm)
  unfold okOp at this
  simpa using this

set_option maxHeartbeats 2000000 in
theorem few_any (v : Value) (xs : List OpA) (W w : World) (hv : SlR w v 4 (IsOpA W) xs) :
    Calls Tryz.prog 9 #[v] w fun e w' => e = .returned (.bool (fewB xs)) ∧ Fr noB w w' := by
  obtain ⟨a, c, rfl, hx1, hx2, hx3⟩ := hv
  unfold maxLen at hx2
  have hyes := fewB_yes (xs := xs)
  have hno := fun k m => fewB_no (xs := xs) (k := k) (m := m)
  have hget : ∀ k, k < xs.length → ∃ m, xs[k]? = some m := fun k hk => ⟨xs[k], List.getElem?_eq_getElem hk⟩
  generalize hn : xs.length = n at *
  have hnb : n ≤ 9223372036854775807 := by omega
  replace hx3 := Lib.hid hx3
  replace hget := Lib.hid hget
  replace hn := Lib.hid hn
  replace hyes := Lib.hid hyes
  replace hno := Lib.hid hno
  obtain ⟨hx1, _⟩ := hx1
  generalize hF : fewB xs = F at *
  go_enter Tryz.func9, Tryz.ntmps9
  go_wp2_with fail
  go_loopw [7] (fun i wr => ∃ k : Nat, k ≤ n ∧ i = .int .i64 k ∧ Hid (∀ (i : Nat) (m : OpA), i < k → xs[i]? = some m → okOp m = true) ∧ Fr noB w wr) (fun i _ => n - (RowKit.intOf i).toNat)
  case atStart => exact ⟨0, by omega, rfl, Lib.hid (fun i _ hi _ => by omega), Fr.refl _ _⟩
  case round =>
    obtain ⟨k, hk, rfl, hok, fr⟩ := hrel
    by_cases hlt : k < n
    · obtain ⟨m, hm⟩ := hget.out k hlt
      obtain ⟨g, o, cs, rfl, hcs, ⟨rfl, _, _, _, hsm⟩, hc⟩ := hx3.out k m hm
      have c0 := fr.cell (hc 0 _ rfl) (fun q => q)
      have c1 := fr.cell (hc 1 _ rfl) (fun q => q)
      have c2 := fr.cell (hc 2 _ rfl) (fun q => q)
      have c3 := fr.cell (hc 3 _ rfl) (fun q => q)
      rw [Nat.add_zero] at c0
      simp only [← Nat.add_assoc] at c1 c2 c3
      have fA := fr.alloc (.cells (opC m).toArray 36)
      unfold opC at fA
      by_cases h1 : m.s.size ≤ 100
      · have hok1 : Hid (okOp m = true) := Lib.hid (by unfold okOp; simp [h1])
        replace hm := Lib.hid hm
        have hd1 : decide (100 < (m.s.size : Int)) = false := by simp; omega
        clear hc h1
        go_wp2_with fail
        go_roundw
        case rel => exact ⟨k + 1, by omega, by go_num, Lib.hid (fun i m' hi hm' => by
          rcases Nat.lt_or_ge i k with q | q
          · exact hok.out i m' q hm'
          · obtain rfl : i = k := by omega
            obtain rfl : m = m' := Option.some.inj (hm.out.symm.trans hm')
            exact hok1.out), fA⟩
        case measure => simp [RowKit.intOf]; omega
      · have hF0 : F = false := by exact hno.out k m hm (by unfold okOp; simp [h1])
        subst hF0
        replace hm := Lib.hid hm
        have hd1 : decide (100 < (m.s.size : Int)) = true := by simp; omega
        clear hc h1 hF
        go_wp2_with fail
        go_ret
        exact ⟨rfl, fA⟩
    · obtain rfl : k = n := by omega
      have hF0 : F = decide (k ≤ 200) := by exact hyes.out (fun i m hm => hok.out i m (by have := (List.getElem?_eq_some_iff.1 hm).1; rw [hn.out] at this; exact this) hm)
      by_cases h2 : k ≤ 200
      · have hd : F = true := by rw [hF0]; simpa using h2
        have hd2 : decide ((k : Int) ≤ 200) = true := by simp; omega
        subst hd
        clear hF hF0
        go_wp2_with fail
        go_ret
        exact ⟨rfl, fr⟩
      · have hd : F = false := by rw [hF0]; simpa using h2
        have hd2 : decide ((k : Int) ≤ 200) = false := by simp; omega
        subst hd
        clear hF hF0
        go_wp2_with fail
        go_ret
        exact ⟨rfl, fr⟩

/-- the message of a call: its value, what it is -/
def OpA.msv (m : OpA) : Value := if m.k = 5 then mPin m.t m.n else if m.k = 6 then mCollect m.t m.n else if m.k = 7 then mUnpin m.t m.n else if m.k = 8 then mStored m.t m.n else if m.k = 9 then mUnpin m.t m.n else if m.k = 10 then mUnpinned 1 m.t m.n else .nilIface
def OpA.ms (m : OpA) : Option Ms := if m.k = 5 then some (.pin m.t m.n) else if m.k = 6 then some (.collect m.t m.n) else if m.k = 7 then some (.unpin m.t m.n) else if m.k = 8 then some (.stored m.t m.n) else if m.k = 9 then some (.unpin m.t m.n) else if m.k = 10 then some (.unpinned 1 m.t m.n) else none
theorem OpA.msW (m : OpA) (w : World) : (m.ms = none ∧ m.msv = .nilIface) ∨ ∃ q, m.ms = some q ∧ MsW w m.msv q := by
  unfold OpA.ms OpA.msv
  by_cases h5 : m.k = 5
  · exact Or.inr ⟨_, by rw [if_pos h5], by rw [if_pos h5]; rfl⟩
  by_cases h6 : m.k = 6
  · exact Or.inr ⟨_, by rw [if_neg h5, if_pos h6], by rw [if_neg h5, if_pos h6]; rfl⟩
  by_cases h7 : m.k = 7
  · exact Or.inr ⟨_, by rw [if_neg h5, if_neg h6, if_pos h7], by rw [if_neg h5, if_neg h6, if_pos h7]; rfl⟩
  by_cases h8 : m.k = 8
  · exact Or.inr ⟨_, by rw [if_neg h5, if_neg h6, if_neg h7, if_pos h8], by rw [if_neg h5, if_neg h6, if_neg h7, if_pos h8]; rfl⟩
  by_cases h9 : m.k = 9
  · exact Or.inr ⟨_, by rw [if_neg h5, if_neg h6, if_neg h7, if_neg h8, if_pos h9], by rw [if_neg h5, if_neg h6, if_neg h7, if_neg h8, if_pos h9]; rfl⟩
  by_cases h10 : m.k = 10
  · exact Or.inr ⟨_, by rw [if_neg h5, if_neg h6, if_neg h7, if_neg h8, if_neg h9, if_pos h10], by rw [if_neg h5, if_neg h6, if_neg h7, if_neg h8, if_neg h9, if_pos h10]; rfl⟩
  · exact Or.inl ⟨by rw [if_neg h5, if_neg h6, if_neg h7, if_neg h8, if_neg h9, if_neg h10], by rw [if_neg h5, if_neg h6, if_neg h7, if_neg h8, if_neg h9, if_neg h10]⟩

/-- spoorlaw09.Make of a call's numbers -/
theorem make_op (k t n : Int) (w : World) (h : k ≠ 1 ∧ k ≠ 2 ∧ k ≠ 3 ∧ k ≠ 4 ∧ k ≠ 5 ∧ k ≠ 6 ∧ k ≠ 7) :
    Calls Tryz.prog 61 #[.int .i64 k, .int .i64 1, .int .i64 t, .int .i64 n, .int .i64 0, .int .i64 1, .slice none 0 0, .bool false, .slice none 0 0] w fun e w' => e = .returned (if k = 8 then mStored t n else if k = 9 then mUnpin t n else if k = 10 then mUnpinned 1 t n else .nilIface) ∧ Fr noB w w' := by
  by_cases h8 : k = 8
  · subst h8; exact make_8 1 t n 0 1 none 0 0 false none 0 0 w
  by_cases h9 : k = 9
  · subst h9; exact make_9 1 t n 0 1 none 0 0 false none 0 0 w
  by_cases h10 : k = 10
  · subst h10; exact make_10 1 t n 0 1 none 0 0 false none 0 0 w
  · rw [if_neg h8, if_neg h9, if_neg h10]
    exact make_0 k 1 t n 0 1 none 0 0 false none 0 0 w (by omega)
set_option maxHeartbeats 2000000 in
theorem message_any (m : OpA) (w : World) :
    Calls Tryz.prog 22 #[.agg #[.int .i64 m.k, .int .i64 m.t, .int .i64 m.n, .string m.s]] w fun e w' => e = .returned m.msv ∧ Fr noB w w' := by
  unfold OpA.msv
  obtain ⟨k, t, n, s⟩ := m
  simp only
  have fX := (Fr.refl noB w).alloc (.cells #[.int .i64 k, .int .i64 t, .int .i64 n, .string s] 36)
  have bX := Blk.new w 36 [.int .i64 k, .int .i64 t, .int .i64 n, .string s]
  by_cases e1 : k = 1
  · subst e1
    clear bX
    go_enter Tryz.func22, Tryz.ntmps22
    go_wp2_with fail
    go_ret
    exact ⟨rfl, fX⟩
  by_cases e2 : k = 2
  · subst e2
    clear bX
    go_enter Tryz.func22, Tryz.ntmps22
    go_wp2_with fail
    go_ret
    exact ⟨rfl, fX⟩
  by_cases e3 : k = 3
  · subst e3
    clear bX
    go_enter Tryz.func22, Tryz.ntmps22
    go_wp2_with fail
    go_ret
    exact ⟨rfl, fX⟩
  by_cases e4 : k = 4
  · subst e4
    clear bX
    go_enter Tryz.func22, Tryz.ntmps22
    go_wp2_with fail
    go_ret
    exact ⟨rfl, fX⟩
  by_cases e5 : k = 5
  · subst e5
    clear bX
    go_enter Tryz.func22, Tryz.ntmps22
    go_wp2_with fail
    go_ret
    exact ⟨rfl, fX⟩
  by_cases e6 : k = 6
  · subst e6
    clear bX
    go_enter Tryz.func22, Tryz.ntmps22
    go_wp2_with fail
    go_ret
    exact ⟨rfl, fX⟩
  by_cases e7 : k = 7
  · subst e7
    clear bX
    go_enter Tryz.func22, Tryz.ntmps22
    go_wp2_with fail
    go_ret
    exact ⟨rfl, fX⟩
  have hm := fun w => make_op k t n w ⟨e1, e2, e3, e4, e5, e6, e7⟩
  rw [if_neg e5, if_neg e6, if_neg e7]
  have d1 : decide (k = 1) = false := by simpa using e1
  have d2 : decide (k = 2) = false := by simpa using e2
  have d3 : decide (k = 3) = false := by simpa using e3
  have d4 : decide (k = 4) = false := by simpa using e4
  have d5 : decide (k = 5) = false := by simpa using e5
  have d6 : decide (k = 6) = false := by simpa using e6
  have d7 : decide (k = 7) = false := by simpa using e7
  generalize (if k = 8 then mStored t n else if k = 9 then mUnpin t n else if k = 10 then mUnpinned 1 t n else Value.nilIface) = v at *
  replace hm := Lib.hid hm
  clear bX
  go_enter Tryz.func22, Tryz.ntmps22
  go_wp2_with fail
  go_fit (hm.out _)
  rintro e w1 ⟨rfl, f1⟩
  have g1 := fX.seqN f1
  go_wp2_with fail
  go_ret
  exact ⟨rfl, g1⟩

theorem opa_open {H : Type} {enc : TypeId × Value → H} {w : World} {base : Nat} {held : Bool} (n : Nat) (cs : List Value) (y : DataW H × List MemPlace) (hl : cs.length = 4)
    (h : DataW.trod enc Tryz.prog w base (fun _ => true) held n 36 cs = some y) : ∃ m, IsOpA w cs m := by
  obtain ⟨a, ha, wa⟩ := fld_int (i := 0) (off := 0) Tryz.underlying36 h rfl (by kernel_rfl) (by omega) Tryz.underlying3
  obtain ⟨b, hb, wb⟩ := fld_int (i := 1) (off := 1) Tryz.underlying36 h rfl (by kernel_rfl) (by omega) Tryz.underlying3
  obtain ⟨c, hc, wc⟩ := fld_int (i := 2) (off := 2) Tryz.underlying36 h rfl (by kernel_rfl) (by omega) Tryz.underlying3
  obtain ⟨s, hs, ws⟩ := fld_str (i := 3) (off := 3) Tryz.underlying36 h rfl (by kernel_rfl) (by omega) Tryz.underlying9
  unfold maxLen at ws
  refine ⟨⟨a, b, c, s⟩, ?_, wa, wb, wc, by show s.size ≤ _; omega⟩
  rw [list4 hl, ha, hb, hc, hs]; rfl
end Go.Proofs.YtppmednmcbjafaaGreat
end

section
set_option linter.unusedVariables false
set_option linter.unusedSimpArgs false
set_option maxRecDepth 100000
set_option maxRecDepth 10000
namespace Go.Proofs.YtppmednmcbjafaaGreat
open Go.RowKit Go Go.Maps Go.Lib

theorem mem_outL (P : List Int) (t u : Int) : u ∈ outL P t ↔ u ∈ P ∧ u ≠ t := by unfold outL; simp
theorem mem_foldl_outL (E : List Int) : ∀ (P : List Int) (u : Int), u ∈ E.foldl outL P ↔ u ∈ P ∧ u ∉ E := by
  induction E with
  | nil => intro P u; simp
  | cons x E ih =>
    intro P u
    rw [List.foldl_cons, ih, mem_outL]
    simp only [List.mem_cons, not_or]
    constructor
    · rintro ⟨⟨h1, h2⟩, h3⟩; exact ⟨h1, h2, h3⟩
    · rintro ⟨h1, h2, h3⟩; exact ⟨⟨h1, h2⟩, h3⟩
theorem wr_pins (K : KS) (N : Nat) (t : Int) (x : ByteArray) : (K.wr N t x).pins = K.pins := by
  unfold KS.wr
  repeat' split
  all_goals rfl
theorem AG.Inv.wr {A : AG} (h : A.Inv) (t : Int) (x : ByteArray) : ({ A with K := A.K.wr A.N t x } : AG).Inv :=
  ⟨h.rng, fun u => by show u ∈ (A.K.wr A.N t x).pins ↔ _; rw [wr_pins]; exact h.pin u, h.over, h.done⟩
theorem AG.Inv.cr {A : AG} (h : A.Inv) (t o : Int) : (A.cr t o).Inv := by
  unfold AG.cr
  split
  · exact ⟨h.rng, h.pin, h.over, h.done⟩
  · exact h
theorem AG.Inv.tr {A : AG} (h : A.Inv) (t o : Int) : (A.tr t o).Inv := by
  unfold AG.tr
  split
  · exact ⟨h.rng, h.pin, h.over, h.done⟩
  · exact h
theorem AG.Inv.tick {A : AG} (h : A.Inv) {E : List Int} (hE : A.Ended E) : (A.tick E).Inv := by
  refine ⟨fun t x hx => ?_, fun t => ?_, fun t => ?_, h.done⟩
  · unfold AG.tick at hx
    simp only at hx
    cases q : A.hold t with
    | none => rw [q] at hx; cases hx
    | some y =>
      rw [q] at hx
      simp only at hx
      split at hx
      · cases hx; exact h.rng t _ q
      · cases hx
  · show t ∈ E.foldl outL A.K.pins ↔ _
    rw [mem_foldl_outL, h.pin, hE.e]
    unfold AG.tick
    simp only
    cases q : A.hold t with
    | none => simp
    | some y =>
      simp only [Option.isSome_some, true_and, Option.some.injEq, exists_eq_left']
      by_cases h1 : A.now + 1 < y.2
      · rw [if_pos h1]; simp; omega
      · rw [if_neg h1]; simp; omega
  · unfold AG.tick
    simp only
    have := h.over t
    split <;> omega
theorem AG.Inv.pn {A : AG} (h : A.Inv) {t j : Int} (ht : 1 ≤ t ∧ t ≤ 65535) (hj : 1 ≤ j) : (A.pn t j).Inv := by
  unfold AG.pn
  split
  · exact h
  split
  · exact h
  refine ⟨fun u x hx => ?_, fun u => ?_, h.over, h.done⟩
  · simp only at hx
    split at hx
    · next e => cases hx; rw [e]; exact ⟨ht, hj⟩
    · exact h.rng u x hx
  · simp only [List.mem_append, mem_outL, List.mem_singleton]
    by_cases e : u = t
    · rw [if_pos e]; simp [e]
    · rw [if_neg e, ← h.pin u]; simp [e]
theorem AG.Inv.un {A : AG} (h : A.Inv) (t j : Int) : (A.un t j).Inv := by
  have hd : (A.dn t j).Inv := ⟨h.rng, h.pin, h.over, fun u => by
    unfold AG.dn
    simp only
    split
    · have := h.done t; omega
    · exact h.done u⟩
  unfold AG.un
  split
  · refine ⟨fun u x hx => ?_, fun u => ?_, hd.over, hd.done⟩
    · have hx' : (if u = t then none else A.hold u) = some x := hx
      split at hx'
      · cases hx'
      · exact h.rng u x hx'
    · show u ∈ outL A.K.pins t ↔ (if u = t then none else A.hold u).isSome
      rw [mem_outL, h.pin]
      by_cases e : u = t
      · rw [if_pos e]; simp [e]
      · rw [if_neg e]; simp [e]
  · exact hd
theorem ms_ok_pin {t j : Int} (h : Ms.ok (.pin t j) = true) : (1 ≤ t ∧ t ≤ 65535) ∧ 1 ≤ j ∧ j ≤ 1073741824 := pin_rng h
theorem AG.Inv.hear {A : AG} (h : A.Inv) (m : Ms) : (A.hear m).Inv := by
  unfold AG.hear
  split
  · exact h
  · next hok =>
    have hok' : m.ok = true := by simpa using hok
    cases m with
    | pin t j =>
      obtain ⟨h1, h2, _⟩ := ms_ok_pin hok'
      exact h.pn h1 h2
    | unpin t j => exact h.un t j
    | _ => exact h

/-- what a call makes of an agent -/
def AG.ear (A : AG) (o : OpA) : AG := match o.ms with | some m => A.hear m | none => A
theorem AG.Inv.ear {A : AG} (h : A.Inv) (o : OpA) : (A.ear o).Inv := by
  unfold AG.ear
  split
  · exact h.hear _
  · exact h
/-- the message of a call is heard -/
theorem ag_ear (p : Nat) (col : Nat → Nat) (n : Nat) (A : AG) (o : OpA) (w0 w : World) (h : AgIn w0 w p col n A) (hn : n < 100000) : Calls Tryz.prog 23 #[.pointer (some ⟨p, 0, none⟩), o.msv] w fun e w' => ∃ u v c2, e = .returned (.tuple #[u, v]) ∧ AgIn w0 w' p c2 (n + 1) (A.ear o) := by
  obtain ⟨a, ha⟩ := h.ag
  rcases o.msW w with ⟨e1, e2⟩ | ⟨m, e1, e2⟩
  · rw [e2]
    refine (ag_hear_nil p col n A a w ha).mono ?_
    rintro e w' ⟨rfl, f⟩
    refine ⟨_, _, col, rfl, ?_⟩
    unfold AG.ear
    rw [e1]
    exact h.step (ATo.same (ha.up (Nat.le_succ n) (by omega)) f)
  · refine (ag_hear p col n A a o.msv m w ha hn e2).mono ?_
    rintro e w' ⟨u, v, c2, rfl, hto, _⟩
    refine ⟨u, v, c2, rfl, ?_⟩
    unfold AG.ear
    rw [e1]
    exact h.step hto
theorem ag_spanIn {w0 w : World} {p n : Nat} {col : Nat → Nat} {A : AG} (t : Int) (x : ByteArray) (h : AgIn w0 w p col n A) (hn : n < 100000) : Calls Tryz.prog 13 #[.pointer (some ⟨p, 0, none⟩), .int .i64 t, .string x] w fun e w' => e = .returned (.tuple #[spV (A.K.ws A.N t x), .int .i64 (A.K.we A.N t x)]) ∧ ∃ c2, AgIn w0 w' p c2 (n + 1) { A with K := A.K.wr A.N t x } := by
  obtain ⟨a, ha⟩ := h.ag
  exact (ag_span p col n A a t x w ha hn).mono fun e w' ⟨h1, c2, h2⟩ => ⟨h1, c2, h.step h2⟩
theorem ag_crumbIn {w0 w : World} {p n : Nat} {col : Nat → Nat} {A : AG} {t o : Int} (h : AgIn w0 w p col n A) (ht : okI t) (hn : n < 100000) : Calls Tryz.prog 15 #[.pointer (some ⟨p, 0, none⟩), .int .i64 t, .int .i64 o] w fun e w' => e = .returned (.int .i64 (A.crE t o)) ∧ ∃ c2, AgIn w0 w' p c2 (n + 1) (A.cr t o) := by
  obtain ⟨a, ha⟩ := h.ag
  exact (ag_crumb p col n A a t o w ha ht hn).mono fun e w' ⟨h1, c2, h2⟩ => ⟨h1, c2, h.step h2⟩
theorem ag_trigIn {w0 w : World} {p n : Nat} {col : Nat → Nat} {A : AG} {t c : Int} (h : AgIn w0 w p col n A) (hn : n < 100000) : Calls Tryz.prog 17 #[.pointer (some ⟨p, 0, none⟩), .int .i64 t, .int .i64 c] w fun e w' => e = .returned (.tuple #[A.trV t c, .int .i64 (A.trE t c)]) ∧ AgIn w0 w' p col (n + 1) (A.tr t c) := by
  obtain ⟨a, ha⟩ := h.ag
  exact (ag_trigger p col n A a t c w ha hn).mono fun e w' ⟨h1, h2⟩ => ⟨h1, h.step h2⟩
theorem ag_tickIn {w0 w : World} {p n : Nat} {col : Nat → Nat} {A : AG} (h : AgIn w0 w p col n A) (hi : A.Inv) (hn : n < 100000) : Calls Tryz.prog 20 #[.pointer (some ⟨p, 0, none⟩)] w fun e w' => ∃ v E, e = .returned v ∧ A.Ended E ∧ AgIn w0 w' p col (n + 1) (A.tick E) := by
  obtain ⟨a, ha⟩ := h.ag
  exact (ag_tick p col n A a w ha hi hn).mono fun e w' ⟨v, E, h1, h2, h3, _⟩ => ⟨v, E, h1, h2, h.step h3⟩
theorem ag_usedIn {w0 w : World} {p n : Nat} {col : Nat → Nat} {A : AG} (h : AgIn w0 w p col n A) : Calls Tryz.prog 36 #[.pointer (some ⟨p, 0, none⟩)] w fun e w' => e = .returned (.int .i64 (used A.K.P)) ∧ Fr noB w w' := by
  obtain ⟨a, ha⟩ := h.ag
  exact ag_used p col n A a w ha
theorem ag_lostIn {w0 w : World} {p n : Nat} {col : Nat → Nat} {A : AG} {t : Int} (h : AgIn w0 w p col n A) (ht : okI t) : Calls Tryz.prog 34 #[.pointer (some ⟨p, 0, none⟩), .int .i64 t] w fun e w' => e = .returned (.bool (decide (t ∈ A.K.loss))) ∧ Fr noB w w' := by
  obtain ⟨a, ha⟩ := h.ag
  exact ag_lost p col n A a t w ha ht
theorem AgIn.used {w0 w : World} {p n : Nat} {col : Nat → Nat} {A : AG} (h : AgIn w0 w p col n A) : used A.K.P ≤ A.N := by
  obtain ⟨a, ha⟩ := h.ag
  exact ha.kp.po.le
theorem ag_jobIn {w0 w : World} {p n : Nat} {col : Nat → Nat} {A : AG} {t : Int} (h : AgIn w0 w p col n A) (ht : okI t) : Calls Tryz.prog 32 #[.pointer (some ⟨p, 0, none⟩), .int .i64 t] w fun e w' => e = .returned (.int .i64 (A.job t)) ∧ w' = w := by
  obtain ⟨a, ha⟩ := h.ag
  exact ag_job p col n A a t w ha ht
/-! ### one call amid a law, whatever it answers -/
theorem hear_N (A : AG) (m : Ms) : (A.hear m).N = A.N := by
  unfold AG.hear
  split
  · rfl
  · cases m with
    | pin t j =>
      show (A.pn t j).N = A.N
      unfold AG.pn
      repeat' split
      all_goals rfl
    | unpin t j =>
      show (A.un t j).N = A.N
      unfold AG.un
      split <;> rfl
    | _ => rfl
/-- an agent of four buffers amid a law -/
def BIn (w0 w : World) (p n : Nat) : Prop := ∃ col A, AgIn w0 w p col n A ∧ A.Inv ∧ A.N = 4
theorem BIn.frN {w0 w w' : World} {p n : Nat} (h : BIn w0 w p n) (f : Fr noB w w') : BIn w0 w' p n := by
  obtain ⟨col, A, h1, h2⟩ := h
  exact ⟨col, A, h1.frN f, h2⟩
theorem BIn.fr {w0 w : World} {p n : Nat} (h : BIn w0 w p n) : Fr noB w0 w := by
  obtain ⟨col, A, h1, h2⟩ := h
  exact h1.fr
theorem bin_crumb {w0 w : World} {p n : Nat} {t o : Int} (h : BIn w0 w p n) (ht : okI t) (hn : n < 100000) : Calls Tryz.prog 15 #[.pointer (some ⟨p, 0, none⟩), .int .i64 t, .int .i64 o] w fun e w' => (∃ z, e = .returned (.int .i64 z)) ∧ BIn w0 w' p (n + 1) := by
  obtain ⟨col, A, h1, h2, h3⟩ := h
  refine (ag_crumbIn h1 ht hn).mono fun e w' ⟨k1, c2, k2⟩ => ⟨⟨_, k1⟩, c2, _, k2, h2.cr t o, ?_⟩
  unfold AG.cr
  split <;> exact h3
theorem bin_trig {w0 w : World} {p n : Nat} {t c : Int} (h : BIn w0 w p n) (hn : n < 100000) : Calls Tryz.prog 17 #[.pointer (some ⟨p, 0, none⟩), .int .i64 t, .int .i64 c] w fun e w' => (∃ u z, e = .returned (.tuple #[u, z])) ∧ BIn w0 w' p (n + 1) := by
  obtain ⟨col, A, h1, h2, h3⟩ := h
  refine (ag_trigIn h1 hn).mono fun e w' ⟨k1, k2⟩ => ⟨⟨_, _, k1⟩, col, _, k2, h2.tr t c, ?_⟩
  unfold AG.tr
  split <;> exact h3
theorem bin_tick {w0 w : World} {p n : Nat} (h : BIn w0 w p n) (hn : n < 100000) : Calls Tryz.prog 20 #[.pointer (some ⟨p, 0, none⟩)] w fun e w' => (∃ v, e = .returned v) ∧ BIn w0 w' p (n + 1) := by
  obtain ⟨col, A, h1, h2, h3⟩ := h
  exact (ag_tickIn h1 h2 hn).mono fun e w' ⟨v, E, k1, k2, k3⟩ => ⟨⟨v, k1⟩, col, _, k3, h2.tick k2, h3⟩
theorem bin_ear {w0 w : World} {p n : Nat} (o : OpA) (h : BIn w0 w p n) (hn : n < 100000) : Calls Tryz.prog 23 #[.pointer (some ⟨p, 0, none⟩), o.msv] w fun e w' => (∃ u v, e = .returned (.tuple #[u, v])) ∧ BIn w0 w' p (n + 1) := by
  obtain ⟨col, A, h1, h2, h3⟩ := h
  refine (ag_ear p col n A o w0 w h1 hn).mono fun e w' ⟨u, v, c2, k1, k2⟩ => ⟨⟨u, v, k1⟩, c2, _, k2, h2.ear o, ?_⟩
  unfold AG.ear
  split
  · rw [hear_N]; exact h3
  · exact h3
theorem bin_used {w0 w : World} {p n : Nat} (h : BIn w0 w p n) : Calls Tryz.prog 36 #[.pointer (some ⟨p, 0, none⟩)] w fun e w' => (∃ u : Int, e = .returned (.int .i64 u) ∧ decide (4 < u) = false) ∧ Fr noB w w' := by
  obtain ⟨col, A, h1, h2, h3⟩ := h
  refine (ag_usedIn h1).mono fun e w' ⟨k1, k2⟩ => ⟨⟨_, k1, ?_⟩, k2⟩
  have := h1.used
  rw [h3] at this
  simp
  omega
/-- a span: what is known of it by whether the trace was lost -/
def SpOk (t : Int) (x : ByteArray) (lost : Bool) (e : Int) (q : Sp) : Prop := e = 1 ∨ (lost = true ∧ e = 10) ∨ (lost = false ∧ e ≠ 0) ∨ (lost = false ∧ e = 0 ∧ q.t = t ∧ q.x = x)
theorem wr_ok (K : KS) (N : Nat) (t : Int) (x : ByteArray) : SpOk t x (decide (t ∈ K.loss)) (K.we N t x) (K.ws N t x) := by
  unfold SpOk KS.ws
  by_cases h0 : K.we N t x = 0
  · rw [if_pos h0]
    refine Or.inr (Or.inr (Or.inr ⟨?_, h0, rfl, rfl⟩))
    unfold KS.we at h0
    simp only [decide_eq_false_iff_not]
    intro hl
    split at h0
    · cases h0
    · first | cases h0 | (rw [if_pos hl] at h0; cases h0)
  · by_cases hl : t ∈ K.loss
    · unfold KS.we
      split
      · exact Or.inl rfl
      · try rw [if_pos hl]
        exact Or.inr (Or.inl ⟨by simpa using hl, rfl⟩)
    · exact Or.inr (Or.inr (Or.inl ⟨by simpa using hl, h0⟩))
theorem bin_span {w0 w : World} {p n : Nat} {t : Int} (h : BIn w0 w p n) (ht : okI t) (hn : n < 100000) : Calls Tryz.prog 34 #[.pointer (some ⟨p, 0, none⟩), .int .i64 t] w fun e w1 => ∃ b, e = .returned (.bool b) ∧ BIn w0 w1 p n ∧ Fr noB w w1 ∧ ∀ (x : ByteArray) (w2 : World), Fr noB w1 w2 → Calls Tryz.prog 13 #[.pointer (some ⟨p, 0, none⟩), .int .i64 t, .string x] w2 fun e w' => ∃ q z, e = .returned (.tuple #[spV q, .int .i64 z]) ∧ SpOk t x b z q ∧ BIn w0 w' p (n + 1) := by
  obtain ⟨col, A, h1, h2, h3⟩ := h
  refine (ag_lostIn h1 ht).mono ?_
  rintro e w1 ⟨rfl, f⟩
  refine ⟨_, rfl, ⟨col, A, h1.frN f, h2, h3⟩, f, fun x w2 f2 => ?_⟩
  exact (ag_spanIn t x ((h1.frN f).frN f2) hn).mono fun e w' ⟨k1, c2, k2⟩ => ⟨_, _, k1, wr_ok _ _ _ _, c2, _, k2, h2.wr t x, h3⟩
/-- the law's own agent -/
theorem bin_new (w : World) : Calls Tryz.prog 10 #[.int .i64 1, .agg #[.int .i64 3, .int .i64 4, .int .i64 3, .int .i64 4, .int .u64 9, .int .i64 2, .int .i64 1]] w fun e w' => ∃ p col, e = .returned (.tuple #[.pointer (some ⟨p, 0, none⟩), .int .i64 0]) ∧ AgIn w w' p col 0 AA0 ∧ AA0.Inv ∧ AA0.N = 4 := by
  have := ag_new 1 cfA w (by unfold Cf.may cfA; decide) cfA_u64
  unfold Cf.cs cfA at this
  simp only at this
  refine this.mono ?_
  rintro e w' ⟨p, col, rfl, ha, f, hc⟩
  exact ⟨p, col, rfl, AgIn.begin (Fr.refl noB w) ha f hc, AG.new_inv _ _, rfl⟩
end Go.Proofs.YtppmednmcbjafaaGreat
end
