/-
  The calls of the layer's laws: may they be played? the message of a call.
-/
import Derived.Test.YtdfkjigkpcgngaaAsmAwake
import Derived.Test.YtdfkjigkpcgngaaJobMsg
import Derived.Test.YtdfkjigkpcgngaaArgs
set_option linter.unusedVariables false
set_option linter.unusedSimpArgs false
set_option maxRecDepth 100000
namespace Go.Proofs.Ytdfkjigkpcgngaa
open Go.ChangeShapes Go.WideShapes Go.ChangeAt Go.RowKit Go Go.Maps Go.Lib

/-- a call -/
structure OpA where
  k : Int
  a : Int
  t : Int
  j : Int
  i : Int
  n : Int
  sa : Option Addr
  sc : Nat
  ua : Option Addr
  uc : Nat
  lo : Bool
  sp : List Sp
  xs : List Int
def opaC (m : OpA) : List Value := [.int .i64 m.k, .int .i64 m.a, .int .i64 m.t, .int .i64 m.j, .int .i64 m.i, .int .i64 m.n, .slice m.sa m.sp.length m.sc, .slice m.ua m.xs.length m.uc, .bool m.lo]
def IsOpA (w : World) (cs : List Value) (m : OpA) : Prop := cs = opaC m ∧ RdSp w (.slice m.sa m.sp.length m.sc) m.sp ∧ RdI w (.slice m.ua m.xs.length m.uc) m.xs ∧ (Lit.int .i64 m.k).wf = true ∧ (Lit.int .i64 m.a).wf = true ∧ (Lit.int .i64 m.t).wf = true ∧ (Lit.int .i64 m.j).wf = true ∧ (Lit.int .i64 m.i).wf = true ∧ (Lit.int .i64 m.n).wf = true
def okOpA (m : OpA) : Bool := fewS m.sp && (decide (m.xs.length ≤ 20) && decide (m.a ≤ 1099511627776))
def fewAB (xs : List OpA) : Bool := xs.all okOpA && decide (xs.length ≤ 100)
theorem fewAB_no {xs : List OpA} {k : Nat} {m : OpA} (hk : xs[k]? = some m) (h : okOpA m = false) : fewAB xs = false := by
  unfold fewAB
  rw [show xs.all okOpA = false from by
    rw [Bool.eq_false_iff]
    intro q
    rw [List.all_eq_true] at q
    have := q m (List.mem_of_getElem? hk)
    rw [h] at this
    cases this]
  rfl
theorem fewAB_yes {xs : List OpA} (h : ∀ (i : Nat) (m : OpA), xs[i]? = some m → okOpA m = true) : fewAB xs = decide (xs.length ≤ 100) := by
  unfold fewAB
  rw [show xs.all okOpA = true from by
    rw [List.all_eq_true]
    intro x hx
    obtain ⟨i, hi, rfl⟩ := List.getElem_of_mem hx
    exact h i _ (List.getElem?_eq_getElem hi)]
  rfl
theorem fewOps_any (v : Value) (xs : List OpA) (W w : World) (hv : SlR w v 9 (IsOpA W) xs) (hW : Fr noB W w) :
    Calls Try.prog 7 #[v] w fun e w' => e = .returned (.bool (fewAB xs)) ∧ Fr noB w w' := by
  obtain ⟨a, c, rfl, hx1, hx2, hx3⟩ := hv
  unfold maxLen at hx2
  have hyes := fewAB_yes (xs := xs)
  have hno := fun k m => fewAB_no (xs := xs) (k := k) (m := m)
  have hget : ∀ k, k < xs.length → ∃ m, xs[k]? = some m := fun k hk => ⟨xs[k], List.getElem?_eq_getElem hk⟩
  generalize hn : xs.length = n at *
  have hnb : n ≤ 9223372036854775807 := by omega
  replace hx3 := Lib.hid hx3
  replace hget := Lib.hid hget
  replace hn := Lib.hid hn
  replace hyes := Lib.hid hyes
  replace hno := Lib.hid hno
  obtain ⟨hx1, _⟩ := hx1
  generalize hF : fewAB xs = F at *
  replace hF := Lib.hid hF
  go_enter Try.func7, Try.ntmps7
  go_wp2_with fail
  go_loopw [7] (fun i wr => ∃ k : Nat, k ≤ n ∧ i = .int .i64 k ∧ Hid (∀ (i : Nat) (m : OpA), i < k → xs[i]? = some m → okOpA m = true) ∧ Fr noB w wr) (fun i _ => n - (RowKit.intOf i).toNat)
  case atStart => exact ⟨0, by omega, rfl, Lib.hid (fun i _ hi _ => by omega), Fr.refl _ _⟩
  case round =>
    obtain ⟨k, hk, rfl, hok, fr⟩ := hrel
    by_cases hlt : k < n
    · obtain ⟨m, hm⟩ := hget.out k hlt
      obtain ⟨g, o, cs, rfl, hcs, ⟨rfl, hsp, _⟩, hc⟩ := hx3.out k m hm
      have c0 := fr.cell (hc 0 _ rfl) (fun q => q)
      have c1 := fr.cell (hc 1 _ rfl) (fun q => q)
      have c2 := fr.cell (hc 2 _ rfl) (fun q => q)
      have c3 := fr.cell (hc 3 _ rfl) (fun q => q)
      have c4 := fr.cell (hc 4 _ rfl) (fun q => q)
      have c5 := fr.cell (hc 5 _ rfl) (fun q => q)
      have c6 := fr.cell (hc 6 _ rfl) (fun q => q)
      have c7 := fr.cell (hc 7 _ rfl) (fun q => q)
      have c8 := fr.cell (hc 8 _ rfl) (fun q => q)
      rw [Nat.add_zero] at c0
      simp only [← Nat.add_assoc] at c1 c2 c3 c4 c5 c6 c7 c8
      have fA0 : Fr noB wr (wr.alloc (.cells (opaC m).toArray 39)) := (Fr.refl _ _).alloc _
      have bA := Blk.new wr 39 (opaC m)
      have hfw := few_any _ m.sp _ (hsp.frN ((hW.seqN fr).seqN fA0))
      have okd : okOpA m = (fewS m.sp && (decide (m.xs.length ≤ 20) && decide (m.a ≤ 1099511627776))) := rfl
      generalize fewS m.sp = fs at *
      unfold opaC at fA0 bA hfw
      obtain ⟨b, hb⟩ : ∃ b, wr.heap.size = b := ⟨_, rfl⟩
      rw [hb] at bA
      have f02 := fr.seqN fA0
      replace bA := Lib.hid bA
      replace hfw := Lib.hid hfw
      replace hm := Lib.hid hm
      replace okd := Lib.hid okd
      replace f02 := Lib.hid f02
      clear hc hsp fA0 hcs
      go_wp2_with fail
      try rw [hb]
      go_fit hfw.out
      rintro e w1 ⟨rfl, f1⟩
      have g1 := f02.out.seqN f1
      have b1 := f1.blk bA.out (fun q => q)
      have d1 : w1.cell? ⟨b, 1, none⟩ = some (.int .i64 m.a) := b1.cell 1
      have d7 : w1.cell? ⟨b, 7, none⟩ = some (.slice m.ua m.xs.length m.uc) := b1.cell 7
      clear c0 c1 c2 c3 c4 c5 c6 c7 c8 bA hfw f02 f1 fr b1
      cases fs with
      | false =>
        have hF0 : F = false := hno.out k m hm.out (by rw [okd.out]; rfl)
        subst hF0
        replace g1 := Lib.hid g1
        go_wp2_with fail
        go_ret
        exact ⟨rfl, g1.out⟩
      | true =>
        by_cases h1 : m.xs.length ≤ 20
        · by_cases h2 : m.a ≤ 1099511627776
          · have hok1 : Hid (okOpA m = true) := Lib.hid (by rw [okd.out]; simp [h1, h2])
            have hd1 : decide (20 < (m.xs.length : Int)) = false := by simp; omega
            have hd2 : decide (1099511627776 < m.a) = false := by simp; omega
            clear h1 h2 okd
            go_wp2_with fail
            go_roundw
            case rel => exact ⟨k + 1, by omega, by go_num, Lib.hid (fun i m' hi hm' => by
              rcases Nat.lt_or_ge i k with q | q
              · exact hok.out i m' q hm'
              · obtain rfl : i = k := by omega
                obtain rfl : m = m' := Option.some.inj (hm.out.symm.trans hm')
                exact hok1.out), g1⟩
            case measure => simp [RowKit.intOf]; omega
          · have hF0 : F = false := hno.out k m hm.out (by rw [okd.out]; simp [h2])
            subst hF0
            have hd1 : decide (20 < (m.xs.length : Int)) = false := by simp; omega
            have hd2 : decide (1099511627776 < m.a) = true := by simp; omega
            clear h1 h2 okd
            replace g1 := Lib.hid g1
            go_wp2_with fail
            go_ret
            exact ⟨rfl, g1.out⟩
        · have hF0 : F = false := hno.out k m hm.out (by rw [okd.out]; simp [h1])
          subst hF0
          have hd1 : decide (20 < (m.xs.length : Int)) = true := by simp; omega
          clear h1 okd
          replace g1 := Lib.hid g1
          go_wp2_with fail
          go_ret
          exact ⟨rfl, g1.out⟩
    · obtain rfl : k = n := by omega
      have hF0 : F = decide (k ≤ 100) := hyes.out (fun i m hm => hok.out i m (by have := (List.getElem?_eq_some_iff.1 hm).1; rw [hn.out] at this; exact this) hm)
      by_cases h2 : k ≤ 100
      · have hd : F = true := by rw [hF0]; simpa using h2
        have hd2 : decide ((k : Int) ≤ 100) = true := by simp; omega
        subst hd
        clear hF0
        go_wp2_with fail
        go_ret
        exact ⟨rfl, fr⟩
      · have hd : F = false := by rw [hF0]; simpa using h2
        have hd2 : decide ((k : Int) ≤ 100) = false := by simp; omega
        subst hd
        clear hF0
        go_wp2_with fail
        go_ret
        exact ⟨rfl, fr⟩
/-! ### opening the arguments -/
def IsSp (cs : List Value) (m : Sp) : Prop := cs = spC m
theorem list3x {α : Type} {cs : List α} (h : cs.length = 3) : cs = [cs[0], cs[1], cs[2]] := by
  match cs, h with
  | [a, b, c], _ => rfl
theorem list9 {α : Type} {cs : List α} (h : cs.length = 9) : cs = [cs[0], cs[1], cs[2], cs[3], cs[4], cs[5], cs[6], cs[7], cs[8]] := by
  match cs, h with
  | [a, b, c, d, e, f, g, h, i], _ => rfl
theorem sp_open {H : Type} {enc : TypeId × Value → H} {w : World} {base : Nat} {held : Bool} (n : Nat) (cs : List Value) (y : DataW H × List MemPlace) (hl : cs.length = 3)
    (h : DataW.trod enc Try.prog w base (fun _ => true) held n 63 cs = some y) : ∃ m, IsSp cs m := by
  obtain ⟨a, ha, wa⟩ := fld_int (i := 0) (off := 0) Try.underlying63 h rfl (by kernel_rfl) (by omega) Try.underlying3
  obtain ⟨b, hb, wb⟩ := fld_int (i := 1) (off := 1) Try.underlying63 h rfl (by kernel_rfl) (by omega) Try.underlying3
  obtain ⟨c, hc, wc⟩ := fld_str (i := 2) (off := 2) Try.underlying63 h rfl (by kernel_rfl) (by omega) Try.underlying9
  exact ⟨⟨a, b, c⟩, by unfold IsSp spC; rw [list3x hl, ha, hb, hc]⟩
theorem RdSp.of_slr {w : World} {v : Value} {L : List Sp} (h : SlR w v 3 IsSp L) : RdSp w v L := by
  obtain ⟨a, c, rfl, ⟨h1, h2⟩, h3, h4⟩ := h
  refine ⟨a, c, rfl, h1, h3, h2, fun i s hi => ?_⟩
  obtain ⟨g, o, cs, rfl, hl, hcs, hc⟩ := h4 i s hi
  unfold IsSp at hcs
  subst hcs
  refine ⟨g, o, rfl, ?_, ?_, ?_⟩
  · exact hc 0 _ rfl
  · have := hc 1 _ rfl; rwa [← Nat.add_assoc] at this
  · have := hc 2 _ rfl; rwa [← Nat.add_assoc] at this
theorem sprow_open {H : Type} {enc : TypeId × Value → H} {w : World} {base : Nat} {held : Bool} (n : Nat) (u : Value) (y : DataW H × List MemPlace)
    (h : DataW.trod enc Try.prog w base (fun _ => true) held n 32 [u] = some y) : ∃ L, RdSp w u L := by
  have hv : ∃ a l c, u = Value.slice a l c := by
    rcases DataW.trod_slice Try.underlying32 h with ⟨h1, _⟩ | ⟨a, len, cap, _, _, _, _, h1, _⟩
    · exact ⟨_, _, _, by simpa using h1⟩
    · exact ⟨_, _, _, by simpa using h1⟩
  obtain ⟨a, l, c, rfl⟩ := hv
  obtain ⟨L, hL⟩ := slr_of_trod (k := 3) IsSp Try.underlying32 (by kernel_rfl) (by omega) ⟨a, l, c, rfl⟩ h (fun n cs y hl h => sp_open n cs y hl h)
  exact ⟨L, RdSp.of_slr hL⟩
theorem irow_open {H : Type} {enc : TypeId × Value → H} {w : World} {base : Nat} {held : Bool} (n : Nat) (u : Value) (y : DataW H × List MemPlace)
    (h : DataW.trod enc Try.prog w base (fun _ => true) held n 28 [u] = some y) : ∃ xs, RdI w u xs := by
  have hv : ∃ a l c, u = Value.slice a l c := by
    rcases DataW.trod_slice Try.underlying28 h with ⟨h1, _⟩ | ⟨a, len, cap, _, _, _, _, h1, _⟩
    · exact ⟨_, _, _, by simpa using h1⟩
    · exact ⟨_, _, _, by simpa using h1⟩
  obtain ⟨a, l, c, rfl⟩ := hv
  obtain ⟨xs, a', c', e, h1, h2, h3⟩ := slr_of_trod (k := 1) (IsI .i64) Try.underlying28 (by kernel_rfl) (by omega) ⟨a, l, c, rfl⟩ h (fun n cs y hl h => by
    obtain ⟨q, hq, _, hw⟩ := DataW.trod_int Try.underlying3 h
    exact ⟨q, hq, hw⟩)
  simp only [Value.slice.injEq] at e
  obtain ⟨rfl, rfl, rfl⟩ := e
  unfold maxLen at h2
  refine ⟨xs, a, c, rfl, by omega, h1.1, fun i hi => ?_⟩
  obtain ⟨g, o, cs, e1, _, ⟨e2, _⟩, e3⟩ := h3 i (xs.getD i 0) (by simp [List.getD, hi])
  subst e2
  have := e3 0 _ rfl
  simp only [Nat.mul_one, Nat.add_zero] at this
  exact ⟨g, o, e1, this⟩
theorem opa_open {H : Type} {enc : TypeId × Value → H} {w : World} {base : Nat} {held : Bool} (n : Nat) (cs : List Value) (y : DataW H × List MemPlace) (hl : cs.length = 9)
    (h : DataW.trod enc Try.prog w base (fun _ => true) held n 39 cs = some y) : ∃ m, IsOpA w cs m := by
  obtain ⟨k, hk, wk⟩ := fld_int (i := 0) (off := 0) Try.underlying39 h rfl (by kernel_rfl) (by omega) Try.underlying3
  obtain ⟨a, ha, wa⟩ := fld_int (i := 1) (off := 1) Try.underlying39 h rfl (by kernel_rfl) (by omega) Try.underlying3
  obtain ⟨t, ht, wt⟩ := fld_int (i := 2) (off := 2) Try.underlying39 h rfl (by kernel_rfl) (by omega) Try.underlying3
  obtain ⟨j, hj, wj⟩ := fld_int (i := 3) (off := 3) Try.underlying39 h rfl (by kernel_rfl) (by omega) Try.underlying3
  obtain ⟨i, hi, wi⟩ := fld_int (i := 4) (off := 4) Try.underlying39 h rfl (by kernel_rfl) (by omega) Try.underlying3
  obtain ⟨m, hm, wm⟩ := fld_int (i := 5) (off := 5) Try.underlying39 h rfl (by kernel_rfl) (by omega) Try.underlying3
  obtain ⟨n1, z1, hz1⟩ := fld (i := 6) (off := 6) Try.underlying39 h rfl (by kernel_rfl) (by omega)
  obtain ⟨L, hL⟩ := sprow_open n1 _ z1 hz1
  obtain ⟨sa, sc, hs, _⟩ := id hL
  obtain ⟨n3, z3, hz3⟩ := fld (i := 7) (off := 7) Try.underlying39 h rfl (by kernel_rfl) (by omega)
  obtain ⟨xs, hx⟩ := irow_open n3 _ z3 hz3
  obtain ⟨ua, uc, hu, _⟩ := id hx
  obtain ⟨n2, z2, hz2⟩ := fld (i := 8) (off := 8) Try.underlying39 h rfl (by kernel_rfl) (by omega)
  obtain ⟨bb, hbb, _⟩ := DataW.trod_bool Try.underlying4 hz2
  simp only [List.cons.injEq, and_true] at hbb
  refine ⟨⟨k, a, t, j, i, m, sa, sc, ua, uc, bb, L, xs⟩, ?_, ?_, ?_, wk, wa, wt, wj, wi, wm⟩
  · rw [list9 hl, hk, ha, ht, hj, hi, hm, hs, hu, hbb]; rfl
  · rw [hs] at hL; exact hL
  · rw [hu] at hx; exact hx
theorem slra_one {w : World} {g : Nat} {m : OpA} {W : World} (b : Blk w g 39 (opaC m)) (h : IsOpA W (opaC m) m) : SlR w (.slice (some ⟨g, 0, none⟩) 1 1) 9 (IsOpA W) [m] :=
  ⟨_, 1, rfl, ⟨Nat.le_refl _, fun q => by cases q⟩, by unfold maxLen; omega, fun i m' hm' => by
    match i, hm' with
    | 0, hm' =>
      cases hm'
      exact ⟨g, 0, opaC m, rfl, rfl, h, fun j u hu => by rw [← hu, ← b.cell j]; simp⟩
    | i + 1, hm' => simp at hm'⟩
end Go.Proofs.Ytdfkjigkpcgngaa
