/-
  The reference's Runes, and what goes over them: Valid, Cut, Right, Order.
-/
import Derived.Test.YtbmafogjmdilkaaGreatDoorRefF
import Derived.Test.YtbmafogjmdilkaaGreatDoorQuote
set_option linter.unusedVariables false
set_option linter.unusedSimpArgs false
set_option maxRecDepth 100000
namespace Go.Proofs.YtbmafogjmdilkaaGreatDoor
open Go.RowKit Go

/-- a rune's cells -/
def rcell (c : List UInt8) : List Value := [.int .i64 ((dec c).1 : Nat), .int .i64 ((dec c).2 : Nat), .bool (okD c)]
theorem rcell_chunk (l : List UInt8) (h : l ≠ []) : rcell (l.take (dec l).2) = rcell l := by
  unfold rcell; rw [dec_chunk l h, okD_chunk l h]
theorem Tryz.infoRune : (Tryz.prog.info? 122).map (fun i => (i.zero, i.size, i.bytes)) = some (some (.agg #[.int .i64 0, .int .i64 0, .bool false]), 3, 24) := by kernel_rfl

theorem runes_one (c : List UInt8) : ∀ u ∈ rcell c, u.oneCell' = true := by
  intro u hu
  unfold rcell at hu
  simp at hu
  rcases hu with rfl | rfl | rfl <;> rfl

set_option maxRecDepth 100000 in
set_option maxHeartbeats 2000000 in
theorem runes_any (s : ByteArray) (w : World) (hs : s.size ≤ 1000000) :
    Calls Tryz.prog 62 #[.string s] w fun e w' => ∃ v, e = .returned v ∧ w'.ownsRow w.heap.size 122 3 v (chunks s.data.toList).length ((chunks s.data.toList).flatMap rcell) ∧ Fr noB w w' := by
  obtain ⟨i0, hi, hz0, hz1, hz2⟩ := info_parts Tryz.infoRune
  have hcl := chunks_le s
  go_enter Tryz.func62, Tryz.ntmps62
  go_wp2
  go_loopw [0, 3, 4] (fun vs v _ wr => ∃ (r : ByteArray) (d : List (List UInt8)), vs = .string r ∧ Fr noB w wr ∧ r.size ≤ s.size ∧ chunks s.data.toList = d ++ chunks r.data.toList ∧ wr.ownsRow w.heap.size 122 3 v d.length (d.flatMap rcell)) (fun vs _ _ _ => match vs with | .string r => r.size | _ => 0)
  case atStart => exact ⟨s, [], rfl, Fr.refl _ _, Nat.le_refl _, rfl, World.ownsRow_nil _ _ _ _⟩
  case round =>
    obtain ⟨r, d, rfl, fr, hrs, hk, own⟩ := hrel
    by_cases h0 : r.size = 0
    · have hr : r.data.toList = [] := List.eq_nil_of_length_eq_zero h0
      rw [hr, chunks_nil, List.append_nil] at hk
      subst hk
      have h0' : ¬ (0 : Int) < r.size := by omega
      replace hr := Lib.hid hr
      go_wp2_with fail
      go_ret
      exact ⟨_, rfl, own, fr⟩
    · have hne : r.data.toList ≠ [] := fun e => h0 (by have := congrArg List.length e; rw [size_len] at this; exact this)
      have hf := first_any r wr (by omega) hne
      have h1 := dec_pos r.data.toList
      have h2 := dec_le _ hne
      rw [size_len] at h2
      rw [chunks_cons _ hne] at hk
      have hrc := rcell_chunk _ hne
      unfold firstV at hf
      have hl : (r.extract (dec r.data.toList).2 r.size).data.toList = r.data.toList.drop (dec r.data.toList).2 := tail_eq r _
      have hz : (r.extract (dec r.data.toList).2 r.size).size = r.size - (dec r.data.toList).2 := by rw [← size_len, hl, List.length_drop, size_len]
      have hdl : d.length ≤ 1000000 := by
        have := congrArg List.length hk
        rw [List.length_append] at this
        omega
      have hon := runes_one r.data.toList
      have hrcd : rcell r.data.toList = [.int .i64 ((dec r.data.toList).1 : Nat), .int .i64 ((dec r.data.toList).2 : Nat), .bool (okD r.data.toList)] := rfl
      generalize hc : r.data.toList.take (dec r.data.toList).2 = c at *
      generalize hR : (dec r.data.toList).1 = R at *
      generalize hW : (dec r.data.toList).2 = W at *
      generalize hO : okD r.data.toList = O at *
      replace hc := Lib.hid hc
      replace hR := Lib.hid hR
      replace hW := Lib.hid hW
      replace hO := Lib.hid hO
      replace hk := Lib.hid hk
      replace hl := Lib.hid hl
      replace hz := Lib.hid hz
      replace hne := Lib.hid hne
      replace hf := Lib.hid hf
      replace hrc := Lib.hid hrc
      replace hrcd := Lib.hid hrcd
      replace hon := Lib.hid hon
      have h0' : (0 : Int) < r.size := by omega
      go_wp2_with fail
      refine hf.out.mono ?_
      rintro e w2 ⟨rfl, f2⟩
      have fr2 := fr.seqN f2
      have own2 := ownsRow_fr own f2 (fun q _ h => h)
      have hB2 : w.heap.size ≤ w2.heap.size := fr2.size
      clear hf
      go_wp2_with (first
        | (at_builtin; go_must (refine wpList_append_at _ rfl (.tmp 10) (.tmp 12) 111 rfl w.heap.size 122 i0 _ 3 24 Tryz.underlying111 hi hz0 hz1 hz2 rfl (by decide) _ d.length (d.flatMap rcell) rfl ((own2.alloc _).alloc _) ⟨w2.heap.size + 1, 0, none⟩ 1 1 (rcell r.data.toList) rfl (by rw [hrcd.out]; rfl) ?_ hon.out ?_ ?_ ?_ ?_))
        | fail)
      · intro j x hj
        rw [hrcd.out] at hj
        have hb := Blk.new (w2.alloc (.cells #[.int .i64 (R : Nat), .int .i64 (W : Nat), .bool O] 122)) 122 [.int .i64 (R : Nat), .int .i64 (W : Nat), .bool O]
        have hc2 := hb.cell j
        rw [hj] at hc2
        rw [add_none, Nat.zero_add]
        simpa using hc2
      · unfold maxLen; omega
      · omega
      · simp; omega
      intro v3 w3 o3 gr3 _
      have hlt : ∀ q, u3.ownBlock = some q → q < w2.heap.size := fun q hq => (own2.lt q hq).2
      have f3 : Fr (rowB u3) w2 w3 := (((Fr.refl (rowB u3) w2).alloc _).alloc _).grown gr3 (fun k hk _ => hk)
      have fB : Fr (rowB u3) ((w2.alloc (.cells #[.int .i64 (R : Nat), .int .i64 (W : Nat), .bool O] 122)).alloc (.cells #[.int .i64 (R : Nat), .int .i64 (W : Nat), .bool O] 122)) w3 := (Fr.refl (rowB u3) _).grown gr3 (fun k hk _ => hk)
      have hb0 := Blk.new w2 122 [.int .i64 (R : Nat), .int .i64 (W : Nat), .bool O]
      have hb1 := ((Fr.refl noB (w2.alloc (.cells #[.int .i64 (R : Nat), .int .i64 (W : Nat), .bool O] 122))).alloc (.cells #[.int .i64 (R : Nat), .int .i64 (W : Nat), .bool O] 122)).blk hb0 (fun q => q)
      have hb2 := fB.blk hb1 (fun q => by have := hlt _ q; omega)
      have c1 : w3.cell? ⟨w2.heap.size, 1, none⟩ = some (.int .i64 (W : Nat)) := hb2.cell 1
      have fr3 := fr2.rowN own2 (Nat.le_refl _) f3
      have o4 : w3.ownsRow w.heap.size 122 3 v3 (d ++ [c]).length ((d ++ [c]).flatMap rcell) := by
        rw [List.length_append, List.flatMap_append, List.flatMap_singleton, hrc.out]
        exact o3
      have hk2 : chunks s.data.toList = (d ++ [c]) ++ chunks (r.extract W r.size).data.toList := by rw [hk.out, hl.out]; simp
      have hz2 : (r.extract W r.size).size ≤ s.size := by rw [hz.out]; omega
      have hz3 : (r.extract W r.size).size < r.size := by rw [hz.out]; omega
      replace hk2 := Lib.hid hk2
      replace hz2 := Lib.hid hz2
      replace hz3 := Lib.hid hz3
      clear f3 fB hb0 hb1 hb2 o3 gr3 own2 hlt
      go_wp2_with fail
      go_roundw
      case rel => exact ⟨_, d ++ [c], rfl, fr3, hz2.out, hk2.out, o4⟩
      case measure => simp only; exact hz3.out
end Go.Proofs.YtbmafogjmdilkaaGreatDoor
