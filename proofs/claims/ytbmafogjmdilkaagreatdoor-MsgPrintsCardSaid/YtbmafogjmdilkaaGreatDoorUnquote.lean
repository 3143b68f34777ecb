/-
  name.Unquote.
-/
import Derived.Test.YtbmafogjmdilkaaGreatDoorUnq1
set_option linter.unusedVariables false
set_option linter.unusedSimpArgs false
set_option maxRecDepth 100000
namespace Go.Proofs.YtbmafogjmdilkaaGreatDoor
open Go.RowKit Go

theorem unqF_fuel {u : List UInt8 → Option (List UInt8 × Nat)} (hu : ∀ l n k, l ≠ [] → u l = some (n, k) → 1 ≤ k) : ∀ (f g : Nat) (out rest : List UInt8), rest.length ≤ f → rest.length ≤ g → unqF u f out rest = unqF u g out rest := by
  intro f
  induction f with
  | zero =>
    intro g out rest hf hg
    have : rest = [] := List.eq_nil_of_length_eq_zero (by omega)
    subst this
    cases g <;> simp [unqF]
  | succ f ih =>
    intro g out rest hf hg
    by_cases h0 : rest = []
    · subst h0
      cases g <;> simp [unqF]
    · have hp := List.length_pos_iff.2 h0
      cases g with
      | zero => omega
      | succ g =>
        simp only [unqF, if_neg h0]
        cases h : u rest with
        | none => rfl
        | some q =>
          obtain ⟨n, k⟩ := q
          have := hu _ _ _ h0 h
          simp only
          exact ih g _ _ (by rw [List.length_drop]; omega) (by rw [List.length_drop]; omega)
theorem unq1_pos (l n : List UInt8) (k : Nat) (h : l ≠ []) (e : unq1 l = some (n, k)) : 1 ≤ k := (unq1_bound h e).1
theorem runq1_pos (l n : List UInt8) (k : Nat) (h : l ≠ []) (e : runq1 l = some (n, k)) : 1 ≤ k := (runq1_bound h e).1

/-- one step on -/
theorem unqF_some {l n : List UInt8} {k : Nat} (o : List UInt8) (h : l ≠ []) (e : unq1 l = some (n, k)) : unqF unq1 l.length o l = unqF unq1 (l.drop k).length (o ++ n) (l.drop k) := by
  have hp := List.length_pos_iff.2 h
  have hk := unq1_pos l n k h e
  conv => lhs; rw [show l.length = (l.length - 1) + 1 by omega]
  simp only [unqF, if_neg h, e]
  exact unqF_fuel unq1_pos _ _ _ _ (by rw [List.length_drop]; omega) (Nat.le_refl _)
theorem unqF_none {l : List UInt8} (o : List UInt8) (h : l ≠ []) (e : unq1 l = none) : unqF unq1 l.length o l = none := by
  have hp := List.length_pos_iff.2 h
  conv => lhs; rw [show l.length = (l.length - 1) + 1 by omega]
  simp only [unqF, if_neg h, e]
theorem unqF_nil {u : List UInt8 → Option (List UInt8 × Nat)} (o : List UInt8) : unqF u 0 o [] = some o := by simp [unqF]

/-- what Unquote hands back -/
def unqL (l : List UInt8) : Option (List UInt8) := unqP unq1 l
def UnqPost (l : List UInt8) (e : Ending) : Prop :=
  (∃ t, unqL l = some t ∧ e = .returned (.tuple #[.string (strB t), .int .i64 0])) ∨ (unqL l = none ∧ e = .returned (.tuple #[.string (strB []), .int .i64 3]))

theorem toList_eq (s : ByteArray) : s.toList = s.data.toList := by
  have := Go.Lib.toList_data s
  exact this

set_option maxRecDepth 100000 in
set_option maxHeartbeats 2000000 in
theorem unquote_any (s : ByteArray) (w : World) (hg : Gl w) (hs : s.size ≤ 200000) :
    Calls Tryz.prog 81 #[.string s] w fun e w' => UnqPost s.data.toList e ∧ Fr noB w w' := by
  obtain ⟨i0, hi, hz0, hz1, hz2⟩ := info_parts Tryz.infoByte
  obtain ⟨w1, hmk, ho1, hg1⟩ := run_make_own (P := Tryz.prog) w w.heap.size 73 5 i0 (.int .u8 0) 1 Tryz.underlying73 hi hz0 hz1 .i64 .i64 s.size (by rw [hz2]; omega) (by unfold maxLen; omega) (Nat.le_refl _)
  have f1 : Fr noB w w1 := (Fr.refl noB w).grown hg1 (fun k hk => by cases hk)
  go_enter Tryz.func81, Tryz.ntmps81
  go_wp2_with fail
  go_loopw [4, 5, 6] (fun v vr _ wr => ∃ (r : ByteArray) (o : List UInt8), vr = .string r ∧ Fr noB w wr ∧ r.size ≤ s.size ∧ wr.ownsRow w.heap.size 5 1 v o.length (o.map cellB) ∧ o.length ≤ 4 * (s.size - r.size) ∧
      unqF unq1 s.data.toList.length [] s.data.toList = unqF unq1 r.data.toList.length o r.data.toList) (fun _ vr _ _ => match vr with | .string r => r.size | _ => 0)
  case atStart => exact ⟨s, [], rfl, f1, Nat.le_refl _, ho1, by simp, rfl⟩
  case round =>
    obtain ⟨r, o, rfl, fr, hrs, own, hol, hk⟩ := hrel
    by_cases h0 : r.size = 0
    · have hr : r = ⟨#[]⟩ := by
        apply ByteArray.ext
        exact Array.eq_empty_of_size_eq_zero h0
      subst hr
      have hk2 : unqF unq1 s.data.toList.length [] s.data.toList = some o := by rw [hk]; exact unqF_nil o
      have hcv := string_of_row (P := Tryz.prog) 73 9 5 Tryz.underlying73 Tryz.underlying5 Tryz.underlying9 own
      have hqt := quote_any (strB o) wr (hg.fr fr) (by rw [strB_size]; omega)
      rw [strB_list] at hqt
      have hul : unqL s.data.toList = if quoteL o = s.data.toList then some o else none := by
        unfold unqL unqP
        rw [hk2]
      replace hk2 := Lib.hid hk2
      replace hk := Lib.hid hk
      replace hqt := Lib.hid hqt
      clear hol
      go_wp2_with fail
      refine hqt.out.mono ?_
      rintro e w2 ⟨rfl, f2⟩
      have fr2 := fr.seqN f2
      have own2 := ownsRow_fr own f2 (fun q _ h => h)
      have hcv2 := string_of_row (P := Tryz.prog) 73 9 5 Tryz.underlying73 Tryz.underlying5 Tryz.underlying9 own2
      clear hqt hcv
      by_cases hE : quoteL o = s.data.toList
      · rw [if_pos hE] at hul
        have hb : ((strB (quoteL o)).toList == s.toList) = true := by rw [toList_eq, toList_eq, hE, strB_list]; simp
        have hb2 : ((strB (quoteL o)).toList != s.toList) = false := by simp [bne, hb]
        replace hul := Lib.hid hul
        replace hE := Lib.hid hE
        go_wp2_with fail
        go_ret2
        exact ⟨Or.inl ⟨o, hul.out, rfl⟩, fr2⟩
      · rw [if_neg hE] at hul
        have hb : ((strB (quoteL o)).toList == s.toList) = false := by rw [toList_eq, toList_eq, strB_list]; exact beq_false_of_ne hE
        have hb2 : ((strB (quoteL o)).toList != s.toList) = true := by simp [bne, hb]
        replace hul := Lib.hid hul
        replace hE := Lib.hid hE
        go_wp2_with fail
        go_ret2
        exact ⟨Or.inr ⟨hul.out, rfl⟩, fr2⟩
    · have hne : r.data.toList ≠ [] := fun e => h0 (by have := congrArg List.length e; rw [size_len] at this; exact this)
      have hq := unq1_any w.heap.size u4 o r wr (hg.fr fr) own hne (by omega) (by omega) fr.size
      have hemp : r.toList.isEmpty = false := by rw [toList_eq]; simpa using hne
      replace hq := Lib.hid hq
      replace hk := Lib.hid hk
      replace hne := Lib.hid hne
      go_wp2_with fail
      refine hq.out.mono ?_
      rintro e w2 ⟨f2, hr⟩
      have fr2 := fr.rowN own (Nat.le_refl _) f2
      clear hq
      rcases hr with ⟨nb, k, v', hu, rfl, o2⟩ | ⟨hu, v', rfl⟩
      · obtain ⟨hk1, hk2, hn1, hn2⟩ := unq1_bound hne.out hu
        rw [size_len] at hk2
        have hl : (r.extract k r.size).data.toList = r.data.toList.drop k := tail_eq r k
        have hz : (r.extract k r.size).size = r.size - k := by rw [← size_len, hl, List.length_drop, size_len]
        have hk3 : unqF unq1 s.data.toList.length [] s.data.toList = unqF unq1 (r.extract k r.size).data.toList.length (o ++ nb) (r.extract k r.size).data.toList := by
          rw [hk.out, unqF_some o hne.out hu, hl]
        have hol2 : (o ++ nb).length ≤ 4 * (s.size - (r.extract k r.size).size) := by rw [hz, List.length_append]; omega
        have hrs2 : (r.extract k r.size).size ≤ s.size := by omega
        have hb : ((k : Int) == 0) = false := by simp; omega
        replace hk3 := Lib.hid hk3
        replace hz := Lib.hid hz
        replace hl := Lib.hid hl
        replace hu := Lib.hid hu
        replace hol2 := Lib.hid hol2
        replace hrs2 := Lib.hid hrs2
        clear hk
        go_wp2_with fail
        go_roundw
        case rel => exact ⟨_, o ++ nb, rfl, fr2, hrs2.out, o2, hol2.out, hk3.out⟩
        case measure => simp only; rw [hz.out]; omega
      · have hul : unqL s.data.toList = none := by
          unfold unqL unqP
          rw [hk.out, unqF_none o hne.out hu]
        replace hul := Lib.hid hul
        replace hu := Lib.hid hu
        clear hk
        go_wp2_with fail
        go_ret2
        exact ⟨Or.inr ⟨hul.out, rfl⟩, fr2⟩
end Go.Proofs.YtbmafogjmdilkaaGreatDoor
