/-
  name.unquoteOne.
-/
import Derived.Test.YtbmafogjmdilkaaGreatDoorParse
set_option linter.unusedVariables false
set_option linter.unusedSimpArgs false
set_option maxRecDepth 100000
namespace Go.Proofs.YtbmafogjmdilkaaGreatDoor
open Go.RowKit Go

theorem idx_eq (c : UInt8) : ∀ l : List UInt8, Go.Lib.indexByte l c = match idxB c l with | none => -1 | some k => (k : Int)
  | [] => rfl
  | b :: l => by
    have ih := idx_eq c l
    unfold Go.Lib.indexByte idxB
    by_cases h : b = c
    · simp [h]
    · simp only [h, beq_iff_eq, if_false]
      rw [ih]
      cases hx : idxB c l with
      | none => simp
      | some k =>
        simp only [Option.map_some]
        rw [if_neg (by omega)]
        simp
theorem idx_none {c : UInt8} {l : List UInt8} (h : idxB c l = none) : Go.Lib.indexByte l c = -1 := by rw [idx_eq, h]
theorem idx_some {c : UInt8} {l : List UInt8} {k : Nat} (h : idxB c l = some k) : Go.Lib.indexByte l c = (k : Int) := by rw [idx_eq, h]

/-- what one step hands back -/
def UqPost (B : Nat) (v : Value) (o l : List UInt8) (w : World) (e : Ending) (w' : World) : Prop :=
  Fr (rowB v) w w' ∧ ((∃ nb k v', unq1 l = some (nb, k) ∧ e = .returned (.tuple #[v', .int .i64 (k : Nat)]) ∧ w'.ownsRow B 5 1 v' (o ++ nb).length ((o ++ nb).map cellB)) ∨
    (unq1 l = none ∧ ∃ v', e = .returned (.tuple #[v', .int .i64 0])))

theorem pre2 (l : List UInt8) (b : UInt8) (h : l ≠ []) (h0 : l.getD 0 0 = 92) (hb : b ≠ 0) : Go.Lib.hasPrefix l [92, b] = (l.getD 1 0 == b) := by
  match l, h with
  | [a], _ =>
    have : (0 : UInt8) ≠ b := fun e => hb e.symm
    simp [Go.Lib.hasPrefix, List.isPrefixOf, this]
  | a :: x :: t, _ =>
    simp at h0
    subst h0
    simp only [Go.Lib.hasPrefix, List.isPrefixOf, List.getD_cons_succ, List.getD_cons_zero, beq_self_eq_true, Bool.true_and, Bool.and_true]
    rw [Bool.eq_iff_iff]
    simp only [beq_iff_eq]
    exact eq_comm

set_option maxRecDepth 100000 in
set_option maxHeartbeats 2000000 in
theorem unq1_plain (B : Nat) (v : Value) (o : List UInt8) (s : ByteArray) (w : World) (hown : w.ownsRow B 5 1 v o.length (o.map cellB)) (hne : s.data.toList ≠ []) (hs : s.size ≤ 1000000) (ho : o.length ≤ 10000000) (hB : B ≤ w.heap.size)
    (h0 : s.data.toList.getD 0 0 ≠ 92) :
    Calls Tryz.prog 85 #[v, .string s] w (UqPost B v o s.data.toList w) := by
  obtain ⟨i0, hi, hz0, hz1, hz2⟩ := info_parts Tryz.infoByte
  have hsz : 0 < s.size := List.length_pos_iff.2 hne
  have hu : unq1 s.data.toList = some ([s.data.toList.getD 0 0], 1) := by unfold unq1; rw [if_pos h0]
  have hb : s.data.toList.getD 0 0 = s[0] := by
    simp [List.getD, size_len, hsz]
    rfl
  rw [hb] at h0 hu
  generalize hx : s[0] = x at *
  have hx92 : ((x.toNat : Int) == 92) = false := by
    have : x.toNat ≠ 92 := fun e => h0 (UInt8.toNat_inj.1 (by rw [e]; rfl))
    simp; omega
  replace hu := Lib.hid hu
  replace hb := Lib.hid hb
  replace h0 := Lib.hid h0
  replace hne := Lib.hid hne
  go_enter Tryz.func85, Tryz.ntmps85
  go_wp2_with (first
    | (at_builtin; go_must (refine wpList_append_at _ rfl (.tmp 15) (.tmp 18) 73 rfl B 5 i0 (.int .u8 0) 1 1 Tryz.underlying73 hi hz0 hz1 hz2 rfl (by decide) _ o.length (o.map cellB) rfl (hown.alloc _) ⟨w.heap.size, 0, none⟩ 1 1 (([x] : List UInt8).map cellB) rfl rfl (news_at w _ _) (bytes_one _) ?_ ?_ ?_ ?_))
    | fail)
  · unfold maxLen; omega
  · omega
  · simp; omega
  intro v3 w3 o3 gr3 _
  have f3 : Fr (rowB v) w w3 := ((Fr.refl (rowB v) w).alloc _).grown gr3 (fun k hk _ => hk)
  clear gr3
  go_wp2_with fail
  go_ret2
  exact ⟨f3, Or.inl ⟨_, _, v3, hu.out, rfl, own_app o3 rfl⟩⟩

set_option maxRecDepth 100000 in
set_option maxHeartbeats 2000000 in
theorem unq1_slash (B : Nat) (v : Value) (o : List UInt8) (s : ByteArray) (w : World) (hown : w.ownsRow B 5 1 v o.length (o.map cellB)) (hne : s.data.toList ≠ []) (hs : s.size ≤ 1000000) (ho : o.length ≤ 10000000) (hB : B ≤ w.heap.size)
    (h0 : s.data.toList.getD 0 0 = 92) (h1 : s.data.toList.getD 1 0 = 92) :
    Calls Tryz.prog 85 #[v, .string s] w (UqPost B v o s.data.toList w) := by
  obtain ⟨i0, hi, hz0, hz1, hz2⟩ := info_parts Tryz.infoByte
  have hsz : 0 < s.size := List.length_pos_iff.2 hne
  have hu : unq1 s.data.toList = some ([92], 2) := by unfold unq1; rw [if_neg (not_not_intro h0), if_pos h1]
  have hp := pre2 _ 92 hne h0 (by decide)
  rw [h1] at hp
  have hp92 : Go.Lib.hasPrefix s.data.toList [92, 92] = true := hp
  have hb : s.data.toList.getD 0 0 = s[0] := by
    simp [List.getD, size_len, hsz]
    rfl
  rw [hb] at h0
  clear hp
  replace hu := Lib.hid hu
  replace hb := Lib.hid hb
  replace hne := Lib.hid hne
  replace h1 := Lib.hid h1
  go_enter Tryz.func85, Tryz.ntmps85
  go_wp2_with fail
  refine (Tryz.strings_HasPrefix _ _ _).mono ?_
  rintro e w1 ⟨rfl, hw1⟩
  obtain rfl := hw1.symm
  go_wp2_with (first
    | (at_builtin; go_must (refine wpList_append_at _ rfl (.tmp 23) (.tmp 24) 73 rfl B 5 i0 (.int .u8 0) 1 1 Tryz.underlying73 hi hz0 hz1 hz2 rfl (by decide) _ o.length (o.map cellB) rfl (hown.alloc _) ⟨w.heap.size, 0, none⟩ 1 1 (([92] : List UInt8).map cellB) rfl rfl (news_at w _ _) (bytes_one _) ?_ ?_ ?_ ?_))
    | fail)
  · unfold maxLen; omega
  · omega
  · simp; omega
  intro v3 w3 o3 gr3 _
  have f3 : Fr (rowB v) w w3 := ((Fr.refl (rowB v) w).alloc _).grown gr3 (fun k hk _ => hk)
  clear gr3
  go_wp2_with fail
  go_ret2
  exact ⟨f3, Or.inl ⟨_, _, v3, hu.out, rfl, own_app o3 rfl⟩⟩
set_option maxRecDepth 100000 in
set_option maxHeartbeats 2000000 in
theorem unq1_x (B : Nat) (v : Value) (o : List UInt8) (s : ByteArray) (w : World) (hg : Gl w) (hown : w.ownsRow B 5 1 v o.length (o.map cellB)) (hne : s.data.toList ≠ []) (hs : s.size ≤ 1000000) (ho : o.length ≤ 10000000) (hB : B ≤ w.heap.size)
    (h0 : s.data.toList.getD 0 0 = 92) (h1 : s.data.toList.getD 1 0 ≠ 92) (hx : s.data.toList.getD 1 0 = 120) (h4 : 4 ≤ s.size) :
    Calls Tryz.prog 85 #[v, .string s] w (UqPost B v o s.data.toList w) := by
  obtain ⟨i0, hi, hz0, hz1, hz2⟩ := info_parts Tryz.infoByte
  have hsz : 0 < s.size := List.length_pos_iff.2 hne
  have hp := pre2 _ 92 hne h0 (by decide)
  have hpx := pre2 _ 120 hne h0 (by decide)
  have hpu := pre2 _ 117 hne h0 (by decide)
  have hp92 : Go.Lib.hasPrefix s.data.toList [92, 92] = false := by rw [hp]; exact beq_false_of_ne h1
  have hb : s.data.toList.getD 0 0 = s[0] := by
    simp [List.getD, size_len, hsz]
    rfl
  have hq0 := h0
  rw [hb] at h0
  replace hq0 := Lib.hid hq0
  clear hp
  replace hb := Lib.hid hb
  replace hne := Lib.hid hne
  have hpx2 : Go.Lib.hasPrefix s.data.toList [92, 120] = true := by rw [hpx, hx]; rfl
  have hu : unq1 s.data.toList = (parse16 255 ((s.data.toList.take 4).drop 2)).map fun n => ([UInt8.ofNat n], 4) := by
    unfold unq1; rw [if_neg (not_not_intro hq0.out), if_neg h1, if_pos ⟨hx, by rw [size_len]; exact h4⟩]
  have hex : (s.extract 2 4).data.toList = (s.data.toList.take 4).drop 2 := by rw [ext_eq]; rfl
  have hexs : (s.extract 2 4).size ≤ 1000000000 := by rw [ext_eq, strB_size, List.length_drop, List.length_take]; omega
  have hpar := parse_8 (s.extract 2 4) hexs w hg
  rw [hex] at hpar
  clear hpx hpu
  replace hu := Lib.hid hu
  replace h1 := Lib.hid h1
  replace hx := Lib.hid hx
  replace hex := Lib.hid hex
  replace hexs := Lib.hid hexs
  replace hpar := Lib.hid hpar
  go_enter Tryz.func85, Tryz.ntmps85
  go_wp2_with fail
  refine (Tryz.strings_HasPrefix _ _ _).mono ?_
  rintro e w1 ⟨rfl, hw1⟩
  obtain rfl := hw1.symm
  go_wp2_with fail
  refine (Tryz.strings_HasPrefix _ _ _).mono ?_
  rintro e w1 ⟨rfl, hw1⟩
  obtain rfl := hw1.symm
  go_wp2_with fail
  refine hpar.out.mono ?_
  rintro e w2 ⟨hr, f2⟩
  clear hpar hp92 hpx2
  have own2 := ownsRow_fr hown f2 (fun q _ h => h)
  have f2v : Fr (rowB v) w w2 := f2.mono (fun _ _ h => h.elim)
  have hB2 : B ≤ w2.heap.size := by have := f2.size; omega
  rcases hr with ⟨n, hn, rfl⟩ | ⟨hn, x, N, rfl⟩
  · have hn255 := parse16_le hn
    have hcell : cellB (UInt8.ofNat n) = .int .u8 (n : Int) := by unfold cellB; simp; omega
    have hq : unq1 s.data.toList = some ([UInt8.ofNat n], 4) := by rw [hu.out, hn]; rfl
    replace hq := Lib.hid hq
    replace hn := Lib.hid hn
    clear hu
    go_wp2_with (first
      | (at_builtin; go_must (refine wpList_append_at _ rfl (.tmp 43) (.tmp 46) 73 rfl B 5 i0 (.int .u8 0) 1 1 Tryz.underlying73 hi hz0 hz1 hz2 rfl (by decide) _ o.length (o.map cellB) rfl (own2.alloc _) ⟨w2.heap.size, 0, none⟩ 1 1 [.int .u8 (n : Int)] rfl rfl (news_at w2 _ _) (one_int _ _) ?_ ?_ ?_ ?_))
      | fail)
    · unfold maxLen; omega
    · omega
    · simp; omega
    intro v3 w3 o3 gr3 _
    have f3 : Fr (rowB v) w w3 := (f2v.alloc _).grown gr3 (fun k hk _ => hk)
    rw [← hcell] at o3
    have o4 := own_app (b := [UInt8.ofNat n]) o3 rfl
    clear gr3 o3 hcell
    go_wp2_with fail
    go_ret2
    exact ⟨f3, Or.inl ⟨_, _, v3, hq.out, rfl, o4⟩⟩
  · have hq : unq1 s.data.toList = none := by rw [hu.out, hn]; rfl
    replace hq := Lib.hid hq
    replace hn := Lib.hid hn
    clear hu
    go_wp2_with fail
    go_ret2
    exact ⟨f2v, Or.inr ⟨hq.out, _, rfl⟩⟩

set_option maxRecDepth 100000 in
set_option maxHeartbeats 2000000 in
theorem unq1_xs (B : Nat) (v : Value) (o : List UInt8) (s : ByteArray) (w : World) (hg : Gl w) (hown : w.ownsRow B 5 1 v o.length (o.map cellB)) (hne : s.data.toList ≠ []) (hs : s.size ≤ 1000000) (ho : o.length ≤ 10000000) (hB : B ≤ w.heap.size)
    (h0 : s.data.toList.getD 0 0 = 92) (h1 : s.data.toList.getD 1 0 ≠ 92) (hx : s.data.toList.getD 1 0 = 120) (h4 : s.size < 4) :
    Calls Tryz.prog 85 #[v, .string s] w (UqPost B v o s.data.toList w) := by
  obtain ⟨i0, hi, hz0, hz1, hz2⟩ := info_parts Tryz.infoByte
  have hsz : 0 < s.size := List.length_pos_iff.2 hne
  have hp := pre2 _ 92 hne h0 (by decide)
  have hpx := pre2 _ 120 hne h0 (by decide)
  have hpu := pre2 _ 117 hne h0 (by decide)
  have hp92 : Go.Lib.hasPrefix s.data.toList [92, 92] = false := by rw [hp]; exact beq_false_of_ne h1
  have hb : s.data.toList.getD 0 0 = s[0] := by
    simp [List.getD, size_len, hsz]
    rfl
  have hq0 := h0
  rw [hb] at h0
  replace hq0 := Lib.hid hq0
  clear hp
  replace hb := Lib.hid hb
  replace hne := Lib.hid hne
  have hpx2 : Go.Lib.hasPrefix s.data.toList [92, 120] = true := by rw [hpx, hx]; rfl
  have hpu2 : Go.Lib.hasPrefix s.data.toList [92, 117] = false := by rw [hpu, hx]; rfl
  have hq : unq1 s.data.toList = none := by
    unfold unq1; rw [if_neg (not_not_intro hq0.out), if_neg h1, if_neg (by rw [size_len]; omega), if_neg (by rw [hx]; decide)]
  clear hpx hpu
  replace hq := Lib.hid hq
  replace h1 := Lib.hid h1
  replace hx := Lib.hid hx
  have h4' : ¬ (4 : Int) ≤ s.size := by omega
  go_enter Tryz.func85, Tryz.ntmps85
  go_wp2_with fail
  refine (Tryz.strings_HasPrefix _ _ _).mono ?_
  rintro e w1 ⟨rfl, hw1⟩
  obtain rfl := hw1.symm
  go_wp2_with fail
  refine (Tryz.strings_HasPrefix _ _ _).mono ?_
  rintro e w1 ⟨rfl, hw1⟩
  obtain rfl := hw1.symm
  go_wp2_with fail
  refine (Tryz.strings_HasPrefix _ _ _).mono ?_
  rintro e w1 ⟨rfl, hw1⟩
  obtain rfl := hw1.symm
  go_wp2_with fail
  go_ret2
  exact ⟨Fr.refl _ _, Or.inr ⟨hq.out, _, rfl⟩⟩

set_option maxRecDepth 100000 in
set_option maxHeartbeats 2000000 in
theorem unq1_no (B : Nat) (v : Value) (o : List UInt8) (s : ByteArray) (w : World) (hg : Gl w) (hown : w.ownsRow B 5 1 v o.length (o.map cellB)) (hne : s.data.toList ≠ []) (hs : s.size ≤ 1000000) (ho : o.length ≤ 10000000) (hB : B ≤ w.heap.size)
    (h0 : s.data.toList.getD 0 0 = 92) (h1 : s.data.toList.getD 1 0 ≠ 92) (hx : s.data.toList.getD 1 0 ≠ 120) (hu0 : s.data.toList.getD 1 0 ≠ 117) :
    Calls Tryz.prog 85 #[v, .string s] w (UqPost B v o s.data.toList w) := by
  obtain ⟨i0, hi, hz0, hz1, hz2⟩ := info_parts Tryz.infoByte
  have hsz : 0 < s.size := List.length_pos_iff.2 hne
  have hp := pre2 _ 92 hne h0 (by decide)
  have hpx := pre2 _ 120 hne h0 (by decide)
  have hpu := pre2 _ 117 hne h0 (by decide)
  have hp92 : Go.Lib.hasPrefix s.data.toList [92, 92] = false := by rw [hp]; exact beq_false_of_ne h1
  have hb : s.data.toList.getD 0 0 = s[0] := by
    simp [List.getD, size_len, hsz]
    rfl
  have hq0 := h0
  rw [hb] at h0
  replace hq0 := Lib.hid hq0
  clear hp
  replace hb := Lib.hid hb
  replace hne := Lib.hid hne
  have hpx2 : Go.Lib.hasPrefix s.data.toList [92, 120] = false := by rw [hpx]; exact beq_false_of_ne hx
  have hpu2 : Go.Lib.hasPrefix s.data.toList [92, 117] = false := by rw [hpu]; exact beq_false_of_ne hu0
  have hq : unq1 s.data.toList = none := by
    unfold unq1; rw [if_neg (not_not_intro hq0.out), if_neg h1, if_neg (fun e => hx e.1), if_neg hu0]
  clear hpx hpu
  replace hq := Lib.hid hq
  replace h1 := Lib.hid h1
  replace hx := Lib.hid hx
  replace hu0 := Lib.hid hu0
  go_enter Tryz.func85, Tryz.ntmps85
  go_wp2_with fail
  refine (Tryz.strings_HasPrefix _ _ _).mono ?_
  rintro e w1 ⟨rfl, hw1⟩
  obtain rfl := hw1.symm
  go_wp2_with fail
  refine (Tryz.strings_HasPrefix _ _ _).mono ?_
  rintro e w1 ⟨rfl, hw1⟩
  obtain rfl := hw1.symm
  go_wp2_with fail
  refine (Tryz.strings_HasPrefix _ _ _).mono ?_
  rintro e w1 ⟨rfl, hw1⟩
  obtain rfl := hw1.symm
  go_wp2_with fail
  go_ret2
  exact ⟨Fr.refl _ _, Or.inr ⟨hq.out, _, rfl⟩⟩

set_option maxRecDepth 100000 in
set_option maxHeartbeats 2000000 in
theorem unq1_u (B : Nat) (v : Value) (o : List UInt8) (s : ByteArray) (w : World) (hg : Gl w) (hown : w.ownsRow B 5 1 v o.length (o.map cellB)) (hne : s.data.toList ≠ []) (hs : s.size ≤ 1000000) (ho : o.length ≤ 10000000) (hB : B ≤ w.heap.size)
    (h0 : s.data.toList.getD 0 0 = 92) (h1 : s.data.toList.getD 1 0 ≠ 92) (hx : s.data.toList.getD 1 0 = 117) :
    Calls Tryz.prog 85 #[v, .string s] w (UqPost B v o s.data.toList w) := by
  obtain ⟨i0, hi, hz0, hz1, hz2⟩ := info_parts Tryz.infoByte
  have hsz : 0 < s.size := List.length_pos_iff.2 hne
  have hp := pre2 _ 92 hne h0 (by decide)
  have hpx := pre2 _ 120 hne h0 (by decide)
  have hpu := pre2 _ 117 hne h0 (by decide)
  have hp92 : Go.Lib.hasPrefix s.data.toList [92, 92] = false := by rw [hp]; exact beq_false_of_ne h1
  have hb : s.data.toList.getD 0 0 = s[0] := by
    simp [List.getD, size_len, hsz]
    rfl
  have hq0 := h0
  rw [hb] at h0
  replace hq0 := Lib.hid hq0
  clear hp
  replace hb := Lib.hid hb
  replace hne := Lib.hid hne
  have hpx2 : Go.Lib.hasPrefix s.data.toList [92, 120] = false := by rw [hpx, hx]; rfl
  have hpu2 : Go.Lib.hasPrefix s.data.toList [92, 117] = true := by rw [hpu, hx]; rfl
  have hidx := Tryz.strings_IndexByte s 46 w
  rw [show (46 : Int).toNat.toUInt8 = 46 from rfl] at hidx
  have hu : unq1 s.data.toList = match idxB 46 s.data.toList with | none => none | some e => (parse16 2147483647 ((s.data.toList.take e).drop 2)).map fun r => (encA r, e + 1) := by
    unfold unq1; rw [if_neg (not_not_intro hq0.out), if_neg h1, if_neg (by rw [hx]; exact fun e => absurd e.1 (by decide)), if_pos hx]
    cases idxB 46 s.data.toList <;> rfl
  clear hpx hpu
  replace h1 := Lib.hid h1
  cases hid : idxB 46 s.data.toList with
  | none =>
    rw [idx_none hid] at hidx
    rw [hid] at hu
    have hq : unq1 s.data.toList = none := hu
    replace hq := Lib.hid hq
    replace hx := Lib.hid hx
    replace hid := Lib.hid hid
    replace hidx := Lib.hid hidx
    clear hu
    go_enter Tryz.func85, Tryz.ntmps85
    go_wp2_with fail
    refine (Tryz.strings_HasPrefix _ _ _).mono ?_
    rintro e w1 ⟨rfl, hw1⟩
    obtain rfl := hw1.symm
    go_wp2_with fail
    refine (Tryz.strings_HasPrefix _ _ _).mono ?_
    rintro e w1 ⟨rfl, hw1⟩
    obtain rfl := hw1.symm
    go_wp2_with fail
    refine (Tryz.strings_HasPrefix _ _ _).mono ?_
    rintro e w1 ⟨rfl, hw1⟩
    obtain rfl := hw1.symm
    go_wp2_with fail
    refine hidx.out.mono ?_
    rintro e w1 ⟨rfl, hw1⟩
    obtain rfl := hw1.symm
    go_wp2_with fail
    go_ret2
    exact ⟨Fr.refl _ _, Or.inr ⟨hq.out, _, rfl⟩⟩
  | some k =>
    rw [idx_some hid] at hidx
    rw [hid] at hu
    obtain ⟨hk1, hk2⟩ := idxB_lt hid
    rw [size_len] at hk1
    have hk3 : 2 ≤ k := by
      rcases Nat.lt_or_ge k 2 with h | h
      · exfalso
        have : k = 0 ∨ k = 1 := by omega
        rcases this with rfl | rfl
        · rw [hq0.out] at hk2; exact absurd hk2 (by decide)
        · rw [hx] at hk2; exact absurd hk2 (by decide)
      · exact h
    have hex : (s.extract 2 k).data.toList = (s.data.toList.take k).drop 2 := by rw [ext_eq]; rfl
    have hexs : (s.extract 2 k).size ≤ 1000000000 := by rw [ext_eq, strB_size, List.length_drop, List.length_take]; omega
    have hpar := parse_31 (s.extract 2 k) hexs w hg
    rw [hex] at hpar
    replace hu := Lib.hid hu
    replace hx := Lib.hid hx
    replace hid := Lib.hid hid
    replace hidx := Lib.hid hidx
    replace hex := Lib.hid hex
    replace hexs := Lib.hid hexs
    replace hpar := Lib.hid hpar
    replace hk2 := Lib.hid hk2
    go_enter Tryz.func85, Tryz.ntmps85
    go_wp2_with fail
    refine (Tryz.strings_HasPrefix _ _ _).mono ?_
    rintro e w1 ⟨rfl, hw1⟩
    obtain rfl := hw1.symm
    go_wp2_with fail
    refine (Tryz.strings_HasPrefix _ _ _).mono ?_
    rintro e w1 ⟨rfl, hw1⟩
    obtain rfl := hw1.symm
    go_wp2_with fail
    refine (Tryz.strings_HasPrefix _ _ _).mono ?_
    rintro e w1 ⟨rfl, hw1⟩
    obtain rfl := hw1.symm
    go_wp2_with fail
    refine hidx.out.mono ?_
    rintro e w1 ⟨rfl, hw1⟩
    obtain rfl := hw1.symm
    clear hp92 hpx2 hpu2
    go_wp2_with fail
    refine hpar.out.mono ?_
    rintro e w2 ⟨hr, f2⟩
    clear hpar
    have own2 := ownsRow_fr hown f2 (fun q _ h => h)
    have f2v : Fr (rowB v) w w2 := f2.mono (fun _ _ h => h.elim)
    have hB2 : B ≤ w2.heap.size := by have := f2.size; omega
    rcases hr with ⟨n, hn, rfl⟩ | ⟨hn, x, N, rfl⟩
    · have hn255 := parse16_le hn
      have hq : unq1 s.data.toList = some (encA n, k + 1) := by rw [hu.out]; simp only [hn, Option.map_some]
      have hw32 : IntKind.i32.wrap (n : Int) = n := by rw [IntKind.wrap_i32]; omega
      have hrc := runeCells_enc n hn255
      have har := Tryz.utf8_AppendRune_plain B v o.length (o.map cellB) (n : Int) (by omega) (by omega) w2 own2 (by omega) hB2
      rw [hrc] at har
      replace hq := Lib.hid hq
      replace hn := Lib.hid hn
      replace hrc := Lib.hid hrc
      replace har := Lib.hid har
      clear hu
      go_wp2_with fail
      refine har.out.mono ?_
      rintro e w3 ⟨v3, rfl, o3, ob, gr3⟩
      have f3 : Fr (rowB v) w w3 := (f2v.alloc ob).grown gr3 (fun k hk _ => hk)
      have o4 := own_app (b := encA n) o3 (by simp)
      clear gr3 o3 har
      go_wp2_with fail
      go_ret2
      exact ⟨f3, Or.inl ⟨_, k + 1, v3, hq.out, rfl, o4⟩⟩
    · have hq : unq1 s.data.toList = none := by rw [hu.out]; simp only [hn, Option.map_none]
      replace hq := Lib.hid hq
      replace hn := Lib.hid hn
      clear hu
      go_wp2_with fail
      go_ret2
      exact ⟨f2v, Or.inr ⟨hq.out, _, rfl⟩⟩

theorem unq1_any (B : Nat) (v : Value) (o : List UInt8) (s : ByteArray) (w : World) (hg : Gl w) (hown : w.ownsRow B 5 1 v o.length (o.map cellB)) (hne : s.data.toList ≠ []) (hs : s.size ≤ 1000000) (ho : o.length ≤ 10000000) (hB : B ≤ w.heap.size) :
    Calls Tryz.prog 85 #[v, .string s] w (UqPost B v o s.data.toList w) := by
  by_cases h0 : s.data.toList.getD 0 0 = 92
  · by_cases h1 : s.data.toList.getD 1 0 = 92
    · exact unq1_slash B v o s w hown hne hs ho hB h0 h1
    · by_cases hx : s.data.toList.getD 1 0 = 120
      · by_cases h4 : 4 ≤ s.size
        · exact unq1_x B v o s w hg hown hne hs ho hB h0 h1 hx h4
        · exact unq1_xs B v o s w hg hown hne hs ho hB h0 h1 hx (by omega)
      · by_cases hu : s.data.toList.getD 1 0 = 117
        · exact unq1_u B v o s w hg hown hne hs ho hB h0 h1 hu
        · exact unq1_no B v o s w hg hown hne hs ho hB h0 h1 hx hu
  · exact unq1_plain B v o s w hown hne hs ho hB h0
end Go.Proofs.YtbmafogjmdilkaaGreatDoor
