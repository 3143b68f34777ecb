/-
  name.unquoteOne.
  name.Unquote.
  wire: the writer's Text and String; the reader's calls.
-/
import Derived.Test.YtdmhnoffejjpnaaGreatDoorZAG
import Derived.Test.YtdmhnoffejjpnaaGreatDoorZAF
import Derived.Lib.AppendStr
section
set_option linter.unusedVariables false
set_option linter.unusedSimpArgs false
set_option maxRecDepth 100000
namespace Go.Proofs.YtdmhnoffejjpnaaGreatDoor
open Go.RowKit Go

theorem idx_eq (c : UInt8) : ∀ l : List UInt8, Go.Lib.indexByte l c = match idxB c l with | none => -1 | some k => (k : Int)
  | [] => rfl
  | b :: l => by
    have ih := idx_eq c l
    unfold Go.Lib.indexByte idxB
    by_cases h : b = c
    · simp [h]
    · simp only [h, beq_iff_eq, if_false]
      rw [ih]
      cases hx : idxB c l with
      | none => simp
      | some k =>
        simp only [Option.map_some]
        rw [if_neg (by omega)]
        simp
theorem idx_none {c : UInt8} {l : List UInt8} (h : idxB c l = none) : Go.Lib.indexByte l c = -1 := by rw [idx_eq, h]
theorem idx_some {c : UInt8} {l : List UInt8} {k : Nat} (h : idxB c l = some k) : Go.Lib.indexByte l c = (k : Int) := by rw [idx_eq, h]

/-- what one step hands back -/
def UqPost (B : Nat) (v : Value) (o l : List UInt8) (w : World) (e : Ending) (w' : World) : Prop :=
  Fr (rowB v) w w' ∧ ((∃ nb k v', unq1 l = some (nb, k) ∧ e = .returned (.tuple #[v', .int .i64 (k : Nat)]) ∧ w'.ownsRow B 5 1 v' (o ++ nb).length ((o ++ nb).map cellB)) ∨
    (unq1 l = none ∧ ∃ v', e = .returned (.tuple #[v', .int .i64 0])))

theorem pre2 (l : List UInt8) (b : UInt8) (h : l ≠ []) (h0 : l.getD 0 0 = 92) (hb : b ≠ 0) : Go.Lib.hasPrefix l [92, b] = (l.getD 1 0 == b) := by
  match l, h with
  | [a], _ =>
    have : (0 : UInt8) ≠ b := fun e => hb e.symm
    simp [Go.Lib.hasPrefix, List.isPrefixOf, this]
  | a :: x :: t, _ =>
    simp at h0
    subst h0
    simp only [Go.Lib.hasPrefix, List.isPrefixOf, List.getD_cons_succ, List.getD_cons_zero, beq_self_eq_true, Bool.true_and, Bool.and_true]
    rw [Bool.eq_iff_iff]
    simp only [beq_iff_eq]
    exact eq_comm

set_option maxRecDepth 100000 in
set_option maxHeartbeats 2000000 in
theorem unq1_plain (B : Nat) (v : Value) (o : List UInt8) (s : ByteArray) (w : World) (hown : w.ownsRow B 5 1 v o.length (o.map cellB)) (hne : s.data.toList ≠ []) (hs : s.size ≤ 1000000) (ho : o.length ≤ 10000000) (hB : B ≤ w.heap.size)
    (h0 : s.data.toList.getD 0 0 ≠ 92) :
    Calls Tryz.prog 138 #[v, .string s] w (UqPost B v o s.data.toList w) := by
  obtain ⟨i0, hi, hz0, hz1, hz2⟩ := info_parts Tryz.infoByte
  have hsz : 0 < s.size := List.length_pos_iff.2 hne
  have hu : unq1 s.data.toList = some ([s.data.toList.getD 0 0], 1) := by unfold unq1; rw [if_pos h0]
  have hb : s.data.toList.getD 0 0 = s[0] := by
    simp [List.getD, size_len, hsz]
    rfl
  rw [hb] at h0 hu
  generalize hx : s[0] = x at *
  have hx92 : ((x.toNat : Int) == 92) = false := by
    have : x.toNat ≠ 92 := fun e => h0 (UInt8.toNat_inj.1 (by rw [e]; rfl))
    simp; omega
  replace hu := Lib.hid hu
  replace hb := Lib.hid hb
  replace h0 := Lib.hid h0
  replace hne := Lib.hid hne
  go_enter Tryz.func138, Tryz.ntmps138
  go_wp2_with (first
    | (at_builtin; go_must (refine wpList_append_at _ rfl (.tmp 15) (.tmp 18) 119 rfl B 5 i0 (.int .u8 0) 1 1 Tryz.underlying119 hi hz0 hz1 hz2 rfl (by decide) _ o.length (o.map cellB) rfl (hown.alloc _) ⟨w.heap.size, 0, none⟩ 1 1 (([x] : List UInt8).map cellB) rfl rfl (news_at w _ _) (bytes_one _) ?_ ?_ ?_ ?_))
    | fail)
  · unfold maxLen; omega
  · omega
  · simp; omega
  intro v3 w3 o3 gr3 _
  have f3 : Fr (rowB v) w w3 := ((Fr.refl (rowB v) w).alloc _).grown gr3 (fun k hk _ => hk)
  clear gr3
  go_wp2_with fail
  go_ret2
  exact ⟨f3, Or.inl ⟨_, _, v3, hu.out, rfl, own_app o3 rfl⟩⟩

set_option maxRecDepth 100000 in
set_option maxHeartbeats 2000000 in
theorem unq1_slash (B : Nat) (v : Value) (o : List UInt8) (s : ByteArray) (w : World) (hown : w.ownsRow B 5 1 v o.length (o.map cellB)) (hne : s.data.toList ≠ []) (hs : s.size ≤ 1000000) (ho : o.length ≤ 10000000) (hB : B ≤ w.heap.size)
    (h0 : s.data.toList.getD 0 0 = 92) (h1 : s.data.toList.getD 1 0 = 92) :
    Calls Tryz.prog 138 #[v, .string s] w (UqPost B v o s.data.toList w) := by
  obtain ⟨i0, hi, hz0, hz1, hz2⟩ := info_parts Tryz.infoByte
  have hsz : 0 < s.size := List.length_pos_iff.2 hne
  have hu : unq1 s.data.toList = some ([92], 2) := by unfold unq1; rw [if_neg (not_not_intro h0), if_pos h1]
  have hp := pre2 _ 92 hne h0 (by decide)
  rw [h1] at hp
  have hp92 : Go.Lib.hasPrefix s.data.toList [92, 92] = true := hp
  have hb : s.data.toList.getD 0 0 = s[0] := by
    simp [List.getD, size_len, hsz]
    rfl
  rw [hb] at h0
  clear hp
  replace hu := Lib.hid hu
  replace hb := Lib.hid hb
  replace hne := Lib.hid hne
  replace h1 := Lib.hid h1
  go_enter Tryz.func138, Tryz.ntmps138
  go_wp2_with fail
  refine (Tryz.strings_HasPrefix _ _ _).mono ?_
  rintro e w1 ⟨rfl, hw1⟩
  obtain rfl := hw1.symm
  go_wp2_with (first
    | (at_builtin; go_must (refine wpList_append_at _ rfl (.tmp 23) (.tmp 24) 119 rfl B 5 i0 (.int .u8 0) 1 1 Tryz.underlying119 hi hz0 hz1 hz2 rfl (by decide) _ o.length (o.map cellB) rfl (hown.alloc _) ⟨w.heap.size, 0, none⟩ 1 1 (([92] : List UInt8).map cellB) rfl rfl (news_at w _ _) (bytes_one _) ?_ ?_ ?_ ?_))
    | fail)
  · unfold maxLen; omega
  · omega
  · simp; omega
  intro v3 w3 o3 gr3 _
  have f3 : Fr (rowB v) w w3 := ((Fr.refl (rowB v) w).alloc _).grown gr3 (fun k hk _ => hk)
  clear gr3
  go_wp2_with fail
  go_ret2
  exact ⟨f3, Or.inl ⟨_, _, v3, hu.out, rfl, own_app o3 rfl⟩⟩
set_option maxRecDepth 100000 in
set_option maxHeartbeats 2000000 in
theorem unq1_x (B : Nat) (v : Value) (o : List UInt8) (s : ByteArray) (w : World) (hg : Gl w) (hown : w.ownsRow B 5 1 v o.length (o.map cellB)) (hne : s.data.toList ≠ []) (hs : s.size ≤ 1000000) (ho : o.length ≤ 10000000) (hB : B ≤ w.heap.size)
    (h0 : s.data.toList.getD 0 0 = 92) (h1 : s.data.toList.getD 1 0 ≠ 92) (hx : s.data.toList.getD 1 0 = 120) (h4 : 4 ≤ s.size) :
    Calls Tryz.prog 138 #[v, .string s] w (UqPost B v o s.data.toList w) := by
  obtain ⟨i0, hi, hz0, hz1, hz2⟩ := info_parts Tryz.infoByte
  have hsz : 0 < s.size := List.length_pos_iff.2 hne
  have hp := pre2 _ 92 hne h0 (by decide)
  have hpx := pre2 _ 120 hne h0 (by decide)
  have hpu := pre2 _ 117 hne h0 (by decide)
  have hp92 : Go.Lib.hasPrefix s.data.toList [92, 92] = false := by rw [hp]; exact beq_false_of_ne h1
  have hb : s.data.toList.getD 0 0 = s[0] := by
    simp [List.getD, size_len, hsz]
    rfl
  have hq0 := h0
  rw [hb] at h0
  replace hq0 := Lib.hid hq0
  clear hp
  replace hb := Lib.hid hb
  replace hne := Lib.hid hne
  have hpx2 : Go.Lib.hasPrefix s.data.toList [92, 120] = true := by rw [hpx, hx]; rfl
  have hu : unq1 s.data.toList = (parse16 255 ((s.data.toList.take 4).drop 2)).map fun n => ([UInt8.ofNat n], 4) := by
    unfold unq1; rw [if_neg (not_not_intro hq0.out), if_neg h1, if_pos ⟨hx, by rw [size_len]; exact h4⟩]
  have hex : (s.extract 2 4).data.toList = (s.data.toList.take 4).drop 2 := by rw [ext_eq]; rfl
  have hexs : (s.extract 2 4).size ≤ 1000000000 := by rw [ext_eq, strB_size, List.length_drop, List.length_take]; omega
  have hpar := parse_8 (s.extract 2 4) hexs w hg
  rw [hex] at hpar
  clear hpx hpu
  replace hu := Lib.hid hu
  replace h1 := Lib.hid h1
  replace hx := Lib.hid hx
  replace hex := Lib.hid hex
  replace hexs := Lib.hid hexs
  replace hpar := Lib.hid hpar
  go_enter Tryz.func138, Tryz.ntmps138
  go_wp2_with fail
  refine (Tryz.strings_HasPrefix _ _ _).mono ?_
  rintro e w1 ⟨rfl, hw1⟩
  obtain rfl := hw1.symm
  go_wp2_with fail
  refine (Tryz.strings_HasPrefix _ _ _).mono ?_
  rintro e w1 ⟨rfl, hw1⟩
  obtain rfl := hw1.symm
  go_wp2_with fail
  refine hpar.out.mono ?_
  rintro e w2 ⟨hr, f2⟩
  clear hpar hp92 hpx2
  have own2 := ownsRow_fr hown f2 (fun q _ h => h)
  have f2v : Fr (rowB v) w w2 := f2.mono (fun _ _ h => h.elim)
  have hB2 : B ≤ w2.heap.size := by have := f2.size; omega
  rcases hr with ⟨n, hn, rfl⟩ | ⟨hn, x, N, rfl⟩
  · have hn255 := parse16_le hn
    have hcell : cellB (UInt8.ofNat n) = .int .u8 (n : Int) := by unfold cellB; simp; omega
    have hq : unq1 s.data.toList = some ([UInt8.ofNat n], 4) := by rw [hu.out, hn]; rfl
    replace hq := Lib.hid hq
    replace hn := Lib.hid hn
    clear hu
    go_wp2_with (first
      | (at_builtin; go_must (refine wpList_append_at _ rfl (.tmp 43) (.tmp 46) 119 rfl B 5 i0 (.int .u8 0) 1 1 Tryz.underlying119 hi hz0 hz1 hz2 rfl (by decide) _ o.length (o.map cellB) rfl (own2.alloc _) ⟨w2.heap.size, 0, none⟩ 1 1 [.int .u8 (n : Int)] rfl rfl (news_at w2 _ _) (one_int _ _) ?_ ?_ ?_ ?_))
      | fail)
    · unfold maxLen; omega
    · omega
    · simp; omega
    intro v3 w3 o3 gr3 _
    have f3 : Fr (rowB v) w w3 := (f2v.alloc _).grown gr3 (fun k hk _ => hk)
    rw [← hcell] at o3
    have o4 := own_app (b := [UInt8.ofNat n]) o3 rfl
    clear gr3 o3 hcell
    go_wp2_with fail
    go_ret2
    exact ⟨f3, Or.inl ⟨_, _, v3, hq.out, rfl, o4⟩⟩
  · have hq : unq1 s.data.toList = none := by rw [hu.out, hn]; rfl
    replace hq := Lib.hid hq
    replace hn := Lib.hid hn
    clear hu
    go_wp2_with fail
    go_ret2
    exact ⟨f2v, Or.inr ⟨hq.out, _, rfl⟩⟩

set_option maxRecDepth 100000 in
set_option maxHeartbeats 2000000 in
theorem unq1_xs (B : Nat) (v : Value) (o : List UInt8) (s : ByteArray) (w : World) (hg : Gl w) (hown : w.ownsRow B 5 1 v o.length (o.map cellB)) (hne : s.data.toList ≠ []) (hs : s.size ≤ 1000000) (ho : o.length ≤ 10000000) (hB : B ≤ w.heap.size)
    (h0 : s.data.toList.getD 0 0 = 92) (h1 : s.data.toList.getD 1 0 ≠ 92) (hx : s.data.toList.getD 1 0 = 120) (h4 : s.size < 4) :
    Calls Tryz.prog 138 #[v, .string s] w (UqPost B v o s.data.toList w) := by
  obtain ⟨i0, hi, hz0, hz1, hz2⟩ := info_parts Tryz.infoByte
  have hsz : 0 < s.size := List.length_pos_iff.2 hne
  have hp := pre2 _ 92 hne h0 (by decide)
  have hpx := pre2 _ 120 hne h0 (by decide)
  have hpu := pre2 _ 117 hne h0 (by decide)
  have hp92 : Go.Lib.hasPrefix s.data.toList [92, 92] = false := by rw [hp]; exact beq_false_of_ne h1
  have hb : s.data.toList.getD 0 0 = s[0] := by
    simp [List.getD, size_len, hsz]
    rfl
  have hq0 := h0
  rw [hb] at h0
  replace hq0 := Lib.hid hq0
  clear hp
  replace hb := Lib.hid hb
  replace hne := Lib.hid hne
  have hpx2 : Go.Lib.hasPrefix s.data.toList [92, 120] = true := by rw [hpx, hx]; rfl
  have hpu2 : Go.Lib.hasPrefix s.data.toList [92, 117] = false := by rw [hpu, hx]; rfl
  have hq : unq1 s.data.toList = none := by
    unfold unq1; rw [if_neg (not_not_intro hq0.out), if_neg h1, if_neg (by rw [size_len]; omega), if_neg (by rw [hx]; decide)]
  clear hpx hpu
  replace hq := Lib.hid hq
  replace h1 := Lib.hid h1
  replace hx := Lib.hid hx
  have h4' : ¬ (4 : Int) ≤ s.size := by omega
  go_enter Tryz.func138, Tryz.ntmps138
  go_wp2_with fail
  refine (Tryz.strings_HasPrefix _ _ _).mono ?_
  rintro e w1 ⟨rfl, hw1⟩
  obtain rfl := hw1.symm
  go_wp2_with fail
  refine (Tryz.strings_HasPrefix _ _ _).mono ?_
  rintro e w1 ⟨rfl, hw1⟩
  obtain rfl := hw1.symm
  go_wp2_with fail
  refine (Tryz.strings_HasPrefix _ _ _).mono ?_
  rintro e w1 ⟨rfl, hw1⟩
  obtain rfl := hw1.symm
  go_wp2_with fail
  go_ret2
  exact ⟨Fr.refl _ _, Or.inr ⟨hq.out, _, rfl⟩⟩

set_option maxRecDepth 100000 in
set_option maxHeartbeats 2000000 in
theorem unq1_no (B : Nat) (v : Value) (o : List UInt8) (s : ByteArray) (w : World) (hg : Gl w) (hown : w.ownsRow B 5 1 v o.length (o.map cellB)) (hne : s.data.toList ≠ []) (hs : s.size ≤ 1000000) (ho : o.length ≤ 10000000) (hB : B ≤ w.heap.size)
    (h0 : s.data.toList.getD 0 0 = 92) (h1 : s.data.toList.getD 1 0 ≠ 92) (hx : s.data.toList.getD 1 0 ≠ 120) (hu0 : s.data.toList.getD 1 0 ≠ 117) :
    Calls Tryz.prog 138 #[v, .string s] w (UqPost B v o s.data.toList w) := by
  obtain ⟨i0, hi, hz0, hz1, hz2⟩ := info_parts Tryz.infoByte
  have hsz : 0 < s.size := List.length_pos_iff.2 hne
  have hp := pre2 _ 92 hne h0 (by decide)
  have hpx := pre2 _ 120 hne h0 (by decide)
  have hpu := pre2 _ 117 hne h0 (by decide)
  have hp92 : Go.Lib.hasPrefix s.data.toList [92, 92] = false := by rw [hp]; exact beq_false_of_ne h1
  have hb : s.data.toList.getD 0 0 = s[0] := by
    simp [List.getD, size_len, hsz]
    rfl
  have hq0 := h0
  rw [hb] at h0
  replace hq0 := Lib.hid hq0
  clear hp
  replace hb := Lib.hid hb
  replace hne := Lib.hid hne
  have hpx2 : Go.Lib.hasPrefix s.data.toList [92, 120] = false := by rw [hpx]; exact beq_false_of_ne hx
  have hpu2 : Go.Lib.hasPrefix s.data.toList [92, 117] = false := by rw [hpu]; exact beq_false_of_ne hu0
  have hq : unq1 s.data.toList = none := by
    unfold unq1; rw [if_neg (not_not_intro hq0.out), if_neg h1, if_neg (fun e => hx e.1), if_neg hu0]
  clear hpx hpu
  replace hq := Lib.hid hq
  replace h1 := Lib.hid h1
  replace hx := Lib.hid hx
  replace hu0 := Lib.hid hu0
  go_enter Tryz.func138, Tryz.ntmps138
  go_wp2_with fail
  refine (Tryz.strings_HasPrefix _ _ _).mono ?_
  rintro e w1 ⟨rfl, hw1⟩
  obtain rfl := hw1.symm
  go_wp2_with fail
  refine (Tryz.strings_HasPrefix _ _ _).mono ?_
  rintro e w1 ⟨rfl, hw1⟩
  obtain rfl := hw1.symm
  go_wp2_with fail
  refine (Tryz.strings_HasPrefix _ _ _).mono ?_
  rintro e w1 ⟨rfl, hw1⟩
  obtain rfl := hw1.symm
  go_wp2_with fail
  go_ret2
  exact ⟨Fr.refl _ _, Or.inr ⟨hq.out, _, rfl⟩⟩

set_option maxRecDepth 100000 in
set_option maxHeartbeats 2000000 in
theorem unq1_u (B : Nat) (v : Value) (o : List UInt8) (s : ByteArray) (w : World) (hg : Gl w) (hown : w.ownsRow B 5 1 v o.length (o.map cellB)) (hne : s.data.toList ≠ []) (hs : s.size ≤ 1000000) (ho : o.length ≤ 10000000) (hB : B ≤ w.heap.size)
    (h0 : s.data.toList.getD 0 0 = 92) (h1 : s.data.toList.getD 1 0 ≠ 92) (hx : s.data.toList.getD 1 0 = 117) :
    Calls Tryz.prog 138 #[v, .string s] w (UqPost B v o s.data.toList w) := by
  obtain ⟨i0, hi, hz0, hz1, hz2⟩ := info_parts Tryz.infoByte
  have hsz : 0 < s.size := List.length_pos_iff.2 hne
  have hp := pre2 _ 92 hne h0 (by decide)
  have hpx := pre2 _ 120 hne h0 (by decide)
  have hpu := pre2 _ 117 hne h0 (by decide)
  have hp92 : Go.Lib.hasPrefix s.data.toList [92, 92] = false := by rw [hp]; exact beq_false_of_ne h1
  have hb : s.data.toList.getD 0 0 = s[0] := by
    simp [List.getD, size_len, hsz]
    rfl
  have hq0 := h0
  rw [hb] at h0
  replace hq0 := Lib.hid hq0
  clear hp
  replace hb := Lib.hid hb
  replace hne := Lib.hid hne
  have hpx2 : Go.Lib.hasPrefix s.data.toList [92, 120] = false := by rw [hpx, hx]; rfl
  have hpu2 : Go.Lib.hasPrefix s.data.toList [92, 117] = true := by rw [hpu, hx]; rfl
  have hidx := Tryz.strings_IndexByte s 46 w
  rw [show (46 : Int).toNat.toUInt8 = 46 from rfl] at hidx
  have hu : unq1 s.data.toList = match idxB 46 s.data.toList with | none => none | some e => (parse16 2147483647 ((s.data.toList.take e).drop 2)).map fun r => (encA r, e + 1) := by
    unfold unq1; rw [if_neg (not_not_intro hq0.out), if_neg h1, if_neg (by rw [hx]; exact fun e => absurd e.1 (by decide)), if_pos hx]
    cases idxB 46 s.data.toList <;> rfl
  clear hpx hpu
  replace h1 := Lib.hid h1
  cases hid : idxB 46 s.data.toList with
  | none =>
    rw [idx_none hid] at hidx
    rw [hid] at hu
    have hq : unq1 s.data.toList = none := hu
    replace hq := Lib.hid hq
    replace hx := Lib.hid hx
    replace hid := Lib.hid hid
    replace hidx := Lib.hid hidx
    clear hu
    go_enter Tryz.func138, Tryz.ntmps138
    go_wp2_with fail
    refine (Tryz.strings_HasPrefix _ _ _).mono ?_
    rintro e w1 ⟨rfl, hw1⟩
    obtain rfl := hw1.symm
    go_wp2_with fail
    refine (Tryz.strings_HasPrefix _ _ _).mono ?_
    rintro e w1 ⟨rfl, hw1⟩
    obtain rfl := hw1.symm
    go_wp2_with fail
    refine (Tryz.strings_HasPrefix _ _ _).mono ?_
    rintro e w1 ⟨rfl, hw1⟩
    obtain rfl := hw1.symm
    go_wp2_with fail
    refine hidx.out.mono ?_
    rintro e w1 ⟨rfl, hw1⟩
    obtain rfl := hw1.symm
    go_wp2_with fail
    go_ret2
    exact ⟨Fr.refl _ _, Or.inr ⟨hq.out, _, rfl⟩⟩
  | some k =>
    rw [idx_some hid] at hidx
    rw [hid] at hu
    obtain ⟨hk1, hk2⟩ := idxB_lt hid
    rw [size_len] at hk1
    have hk3 : 2 ≤ k := by
      rcases Nat.lt_or_ge k 2 with h | h
      · exfalso
        have : k = 0 ∨ k = 1 := by omega
        rcases this with rfl | rfl
        · rw [hq0.out] at hk2; exact absurd hk2 (by decide)
        · rw [hx] at hk2; exact absurd hk2 (by decide)
      · exact h
    have hex : (s.extract 2 k).data.toList = (s.data.toList.take k).drop 2 := by rw [ext_eq]; rfl
    have hexs : (s.extract 2 k).size ≤ 1000000000 := by rw [ext_eq, strB_size, List.length_drop, List.length_take]; omega
    have hpar := parse_31 (s.extract 2 k) hexs w hg
    rw [hex] at hpar
    replace hu := Lib.hid hu
    replace hx := Lib.hid hx
    replace hid := Lib.hid hid
    replace hidx := Lib.hid hidx
    replace hex := Lib.hid hex
    replace hexs := Lib.hid hexs
    replace hpar := Lib.hid hpar
    replace hk2 := Lib.hid hk2
    go_enter Tryz.func138, Tryz.ntmps138
    go_wp2_with fail
    refine (Tryz.strings_HasPrefix _ _ _).mono ?_
    rintro e w1 ⟨rfl, hw1⟩
    obtain rfl := hw1.symm
    go_wp2_with fail
    refine (Tryz.strings_HasPrefix _ _ _).mono ?_
    rintro e w1 ⟨rfl, hw1⟩
    obtain rfl := hw1.symm
    go_wp2_with fail
    refine (Tryz.strings_HasPrefix _ _ _).mono ?_
    rintro e w1 ⟨rfl, hw1⟩
    obtain rfl := hw1.symm
    go_wp2_with fail
    refine hidx.out.mono ?_
    rintro e w1 ⟨rfl, hw1⟩
    obtain rfl := hw1.symm
    clear hp92 hpx2 hpu2
    go_wp2_with fail
    refine hpar.out.mono ?_
    rintro e w2 ⟨hr, f2⟩
    clear hpar
    have own2 := ownsRow_fr hown f2 (fun q _ h => h)
    have f2v : Fr (rowB v) w w2 := f2.mono (fun _ _ h => h.elim)
    have hB2 : B ≤ w2.heap.size := by have := f2.size; omega
    rcases hr with ⟨n, hn, rfl⟩ | ⟨hn, x, N, rfl⟩
    · have hn255 := parse16_le hn
      have hq : unq1 s.data.toList = some (encA n, k + 1) := by rw [hu.out]; simp only [hn, Option.map_some]
      have hw32 : IntKind.i32.wrap (n : Int) = n := by rw [IntKind.wrap_i32]; omega
      have hrc := runeCells_enc n hn255
      have har := Tryz.utf8_AppendRune_plain B v o.length (o.map cellB) (n : Int) (by omega) (by omega) w2 own2 (by omega) hB2
      rw [hrc] at har
      replace hq := Lib.hid hq
      replace hn := Lib.hid hn
      replace hrc := Lib.hid hrc
      replace har := Lib.hid har
      clear hu
      go_wp2_with fail
      refine har.out.mono ?_
      rintro e w3 ⟨v3, rfl, o3, ob, gr3⟩
      have f3 : Fr (rowB v) w w3 := (f2v.alloc ob).grown gr3 (fun k hk _ => hk)
      have o4 := own_app (b := encA n) o3 (by simp)
      clear gr3 o3 har
      go_wp2_with fail
      go_ret2
      exact ⟨f3, Or.inl ⟨_, k + 1, v3, hq.out, rfl, o4⟩⟩
    · have hq : unq1 s.data.toList = none := by rw [hu.out]; simp only [hn, Option.map_none]
      replace hq := Lib.hid hq
      replace hn := Lib.hid hn
      clear hu
      go_wp2_with fail
      go_ret2
      exact ⟨f2v, Or.inr ⟨hq.out, _, rfl⟩⟩

theorem unq1_any (B : Nat) (v : Value) (o : List UInt8) (s : ByteArray) (w : World) (hg : Gl w) (hown : w.ownsRow B 5 1 v o.length (o.map cellB)) (hne : s.data.toList ≠ []) (hs : s.size ≤ 1000000) (ho : o.length ≤ 10000000) (hB : B ≤ w.heap.size) :
    Calls Tryz.prog 138 #[v, .string s] w (UqPost B v o s.data.toList w) := by
  by_cases h0 : s.data.toList.getD 0 0 = 92
  · by_cases h1 : s.data.toList.getD 1 0 = 92
    · exact unq1_slash B v o s w hown hne hs ho hB h0 h1
    · by_cases hx : s.data.toList.getD 1 0 = 120
      · by_cases h4 : 4 ≤ s.size
        · exact unq1_x B v o s w hg hown hne hs ho hB h0 h1 hx h4
        · exact unq1_xs B v o s w hg hown hne hs ho hB h0 h1 hx (by omega)
      · by_cases hu : s.data.toList.getD 1 0 = 117
        · exact unq1_u B v o s w hg hown hne hs ho hB h0 h1 hu
        · exact unq1_no B v o s w hg hown hne hs ho hB h0 h1 hx hu
  · exact unq1_plain B v o s w hown hne hs ho hB h0
end Go.Proofs.YtdmhnoffejjpnaaGreatDoor
end

section
set_option linter.unusedVariables false
set_option linter.unusedSimpArgs false
set_option maxRecDepth 100000
namespace Go.Proofs.YtdmhnoffejjpnaaGreatDoor
open Go.RowKit Go

theorem unqF_fuel {u : List UInt8 → Option (List UInt8 × Nat)} (hu : ∀ l n k, l ≠ [] → u l = some (n, k) → 1 ≤ k) : ∀ (f g : Nat) (out rest : List UInt8), rest.length ≤ f → rest.length ≤ g → unqF u f out rest = unqF u g out rest := by
  intro f
  induction f with
  | zero =>
    intro g out rest hf hg
    have : rest = [] := List.eq_nil_of_length_eq_zero (by omega)
    subst this
    cases g <;> simp [unqF]
  | succ f ih =>
    intro g out rest hf hg
    by_cases h0 : rest = []
    · subst h0
      cases g <;> simp [unqF]
    · have hp := List.length_pos_iff.2 h0
      cases g with
      | zero => omega
      | succ g =>
        simp only [unqF, if_neg h0]
        cases h : u rest with
        | none => rfl
        | some q =>
          obtain ⟨n, k⟩ := q
          have := hu _ _ _ h0 h
          simp only
          exact ih g _ _ (by rw [List.length_drop]; omega) (by rw [List.length_drop]; omega)
theorem unq1_pos (l n : List UInt8) (k : Nat) (h : l ≠ []) (e : unq1 l = some (n, k)) : 1 ≤ k := (unq1_bound h e).1
theorem runq1_pos (l n : List UInt8) (k : Nat) (h : l ≠ []) (e : runq1 l = some (n, k)) : 1 ≤ k := (runq1_bound h e).1

/-- one step on -/
theorem unqF_some {l n : List UInt8} {k : Nat} (o : List UInt8) (h : l ≠ []) (e : unq1 l = some (n, k)) : unqF unq1 l.length o l = unqF unq1 (l.drop k).length (o ++ n) (l.drop k) := by
  have hp := List.length_pos_iff.2 h
  have hk := unq1_pos l n k h e
  conv => lhs; rw [show l.length = (l.length - 1) + 1 by omega]
  simp only [unqF, if_neg h, e]
  exact unqF_fuel unq1_pos _ _ _ _ (by rw [List.length_drop]; omega) (Nat.le_refl _)
theorem unqF_none {l : List UInt8} (o : List UInt8) (h : l ≠ []) (e : unq1 l = none) : unqF unq1 l.length o l = none := by
  have hp := List.length_pos_iff.2 h
  conv => lhs; rw [show l.length = (l.length - 1) + 1 by omega]
  simp only [unqF, if_neg h, e]
theorem unqF_nil {u : List UInt8 → Option (List UInt8 × Nat)} (o : List UInt8) : unqF u 0 o [] = some o := by simp [unqF]

/-- what Unquote hands back -/
def unqL (l : List UInt8) : Option (List UInt8) := unqP unq1 l
def UnqPost (l : List UInt8) (e : Ending) : Prop :=
  (∃ t, unqL l = some t ∧ e = .returned (.tuple #[.string (strB t), .int .i64 0])) ∨ (unqL l = none ∧ e = .returned (.tuple #[.string (strB []), .int .i64 3]))

theorem toList_eq (s : ByteArray) : s.toList = s.data.toList := by
  have := Go.Lib.toList_data s
  exact this

set_option maxRecDepth 100000 in
set_option maxHeartbeats 2000000 in
theorem unquote_any (s : ByteArray) (w : World) (hg : Gl w) (hs : s.size ≤ 200000) :
    Calls Tryz.prog 121 #[.string s] w fun e w' => UnqPost s.data.toList e ∧ Fr noB w w' := by
  obtain ⟨i0, hi, hz0, hz1, hz2⟩ := info_parts Tryz.infoByte
  obtain ⟨w1, hmk, ho1, hg1⟩ := run_make_own (P := Tryz.prog) w w.heap.size 119 5 i0 (.int .u8 0) 1 Tryz.underlying119 hi hz0 hz1 .i64 .i64 s.size (by rw [hz2]; omega) (by unfold maxLen; omega) (Nat.le_refl _)
  have f1 : Fr noB w w1 := (Fr.refl noB w).grown hg1 (fun k hk => by cases hk)
  go_enter Tryz.func121, Tryz.ntmps121
  go_wp2_with fail
  go_loopw [4, 5, 6] (fun v vr _ wr => ∃ (r : ByteArray) (o : List UInt8), vr = .string r ∧ Fr noB w wr ∧ r.size ≤ s.size ∧ wr.ownsRow w.heap.size 5 1 v o.length (o.map cellB) ∧ o.length ≤ 4 * (s.size - r.size) ∧
      unqF unq1 s.data.toList.length [] s.data.toList = unqF unq1 r.data.toList.length o r.data.toList) (fun _ vr _ _ => match vr with | .string r => r.size | _ => 0)
  case atStart => exact ⟨s, [], rfl, f1, Nat.le_refl _, ho1, by simp, rfl⟩
  case round =>
    obtain ⟨r, o, rfl, fr, hrs, own, hol, hk⟩ := hrel
    by_cases h0 : r.size = 0
    · have hr : r = ⟨#[]⟩ := by
        apply ByteArray.ext
        exact Array.eq_empty_of_size_eq_zero h0
      subst hr
      have hk2 : unqF unq1 s.data.toList.length [] s.data.toList = some o := by rw [hk]; exact unqF_nil o
      have hcv := string_of_row (P := Tryz.prog) 119 9 5 Tryz.underlying119 Tryz.underlying5 Tryz.underlying9 own
      have hqt := quote_any (strB o) wr (hg.fr fr) (by rw [strB_size]; omega)
      rw [strB_list] at hqt
      have hul : unqL s.data.toList = if quoteL o = s.data.toList then some o else none := by
        unfold unqL unqP
        rw [hk2]
      replace hk2 := Lib.hid hk2
      replace hk := Lib.hid hk
      replace hqt := Lib.hid hqt
      clear hol
      go_wp2_with fail
      refine hqt.out.mono ?_
      rintro e w2 ⟨rfl, f2⟩
      have fr2 := fr.seqN f2
      have own2 := ownsRow_fr own f2 (fun q _ h => h)
      have hcv2 := string_of_row (P := Tryz.prog) 119 9 5 Tryz.underlying119 Tryz.underlying5 Tryz.underlying9 own2
      clear hqt hcv
      by_cases hE : quoteL o = s.data.toList
      · rw [if_pos hE] at hul
        have hb : ((strB (quoteL o)).toList == s.toList) = true := by rw [toList_eq, toList_eq, hE, strB_list]; simp
        have hb2 : ((strB (quoteL o)).toList != s.toList) = false := by simp [bne, hb]
        replace hul := Lib.hid hul
        replace hE := Lib.hid hE
        go_wp2_with fail
        go_ret2
        exact ⟨Or.inl ⟨o, hul.out, rfl⟩, fr2⟩
      · rw [if_neg hE] at hul
        have hb : ((strB (quoteL o)).toList == s.toList) = false := by rw [toList_eq, toList_eq, strB_list]; exact beq_false_of_ne hE
        have hb2 : ((strB (quoteL o)).toList != s.toList) = true := by simp [bne, hb]
        replace hul := Lib.hid hul
        replace hE := Lib.hid hE
        go_wp2_with fail
        go_ret2
        exact ⟨Or.inr ⟨hul.out, rfl⟩, fr2⟩
    · have hne : r.data.toList ≠ [] := fun e => h0 (by have := congrArg List.length e; rw [size_len] at this; exact this)
      have hq := unq1_any w.heap.size u4 o r wr (hg.fr fr) own hne (by omega) (by omega) fr.size
      have hemp : r.toList.isEmpty = false := by rw [toList_eq]; simpa using hne
      replace hq := Lib.hid hq
      replace hk := Lib.hid hk
      replace hne := Lib.hid hne
      go_wp2_with fail
      refine hq.out.mono ?_
      rintro e w2 ⟨f2, hr⟩
      have fr2 := fr.rowN own (Nat.le_refl _) f2
      clear hq
      rcases hr with ⟨nb, k, v', hu, rfl, o2⟩ | ⟨hu, v', rfl⟩
      · obtain ⟨hk1, hk2, hn1, hn2⟩ := unq1_bound hne.out hu
        rw [size_len] at hk2
        have hl : (r.extract k r.size).data.toList = r.data.toList.drop k := tail_eq r k
        have hz : (r.extract k r.size).size = r.size - k := by rw [← size_len, hl, List.length_drop, size_len]
        have hk3 : unqF unq1 s.data.toList.length [] s.data.toList = unqF unq1 (r.extract k r.size).data.toList.length (o ++ nb) (r.extract k r.size).data.toList := by
          rw [hk.out, unqF_some o hne.out hu, hl]
        have hol2 : (o ++ nb).length ≤ 4 * (s.size - (r.extract k r.size).size) := by rw [hz, List.length_append]; omega
        have hrs2 : (r.extract k r.size).size ≤ s.size := by omega
        have hb : ((k : Int) == 0) = false := by simp; omega
        replace hk3 := Lib.hid hk3
        replace hz := Lib.hid hz
        replace hl := Lib.hid hl
        replace hu := Lib.hid hu
        replace hol2 := Lib.hid hol2
        replace hrs2 := Lib.hid hrs2
        clear hk
        go_wp2_with fail
        go_roundw
        case rel => exact ⟨_, o ++ nb, rfl, fr2, hrs2.out, o2, hol2.out, hk3.out⟩
        case measure => simp only; rw [hz.out]; omega
      · have hul : unqL s.data.toList = none := by
          unfold unqL unqP
          rw [hk.out, unqF_none o hne.out hu]
        replace hul := Lib.hid hul
        replace hu := Lib.hid hu
        clear hk
        go_wp2_with fail
        go_ret2
        exact ⟨Or.inr ⟨hul.out, rfl⟩, fr2⟩
end Go.Proofs.YtdmhnoffejjpnaaGreatDoor
end

section
set_option linter.unusedVariables false
set_option linter.unusedSimpArgs false
set_option maxRecDepth 100000
namespace Go.Proofs.YtdmhnoffejjpnaaGreatDoor
open Go.RowKit Go Go.Lib

theorem strCells_eq (s : ByteArray) : strCells s = s.data.toList.map cellB := by
  unfold strCells cellB
  simp

/-- the package-level variables, all of them below B -/
structure GlB (B : Nat) (w : World) : Prop where
  gl : Gl w
  b1 : 0 < B
  b2 : 1 < B
  b3 : 5 < B
theorem Gl.low {w : World} (h : Gl w) : GlB w.heap.size w := by
  obtain ⟨⟨a, b, h1⟩, ⟨c, d, h2⟩, h3⟩ := h
  exact ⟨⟨⟨a, b, h1⟩, ⟨c, d, h2⟩, h3⟩, lt_of_cell h1, lt_of_cell h2, lt_of_cell h3⟩
theorem GlB.fr {B : Nat} {S : Nat → Prop} {w w' : World} (h : GlB B w) (f : Fr S w w') (hS : ∀ k, k < B → ¬ S k) : GlB B w' := by
  obtain ⟨⟨⟨a, b, h1⟩, ⟨c, d, h2⟩, h3⟩, b1, b2, b3⟩ := h
  exact ⟨⟨⟨a, b, f.cell h1 (hS _ b1)⟩, ⟨c, d, f.cell h2 (hS _ b2)⟩, f.cell h3 (hS _ b3)⟩, b1, b2, b3⟩
theorem GlB.frN {B : Nat} {w w' : World} (h : GlB B w) (f : Fr noB w w') : GlB B w' := h.fr f (fun _ _ q => q)
theorem GlB.frW {p B0 B : Nat} {w w' : World} (h : GlB B0 w) (f : Fr (wU p B w) w w') (hp : B0 ≤ p) (h0 : B0 ≤ B) : GlB B0 w' := h.fr f (fun k hk q => by
  rcases q with q | ⟨q, _⟩ <;> omega)

theorem Wr.frN {p B : Nat} {v : Value} {T : List UInt8} {w w' : World} (h : Wr w p v B T) (f : Fr noB w w') : Wr w' p v B T :=
  ⟨f.keepN h.1, ownsRow_fr h.2.1 f (fun q _ h => h), Nat.le_trans h.2.2 f.size⟩
theorem Fr.toN {S : Nat → Prop} {w w' : World} (f : Fr noB w w') : Fr S w w' := f.mono (fun _ _ q => False.elim q)
theorem wU_noB {p B : Nat} {w w1 w2 : World} (f : Fr (wU p B w) w w1) (g : Fr noB w1 w2) : Fr (wU p B w) w w2 := f.seqW g.toN

set_option maxHeartbeats 2000000 in
theorem wtext_any (p B0 B g : Nat) (v : Value) (T : List UInt8) (s : ByteArray) (w : World) (h : Wr w p v B T) (hg : GlB B0 w) (hp : B0 ≤ p) (h0 : B0 ≤ B) (hb : Blk w g 9 [.string s]) (hgp : g ≠ p) (hs : s.size ≤ 600000) (hT : T.length ≤ 50000000) :
    Calls Tryz.prog 133 #[.pointer (some ⟨p, 0, none⟩), .slice (some ⟨g, 0, none⟩) 1 1] w fun e w' => e = .returned (.tuple #[]) ∧ ∃ v', Wr w' p v' B (T ++ textL s.data.toList) ∧ Fr (wU p B w) w w' := by
  have hq0 := quote_len s.data.toList
  rw [size_len] at hq0
  have hqs : (strB (quoteL s.data.toList)).size ≤ 7200000 := by rw [strB_size]; omega
  have hcl := chunks_len (quoteL s.data.toList)
  have hlc : (chunks (quoteL s.data.toList)).length < 9223372036854775808 := by omega
  have hct : ∀ w, Calls Tryz.prog 122 #[.string (strB (quoteL s.data.toList))] w fun e w' => e = .returned (.int .i64 (chunks (quoteL s.data.toList)).length) ∧ Fr noB w w' := fun w => count_any (strB (quoteL s.data.toList)) w (by unfold maxLen; omega)
  have htx : textL s.data.toList = numL (chunks (quoteL s.data.toList)).length ++ quoteL s.data.toList := rfl
  obtain ⟨i0, hi, hz0, hz1, hz2⟩ := info_parts Tryz.infoByte
  have hqt := fun w (h : Gl w) => quote_any s w h (by omega)
  have hsl : (strB (quoteL s.data.toList)).data.toList = quoteL s.data.toList := strB_list _
  have hnl := num_len (chunks (quoteL s.data.toList)).length
  have hna : ∀ (v : Value) (w : World), w.ownsRow B 5 1 v T.length (T.map cellB) → B ≤ w.heap.size → _ := fun v w o hB => number_any B (chunks (quoteL s.data.toList)).length hlc v T w o (by omega) hB
  generalize (chunks (quoteL s.data.toList)).length = c at *
  have hql : (quoteL s.data.toList).length ≤ 7200000 := by omega
  generalize strB (quoteL s.data.toList) = Q at *
  obtain ⟨L, hL⟩ : ∃ L, L = T ++ numL c := ⟨_, rfl⟩
  rw [← hL] at hna
  have hLl : L.length ≤ 50000028 := by rw [hL, List.length_append]; omega
  have hfin : T ++ textL s.data.toList = L ++ Q.data.toList := by rw [htx, hL, hsl, List.append_assoc]
  rw [hfin]
  have hQl : Q.size ≤ 7200000 := hqs
  replace hqs := Lib.hid hqs
  replace hL := Lib.hid hL
  replace hfin := Lib.hid hfin
  replace htx := Lib.hid htx
  replace hct := Lib.hid hct
  replace hqt := Lib.hid hqt
  replace hna := Lib.hid hna
  replace hsl := Lib.hid hsl
  replace hLl := Lib.hid hLl
  replace hQl := Lib.hid hQl
  clear hq0 hcl hnl hT hql hs
  go_enter Tryz.func133, Tryz.ntmps133
  go_wp2_with fail
  go_loopw [11] (fun vi wr => ∃ (k : Nat) (v' : Value) (X : List UInt8), k ≤ 1 ∧ vi = .int .i64 k ∧ (k = 0 → X = T) ∧ (k = 1 → X = L ++ Q.data.toList) ∧ Wr wr p v' B X ∧ Fr (wU p B w) w wr) (fun i _ => 1 - (RowKit.intOf i).toNat)
  case atStart => exact ⟨0, v, T, Nat.zero_le _, rfl, fun _ => rfl, fun q => by omega, h, Fr.refl _ _⟩
  case round =>
    obtain ⟨k, v', X, hk, rfl, hX0, hX1, hw, fr⟩ := hrel
    have hgn : ¬ wU p B w g := hb.notW (by decide) hgp
    by_cases hlt : k = 0
    · subst hlt
      obtain rfl := hX0 rfl
      clear hX0 hX1
      have c1 : wr.cell? ⟨g, 0, none⟩ = some (.string s) := fr.cell (hb.cell 0) hgn
      have hg1 := hg.frW fr hp h0
      go_wp2_with fail
      refine (hqt.out _ hg1.gl).mono ?_
      rintro e w1 ⟨rfl, f1⟩
      have hw1 := hw.frN f1
      have fr1 := wU_noB fr f1
      have c2 : w1.cell? ⟨p, 0, none⟩ = some v' := hw1.1.cell 0
      clear c1 hw f1 fr
      go_upto_region 5 with fail
      go_region_law (first
        | (go_simp; go_at_call 122; refine (hct.out _).mono ?_; rintro e w2 ⟨rfl, f2d⟩; have f2 : Fr noB w1 w2 := ((Fr.refl noB w1).drew).seqN f2d; have hw2 := hw1.frN f2; have fr2 := wU_noB fr1 f2; have c3 : w2.cell? ⟨p, 0, none⟩ = some v' := hw2.1.cell 0)
        | (go_simp; go_at_call 144; refine (hna.out v' _ hw2.2.1 hw2.2.2).mono ?_; rintro e w3 ⟨v3, rfl, o3, f3⟩; have b3 : Blk w3 p 202 [v'] := f3.blk hw2.1 (hw2.1.notU (by decide)); have fz3 := b3.frozen 0; have c4 : w3.cell? ⟨p, 0, none⟩ = some v' := b3.cell 0; have pw3 := Lib.hid (hw2.put o3 f3); obtain ⟨a3, k3, hv3⟩ := ownsRow_slice o3; rw [hv3] at pw3; rw [hv3])
        | fail)
      all_goals (
        obtain ⟨hw4, f4⟩ := pw3.out
        have fr4 := fr2.seqW f4
        clear pw3 f4 fr2 hw2 c3 c4 fz3 b3 o3 f3 fr1 hw1 c2
        generalize w3.setCell ⟨p, 0, none⟩ _ = w4 at *
        have c5 : w4.cell? ⟨p, 0, none⟩ = some (.slice a3 L.length k3) := hw4.1.cell 0
        have o4 := hw4.2.1
        go_wp2_with (first
          | (at_builtin; go_must (refine wpList_append_own_string _ rfl (.tmp 31) (.tmp 32) 119 9 rfl B 5 i0 Tryz.underlying119 Tryz.underlying9 hi hz0 hz1 hz2 _ L.length _ rfl o4 Q rfl ?_ ?_ ?_ ?_))
          | fail)
        · have := hLl.out; have := hQl.out; unfold maxLen; omega
        · have := hLl.out; have := hQl.out; omega
        · exact hw4.2.2
        intro v5 w5 o5 gr5 _
        rw [strCells_eq, ← List.map_append] at o5
        have hlen : (L ++ Q.data.toList).length = L.length + Q.size := by rw [List.length_append]; rfl
        rw [← hlen] at o5
        have f5 : Fr (uB B w4) w4 w5 := Fr.ofRow ((Fr.refl (rowB _) w4).grown gr5 (fun k hk _ => hk)) o4
        obtain ⟨R, hR⟩ : ∃ R, R = L ++ Q.data.toList := ⟨_, rfl⟩
        rw [← hR] at o5 hlen
        replace hR := Lib.hid hR
        replace hlen := Lib.hid hlen
        have b5 : Blk w5 p 202 [.slice a3 L.length k3] := f5.blk hw4.1 (hw4.1.notU (by decide))
        have fz5 := b5.frozen 0
        have c6 : w5.cell? ⟨p, 0, none⟩ = some (.slice a3 L.length k3) := b5.cell 0
        obtain ⟨hw6, f6⟩ := hw4.put o5 f5
        have fr6 := fr4.seqW f6
        obtain ⟨a5, k5, hv5⟩ := ownsRow_slice o5
        rw [hv5] at hw6 fr6
        rw [hv5]
        clear o4 c5 hw4 b5 f5 f6 gr5 o5 fr4
        go_wp2_with fail
        go_roundw
        case rel => exact ⟨1, _, R, Nat.le_refl _, rfl, fun q => by omega, fun _ => hR.out, hw6, fr6⟩
        case measure => simp [RowKit.intOf])
    · obtain rfl : k = 1 := by omega
      obtain rfl := hX1 rfl
      go_wp2_with fail
      go_end0
      exact ⟨rfl, ⟨v', hw⟩, fr⟩

theorem wtext_nil (u : Value) (w : World) : Calls Tryz.prog 133 #[.pointer none, u] w fun e w' => e = .returned (.tuple #[]) ∧ w' = w := by
  go_enter Tryz.func133, Tryz.ntmps133
  go_wp2
  refine bodyPost_ret (results_none (fn := Tryz.f133) rfl _ _ _) rfl ?_
  exact ⟨rfl, rfl⟩
theorem wint_nil (u : Value) (w : World) : Calls Tryz.prog 132 #[.pointer none, u] w fun e w' => e = .returned (.tuple #[]) ∧ w' = w := by
  go_enter Tryz.func132, Tryz.ntmps132
  go_wp2
  refine bodyPost_ret (results_none (fn := Tryz.f132) rfl _ _ _) rfl ?_
  exact ⟨rfl, rfl⟩
theorem wstr_nil (w : World) : Calls Tryz.prog 135 #[.pointer none] w fun e w' => e = .returned (.string (strB [])) ∧ w' = w := by
  go_enter Tryz.func135, Tryz.ntmps135
  go_wp2_with fail
  go_ret
  exact ⟨rfl, rfl⟩
theorem wstr_any (p B : Nat) (v : Value) (T : List UInt8) (w : World) (h : Wr w p v B T) :
    Calls Tryz.prog 135 #[.pointer (some ⟨p, 0, none⟩)] w fun e w' => e = .returned (.string (strB T)) ∧ w' = w := by
  have hcv := string_of_row (P := Tryz.prog) 119 9 5 Tryz.underlying119 Tryz.underlying5 Tryz.underlying9 h.2.1
  have c0 : w.cell? ⟨p, 0, none⟩ = some v := h.1.cell 0
  obtain ⟨a, k, rfl⟩ := ownsRow_slice h.2.1
  generalize T.length = n at *
  go_enter Tryz.func135, Tryz.ntmps135
  go_wp2_with fail
  go_ret
  exact ⟨rfl, rfl⟩

/-- A reader at p: what is left; none: something was wrong. -/
def Rd (w : World) (p : Nat) (st : Option (List UInt8)) : Prop :=
  ∃ (s : ByteArray) (b : Bool), Blk w p 185 [.string s, .bool b] ∧ s.size ≤ 200000 ∧ (st = none ∧ b = true ∨ b = false ∧ st = some s.data.toList)
theorem Rd.fr {S : Nat → Prop} {w w' : World} {p : Nat} {st : Option (List UInt8)} (h : Rd w p st) (f : Fr S w w') (hn : ¬ S p) : Rd w' p st := by
  obtain ⟨s, b, h1, h2⟩ := h
  exact ⟨s, b, f.blk h1 hn, h2⟩
theorem newr_any (s : ByteArray) (w : World) : Calls Tryz.prog 97 #[.string s] w fun e w' => e = .returned (.pointer (some ⟨w.heap.size, 0, none⟩)) ∧ w' = w.alloc (.cells [Value.string s, .bool false].toArray 185) := by
  go_enter Tryz.func97, Tryz.ntmps97
  go_wp2_with fail
  go_ret
  exact ⟨rfl, rfl⟩
theorem rd_new (s : ByteArray) (w : World) (hs : s.size ≤ 200000) : Rd (w.alloc (.cells [Value.string s, .bool false].toArray 185)) w.heap.size (some s.data.toList) :=
  ⟨s, false, Blk.new _ _ _, hs, Or.inr ⟨rfl, rfl⟩⟩
theorem rok_nil (w : World) : Calls Tryz.prog 119 #[.pointer none] w fun e w' => e = .returned (.bool false) ∧ w' = w := by
  go_enter Tryz.func119, Tryz.ntmps119
  go_wp2_with fail
  go_ret
  exact ⟨rfl, rfl⟩
theorem rok_any (p : Nat) (st : Option (List UInt8)) (w : World) (h : Rd w p st) : Calls Tryz.prog 119 #[.pointer (some ⟨p, 0, none⟩)] w fun e w' => e = .returned (.bool st.isSome) ∧ w' = w := by
  obtain ⟨s, b, h1, h2, h3⟩ := h
  have c1 : w.cell? ⟨p, 1, none⟩ = some (.bool b) := h1.cell 1
  rcases h3 with ⟨rfl, rfl⟩ | ⟨rfl, rfl⟩
  all_goals (
    go_enter Tryz.func119, Tryz.ntmps119
    go_wp2_with fail
    go_ret
    exact ⟨rfl, rfl⟩)
theorem rdone_nil (w : World) : Calls Tryz.prog 102 #[.pointer none] w fun e w' => e = .returned (.bool false) ∧ w' = w := by
  go_enter Tryz.func102, Tryz.ntmps102
  go_wp2_with fail
  refine (rok_nil _).mono ?_
  rintro e w1 ⟨rfl, hw⟩
  obtain rfl := hw.symm
  go_wp2_with fail
  go_ret
  exact ⟨rfl, rfl⟩
theorem rdone_any (p : Nat) (st : Option (List UInt8)) (w : World) (h : Rd w p st) : Calls Tryz.prog 102 #[.pointer (some ⟨p, 0, none⟩)] w fun e w' => e = .returned (.bool (decide (st = some []))) ∧ w' = w := by
  have hok := rok_any p st w h
  obtain ⟨s, b, h1, h2, h3⟩ := h
  have c0 : w.cell? ⟨p, 0, none⟩ = some (.string s) := h1.cell 0
  have hemp : s.toList.isEmpty = decide (s.data.toList = []) := by
    rw [toList_eq, Bool.eq_iff_iff]
    simp
  rcases h3 with ⟨rfl, rfl⟩ | ⟨rfl, rfl⟩
  · go_enter Tryz.func102, Tryz.ntmps102
    go_wp2_with fail
    refine hok.mono ?_
    rintro e w1 ⟨rfl, hw⟩
    obtain rfl := hw.symm
    go_wp2_with fail
    go_ret
    exact ⟨rfl, rfl⟩
  · have hr : ∀ b, decide (s.data.toList = []) = b → decide (some s.data.toList = some ([] : List UInt8)) = b := fun b h => by rw [← h]; simp
    cases hx : decide (s.data.toList = []) with
    | true =>
      rw [hx] at hemp
      have hr1 := Lib.hid (hr _ hx)
      clear hx hr
      go_enter Tryz.func102, Tryz.ntmps102
      go_wp2_with fail
      refine hok.mono ?_
      rintro e w1 ⟨rfl, hw⟩
      obtain rfl := hw.symm
      go_wp2_with fail
      go_ret
      exact ⟨ret_bool (by rw [hr1.out]), rfl⟩
    | false =>
      rw [hx] at hemp
      have hr1 := Lib.hid (hr _ hx)
      clear hx hr
      go_enter Tryz.func102, Tryz.ntmps102
      go_wp2_with fail
      refine hok.mono ?_
      rintro e w1 ⟨rfl, hw⟩
      obtain rfl := hw.symm
      go_wp2_with fail
      go_ret
      exact ⟨ret_bool (by rw [hr1.out]), rfl⟩
end Go.Proofs.YtdmhnoffejjpnaaGreatDoor
end
