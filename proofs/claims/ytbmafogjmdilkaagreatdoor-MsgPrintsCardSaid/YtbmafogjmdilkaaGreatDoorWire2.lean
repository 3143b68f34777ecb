/-
  wire: the writer's Text and String; the reader's calls.
-/
import Derived.Test.YtbmafogjmdilkaaGreatDoorWire
import Derived.Test.YtbmafogjmdilkaaGreatDoorUnquote
import Derived.Lib.AppendStr
set_option linter.unusedVariables false
set_option linter.unusedSimpArgs false
set_option maxRecDepth 100000
namespace Go.Proofs.YtbmafogjmdilkaaGreatDoor
open Go.RowKit Go Go.Lib

theorem strCells_eq (s : ByteArray) : strCells s = s.data.toList.map cellB := by
  unfold strCells cellB
  simp

/-- the package-level variables, all of them below B -/
structure GlB (B : Nat) (w : World) : Prop where
  gl : Gl w
  b1 : 1 < B
  b2 : 2 < B
  b3 : 5 < B
theorem Gl.low {w : World} (h : Gl w) : GlB w.heap.size w := by
  obtain ⟨⟨a, b, h1⟩, ⟨c, d, h2⟩, h3⟩ := h
  exact ⟨⟨⟨a, b, h1⟩, ⟨c, d, h2⟩, h3⟩, lt_of_cell h1, lt_of_cell h2, lt_of_cell h3⟩
theorem GlB.fr {B : Nat} {S : Nat → Prop} {w w' : World} (h : GlB B w) (f : Fr S w w') (hS : ∀ k, k < B → ¬ S k) : GlB B w' := by
  obtain ⟨⟨⟨a, b, h1⟩, ⟨c, d, h2⟩, h3⟩, b1, b2, b3⟩ := h
  exact ⟨⟨⟨a, b, f.cell h1 (hS _ b1)⟩, ⟨c, d, f.cell h2 (hS _ b2)⟩, f.cell h3 (hS _ b3)⟩, b1, b2, b3⟩
theorem GlB.frN {B : Nat} {w w' : World} (h : GlB B w) (f : Fr noB w w') : GlB B w' := h.fr f (fun _ _ q => q)
theorem GlB.frW {p B0 B : Nat} {w w' : World} (h : GlB B0 w) (f : Fr (wU p B w) w w') (hp : B0 ≤ p) (h0 : B0 ≤ B) : GlB B0 w' := h.fr f (fun k hk q => by
  rcases q with q | ⟨q, _⟩ <;> omega)

theorem Wr.frN {p B : Nat} {v : Value} {T : List UInt8} {w w' : World} (h : Wr w p v B T) (f : Fr noB w w') : Wr w' p v B T :=
  ⟨f.keepN h.1, ownsRow_fr h.2.1 f (fun q _ h => h), Nat.le_trans h.2.2 f.size⟩
theorem Fr.toN {S : Nat → Prop} {w w' : World} (f : Fr noB w w') : Fr S w w' := f.mono (fun _ _ q => False.elim q)
theorem wU_noB {p B : Nat} {w w1 w2 : World} (f : Fr (wU p B w) w w1) (g : Fr noB w1 w2) : Fr (wU p B w) w w2 := f.seqW g.toN

set_option maxHeartbeats 2000000 in
theorem wtext_any (p B0 B g : Nat) (v : Value) (T : List UInt8) (s : ByteArray) (w : World) (h : Wr w p v B T) (hg : GlB B0 w) (hp : B0 ≤ p) (h0 : B0 ≤ B) (hb : Blk w g 9 [.string s]) (hgp : g ≠ p) (hs : s.size ≤ 100000) (hT : T.length ≤ 10000000) :
    Calls Tryz.prog 53 #[.pointer (some ⟨p, 0, none⟩), .slice (some ⟨g, 0, none⟩) 1 1] w fun e w' => e = .returned (.tuple #[]) ∧ ∃ v', Wr w' p v' B (T ++ textL s.data.toList) ∧ Fr (wU p B w) w w' := by
  have hq0 := quote_len s.data.toList
  rw [size_len] at hq0
  have hqs : (strB (quoteL s.data.toList)).size ≤ 1200000 := by rw [strB_size]; omega
  have hcl := chunks_len (quoteL s.data.toList)
  have hlc : (chunks (quoteL s.data.toList)).length < 9223372036854775808 := by omega
  have hct : ∀ w, Calls Tryz.prog 70 #[.string (strB (quoteL s.data.toList))] w fun e w' => e = .returned (.int .i64 (chunks (quoteL s.data.toList)).length) ∧ Fr noB w w' := fun w => count_any (strB (quoteL s.data.toList)) w (by unfold maxLen; omega)
  have htx : textL s.data.toList = numL (chunks (quoteL s.data.toList)).length ++ quoteL s.data.toList := rfl
  obtain ⟨i0, hi, hz0, hz1, hz2⟩ := info_parts Tryz.infoByte
  have hqt := fun w (h : Gl w) => quote_any s w h (by omega)
  have hsl : (strB (quoteL s.data.toList)).data.toList = quoteL s.data.toList := strB_list _
  have hnl := num_len (chunks (quoteL s.data.toList)).length
  have hna : ∀ (v : Value) (w : World), w.ownsRow B 5 1 v T.length (T.map cellB) → B ≤ w.heap.size → _ := fun v w o hB => number_any B (chunks (quoteL s.data.toList)).length hlc v T w o (by omega) hB
  generalize (chunks (quoteL s.data.toList)).length = c at *
  have hql : (quoteL s.data.toList).length ≤ 1200000 := by omega
  generalize strB (quoteL s.data.toList) = Q at *
  obtain ⟨L, hL⟩ : ∃ L, L = T ++ numL c := ⟨_, rfl⟩
  rw [← hL] at hna
  have hLl : L.length ≤ 10000028 := by rw [hL, List.length_append]; omega
  have hfin : T ++ textL s.data.toList = L ++ Q.data.toList := by rw [htx, hL, hsl, List.append_assoc]
  rw [hfin]
  have hQl : Q.size ≤ 1200000 := hqs
  replace hqs := Lib.hid hqs
  replace hL := Lib.hid hL
  replace hfin := Lib.hid hfin
  replace htx := Lib.hid htx
  replace hct := Lib.hid hct
  replace hqt := Lib.hid hqt
  replace hna := Lib.hid hna
  replace hsl := Lib.hid hsl
  replace hLl := Lib.hid hLl
  replace hQl := Lib.hid hQl
  clear hq0 hcl hnl hT hql hs
  go_enter Tryz.func53, Tryz.ntmps53
  go_wp2_with fail
  go_loopw [11] (fun vi wr => ∃ (k : Nat) (v' : Value) (X : List UInt8), k ≤ 1 ∧ vi = .int .i64 k ∧ (k = 0 → X = T) ∧ (k = 1 → X = L ++ Q.data.toList) ∧ Wr wr p v' B X ∧ Fr (wU p B w) w wr) (fun i _ => 1 - (RowKit.intOf i).toNat)
  case atStart => exact ⟨0, v, T, Nat.zero_le _, rfl, fun _ => rfl, fun q => by omega, h, Fr.refl _ _⟩
  case round =>
    obtain ⟨k, v', X, hk, rfl, hX0, hX1, hw, fr⟩ := hrel
    have hgn : ¬ wU p B w g := hb.notW (by decide) hgp
    by_cases hlt : k = 0
    · subst hlt
      obtain rfl := hX0 rfl
      clear hX0 hX1
      have c1 : wr.cell? ⟨g, 0, none⟩ = some (.string s) := fr.cell (hb.cell 0) hgn
      have hg1 := hg.frW fr hp h0
      go_wp2_with fail
      refine (hqt.out _ hg1.gl).mono ?_
      rintro e w1 ⟨rfl, f1⟩
      have hw1 := hw.frN f1
      have fr1 := wU_noB fr f1
      have c2 : w1.cell? ⟨p, 0, none⟩ = some v' := hw1.1.cell 0
      clear c1 hw f1 fr
      go_upto_region 5 with fail
      go_region_law (first
        | (go_simp; go_at_call 70; refine (hct.out _).mono ?_; rintro e w2 ⟨rfl, f2d⟩; have f2 : Fr noB w1 w2 := ((Fr.refl noB w1).drew).seqN f2d; have hw2 := hw1.frN f2; have fr2 := wU_noB fr1 f2; have c3 : w2.cell? ⟨p, 0, none⟩ = some v' := hw2.1.cell 0)
        | (go_simp; go_at_call 51; refine (hna.out v' _ hw2.2.1 hw2.2.2).mono ?_; rintro e w3 ⟨v3, rfl, o3, f3⟩; have b3 : Blk w3 p 75 [v'] := f3.blk hw2.1 (hw2.1.notU (by decide)); have fz3 := b3.frozen 0; have c4 : w3.cell? ⟨p, 0, none⟩ = some v' := b3.cell 0; have pw3 := Lib.hid (hw2.put o3 f3); obtain ⟨a3, k3, hv3⟩ := ownsRow_slice o3; rw [hv3] at pw3; rw [hv3])
        | fail)
      all_goals (
        obtain ⟨hw4, f4⟩ := pw3.out
        have fr4 := fr2.seqW f4
        clear pw3 f4 fr2 hw2 c3 c4 fz3 b3 o3 f3 fr1 hw1 c2
        generalize w3.setCell ⟨p, 0, none⟩ _ = w4 at *
        have c5 : w4.cell? ⟨p, 0, none⟩ = some (.slice a3 L.length k3) := hw4.1.cell 0
        have o4 := hw4.2.1
        go_wp2_with (first
          | (at_builtin; go_must (refine wpList_append_own_string _ rfl (.tmp 31) (.tmp 32) 73 9 rfl B 5 i0 Tryz.underlying73 Tryz.underlying9 hi hz0 hz1 hz2 _ L.length _ rfl o4 Q rfl ?_ ?_ ?_ ?_))
          | fail)
        · have := hLl.out; have := hQl.out; unfold maxLen; omega
        · have := hLl.out; have := hQl.out; omega
        · exact hw4.2.2
        intro v5 w5 o5 gr5 _
        rw [strCells_eq, ← List.map_append] at o5
        have hlen : (L ++ Q.data.toList).length = L.length + Q.size := by rw [List.length_append]; rfl
        rw [← hlen] at o5
        have f5 : Fr (uB B w4) w4 w5 := Fr.ofRow ((Fr.refl (rowB _) w4).grown gr5 (fun k hk _ => hk)) o4
        obtain ⟨R, hR⟩ : ∃ R, R = L ++ Q.data.toList := ⟨_, rfl⟩
        rw [← hR] at o5 hlen
        replace hR := Lib.hid hR
        replace hlen := Lib.hid hlen
        have b5 : Blk w5 p 75 [.slice a3 L.length k3] := f5.blk hw4.1 (hw4.1.notU (by decide))
        have fz5 := b5.frozen 0
        have c6 : w5.cell? ⟨p, 0, none⟩ = some (.slice a3 L.length k3) := b5.cell 0
        obtain ⟨hw6, f6⟩ := hw4.put o5 f5
        have fr6 := fr4.seqW f6
        obtain ⟨a5, k5, hv5⟩ := ownsRow_slice o5
        rw [hv5] at hw6 fr6
        rw [hv5]
        clear o4 c5 hw4 b5 f5 f6 gr5 o5 fr4
        go_wp2_with fail
        go_roundw
        case rel => exact ⟨1, _, R, Nat.le_refl _, rfl, fun q => by omega, fun _ => hR.out, hw6, fr6⟩
        case measure => simp [RowKit.intOf])
    · obtain rfl : k = 1 := by omega
      obtain rfl := hX1 rfl
      go_wp2_with fail
      go_end0
      exact ⟨rfl, ⟨v', hw⟩, fr⟩

theorem wtext_nil (u : Value) (w : World) : Calls Tryz.prog 53 #[.pointer none, u] w fun e w' => e = .returned (.tuple #[]) ∧ w' = w := by
  go_enter Tryz.func53, Tryz.ntmps53
  go_wp2
  refine bodyPost_ret (results_none (fn := Tryz.f53) rfl _ _ _) rfl ?_
  exact ⟨rfl, rfl⟩
theorem wint_nil (u : Value) (w : World) : Calls Tryz.prog 22 #[.pointer none, u] w fun e w' => e = .returned (.tuple #[]) ∧ w' = w := by
  go_enter Tryz.func22, Tryz.ntmps22
  go_wp2
  refine bodyPost_ret (results_none (fn := Tryz.f22) rfl _ _ _) rfl ?_
  exact ⟨rfl, rfl⟩
theorem wstr_nil (w : World) : Calls Tryz.prog 24 #[.pointer none] w fun e w' => e = .returned (.string (strB [])) ∧ w' = w := by
  go_enter Tryz.func24, Tryz.ntmps24
  go_wp2_with fail
  go_ret
  exact ⟨rfl, rfl⟩
theorem wstr_any (p B : Nat) (v : Value) (T : List UInt8) (w : World) (h : Wr w p v B T) :
    Calls Tryz.prog 24 #[.pointer (some ⟨p, 0, none⟩)] w fun e w' => e = .returned (.string (strB T)) ∧ w' = w := by
  have hcv := string_of_row (P := Tryz.prog) 73 9 5 Tryz.underlying73 Tryz.underlying5 Tryz.underlying9 h.2.1
  have c0 : w.cell? ⟨p, 0, none⟩ = some v := h.1.cell 0
  obtain ⟨a, k, rfl⟩ := ownsRow_slice h.2.1
  generalize T.length = n at *
  go_enter Tryz.func24, Tryz.ntmps24
  go_wp2_with fail
  go_ret
  exact ⟨rfl, rfl⟩

/-- A reader at p: what is left; none: something was wrong. -/
def Rd (w : World) (p : Nat) (st : Option (List UInt8)) : Prop :=
  ∃ (s : ByteArray) (b : Bool), Blk w p 105 [.string s, .bool b] ∧ s.size ≤ 200000 ∧ (st = none ∧ b = true ∨ b = false ∧ st = some s.data.toList)
theorem Rd.fr {S : Nat → Prop} {w w' : World} {p : Nat} {st : Option (List UInt8)} (h : Rd w p st) (f : Fr S w w') (hn : ¬ S p) : Rd w' p st := by
  obtain ⟨s, b, h1, h2⟩ := h
  exact ⟨s, b, f.blk h1 hn, h2⟩
theorem newr_any (s : ByteArray) (w : World) : Calls Tryz.prog 31 #[.string s] w fun e w' => e = .returned (.pointer (some ⟨w.heap.size, 0, none⟩)) ∧ w' = w.alloc (.cells [Value.string s, .bool false].toArray 105) := by
  go_enter Tryz.func31, Tryz.ntmps31
  go_wp2_with fail
  go_ret
  exact ⟨rfl, rfl⟩
theorem rd_new (s : ByteArray) (w : World) (hs : s.size ≤ 200000) : Rd (w.alloc (.cells [Value.string s, .bool false].toArray 105)) w.heap.size (some s.data.toList) :=
  ⟨s, false, Blk.new _ _ _, hs, Or.inr ⟨rfl, rfl⟩⟩
theorem rok_nil (w : World) : Calls Tryz.prog 60 #[.pointer none] w fun e w' => e = .returned (.bool false) ∧ w' = w := by
  go_enter Tryz.func60, Tryz.ntmps60
  go_wp2_with fail
  go_ret
  exact ⟨rfl, rfl⟩
theorem rok_any (p : Nat) (st : Option (List UInt8)) (w : World) (h : Rd w p st) : Calls Tryz.prog 60 #[.pointer (some ⟨p, 0, none⟩)] w fun e w' => e = .returned (.bool st.isSome) ∧ w' = w := by
  obtain ⟨s, b, h1, h2, h3⟩ := h
  have c1 : w.cell? ⟨p, 1, none⟩ = some (.bool b) := h1.cell 1
  rcases h3 with ⟨rfl, rfl⟩ | ⟨rfl, rfl⟩
  all_goals (
    go_enter Tryz.func60, Tryz.ntmps60
    go_wp2_with fail
    go_ret
    exact ⟨rfl, rfl⟩)
theorem rdone_nil (w : World) : Calls Tryz.prog 34 #[.pointer none] w fun e w' => e = .returned (.bool false) ∧ w' = w := by
  go_enter Tryz.func34, Tryz.ntmps34
  go_wp2_with fail
  refine (rok_nil _).mono ?_
  rintro e w1 ⟨rfl, hw⟩
  obtain rfl := hw.symm
  go_wp2_with fail
  go_ret
  exact ⟨rfl, rfl⟩
theorem rdone_any (p : Nat) (st : Option (List UInt8)) (w : World) (h : Rd w p st) : Calls Tryz.prog 34 #[.pointer (some ⟨p, 0, none⟩)] w fun e w' => e = .returned (.bool (decide (st = some []))) ∧ w' = w := by
  have hok := rok_any p st w h
  obtain ⟨s, b, h1, h2, h3⟩ := h
  have c0 : w.cell? ⟨p, 0, none⟩ = some (.string s) := h1.cell 0
  have hemp : s.toList.isEmpty = decide (s.data.toList = []) := by
    rw [toList_eq, Bool.eq_iff_iff]
    simp
  rcases h3 with ⟨rfl, rfl⟩ | ⟨rfl, rfl⟩
  · go_enter Tryz.func34, Tryz.ntmps34
    go_wp2_with fail
    refine hok.mono ?_
    rintro e w1 ⟨rfl, hw⟩
    obtain rfl := hw.symm
    go_wp2_with fail
    go_ret
    exact ⟨rfl, rfl⟩
  · have hr : ∀ b, decide (s.data.toList = []) = b → decide (some s.data.toList = some ([] : List UInt8)) = b := fun b h => by rw [← h]; simp
    cases hx : decide (s.data.toList = []) with
    | true =>
      rw [hx] at hemp
      have hr1 := Lib.hid (hr _ hx)
      clear hx hr
      go_enter Tryz.func34, Tryz.ntmps34
      go_wp2_with fail
      refine hok.mono ?_
      rintro e w1 ⟨rfl, hw⟩
      obtain rfl := hw.symm
      go_wp2_with fail
      go_ret
      exact ⟨ret_bool (by rw [hr1.out]), rfl⟩
    | false =>
      rw [hx] at hemp
      have hr1 := Lib.hid (hr _ hx)
      clear hx hr
      go_enter Tryz.func34, Tryz.ntmps34
      go_wp2_with fail
      refine hok.mono ?_
      rintro e w1 ⟨rfl, hw⟩
      obtain rfl := hw.symm
      go_wp2_with fail
      go_ret
      exact ⟨ret_bool (by rw [hr1.out]), rfl⟩
end Go.Proofs.YtbmafogjmdilkaaGreatDoor
