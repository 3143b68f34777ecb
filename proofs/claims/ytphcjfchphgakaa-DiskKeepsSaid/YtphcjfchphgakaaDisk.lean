/-
  The disk's calls, each by what it does to its bytes and to how many of them are kept.
-/
import Derived.Test.YtphcjfchphgakaaBytes
import Derived.Lib.AppendStr
import Derived.BigRegion
import Derived.Deep.DeepMust
set_option linter.unusedVariables false
set_option linter.unusedSimpArgs false
namespace Go.Proofs.Ytphcjfchphgakaa
open Go.RowKit Go Go.Lib

/-- A disk at block g: its bytes, in a row of blocks from B on, and how many of them are kept. -/
def Dk (w : World) (g B : Nat) (bs : List UInt8) (kept : Nat) : Prop :=
  ∃ a c, Blk w g 41 [.slice a bs.length c, .int .i64 kept] ∧ w.ownsRow B 5 1 (.slice a bs.length c) bs.length (bs.map cellB) ∧ g < B ∧ B ≤ w.heap.size ∧ kept ≤ bs.length ∧ bs.length ≤ 65536
/-- what a disk's calls may write: its own block, and its row's -/
def touched (w : World) (g : Nat) : Nat → Prop := fun k => k = g ∨ ∃ a n c x, Blk w g 41 [.slice (some a) n c, x] ∧ a.block = k
theorem touched_g (w : World) (g : Nat) : touched w g g := Or.inl rfl
theorem Dk.touch {w : World} {g B : Nat} {bs : List UInt8} {kept : Nat} (h : Dk w g B bs kept) {k : Nat} (ht : touched w g k) : k = g ∨ (B ≤ k ∧ k < w.heap.size) := by
  obtain ⟨a, c, hb, ho, _⟩ := h
  rcases ht with ht | ⟨a', n', c', x', hb', rfl⟩
  · exact Or.inl ht
  · unfold Blk at hb hb'
    rw [hb] at hb'
    simp only [Option.some.injEq, Obj.cells.injEq, List.toArray_inj, List.cons.injEq, Value.slice.injEq, and_true] at hb'
    obtain ⟨⟨rfl, _⟩, _⟩ := hb'
    exact Or.inr (ho.lt _ rfl)
theorem touched_alloc {w : World} {o : Obj} {g k : Nat} (h : touched (w.alloc o) g k) (hg : g < w.heap.size) : touched w g k := by
  rcases h with h | ⟨a, n, c, x, hb, hk⟩
  · exact Or.inl h
  · refine Or.inr ⟨a, n, c, x, ?_, hk⟩
    unfold Blk at *
    rwa [Below.heap_alloc w o g hg] at hb

theorem own_take {w : World} {B e n : Nat} {a : Option Addr} {c m : Nat} {bs : List UInt8} (h : w.ownsRow B e 1 (.slice a n c) n (bs.map cellB)) (hm : m ≤ n) : w.ownsRow B e 1 (.slice a m c) m ((bs.take m).map cellB) := by
  have hl : bs.length = n := by have := h.1; simpa using this
  refine ⟨by simp; omega, ?_⟩
  rcases h.2 with ⟨h1, h2⟩ | ⟨g, cap, cur, h1, h2, h3, h4, h5, h6, h7⟩
  · cases h1
    obtain rfl : m = 0 := by omega
    exact Or.inl ⟨rfl, rfl⟩
  · cases h1
    refine Or.inr ⟨g, c, cur, rfl, h2, h3, by omega, h5, h6, ?_⟩
    rw [List.map_take, ← h7, List.take_take]
    congr 1
    omega

theorem strCells_eq (s : ByteArray) : strCells s = s.data.toList.map cellB := by
  unfold strCells cellB
  simp

theorem dnew_any (w : World) : Calls Try.prog 7 #[] w fun e w' => e = .returned (.pointer (some ⟨w.heap.size, 0, none⟩)) ∧ w' = w.alloc (.cells [Value.slice none 0 0, .int .i64 0].toArray 41) := by
  go_enter Try.func7, Try.ntmps7
  go_wp2
  go_ret
  exact ⟨rfl, rfl⟩

theorem dk_new (w : World) : ∀ w', w.heap.size < w'.heap.size → Blk w' w.heap.size 41 [.slice none 0 0, .int .i64 0] → Dk w' w.heap.size w'.heap.size [] 0 := fun w' h hb =>
  ⟨none, 0, hb, World.ownsRow_nil _ _ _ _, h, Nat.le_refl _, Nat.le_refl _, Nat.zero_le _⟩

theorem dappend_nil (s : ByteArray) (w : World) : Calls Try.prog 8 #[.pointer none, .string s] w fun e w' => e = .returned (.int .i64 9) ∧ w' = w := by
  go_enter Try.func8, Try.ntmps8
  go_wp2
  go_ret
  exact ⟨rfl, rfl⟩

theorem dappend_full (g B : Nat) (bs : List UInt8) (kept : Nat) (s : ByteArray) (w : World) (h : Dk w g B bs kept) (hs : s.size ≤ maxLen) (hf : 65536 < bs.length + s.size) :
    Calls Try.prog 8 #[.pointer (some ⟨g, 0, none⟩), .string s] w fun e w' => e = .returned (.int .i64 6) ∧ w' = w := by
  obtain ⟨a, c, hb, ho, _, _, _, hl⟩ := h
  generalize hn : bs.length = n at *
  replace hn := Lib.hid hn
  unfold maxLen at hs
  have c0 : w.cell? ⟨g, 0, none⟩ = some (.slice a n c) := hb.cell 0
  go_enter Try.func8, Try.ntmps8
  go_wp2
  go_ret
  exact ⟨rfl, rfl⟩

set_option maxHeartbeats 400000 in
theorem dappend_any (g B : Nat) (bs : List UInt8) (kept : Nat) (s : ByteArray) (w : World) (h : Dk w g B bs kept) (hf : bs.length + s.size ≤ 65536) :
    Calls Try.prog 8 #[.pointer (some ⟨g, 0, none⟩), .string s] w fun e w' => e = .returned (.int .i64 0) ∧ Dk w' g B (bs ++ s.data.toList) kept ∧ Fr (touched w g) w w' := by
  obtain ⟨a, c, hb, ho, hgB, hBw, hk, hl⟩ := h
  obtain ⟨i0, hi, hz0, hz1, hz2⟩ := info_parts Try.infoByte
  have hlen : (bs ++ s.data.toList).length = bs.length + s.size := by rw [List.length_append]; rfl
  generalize hn : bs.length = n at *
  replace hn := Lib.hid hn
  replace hlen := Lib.hid hlen
  have c0 : w.cell? ⟨g, 0, none⟩ = some (.slice a n c) := hb.cell 0
  have f0 := hb.frozen 0
  go_enter Try.func8, Try.ntmps8
  go_wp2_with (first
    | (at_builtin; go_must (refine wpList_append_own_string _ rfl (.tmp 20) (.tmp 21) 39 9 rfl B 5 i0 Try.underlying39 Try.underlying9 hi hz0 hz1 hz2 _ n _ rfl ho s rfl ?_ ?_ ?_ ?_))
    | fail)
  · unfold maxLen; omega
  · omega
  · exact hBw
  intro v' w1 o1 gr1 _
  rw [strCells_eq, ← List.map_append] at o1
  have hne : ∀ q, (Value.slice a n c).ownBlock = some q → B ≤ q := fun q hq => (ho.lt q hq).1
  have b1 : Blk w1 g 41 [.slice a n c, .int .i64 kept] := ((Fr.refl (fun k => B ≤ k) w).grown gr1 (fun q hq _ => hne q hq)).blk hb (fun q => by omega)
  have f1 : Fr (touched w g) w w1 := (Fr.refl _ w).grown gr1 (fun q hq _ => by
    cases a with
    | none => simp [Value.ownBlock] at hq
    | some ad => exact Or.inr ⟨ad, n, c, _, hb, by simpa [Value.ownBlock] using hq⟩)
  obtain ⟨a1, c1, hv⟩ := ownsRow_slice o1
  rw [hv] at o1 ⊢
  have fz := b1.frozen 0
  have fc : w1.cell? ⟨g, 0, none⟩ = some (.slice a n c) := b1.cell 0
  clear hv gr1 hne c0 f0
  have b2 := b1.set 0 (.slice a1 (n + s.size) c1)
  have o2 := ownsRow_fr o1 ((Fr.refl (onlyB g) w1).store (g := g) (i := 0) (v := .slice a1 (n + s.size) c1) (onlyB_self g)) (fun q hq => by have := (o1.lt q hq).1; unfold onlyB; omega)
  go_wp2
  go_ret
  refine ⟨rfl, ⟨a1, c1, by rw [hlen.out]; exact b2, by rw [hlen.out]; exact o2, hgB, ?_, ?_, ?_⟩, f1.store (touched_g w g)⟩
  · have := f1.size; simp [World.setCell]; omega
  · rw [hlen.out]; omega
  · rw [hlen.out]; omega

theorem dsync_nil (w : World) : Calls Try.prog 10 #[.pointer none] w fun e w' => e = .returned (.tuple #[]) ∧ w' = w := by
  go_enter Try.func10, Try.ntmps10
  go_wp2
  go_end0
  exact ⟨rfl, rfl⟩
theorem dsync_core (g : Nat) (a : Option Addr) (n c : Nat) (kept : Int) (w : World) (hb : Blk w g 41 [.slice a n c, .int .i64 kept]) :
    Calls Try.prog 10 #[.pointer (some ⟨g, 0, none⟩)] w fun e w' => e = .returned (.tuple #[]) ∧ Blk w' g 41 [.slice a n c, .int .i64 n] ∧ Fr (onlyB g) w w' := by
  have c0 : w.cell? ⟨g, 0, none⟩ = some (.slice a n c) := hb.cell 0
  have c1 : w.cell? ⟨g, 1, none⟩ = some (.int .i64 kept) := hb.cell 1
  have f1 := hb.frozen 1
  go_enter Try.func10, Try.ntmps10
  go_wp2
  go_end0
  exact ⟨rfl, hb.set 1 (.int .i64 n), (Fr.refl (onlyB g) w).store (onlyB_self g)⟩
theorem dsync_any (g B : Nat) (bs : List UInt8) (kept : Nat) (w : World) (h : Dk w g B bs kept) :
    Calls Try.prog 10 #[.pointer (some ⟨g, 0, none⟩)] w fun e w' => e = .returned (.tuple #[]) ∧ Dk w' g B bs bs.length ∧ Fr (touched w g) w w' := by
  obtain ⟨a, c, hb, ho, hgB, hBw, hk, hl⟩ := h
  refine (dsync_core g a bs.length c kept w hb).mono ?_
  rintro e w1 ⟨rfl, b1, f1⟩
  exact ⟨rfl, ⟨a, c, b1, ownsRow_fr ho f1 (fun q hq => by have := (ho.lt q hq).1; unfold onlyB; omega), hgB, by have := f1.size; omega, Nat.le_refl _, hl⟩, f1.mono (fun i _ h => Or.inl h)⟩

theorem dkept_nil (w : World) : Calls Try.prog 16 #[.pointer none] w fun e w' => e = .returned (.int .i64 0) ∧ w' = w := by
  go_enter Try.func16, Try.ntmps16
  go_wp2
  go_ret
  exact ⟨rfl, rfl⟩
theorem dkept_any (g B : Nat) (bs : List UInt8) (kept : Nat) (w : World) (h : Dk w g B bs kept) :
    Calls Try.prog 16 #[.pointer (some ⟨g, 0, none⟩)] w fun e w' => e = .returned (.int .i64 kept) ∧ w' = w := by
  obtain ⟨a, c, hb, ho, hgB, hBw, hk, hl⟩ := h
  have c1 : w.cell? ⟨g, 1, none⟩ = some (.int .i64 kept) := hb.cell 1
  go_enter Try.func16, Try.ntmps16
  go_wp2
  go_ret
  exact ⟨rfl, rfl⟩

theorem dbytes_nil (w : World) : Calls Try.prog 15 #[.pointer none] w fun e w' => e = .returned (.string (strB [])) ∧ w' = w := by
  go_enter Try.func15, Try.ntmps15
  go_wp2
  go_ret
  exact ⟨rfl, rfl⟩
theorem dbytes_any (g B : Nat) (bs : List UInt8) (kept : Nat) (w : World) (h : Dk w g B bs kept) :
    Calls Try.prog 15 #[.pointer (some ⟨g, 0, none⟩)] w fun e w' => e = .returned (.string (strB bs)) ∧ w' = w := by
  obtain ⟨a, c, hb, ho, hgB, hBw, hk, hl⟩ := h
  have hcv := string_of_row (P := Try.prog) 39 9 5 Try.underlying39 Try.underlying5 Try.underlying9 ho
  generalize hn : bs.length = n at *
  replace hn := Lib.hid hn
  have c0 : w.cell? ⟨g, 0, none⟩ = some (.slice a n c) := hb.cell 0
  go_enter Try.func15, Try.ntmps15
  go_wp2
  go_ret
  exact ⟨rfl, rfl⟩

theorem dcut_nil (n : Int) (w : World) : Calls Try.prog 13 #[.pointer none, .int .i64 n] w fun e w' => e = .returned (.tuple #[]) ∧ w' = w := by
  go_enter Try.func13, Try.ntmps13
  go_wp2
  go_end0
  exact ⟨rfl, rfl⟩
/-- how many bytes a cut leaves -/
def cutN (k : Int) (n : Nat) : Nat := min (max k 0) n |>.toNat
theorem cutN_le (k : Int) (n : Nat) : cutN k n ≤ n := by unfold cutN; omega

set_option maxHeartbeats 400000 in
theorem dcut_any (g B : Nat) (bs : List UInt8) (kept : Nat) (k : Int) (w : World) (h : Dk w g B bs kept) (hk : -9223372036854775808 ≤ k ∧ k ≤ 9223372036854775807) :
    Calls Try.prog 13 #[.pointer (some ⟨g, 0, none⟩), .int .i64 k] w fun e w' => e = .returned (.tuple #[]) ∧ Dk w' g B (bs.take (cutN k bs.length)) (cutN k bs.length) ∧ Fr (touched w g) w w' := by
  obtain ⟨a, c, hb, ho, hgB, hBw, hkp, hl⟩ := h
  have hlt : (bs.take (cutN k bs.length)).length = cutN k bs.length := by have := cutN_le k bs.length; simp; omega
  have ho2 := own_take ho (cutN_le k bs.length)
  generalize hn : bs.length = n at *
  have hm : cutN k n = min (max k 0) (n : Int) := by unfold cutN; omega
  have hmn := cutN_le k n
  generalize cutN k n = m at *
  replace hn := Lib.hid hn
  replace hm := Lib.hid hm
  have c0 : w.cell? ⟨g, 0, none⟩ = some (.slice a n c) := hb.cell 0
  have f0 := hb.frozen 0
  have hca : n ≤ c := by rcases ho.2 with ⟨h, h2⟩ | ⟨g', cap, cur, h, _, _, h5, _⟩ <;> cases h <;> omega
  obtain ⟨hk0, hk1⟩ := hk
  replace ho2 := Lib.hid ho2
  replace hlt := Lib.hid hlt
  have ho' := Lib.hid ho
  rcases ho.2 with ⟨h, h2⟩ | ⟨g', cap, cur, h, hBg, hcur, h5, h6, _⟩
  · cases h
    obtain rfl : m = 0 := by omega
    clear ho
    by_cases hk2 : k < 0
    · have hx : ¬ (0 : Int) < k := by omega
      go_enter Try.func13, Try.ntmps13
      go_wp2
      go_region
      all_goals go_wp2_with fail
      all_goals
        refine (dsync_core g _ _ _ _ _ ((hb.set 0 _).drew)).mono ?_
        rintro e w1 ⟨rfl, b1, f1⟩
        have fr := (((Fr.refl (onlyB g) w).store (onlyB_self g)).drew).trans f1 (U := onlyB g) (fun _ _ q => q) (fun _ _ q => q)
        have o1 := ownsRow_fr ho2.out fr (fun q hq => by have := (ho2.out.lt q hq).1; unfold onlyB; omega)
        go_wp2
        go_end0
        exact ⟨rfl, ⟨_, _, by rw [hlt.out]; exact b1, by rw [hlt.out]; exact o1, hgB, by have := fr.size; omega, by rw [hlt.out]; exact Nat.le_refl _, by rw [hlt.out]; omega⟩, fr.mono (fun i _ h => Or.inl h)⟩
    · by_cases hk3 : (0 : Int) < k
      · go_enter Try.func13, Try.ntmps13
        go_wp2
        go_region
        all_goals go_wp2_with fail
        all_goals
          refine (dsync_core g _ _ _ _ _ ((hb.set 0 _).drew)).mono ?_
          rintro e w1 ⟨rfl, b1, f1⟩
          have fr := (((Fr.refl (onlyB g) w).store (onlyB_self g)).drew).trans f1 (U := onlyB g) (fun _ _ q => q) (fun _ _ q => q)
          have o1 := ownsRow_fr ho2.out fr (fun q hq => by have := (ho2.out.lt q hq).1; unfold onlyB; omega)
          go_wp2
          go_end0
          exact ⟨rfl, ⟨_, _, by rw [hlt.out]; exact b1, by rw [hlt.out]; exact o1, hgB, by have := fr.size; omega, by rw [hlt.out]; exact Nat.le_refl _, by rw [hlt.out]; omega⟩, fr.mono (fun i _ h => Or.inl h)⟩
      · obtain rfl : k = 0 := by omega
        go_enter Try.func13, Try.ntmps13
        go_wp2
        go_region
        all_goals go_wp2_with fail
        all_goals
          refine (dsync_core g _ _ _ _ _ ((hb.set 0 _).drew)).mono ?_
          rintro e w1 ⟨rfl, b1, f1⟩
          have fr := (((Fr.refl (onlyB g) w).store (onlyB_self g)).drew).trans f1 (U := onlyB g) (fun _ _ q => q) (fun _ _ q => q)
          have o1 := ownsRow_fr ho2.out fr (fun q hq => by have := (ho2.out.lt q hq).1; unfold onlyB; omega)
          go_wp2
          go_end0
          exact ⟨rfl, ⟨_, _, by rw [hlt.out]; exact b1, by rw [hlt.out]; exact o1, hgB, by have := fr.size; omega, by rw [hlt.out]; exact Nat.le_refl _, by rw [hlt.out]; omega⟩, fr.mono (fun i _ h => Or.inl h)⟩
  · cases h
    clear hcur ho
    by_cases hk2 : k < 0
    · obtain rfl : m = 0 := by have := hm.out; omega
      have hx : ¬ (n : Int) < 0 := by omega
      go_enter Try.func13, Try.ntmps13
      go_wp2
      go_region
      all_goals go_wp2_with fail
      all_goals
        refine (dsync_core g _ _ _ _ _ ((hb.set 0 _).drew)).mono ?_
        rintro e w1 ⟨rfl, b1, f1⟩
        have fr := (((Fr.refl (onlyB g) w).store (onlyB_self g)).drew).trans f1 (U := onlyB g) (fun _ _ q => q) (fun _ _ q => q)
        have o1 := ownsRow_fr ho2.out fr (fun q hq => by have := (ho2.out.lt q hq).1; unfold onlyB; omega)
        go_wp2
        go_end0
        exact ⟨rfl, ⟨_, _, by rw [hlt.out]; exact b1, by rw [hlt.out]; exact o1, hgB, by have := fr.size; omega, by rw [hlt.out]; exact Nat.le_refl _, by rw [hlt.out]; omega⟩, fr.mono (fun i _ h => Or.inl h)⟩
    · by_cases hk3 : k < n
      · obtain rfl : k = m := by have := hm.out; omega
        go_enter Try.func13, Try.ntmps13
        go_wp2
        go_region
        all_goals go_wp2_with fail
        all_goals
          refine (dsync_core g _ _ _ _ _ ((hb.set 0 _).drew)).mono ?_
          rintro e w1 ⟨rfl, b1, f1⟩
          have fr := (((Fr.refl (onlyB g) w).store (onlyB_self g)).drew).trans f1 (U := onlyB g) (fun _ _ q => q) (fun _ _ q => q)
          have o1 := ownsRow_fr ho2.out fr (fun q hq => by have := (ho2.out.lt q hq).1; unfold onlyB; omega)
          go_wp2
          go_end0
          exact ⟨rfl, ⟨_, _, by rw [hlt.out]; exact b1, by rw [hlt.out]; exact o1, hgB, by have := fr.size; omega, by rw [hlt.out]; exact Nat.le_refl _, by rw [hlt.out]; omega⟩, fr.mono (fun i _ h => Or.inl h)⟩
      · obtain rfl : n = m := by have := hm.out; omega
        by_cases hk4 : (n : Int) < k
        · have hx : ¬ k < 0 := by omega
          go_enter Try.func13, Try.ntmps13
          go_wp2
          go_region
          all_goals go_wp2_with fail
          all_goals
            refine (dsync_core g _ _ _ _ _ ((hb.set 0 _).drew)).mono ?_
            rintro e w1 ⟨rfl, b1, f1⟩
            have fr := (((Fr.refl (onlyB g) w).store (onlyB_self g)).drew).trans f1 (U := onlyB g) (fun _ _ q => q) (fun _ _ q => q)
            have o1 := ownsRow_fr ho2.out fr (fun q hq => by have := (ho2.out.lt q hq).1; unfold onlyB; omega)
            go_wp2
            go_end0
            exact ⟨rfl, ⟨_, _, by rw [hlt.out]; exact b1, by rw [hlt.out]; exact o1, hgB, by have := fr.size; omega, by rw [hlt.out]; exact Nat.le_refl _, by rw [hlt.out]; omega⟩, fr.mono (fun i _ h => Or.inl h)⟩
        · obtain rfl : k = n := by omega
          go_enter Try.func13, Try.ntmps13
          go_wp2
          go_region
          all_goals go_wp2_with fail
          all_goals
            refine (dsync_core g _ _ _ _ _ ((hb.set 0 _).drew)).mono ?_
            rintro e w1 ⟨rfl, b1, f1⟩
            have fr := (((Fr.refl (onlyB g) w).store (onlyB_self g)).drew).trans f1 (U := onlyB g) (fun _ _ q => q) (fun _ _ q => q)
            have o1 := ownsRow_fr ho2.out fr (fun q hq => by have := (ho2.out.lt q hq).1; unfold onlyB; omega)
            go_wp2
            go_end0
            exact ⟨rfl, ⟨_, _, by rw [hlt.out]; exact b1, by rw [hlt.out]; exact o1, hgB, by have := fr.size; omega, by rw [hlt.out]; exact Nat.le_refl _, by rw [hlt.out]; omega⟩, fr.mono (fun i _ h => Or.inl h)⟩

end Go.Proofs.Ytphcjfchphgakaa
