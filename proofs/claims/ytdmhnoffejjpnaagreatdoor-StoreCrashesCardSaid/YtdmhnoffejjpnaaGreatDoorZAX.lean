/-
  The disk's calls, each by what it does to its bytes and to how many of them are kept.
  store: Records and Query.
  store: Query.
  store: Query, whole.
  store: Pending, Refused, and all calls of no Store.
-/
import Derived.Test.YtdmhnoffejjpnaaGreatDoorZAA
import Derived.Laws.Append
import Derived.Test.YtdmhnoffejjpnaaGreatDoorZAH
import Derived.Lib.AppendStr
import Derived.BigRegion
import Derived.Deep.DeepMust
import Derived.Test.YtdmhnoffejjpnaaGreatDoorZAW
import Derived.Deep.RegionHeld3
section
set_option linter.unusedVariables false
set_option linter.unusedSimpArgs false
set_option maxRecDepth 100000
set_option maxRecDepth 100000
namespace Go.Proofs.YtdmhnoffejjpnaaGreatDoor
open Go.RowKit Go Go.Lib

/-- A disk at block g: its bytes, in a row of blocks from B on, and how many of them are kept. -/
def Dk (w : World) (g B : Nat) (bs : List UInt8) (kept : Nat) : Prop :=
  ∃ a c, Blk w g 121 [.slice a bs.length c, .int .i64 kept] ∧ w.ownsRow B 5 1 (.slice a bs.length c) bs.length (bs.map cellB) ∧ g < B ∧ B ≤ w.heap.size ∧ kept ≤ bs.length ∧ bs.length ≤ 65536
/-- what a disk's calls may write: its own block, and its row's -/
def touched (w : World) (g : Nat) : Nat → Prop := fun k => k = g ∨ ∃ a n c x, Blk w g 121 [.slice (some a) n c, x] ∧ a.block = k
theorem touched_g (w : World) (g : Nat) : touched w g g := Or.inl rfl
theorem Dk.touch {w : World} {g B : Nat} {bs : List UInt8} {kept : Nat} (h : Dk w g B bs kept) {k : Nat} (ht : touched w g k) : k = g ∨ (B ≤ k ∧ k < w.heap.size) := by
  obtain ⟨a, c, hb, ho, _⟩ := h
  rcases ht with ht | ⟨a', n', c', x', hb', rfl⟩
  · exact Or.inl ht
  · unfold Blk at hb hb'
    rw [hb] at hb'
    simp only [Option.some.injEq, Obj.cells.injEq, List.toArray_inj, List.cons.injEq, Value.slice.injEq, and_true] at hb'
    obtain ⟨⟨rfl, _⟩, _⟩ := hb'
    exact Or.inr (ho.lt _ rfl)
theorem touched_alloc {w : World} {o : Obj} {g k : Nat} (h : touched (w.alloc o) g k) (hg : g < w.heap.size) : touched w g k := by
  rcases h with h | ⟨a, n, c, x, hb, hk⟩
  · exact Or.inl h
  · refine Or.inr ⟨a, n, c, x, ?_, hk⟩
    unfold Blk at *
    rwa [Below.heap_alloc w o g hg] at hb

theorem own_take {w : World} {B e n : Nat} {a : Option Addr} {c m : Nat} {bs : List UInt8} (h : w.ownsRow B e 1 (.slice a n c) n (bs.map cellB)) (hm : m ≤ n) : w.ownsRow B e 1 (.slice a m c) m ((bs.take m).map cellB) := by
  have hl : bs.length = n := by have := h.1; simpa using this
  refine ⟨by simp; omega, ?_⟩
  rcases h.2 with ⟨h1, h2⟩ | ⟨g, cap, cur, h1, h2, h3, h4, h5, h6, h7⟩
  · cases h1
    obtain rfl : m = 0 := by omega
    exact Or.inl ⟨rfl, rfl⟩
  · cases h1
    refine Or.inr ⟨g, c, cur, rfl, h2, h3, by omega, h5, h6, ?_⟩
    rw [List.map_take, ← h7, List.take_take]
    congr 1
    omega

theorem touch_same {w w' : World} {g n c n' c' : Nat} {a : Option Addr} {x x' : Value} (h : Blk w g 121 [.slice a n c, x]) (h' : Blk w' g 121 [.slice a n' c', x']) : ∀ q, touched w' g q → touched w g q := by
  rintro q (rfl | ⟨a1, n1, c1, x1, hb, rfl⟩)
  · exact Or.inl rfl
  · unfold Blk at h' hb
    rw [h'] at hb
    simp only [Option.some.injEq, Obj.cells.injEq, List.toArray_inj, List.cons.injEq, Value.slice.injEq, and_true] at hb
    obtain ⟨⟨rfl, _⟩, _⟩ := hb
    exact Or.inr ⟨a1, n, c, x, h, rfl⟩
theorem touch_moved {w w' : World} {g n c n' c' : Nat} {a a' : Option Addr} {x x' : Value} (h : Blk w g 121 [.slice a n c, x]) (h' : Blk w' g 121 [.slice a' n' c', x']) (hm : Moved w (.slice a n c) (.slice a' n' c')) : ∀ q, touched w' g q → touched w g q ∨ w.heap.size ≤ q := by
  rintro q (rfl | ⟨a1, n1, c1, x1, hb, rfl⟩)
  · exact Or.inl (Or.inl rfl)
  · unfold Blk at h' hb
    rw [h'] at hb
    simp only [Option.some.injEq, Obj.cells.injEq, List.toArray_inj, List.cons.injEq, Value.slice.injEq, and_true] at hb
    obtain ⟨⟨rfl, _⟩, _⟩ := hb
    rcases hm with hm | hm
    · cases a with
      | none => simp [Value.ownBlock] at hm
      | some a0 => simp [Value.ownBlock] at hm; exact Or.inl (Or.inr ⟨a0, n, c, x, h, hm.symm⟩)
    · simp [Value.ownBlock] at hm
      exact Or.inr (by omega)
section
variable {P : Program} (w : World)
theorem run_appendS_at (base : Nat) (t u ty e : TypeId) (i : TypeInfo) (ht : P.underlying t = some (.slice e)) (hu : P.underlying u = some .string) (hi : P.info? e = some i) (hz : i.zero = some (.int .u8 0))
    (hsize : i.size = 1) (hby : i.bytes = 1)
    (v : Value) (n : Nat) (xs : List Value) (hown : w.ownsRow base e 1 v n xs) (s : ByteArray)
    (h63 : n + s.size ≤ maxLen) (hbytes : n + s.size ≤ 140737488355328) (hbase : base ≤ w.heap.size) :
    ∃ v' w', (Builtin.append_ #[t, u] ty #[v, .string s]).run P w = .ok v' w' ∧ w'.ownsRow base e 1 v' (n + s.size) (xs ++ strCells s) ∧ w.grownBy w' v.ownBlock ∧ Moved w v v' := by
  obtain ⟨v', w', hr, h2, h3, h4⟩ := run_append_own_string (P := P) w base t u ty e i ht hu hi hz hsize hby v n xs hown s h63 hbytes hbase
  refine ⟨v', w', hr, h2, h3, ?_⟩
  have hsmall : n + s.size ≤ 9223372036854775807 := by simp only [maxLen] at h63; omega
  have hxl : xs.length = n := by simpa using hown.1
  rcases hown.2 with ⟨rfl, rfl⟩ | ⟨g, cap, cur, rfl, hbg, hg, hnc, hcm, hcs, htake⟩
  · by_cases hm : s.size = 0
    · have := h4.2 ⟨rfl, hm⟩
      subst this
      exact Or.inl rfl
    · have hr2 := run_append_nil_string (P := P) w t u ty e i (.int .u8 0) ht hu hi hz s (by omega) (by omega) (by rw [hby]; omega)
      rw [hr2] at hr
      simp only [Result.ok.injEq] at hr
      obtain ⟨rfl, rfl⟩ := hr
      exact Or.inr rfl
  · have hcs' : cur.size = cap := by simpa using hcs
    by_cases hroom : n + s.size ≤ cap
    · have hr2 := run_append_room_string (P := P) w t u ty e i ht hu hi hsize g n cap cur hg s hroom (by omega)
      rw [hr2] at hr
      simp only [Result.ok.injEq] at hr
      obtain ⟨rfl, rfl⟩ := hr
      exact Or.inl rfl
    · have holds : ∀ j u, xs[j]? = some u → w.cell? ((⟨g, 0, none⟩ : Addr).add j) = some u := hown.cells (g := g) rfl
      have hr2 := run_append_grow_string (P := P) w t u ty e i (.int .u8 0) ht hu hi hz ⟨g, 0, none⟩ n cap xs (by rw [hsize]; simpa using hxl) holds s (by omega) (by omega) (by rw [hby]; exact growslice_fits (by omega) (by omega))
      rw [hr2] at hr
      simp only [Result.ok.injEq] at hr
      obtain ⟨rfl, rfl⟩ := hr
      exact Or.inr rfl
theorem wpList_appendS_at {ops : Array Oper} {rest : List Oper} {o : Oper} {a : Act} {Q : Exit → Act → World → Prop} (hgd : o.guard = none) (sl x : Operand) (t u : TypeId)
    (ho : o.op = .call { callee := .builtin .append, args := #[sl, x], argTypes := #[t, u] })
    (base : Nat) (e : TypeId) (i : TypeInfo) (ht : P.underlying t = some (.slice e)) (hu : P.underlying u = some .string) (hi : P.info? e = some i) (hz : i.zero = some (.int .u8 0))
    (hsize : i.size = 1) (hby : i.bytes = 1)
    (v : Value) (n : Nat) (xs : List Value) (hs : a.eval sl = v) (hown : w.ownsRow base e 1 v n xs) (s : ByteArray) (hx : a.eval x = .string s)
    (h63 : n + s.size ≤ maxLen) (hbytes : n + s.size ≤ 140737488355328) (hbase : base ≤ w.heap.size)
    (h : ∀ v' w', w'.ownsRow base e 1 v' (n + s.size) (xs ++ strCells s) → w.grownBy w' v.ownBlock → Moved w v v' → wpList P ops Q rest (a.put o.dst v') w') : wpList P ops Q (o :: rest) a w := by
  refine wpList_plain hgd fun K hK => ?_
  obtain ⟨v', w', hr, h2, h3, h4⟩ := run_appendS_at (P := P) w base t u o.type e i ht hu hi hz hsize hby v n xs hown s h63 hbytes hbase
  unfold Oper.wp execOp
  simp only [ho, resolve, invoke, builtin, Sem.run_bind, Sem.run_pure, Result.andThen_ok, List.map_toArray, List.map_cons, List.map_nil, hs, hx, hr]
  exact hK _ _ (h v' w' h2 h3 h4)
end

theorem dnew_any (w : World) : Calls Tryz.prog 29 #[] w fun e w' => e = .returned (.pointer (some ⟨w.heap.size, 0, none⟩)) ∧ w' = w.alloc (.cells [Value.slice none 0 0, .int .i64 0].toArray 121) := by
  go_enter Tryz.func29, Tryz.ntmps29
  go_wp2
  go_ret
  exact ⟨rfl, rfl⟩

theorem dk_new (w : World) : ∀ w', w.heap.size < w'.heap.size → Blk w' w.heap.size 121 [.slice none 0 0, .int .i64 0] → Dk w' w.heap.size w'.heap.size [] 0 := fun w' h hb =>
  ⟨none, 0, hb, World.ownsRow_nil _ _ _ _, h, Nat.le_refl _, Nat.le_refl _, Nat.zero_le _⟩

theorem dappend_nil (s : ByteArray) (w : World) : Calls Tryz.prog 91 #[.pointer none, .string s] w fun e w' => e = .returned (.int .i64 9) ∧ w' = w := by
  go_enter Tryz.func91, Tryz.ntmps91
  go_wp2
  go_ret
  exact ⟨rfl, rfl⟩

theorem dappend_full (g B : Nat) (bs : List UInt8) (kept : Nat) (s : ByteArray) (w : World) (h : Dk w g B bs kept) (hs : s.size ≤ maxLen) (hf : 65536 < bs.length + s.size) :
    Calls Tryz.prog 91 #[.pointer (some ⟨g, 0, none⟩), .string s] w fun e w' => e = .returned (.int .i64 6) ∧ w' = w := by
  obtain ⟨a, c, hb, ho, _, _, _, hl⟩ := h
  generalize hn : bs.length = n at *
  replace hn := Lib.hid hn
  unfold maxLen at hs
  have c0 : w.cell? ⟨g, 0, none⟩ = some (.slice a n c) := hb.cell 0
  go_enter Tryz.func91, Tryz.ntmps91
  go_wp2
  go_ret
  exact ⟨rfl, rfl⟩

set_option maxHeartbeats 400000 in
theorem dappend_any (g B : Nat) (bs : List UInt8) (kept : Nat) (s : ByteArray) (w : World) (h : Dk w g B bs kept) (hf : bs.length + s.size ≤ 65536) :
    Calls Tryz.prog 91 #[.pointer (some ⟨g, 0, none⟩), .string s] w fun e w' => e = .returned (.int .i64 0) ∧ Dk w' g B (bs ++ s.data.toList) kept ∧ Fr (touched w g) w w' ∧ ∀ q, touched w' g q → touched w g q ∨ w.heap.size ≤ q := by
  obtain ⟨a, c, hb, ho, hgB, hBw, hk, hl⟩ := h
  obtain ⟨i0, hi, hz0, hz1, hz2⟩ := info_parts Tryz.infoByte
  have hlen : (bs ++ s.data.toList).length = bs.length + s.size := by rw [List.length_append]; rfl
  generalize hn : bs.length = n at *
  replace hn := Lib.hid hn
  replace hlen := Lib.hid hlen
  have c0 : w.cell? ⟨g, 0, none⟩ = some (.slice a n c) := hb.cell 0
  have f0 := hb.frozen 0
  have hb0 := Lib.hid hb
  go_enter Tryz.func91, Tryz.ntmps91
  go_wp2_with (first
    | (at_builtin; go_must (refine wpList_appendS_at _ rfl (.tmp 20) (.tmp 21) 119 9 rfl B 5 i0 Tryz.underlying119 Tryz.underlying9 hi hz0 hz1 hz2 _ n _ rfl ho s rfl ?_ ?_ ?_ ?_))
    | fail)
  · unfold maxLen; omega
  · omega
  · exact hBw
  intro v' w1 o1 gr1 hmv
  rw [strCells_eq, ← List.map_append] at o1
  have hne : ∀ q, (Value.slice a n c).ownBlock = some q → B ≤ q := fun q hq => (ho.lt q hq).1
  have b1 : Blk w1 g 121 [.slice a n c, .int .i64 kept] := ((Fr.refl (fun k => B ≤ k) w).grown gr1 (fun q hq _ => hne q hq)).blk hb (fun q => by omega)
  have f1 : Fr (touched w g) w w1 := (Fr.refl _ w).grown gr1 (fun q hq _ => by
    cases a with
    | none => simp [Value.ownBlock] at hq
    | some ad => exact Or.inr ⟨ad, n, c, _, hb, by simpa [Value.ownBlock] using hq⟩)
  obtain ⟨a1, c1, hv⟩ := ownsRow_slice o1
  rw [hv] at o1 hmv ⊢
  have fz := b1.frozen 0
  have fc : w1.cell? ⟨g, 0, none⟩ = some (.slice a n c) := b1.cell 0
  replace hmv := Lib.hid hmv
  clear hv gr1 hne c0 f0
  have b2 := b1.set 0 (.slice a1 (n + s.size) c1)
  have o2 := ownsRow_fr o1 ((Fr.refl (onlyB g) w1).store (g := g) (i := 0) (v := .slice a1 (n + s.size) c1) (onlyB_self g)) (fun q hq => by have := (o1.lt q hq).1; unfold onlyB; omega)
  go_wp2
  go_ret
  refine ⟨rfl, ⟨a1, c1, by rw [hlen.out]; exact b2, by rw [hlen.out]; exact o2, hgB, ?_, ?_, ?_⟩, f1.store (touched_g w g), touch_moved hb0.out b2 hmv.out⟩
  · have := f1.size; simp [World.setCell]; omega
  · rw [hlen.out]; omega
  · rw [hlen.out]; omega

theorem dsync_nil (w : World) : Calls Tryz.prog 31 #[.pointer none] w fun e w' => e = .returned (.tuple #[]) ∧ w' = w := by
  go_enter Tryz.func31, Tryz.ntmps31
  go_wp2
  go_end0
  exact ⟨rfl, rfl⟩
theorem dsync_core (g : Nat) (a : Option Addr) (n c : Nat) (kept : Int) (w : World) (hb : Blk w g 121 [.slice a n c, .int .i64 kept]) :
    Calls Tryz.prog 31 #[.pointer (some ⟨g, 0, none⟩)] w fun e w' => e = .returned (.tuple #[]) ∧ Blk w' g 121 [.slice a n c, .int .i64 n] ∧ Fr (onlyB g) w w' := by
  have c0 : w.cell? ⟨g, 0, none⟩ = some (.slice a n c) := hb.cell 0
  have c1 : w.cell? ⟨g, 1, none⟩ = some (.int .i64 kept) := hb.cell 1
  have f1 := hb.frozen 1
  go_enter Tryz.func31, Tryz.ntmps31
  go_wp2
  go_end0
  exact ⟨rfl, hb.set 1 (.int .i64 n), (Fr.refl (onlyB g) w).store (onlyB_self g)⟩
theorem dsync_any (g B : Nat) (bs : List UInt8) (kept : Nat) (w : World) (h : Dk w g B bs kept) :
    Calls Tryz.prog 31 #[.pointer (some ⟨g, 0, none⟩)] w fun e w' => e = .returned (.tuple #[]) ∧ Dk w' g B bs bs.length ∧ Fr (touched w g) w w' ∧ ∀ q, touched w' g q → touched w g q := by
  obtain ⟨a, c, hb, ho, hgB, hBw, hk, hl⟩ := h
  refine (dsync_core g a bs.length c kept w hb).mono ?_
  rintro e w1 ⟨rfl, b1, f1⟩
  exact ⟨rfl, ⟨a, c, b1, ownsRow_fr ho f1 (fun q hq => by have := (ho.lt q hq).1; unfold onlyB; omega), hgB, by have := f1.size; omega, Nat.le_refl _, hl⟩, f1.mono (fun i _ h => Or.inl h), touch_same hb b1⟩

theorem dkept_nil (w : World) : Calls Tryz.prog 49 #[.pointer none] w fun e w' => e = .returned (.int .i64 0) ∧ w' = w := by
  go_enter Tryz.func49, Tryz.ntmps49
  go_wp2
  go_ret
  exact ⟨rfl, rfl⟩
theorem dkept_any (g B : Nat) (bs : List UInt8) (kept : Nat) (w : World) (h : Dk w g B bs kept) :
    Calls Tryz.prog 49 #[.pointer (some ⟨g, 0, none⟩)] w fun e w' => e = .returned (.int .i64 kept) ∧ w' = w := by
  obtain ⟨a, c, hb, ho, hgB, hBw, hk, hl⟩ := h
  have c1 : w.cell? ⟨g, 1, none⟩ = some (.int .i64 kept) := hb.cell 1
  go_enter Tryz.func49, Tryz.ntmps49
  go_wp2
  go_ret
  exact ⟨rfl, rfl⟩

theorem dbytes_nil (w : World) : Calls Tryz.prog 34 #[.pointer none] w fun e w' => e = .returned (.string (strB [])) ∧ w' = w := by
  go_enter Tryz.func34, Tryz.ntmps34
  go_wp2
  go_ret
  exact ⟨rfl, rfl⟩
theorem dbytes_any (g B : Nat) (bs : List UInt8) (kept : Nat) (w : World) (h : Dk w g B bs kept) :
    Calls Tryz.prog 34 #[.pointer (some ⟨g, 0, none⟩)] w fun e w' => e = .returned (.string (strB bs)) ∧ w' = w := by
  obtain ⟨a, c, hb, ho, hgB, hBw, hk, hl⟩ := h
  have hcv := string_of_row (P := Tryz.prog) 119 9 5 Tryz.underlying119 Tryz.underlying5 Tryz.underlying9 ho
  generalize hn : bs.length = n at *
  replace hn := Lib.hid hn
  have c0 : w.cell? ⟨g, 0, none⟩ = some (.slice a n c) := hb.cell 0
  go_enter Tryz.func34, Tryz.ntmps34
  go_wp2
  go_ret
  exact ⟨rfl, rfl⟩

theorem dcut_nil (n : Int) (w : World) : Calls Tryz.prog 35 #[.pointer none, .int .i64 n] w fun e w' => e = .returned (.tuple #[]) ∧ w' = w := by
  go_enter Tryz.func35, Tryz.ntmps35
  go_wp2
  go_end0
  exact ⟨rfl, rfl⟩
/-- how many bytes a cut leaves -/
def cutN (k : Int) (n : Nat) : Nat := min (max k 0) n |>.toNat
theorem cutN_le (k : Int) (n : Nat) : cutN k n ≤ n := by unfold cutN; omega

theorem blk_num {w : World} {g c : Nat} {t : TypeId} {a : Option Addr} {x y : Nat} (h : Blk w g t [.slice a x c, .int .i64 (x : Int)]) (e : x = y) : Blk w g t [.slice a y c, .int .i64 (y : Int)] := e ▸ h
set_option maxHeartbeats 400000 in
theorem dcut_any (g B : Nat) (bs : List UInt8) (kept : Nat) (k : Int) (w : World) (h : Dk w g B bs kept) (hk : -9223372036854775808 ≤ k ∧ k ≤ 9223372036854775807) :
    Calls Tryz.prog 35 #[.pointer (some ⟨g, 0, none⟩), .int .i64 k] w fun e w' => e = .returned (.tuple #[]) ∧ Dk w' g B (bs.take (cutN k bs.length)) (cutN k bs.length) ∧ Fr (touched w g) w w' ∧ ∀ q, touched w' g q → touched w g q := by
  obtain ⟨a, c, hb, ho, hgB, hBw, hkp, hl⟩ := h
  have hb0 := Lib.hid hb
  have hlt : (bs.take (cutN k bs.length)).length = cutN k bs.length := by have := cutN_le k bs.length; simp; omega
  have ho2 := own_take ho (cutN_le k bs.length)
  generalize hn : bs.length = n at *
  have hm : cutN k n = min (max k 0) (n : Int) := by unfold cutN; omega
  have hmn := cutN_le k n
  generalize cutN k n = m at *
  replace hn := Lib.hid hn
  replace hm := Lib.hid hm
  have c0 : w.cell? ⟨g, 0, none⟩ = some (.slice a n c) := hb.cell 0
  have f0 := hb.frozen 0
  have hca : n ≤ c := by rcases ho.2 with ⟨h, h2⟩ | ⟨g', cap, cur, h, _, _, h5, _⟩ <;> cases h <;> omega
  obtain ⟨hk0, hk1⟩ := hk
  replace ho2 := Lib.hid ho2
  replace hlt := Lib.hid hlt
  have ho' := Lib.hid ho
  rcases ho.2 with ⟨h, h2⟩ | ⟨g', cap, cur, h, hBg, hcur, h5, h6, _⟩
  · cases h
    obtain rfl : m = 0 := by omega
    clear ho
    by_cases hk2 : k < 0
    · have hx : ¬ (0 : Int) < k := by omega
      go_enter Tryz.func35, Tryz.ntmps35
      go_wp2
      go_region
      all_goals go_wp2_with fail
      all_goals
        refine (dsync_core g _ _ _ _ _ ((hb.set 0 _).drew)).mono ?_
        rintro e w1 ⟨rfl, b1, f1⟩
        have fr := (((Fr.refl (onlyB g) w).store (onlyB_self g)).drew).trans f1 (U := onlyB g) (fun _ _ q => q) (fun _ _ q => q)
        have o1 := ownsRow_fr ho2.out fr (fun q hq => by have := (ho2.out.lt q hq).1; unfold onlyB; omega)
        go_wp2
        go_end0
        exact ⟨rfl, ⟨_, _, by rw [hlt.out]; exact blk_num b1 (by omega), by rw [hlt.out]; exact o1, hgB, by have := fr.size; omega, by rw [hlt.out]; exact Nat.le_refl _, by rw [hlt.out]; omega⟩, fr.mono (fun i _ h => Or.inl h), touch_same hb0.out b1⟩
    · by_cases hk3 : (0 : Int) < k
      · go_enter Tryz.func35, Tryz.ntmps35
        go_wp2
        go_region
        all_goals go_wp2_with fail
        all_goals
          refine (dsync_core g _ _ _ _ _ ((hb.set 0 _).drew)).mono ?_
          rintro e w1 ⟨rfl, b1, f1⟩
          have fr := (((Fr.refl (onlyB g) w).store (onlyB_self g)).drew).trans f1 (U := onlyB g) (fun _ _ q => q) (fun _ _ q => q)
          have o1 := ownsRow_fr ho2.out fr (fun q hq => by have := (ho2.out.lt q hq).1; unfold onlyB; omega)
          go_wp2
          go_end0
          exact ⟨rfl, ⟨_, _, by rw [hlt.out]; exact blk_num b1 (by omega), by rw [hlt.out]; exact o1, hgB, by have := fr.size; omega, by rw [hlt.out]; exact Nat.le_refl _, by rw [hlt.out]; omega⟩, fr.mono (fun i _ h => Or.inl h), touch_same hb0.out b1⟩
      · obtain rfl : k = 0 := by omega
        go_enter Tryz.func35, Tryz.ntmps35
        go_wp2
        go_region
        all_goals go_wp2_with fail
        all_goals
          refine (dsync_core g _ _ _ _ _ ((hb.set 0 _).drew)).mono ?_
          rintro e w1 ⟨rfl, b1, f1⟩
          have fr := (((Fr.refl (onlyB g) w).store (onlyB_self g)).drew).trans f1 (U := onlyB g) (fun _ _ q => q) (fun _ _ q => q)
          have o1 := ownsRow_fr ho2.out fr (fun q hq => by have := (ho2.out.lt q hq).1; unfold onlyB; omega)
          go_wp2
          go_end0
          exact ⟨rfl, ⟨_, _, by rw [hlt.out]; exact blk_num b1 (by omega), by rw [hlt.out]; exact o1, hgB, by have := fr.size; omega, by rw [hlt.out]; exact Nat.le_refl _, by rw [hlt.out]; omega⟩, fr.mono (fun i _ h => Or.inl h), touch_same hb0.out b1⟩
  · cases h
    clear hcur ho
    by_cases hk2 : k < 0
    · obtain rfl : m = 0 := by have := hm.out; omega
      have hx : ¬ (n : Int) < 0 := by omega
      go_enter Tryz.func35, Tryz.ntmps35
      go_wp2
      go_region
      all_goals go_wp2_with fail
      all_goals
        refine (dsync_core g _ _ _ _ _ ((hb.set 0 _).drew)).mono ?_
        rintro e w1 ⟨rfl, b1, f1⟩
        have fr := (((Fr.refl (onlyB g) w).store (onlyB_self g)).drew).trans f1 (U := onlyB g) (fun _ _ q => q) (fun _ _ q => q)
        have o1 := ownsRow_fr ho2.out fr (fun q hq => by have := (ho2.out.lt q hq).1; unfold onlyB; omega)
        go_wp2
        go_end0
        exact ⟨rfl, ⟨_, _, by rw [hlt.out]; exact blk_num b1 (by omega), by rw [hlt.out]; exact o1, hgB, by have := fr.size; omega, by rw [hlt.out]; exact Nat.le_refl _, by rw [hlt.out]; omega⟩, fr.mono (fun i _ h => Or.inl h), touch_same hb0.out b1⟩
    · by_cases hk3 : k < n
      · obtain rfl : k = m := by have := hm.out; omega
        go_enter Tryz.func35, Tryz.ntmps35
        go_wp2
        go_region
        all_goals go_wp2_with fail
        all_goals
          refine (dsync_core g _ _ _ _ _ ((hb.set 0 _).drew)).mono ?_
          rintro e w1 ⟨rfl, b1, f1⟩
          have fr := (((Fr.refl (onlyB g) w).store (onlyB_self g)).drew).trans f1 (U := onlyB g) (fun _ _ q => q) (fun _ _ q => q)
          have o1 := ownsRow_fr ho2.out fr (fun q hq => by have := (ho2.out.lt q hq).1; unfold onlyB; omega)
          go_wp2
          go_end0
          exact ⟨rfl, ⟨_, _, by rw [hlt.out]; exact blk_num b1 (by omega), by rw [hlt.out]; exact o1, hgB, by have := fr.size; omega, by rw [hlt.out]; exact Nat.le_refl _, by rw [hlt.out]; omega⟩, fr.mono (fun i _ h => Or.inl h), touch_same hb0.out b1⟩
      · obtain rfl : n = m := by have := hm.out; omega
        by_cases hk4 : (n : Int) < k
        · have hx : ¬ k < 0 := by omega
          go_enter Tryz.func35, Tryz.ntmps35
          go_wp2
          go_region
          all_goals go_wp2_with fail
          all_goals
            refine (dsync_core g _ _ _ _ _ ((hb.set 0 _).drew)).mono ?_
            rintro e w1 ⟨rfl, b1, f1⟩
            have fr := (((Fr.refl (onlyB g) w).store (onlyB_self g)).drew).trans f1 (U := onlyB g) (fun _ _ q => q) (fun _ _ q => q)
            have o1 := ownsRow_fr ho2.out fr (fun q hq => by have := (ho2.out.lt q hq).1; unfold onlyB; omega)
            go_wp2
            go_end0
            exact ⟨rfl, ⟨_, _, by rw [hlt.out]; exact blk_num b1 (by omega), by rw [hlt.out]; exact o1, hgB, by have := fr.size; omega, by rw [hlt.out]; exact Nat.le_refl _, by rw [hlt.out]; omega⟩, fr.mono (fun i _ h => Or.inl h), touch_same hb0.out b1⟩
        · obtain rfl : k = n := by omega
          go_enter Tryz.func35, Tryz.ntmps35
          go_wp2
          go_region
          all_goals go_wp2_with fail
          all_goals
            refine (dsync_core g _ _ _ _ _ ((hb.set 0 _).drew)).mono ?_
            rintro e w1 ⟨rfl, b1, f1⟩
            have fr := (((Fr.refl (onlyB g) w).store (onlyB_self g)).drew).trans f1 (U := onlyB g) (fun _ _ q => q) (fun _ _ q => q)
            have o1 := ownsRow_fr ho2.out fr (fun q hq => by have := (ho2.out.lt q hq).1; unfold onlyB; omega)
            go_wp2
            go_end0
            exact ⟨rfl, ⟨_, _, by rw [hlt.out]; exact blk_num b1 (by omega), by rw [hlt.out]; exact o1, hgB, by have := fr.size; omega, by rw [hlt.out]; exact Nat.le_refl _, by rw [hlt.out]; omega⟩, fr.mono (fun i _ h => Or.inl h), touch_same hb0.out b1⟩

end Go.Proofs.YtdmhnoffejjpnaaGreatDoor
end

section
set_option linter.unusedVariables false
set_option linter.unusedSimpArgs false
set_option maxRecDepth 100000
set_option maxRecDepth 100000
namespace Go.Proofs.YtdmhnoffejjpnaaGreatDoor
open Go.RowKit Go Go.Lib

/-- an operand of a held region comes up -/
theorem tk {P : Program} {ops : Array Oper} {Q : Exit → Act → World → Prop} {md : Region.Mode} {S : World → Prop} {oi : Oper} {v : Value} {fuel : Nat} {listed l2 : Array Bool} {a a2 : Act} {w : World} (i : Nat) (h : wpAnyH P md ops Q S fuel l2 a2 w)
    (hi : ops[i]? = some oi := by ((simp only [List.getElem?_toArray, List.getElem?_cons_succ, List.getElem?_cons_zero]); try rfl))
    (hs : Region.noSelect ops = true := by kernel_rfl) (hf : Region.free md ops listed i = true := by kernel_rfl) (hr : (Region.ready md ops listed).contains i = true := by kernel_rfl)
    (hQ : ∀ c a w, Q (.panic c) (a.put oi.dst v) w → Q (.panic c) a w := by exact (fun _ _ _ h => h))
    (hy : YieldsIf P ops S oi v a := by (refine Or.inl ⟨by rfl, ?_⟩; intro w hSw; (try dsimp only at hSw); go_simp; try with_reducible rfl)) (hS : S w := by assumption)
    (ha : a.put oi.dst v = a2 := by ((try simp only [Act.put, List.setIfInBounds_toArray, List.set_cons_zero, List.set_cons_succ]); try rfl))
    (hl : listed.setIfInBounds i true = l2 := by ((try simp only [List.setIfInBounds_toArray, List.set_cons_zero, List.set_cons_succ]); try rfl)) : wpAnyH P md ops Q S (fuel + 1) listed a w := by
  subst ha; subst hl
  exact wpAnyH_take hi hs hf hr hQ hy hS h
theorem slice_strH (s : ByteArray) (b : Nat) (B : Int) (hB : B = (b : Int)) (h2 : b ≤ s.size) (w : World) : (Instr.slice 9 (.string s) none (some (.int .i64 B)) none).run Tryz.prog w = .ok (.string (strB (s.data.toList.take b))) w := by
  subst hB
  rw [run_slice_string_h w 9 s Tryz.underlying9 .i64 (b : Int) (by omega) (by omega), Int.toNat_natCast, ext_eq, List.drop_zero]
set_option maxHeartbeats 8000000 in
theorem records_any (gS gd B : Nat) (bs : List UInt8) (kept : Nat) (L : List RC) (j p c r : Value) (w : World) (hg : Gl w) (hS : Blk w gS 84 [.pointer (some ⟨gd, 0, none⟩), j, p, c, r]) (hD : Dk w gd B bs kept)
    (hb : bs.take kept = bytesR L) (hL : ∀ r ∈ L, okW r) :
    Calls Tryz.prog 20 #[.pointer (some ⟨gS, 0, none⟩)] w fun e w' => ∃ a c Q, e = .returned (.slice a L.length c) ∧ w'.ownsRow w.heap.size 63 5 (.slice a L.length c) L.length (Q.flatMap QU.cs) ∧ OwnQ w' w.heap.size Q ∧ Q.map QU.x = L ∧ Fr noB w w' := by
  have fD := (Fr.refl noB w).drew
  have hby := dbytes_any gd B bs kept w.drew hD
  have hke := dkept_any gd B bs kept w.drew hD
  have hkl : kept ≤ bs.length ∧ bs.length ≤ 65536 := by obtain ⟨_, _, _, _, _, _, h1, h2⟩ := hD; exact ⟨h1, h2⟩
  have hsl := slice_strH (strB bs) kept (kept : Int) rfl (by rw [strB_size]; exact hkl.1)
  rw [strB_list, hb] at hsl
  have hsc := sgScan_any (strB (bytesR L)) L [] w.drew (hg.fr fD) (by rw [strB_list, List.append_nil]) rfl hL (by rw [strB_size, ← hb, List.length_take]; omega)
  have S0 : (fun w' : World => w'.cell? ⟨gS, 0, none⟩ = some (.pointer (some ⟨gd, 0, none⟩))) w.drew := hS.cell 0
  generalize strB bs = sb at *
  generalize strB (bytesR L) = sL at *
  obtain ⟨N, hN⟩ : ∃ N, (bytesR L).length = N := ⟨_, rfl⟩
  rw [hN] at hsc
  replace hN := Lib.hid hN
  replace hby := Lib.hid hby
  replace hke := Lib.hid hke
  replace hsc := Lib.hid hsc
  clear hS hD hb hL hg
  go_enter Tryz.func20, Tryz.ntmps20
  go_upto_region 3 with fail
  refine wp_region_held_drew (S := (fun w' : World => w'.cell? ⟨gS, 0, none⟩ = some (.pointer (some ⟨gd, 0, none⟩)))) (by kernel_rfl) S0 (fun hHeld => ?_)
  refine tk 0 ?_
  refine tk 1 ?_
  refine tk 2 ?_
  refine tk 3 ?_
  refine tk 5 ?_
  refine tk 6 ?_
  refine tk 7 ?_
  refine tk 8 ?_
  (refine wpAnyH_ready (rs := [4]) (by kernel_rfl) (by simp) (AllReadyH.cons (o := ?_) ?_ (fun K hK => ?_) AllReadyH.nil); rotate_left 1; (focus ((simp only [List.getElem?_toArray, List.getElem?_cons_succ, List.getElem?_cons_zero]); try rfl)))
  go_simp
  refine hby.out.mono ?_
  rintro e wq ⟨rfl, hw⟩
  obtain rfl := hw.symm
  clear hw
  go_wp2_with fail
  refine hK.out _ _ (S0) (fun hHeld => ?_)
  clear hK K
  try simp only [Act.put, List.setIfInBounds_toArray, List.set_cons_zero, List.set_cons_succ]
  (refine wpAnyH_ready (rs := [9]) (by kernel_rfl) (by simp) (AllReadyH.cons (o := ?_) ?_ (fun K hK => ?_) AllReadyH.nil); rotate_left 1; (focus ((simp only [List.getElem?_toArray, List.getElem?_cons_succ, List.getElem?_cons_zero]); try rfl)))
  go_simp
  refine hke.out.mono ?_
  rintro e wq ⟨rfl, hw⟩
  obtain rfl := hw.symm
  clear hw
  go_wp2_with fail
  refine hK.out _ _ (S0) (fun hHeld => ?_)
  clear hK K
  try simp only [Act.put, List.setIfInBounds_toArray, List.set_cons_zero, List.set_cons_succ]
  refine tk (v := .string sL) 10 ?_ (hy := by (refine Or.inl ⟨by rfl, ?_⟩; intro w hSw; go_simp; (try exact hsl w)))
  (refine wpAnyH_ready (rs := [11]) (by kernel_rfl) (by simp) (AllReadyH.cons (o := ?_) ?_ (fun K hK => ?_) AllReadyH.nil); rotate_left 1; (focus ((simp only [List.getElem?_toArray, List.getElem?_cons_succ, List.getElem?_cons_zero]); try rfl)))
  go_simp
  refine hsc.out.mono ?_
  rintro e w1 ⟨a, c, Q, rfl, o1, q1, hQ, f1⟩
  have S1 : (fun w' : World => w'.cell? ⟨gS, 0, none⟩ = some (.pointer (some ⟨gd, 0, none⟩))) w1 := f1.cell S0 (fun q => q)
  have fr := fD.seqN f1
  replace o1 := Lib.hid o1
  replace q1 := Lib.hid q1
  replace hQ := Lib.hid hQ
  replace fr := Lib.hid fr
  go_wp2_with fail
  refine hK.out _ _ (S1) (fun hHeld => ?_)
  clear hK K
  try simp only [Act.put, List.setIfInBounds_toArray, List.set_cons_zero, List.set_cons_succ]
  refine tk 12 ?_
  refine tk 13 ?_
  refine tk 14 ?_
  refine tk 15 ?_
  refine tk 16 ?_
  refine wpAnyH_done (by kernel_rfl) ?_ _
  clear hHeld S0 S1
  go_wp2_with fail
  go_ret
  exact ⟨a, c, Q, rfl, o1.out, q1.out, hQ.out, fr.out⟩
end Go.Proofs.YtdmhnoffejjpnaaGreatDoor
end

section
set_option linter.unusedVariables false
set_option linter.unusedSimpArgs false
set_option maxRecDepth 100000
set_option maxRecDepth 100000
namespace Go.Proofs.YtdmhnoffejjpnaaGreatDoor
open Go.RowKit Go Go.Lib

theorem indexq_nil (c gt gc : Nat) (w : World) : Calls Tryz.prog 71 #[.slice none 0 c, qcl gt gc] w fun e w' => e = .returned (.int .i64 (-1)) ∧ w' = w := by
  unfold qcl
  go_enter Tryz.func71, Tryz.ntmps71
  go_wp2
  refine wp_loop_rounds 1 ?_
  rw [rounds_succ]
  go_wp2
  go_ret
  exact ⟨rfl, rfl⟩
theorem delq_nil (c gt gc : Nat) (w : World) : Calls Tryz.prog 50 #[.slice none 0 c, qcl gt gc] w fun e w' => e = .returned (.slice none 0 c) ∧ w' = w := by
  have hi := indexq_nil c gt gc w
  unfold qcl at *
  go_enter Tryz.func50, Tryz.ntmps50
  go_wp2_with fail
  refine hi.mono ?_
  rintro e w1 ⟨rfl, hw1⟩
  obtain rfl := hw1.symm
  clear hi hw1
  go_wp2_with fail
  go_ret
  exact ⟨rfl, rfl⟩
/-- the same of whatever row -/
theorem delq_all (B n gt gc : Nat) (a : Option Addr) (c : Nat) (tr cl : Int) (X : List QU) (w : World) (h : w.ownsRow B 63 5 (.slice a n c) n (X.flatMap QU.cs)) (hX : X.length = n) (hn : n ≤ 1000000)
    (ht : w.cell? ⟨gt, 0, none⟩ = some (.int .i64 tr)) (hc : w.cell? ⟨gc, 0, none⟩ = some (.int .i64 cl)) (hgt : gt < B) (hgc : gc < B) :
    Calls Tryz.prog 50 #[.slice a n c, qcl gt gc] w fun e w' => ∃ m, m = (X.filter fun x => !goneQ tr cl x.x).length ∧ e = .returned (.slice a m c) ∧ w'.ownsRow B 63 5 (.slice a m c) m ((X.filter fun x => !goneQ tr cl x.x).flatMap QU.cs) ∧ Fr (fun i => B ≤ i ∧ ∃ q, a = some q ∧ q.block = i) w w' := by
  rcases h.2 with ⟨h1, h2⟩ | ⟨g, cap, cur, h1, hb, hg, hn2, hm2, hs, ht2⟩
  · cases h1
    have e : X = [] := List.length_eq_zero_iff.1 hX
    subst e
    refine (delq_nil _ gt gc w).mono ?_
    rintro e w1 ⟨rfl, rfl⟩
    exact ⟨0, rfl, rfl, h, Fr.refl _ _⟩
  · cases h1
    refine (delq_any B g _ n gt gc tr cl X w h hX hn ht hc (by omega) (by omega)).mono ?_
    rintro e w1 ⟨rfl, o, f⟩
    exact ⟨_, rfl, rfl, o, f.mono (fun i _ q => by unfold onlyB at q; subst q; exact ⟨hb, _, rfl, rfl⟩)⟩
end Go.Proofs.YtdmhnoffejjpnaaGreatDoor
end

section
set_option linter.unusedVariables false
set_option linter.unusedSimpArgs false
set_option maxRecDepth 100000
set_option maxRecDepth 100000
namespace Go.Proofs.YtdmhnoffejjpnaaGreatDoor
open Go.RowKit Go Go.Lib

theorem rows_apart {w : World} {B B' s s' n n' g : Nat} {e e' : TypeId} {v v' : Value} {xs xs' : List Value} (h : w.ownsRow B e s v n xs) (h' : w.ownsRow B' e' s' v' n' xs') (hne : e ≠ e') (h1 : v.ownBlock = some g) (h2 : v'.ownBlock = some g) : False := by
  rcases h.2 with ⟨rfl, _⟩ | ⟨g1, cap1, cur1, rfl, _, hg1, _⟩
  · cases h1
  · rcases h'.2 with ⟨rfl, _⟩ | ⟨g2, cap2, cur2, rfl, _, hg2, _⟩
    · cases h2
    · simp [Value.ownBlock] at h1 h2
      subst h1; subst h2
      rw [hg1] at hg2
      simp at hg2
      exact hne hg2.2
theorem filter_map_x (Q : List QU) (L : List RC) (h : Q.map QU.x = L) (p : RC → Bool) : (Q.filter fun x => p x.x).map QU.x = L.filter p := by
  subst h
  rw [List.filter_map]; rfl
theorem Dk.frN {w w' : World} {g B : Nat} {bs : List UInt8} {kept : Nat} (h : Dk w g B bs kept) (f : Fr noB w w') : Dk w' g B bs kept := by
  obtain ⟨a, c, h1, h2, h3, h4, h5, h6⟩ := h
  exact ⟨a, c, f.blk h1 (fun q => q), ownsRow_fr h2 f (fun _ _ q => q), h3, by have := f.size; omega, h5, h6⟩
theorem bytes_few (L : List RC) : L.length ≤ (bytesR L).length := by
  induction L with
  | nil => exact Nat.zero_le _
  | cons r L ih =>
    have h : bytesR (r :: L) = frR r ++ bytesR L := rfl
    rw [h, List.length_append, List.length_cons]
    have : (frR r).length = 8 + (recT r).length := by unfold frR; exact frame_len _
    omega
set_option maxHeartbeats 4000000 in
theorem query_any (gS gd B : Nat) (bs : List UInt8) (kept : Nat) (L : List RC) (j p c r : Value) (tr cl : Int) (w : World) (hg : Gl w) (hS : Blk w gS 84 [.pointer (some ⟨gd, 0, none⟩), j, p, c, r]) (hD : Dk w gd B bs kept)
    (hb : bs.take kept = bytesR L) (hL : ∀ r ∈ L, okW r) :
    Calls Tryz.prog 23 #[.pointer (some ⟨gS, 0, none⟩), .int .i64 tr, .int .i64 cl] w fun e w' => ∃ a c Q, e = .returned (.slice a (L.filter fun x => !goneQ tr cl x).length c) ∧ w'.ownsRow w.heap.size 63 5 (.slice a (L.filter fun x => !goneQ tr cl x).length c) (L.filter fun x => !goneQ tr cl x).length (Q.flatMap QU.cs) ∧ OwnQ w' w.heap.size Q ∧ Q.map QU.x = (L.filter fun x => !goneQ tr cl x) ∧ Fr noB w w' := by
  have hbl : (bytesR L).length ≤ 65536 := by
    obtain ⟨_, _, _, _, _, _, h1, h2⟩ := hD
    rw [← hb, List.length_take]; omega
  have f1 := (Fr.refl noB w).alloc (.cells #[.int .i64 tr] 3)
  have f2 := f1.alloc (.cells #[.int .i64 cl] 3)
  have b1 := Blk.new w 3 [.int .i64 tr]
  have b2 := Blk.new (w.alloc (.cells #[.int .i64 tr] 3)) 3 [.int .i64 cl]
  have b1' : Blk ((w.alloc (.cells #[.int .i64 tr] 3)).alloc (.cells #[.int .i64 cl] 3)) w.heap.size 3 [.int .i64 tr] := ((Fr.refl noB _).alloc _).blk b1 (fun q => q)
  have hrec := records_any gS gd B bs kept L j p c r _ (hg.fr f2) (f2.blk hS (fun q => q)) (hD.frN f2) hb hL
  have hfew := bytes_few L
  obtain ⟨gt, hgt⟩ : ∃ q, w.heap.size = q := ⟨_, rfl⟩
  obtain ⟨gc, hgc⟩ : ∃ q, (w.alloc (.cells #[.int .i64 tr] 3)).heap.size = q := ⟨_, rfl⟩
  have hgcb : gc = gt + 1 := by rw [← hgc, ← hgt]; unfold World.alloc; simp only [Array.size_push]
  have hsz2 : ((w.alloc (.cells #[.int .i64 tr] 3)).alloc (.cells #[.int .i64 cl] 3)).heap.size = gt + 2 := by rw [← hgt]; unfold World.alloc; simp only [Array.size_push]
  rw [hgc] at b2
  rw [hgt] at b1'
  replace hgt := Lib.hid hgt
  subst hgcb
  clear hgc
  replace hrec := Lib.hid hrec
  clear hS hD hb hL hg f1 b1
  go_enter Tryz.func23, Tryz.ntmps23
  go_wp2_with fail
  go_fit hrec.out
  rintro e w3 ⟨a, c, Q, rfl, o3, q3, hQ, f3⟩
  rw [hsz2] at o3 q3
  have d1 := f3.blk b1' (fun q => q)
  have d2 := f3.blk b2 (fun q => q)
  have hdel := delq_all (gt + 2) L.length gt (gt + 1) a c tr cl Q w3 o3 (by rw [← hQ, List.length_map]) (by omega) (d1.cell 0) (d2.cell 0) (by omega) (by omega)
  have fr3 := f2.seqN f3
  unfold qcl at hdel
  replace hdel := Lib.hid hdel
  replace fr3 := Lib.hid fr3
  clear hrec f2 f3 b1' b2 d1 d2 hsz2
  (try rw [hgt.out])
  go_wp2_with fail
  go_fit hdel.out
  rintro e w4 ⟨m, hm, rfl, o4, f4⟩
  have hQf := filter_map_x Q L hQ (fun x => !goneQ tr cl x)
  have hml : m = (L.filter fun x => !goneQ tr cl x).length := by rw [← hQf, List.length_map]; exact hm
  have hgw := hgt.out
  have fr4 : Fr noB w w4 := fr3.out.trans f4 (fun _ _ q => q) (fun i hi q => by have := q.1; omega)
  have q4 : OwnQ w4 w.heap.size (Q.filter fun x => !goneQ tr cl x.x) := fun q hq => by
    have hq3 := q3 q (List.mem_filter.1 hq).1
    refine (hq3.fr f4 ?_ ?_).mono (by omega)
    · rintro g1 h1 ⟨_, q', rfl, rfl⟩
      exact rows_apart o3 hq3.r (by decide) rfl h1
    · rintro u hu g1 h1 ⟨_, q', rfl, rfl⟩
      rcases h1 with h1 | h1
      · exact rows_apart o3 (hq3.s.s u hu) (by decide) rfl h1
      · exact rows_apart o3 (hq3.s.c u hu) (by decide) rfl h1
  replace o4 := Lib.hid o4
  replace q4 := Lib.hid q4
  replace fr4 := Lib.hid fr4
  replace hml := Lib.hid hml
  replace hQf := Lib.hid hQf
  clear hdel fr3 o3 q3 f4 hm hQ
  go_wp2_with fail
  go_ret
  refine ⟨a, c, _, by rw [hml.out]; rfl, ?_, q4.out, hQf.out, fr4.out⟩
  rw [← hml.out]
  exact ownsRow_mono o4.out (by omega)
end Go.Proofs.YtdmhnoffejjpnaaGreatDoor
end

section
set_option linter.unusedVariables false
set_option linter.unusedSimpArgs false
set_option maxRecDepth 100000
set_option maxRecDepth 100000
namespace Go.Proofs.YtdmhnoffejjpnaaGreatDoor
open Go.RowKit Go Go.Lib

theorem pending_any (gS n c : Nat) (a : Option Addr) (d j m r : Value) (w : World) (hS : Blk w gS 84 [d, j, .slice a n c, m, r]) (hn : n ≤ 1000000) :
    Calls Tryz.prog 21 #[.pointer (some ⟨gS, 0, none⟩)] w fun e w' => e = .returned (.int .i64 n) ∧ w' = w := by
  have c2 := hS.cell 2
  simp only [List.getElem?_cons_zero, List.getElem?_cons_succ] at c2
  clear hS
  go_enter Tryz.func21, Tryz.ntmps21
  go_wp2_with fail
  go_ret
  exact ⟨rfl, rfl⟩
theorem refused_any (gS : Nat) (r : Int) (d j p m : Value) (w : World) (hS : Blk w gS 84 [d, j, p, m, .int .i64 r]) :
    Calls Tryz.prog 22 #[.pointer (some ⟨gS, 0, none⟩)] w fun e w' => e = .returned (.int .i64 r) ∧ w' = w := by
  have c4 := hS.cell 4
  simp only [List.getElem?_cons_zero, List.getElem?_cons_succ] at c4
  clear hS
  go_enter Tryz.func22, Tryz.ntmps22
  go_wp2_with fail
  go_ret
  exact ⟨rfl, rfl⟩
theorem pending_nil (w : World) : Calls Tryz.prog 21 #[.pointer none] w fun e w' => e = .returned (.int .i64 0) ∧ w' = w := by
  go_enter Tryz.func21, Tryz.ntmps21
  go_wp2_with fail
  go_ret
  exact ⟨rfl, rfl⟩
theorem refused_nil (w : World) : Calls Tryz.prog 22 #[.pointer none] w fun e w' => e = .returned (.int .i64 0) ∧ w' = w := by
  go_enter Tryz.func22, Tryz.ntmps22
  go_wp2_with fail
  go_ret
  exact ⟨rfl, rfl⟩
theorem records_nil (w : World) : Calls Tryz.prog 20 #[.pointer none] w fun e w' => e = .returned (.slice none 0 0) ∧ w' = w := by
  go_enter Tryz.func20, Tryz.ntmps20
  go_wp2_with fail
  go_ret
  exact ⟨rfl, rfl⟩
theorem stick_nil (w : World) : Calls Tryz.prog 11 #[.pointer none] w fun e w' => e = .returned (.slice none 0 0) ∧ w' = w := by
  go_enter Tryz.func11, Tryz.ntmps11
  go_wp2_with fail
  go_ret
  exact ⟨rfl, rfl⟩
theorem scrash_nil (k : Int) (w : World) : Calls Tryz.prog 13 #[.pointer none, .int .i64 k] w fun e w' => e = .returned (.tuple #[]) ∧ w' = w := by
  go_enter Tryz.func13, Tryz.ntmps13
  go_wp2_with fail
  refine bodyPost_ret (results_none rfl _ _ _) rfl ?_
  exact ⟨rfl, rfl⟩
theorem query_nil (tr cl : Int) (w : World) : Calls Tryz.prog 23 #[.pointer none, .int .i64 tr, .int .i64 cl] w fun e w' => e = .returned (.slice none 0 0) ∧ Fr noB w w' := by
  have f1 := (Fr.refl noB w).alloc (.cells #[.int .i64 tr] 3)
  have f2 := f1.alloc (.cells #[.int .i64 cl] 3)
  have hrec := records_nil ((w.alloc (.cells #[.int .i64 tr] 3)).alloc (.cells #[.int .i64 cl] 3))
  have hdel := fun gt gc => delq_nil 0 gt gc ((w.alloc (.cells #[.int .i64 tr] 3)).alloc (.cells #[.int .i64 cl] 3))
  unfold qcl at hdel
  go_enter Tryz.func23, Tryz.ntmps23
  go_wp2_with fail
  refine hrec.mono ?_
  rintro e w3 ⟨rfl, hw⟩
  obtain rfl := hw.symm
  clear hw
  go_wp2_with fail
  refine (hdel _ _).mono ?_
  rintro e w4 ⟨rfl, hw⟩
  obtain rfl := hw.symm
  clear hw
  go_wp2_with fail
  go_ret
  exact ⟨rfl, f2⟩
end Go.Proofs.YtdmhnoffejjpnaaGreatDoor
end
