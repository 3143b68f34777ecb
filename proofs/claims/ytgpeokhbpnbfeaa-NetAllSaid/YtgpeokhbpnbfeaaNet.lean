/-
  The net's calls, each by what it does to the messages on the way.
-/
import Derived.Test.YtgpeokhbpnbfeaaNetDelete
import Derived.BigRegion
import Derived.OwnWalk
import Derived.Deep.DeepMust
set_option linter.unusedVariables false
set_option linter.unusedSimpArgs false
namespace Go.Proofs.Ytgpeokhbpnbfeaa
open Go.RowKit Go Go.Lib

/-- A net at block g: the messages on the way, in a row of blocks from B on. -/
def Nt (w : World) (g B : Nat) (ms : List (Int × ByteArray)) : Prop :=
  ∃ a c, Blk w g 48 [.slice a ms.length c] ∧ w.ownsRow B 51 2 (.slice a ms.length c) ms.length (cellsM ms) ∧ g < B ∧ B ≤ w.heap.size ∧ ms.length ≤ 200
/-- what a net's calls may write: its own block, and its row's -/
def touched (w : World) (g : Nat) : Nat → Prop := fun k => k = g ∨ ∃ a n c, Blk w g 48 [.slice (some a) n c] ∧ a.block = k
theorem touched_g (w : World) (g : Nat) : touched w g g := Or.inl rfl
theorem Nt.touch {w : World} {g B : Nat} {ms : List (Int × ByteArray)} (h : Nt w g B ms) {k : Nat} (ht : touched w g k) : k = g ∨ (B ≤ k ∧ k < w.heap.size) := by
  obtain ⟨a, c, hb, ho, _⟩ := h
  rcases ht with ht | ⟨a', n', c', hb', rfl⟩
  · exact Or.inl ht
  · unfold Blk at hb hb'
    rw [hb] at hb'
    simp only [Option.some.injEq, Obj.cells.injEq, List.toArray_inj, List.cons.injEq, Value.slice.injEq, and_true] at hb'
    obtain ⟨rfl, _⟩ := hb'
    exact Or.inr (ho.lt _ rfl)
theorem Nt.drewN {w : World} {g B : Nat} {ms : List (Int × ByteArray)} (h : Nt w g B ms) (n : Nat) : Nt (w.drewN n) g B ms := h
/-- a net that is made, or used, by the walk: what turns lies above the walk's heap -/
theorem Fr.noT {w b c : World} {g B : Nat} {ms : List (Int × ByteArray)} (h : Fr noB w b) (k : Fr (touched b g) b c) (hn : Nt b g B ms) (hg : w.heap.size ≤ g) (hB : w.heap.size ≤ B) : Fr noB w c :=
  h.trans k (fun _ _ q => q) (fun i hi q => by rcases hn.touch q with h1 | h1 <;> omega)
theorem Nt.frame {w w' : World} {g B : Nat} {ms : List (Int × ByteArray)} {S : Nat → Prop} (h : Nt w g B ms) (hf : Fr S w w') (hg : ¬ S g) (hB : ∀ k, B ≤ k → k < w.heap.size → ¬ S k) : Nt w' g B ms := by
  obtain ⟨a, c, hb, ho, hgB, hBw, hl⟩ := h
  exact ⟨a, c, hf.blk hb hg, ownsRow_fr ho hf (fun q hq => hB q (ho.lt q hq).1 (ho.lt q hq).2), hgB, Nat.le_trans hBw hf.size, hl⟩

theorem nnew_any (w : World) : Calls Try.prog 7 #[] w fun e w' => e = .returned (.pointer (some ⟨w.heap.size, 0, none⟩)) ∧ w' = w.alloc (.cells [Value.slice none 0 0].toArray 48) := by
  go_enter Try.func7, Try.ntmps7
  go_wp2
  go_ret
  exact ⟨rfl, rfl⟩
theorem nt_new (w : World) : ∀ w', w.heap.size < w'.heap.size → Blk w' w.heap.size 48 [.slice none 0 0] → Nt w' w.heap.size w'.heap.size [] := fun w' h hb =>
  ⟨none, 0, hb, World.ownsRow_nil _ _ _ _, h, Nat.le_refl _, Nat.zero_le _⟩

theorem nsend_nil (to : Int) (s : ByteArray) (w : World) : Calls Try.prog 9 #[.pointer none, .int .i64 to, .string s] w fun e w' => e = .returned (.int .i64 9) ∧ w' = w := by
  go_enter Try.func9, Try.ntmps9
  go_wp2
  go_ret
  exact ⟨rfl, rfl⟩
theorem nsend_full (g B : Nat) (ms : List (Int × ByteArray)) (to : Int) (s : ByteArray) (w : World) (h : Nt w g B ms) (hf : ms.length = 200) :
    Calls Try.prog 9 #[.pointer (some ⟨g, 0, none⟩), .int .i64 to, .string s] w fun e w' => e = .returned (.int .i64 6) ∧ w' = w := by
  obtain ⟨a, c, hb, ho, hgB, hBw, hl⟩ := h
  rw [hf] at hb
  have c0 : w.cell? ⟨g, 0, none⟩ = some (.slice a 200 c) := hb.cell 0
  clear ho hf hl
  go_enter Try.func9, Try.ntmps9
  go_wp2
  go_ret
  exact ⟨rfl, rfl⟩
theorem nlen_nil (w : World) : Calls Try.prog 15 #[.pointer none] w fun e w' => e = .returned (.int .i64 0) ∧ w' = w := by
  go_enter Try.func15, Try.ntmps15
  go_wp2
  go_ret
  exact ⟨rfl, rfl⟩
theorem nlen_any (g B : Nat) (ms : List (Int × ByteArray)) (w : World) (h : Nt w g B ms) :
    Calls Try.prog 15 #[.pointer (some ⟨g, 0, none⟩)] w fun e w' => e = .returned (.int .i64 ms.length) ∧ w' = w := by
  obtain ⟨a, c, hb, ho, hgB, hBw, hl⟩ := h
  generalize ms.length = n at *
  have c0 : w.cell? ⟨g, 0, none⟩ = some (.slice a n c) := hb.cell 0
  clear ho
  go_enter Try.func15, Try.ntmps15
  go_wp2
  go_ret
  exact ⟨rfl, rfl⟩

/-- the place that 'k' names, of n > 0 -/
def placeN (k : Int) (n : Nat) : Nat := (IntKind.u64.wrap k % n).toNat
theorem placeN_lt (k : Int) (n : Nat) (h : 0 < n) : placeN k n < n := by
  unfold placeN
  have h3 := Int.emod_nonneg (IntKind.u64.wrap k) (show (n : Int) ≠ 0 by omega)
  have h4 := Int.emod_lt_of_pos (IntKind.u64.wrap k) (show (0 : Int) < n by omega)
  omega

theorem place_wrap (k : Int) (n : Nat) (h : 0 < n) (h2 : n ≤ 200) : wrap64 ((IntKind.u64.wrap k).tmod n) = (placeN k n : Int) := by
  have hu : 0 ≤ IntKind.u64.wrap k := by rw [IntKind.wrap_u64]; omega
  have h3 := Int.emod_nonneg (IntKind.u64.wrap k) (show (n : Int) ≠ 0 by omega)
  have h4 := Int.emod_lt_of_pos (IntKind.u64.wrap k) (show (0 : Int) < n by omega)
  rw [Int.tmod_eq_emod_of_nonneg hu, IntWalk.wrap64_in _ (by omega)]
  unfold placeN
  omega

theorem nplace_nil (k : Int) (w : World) : Calls Try.prog 16 #[.pointer none, .int .i64 k] w fun e w' => e = .returned (.tuple #[.int .i64 0, .bool false]) ∧ w' = w := by
  go_enter Try.func16, Try.ntmps16
  go_wp2_with fail
  refine (nlen_nil w).mono ?_
  rintro e w' ⟨rfl, hw⟩
  obtain rfl := hw.symm
  go_wp2_with fail
  go_ret2
  exact ⟨rfl, rfl⟩
theorem nplace_none (g B : Nat) (k : Int) (w : World) (h : Nt w g B []) : Calls Try.prog 16 #[.pointer (some ⟨g, 0, none⟩), .int .i64 k] w fun e w' => e = .returned (.tuple #[.int .i64 0, .bool false]) ∧ w' = w := by
  go_enter Try.func16, Try.ntmps16
  go_wp2_with fail
  refine (nlen_any g B [] w h).mono ?_
  rintro e w' ⟨rfl, hw⟩
  obtain rfl := hw.symm
  go_wp2_with fail
  go_ret2
  exact ⟨rfl, rfl⟩
theorem nplace_any (g B : Nat) (ms : List (Int × ByteArray)) (k : Int) (w : World) (h : Nt w g B ms) (hn : 0 < ms.length) : Calls Try.prog 16 #[.pointer (some ⟨g, 0, none⟩), .int .i64 k] w fun e w' => e = .returned (.tuple #[.int .i64 (placeN k ms.length), .bool true]) ∧ w' = w := by
  have hD := nlen_any g B ms w h
  obtain ⟨a, c, hb, ho, hgB, hBw, hl⟩ := h
  have hm := place_wrap k ms.length hn hl
  generalize ms.length = n at *
  have c0 : w.cell? ⟨g, 0, none⟩ = some (.slice a n c) := hb.cell 0
  have hd : ((n : Int) == 0) = false := by simp; omega
  clear ho
  replace hm := Lib.hid hm
  go_enter Try.func16, Try.ntmps16
  go_wp2_with fail
  refine hD.mono ?_
  rintro e w' ⟨rfl, hw⟩
  obtain rfl := hw.symm
  go_wp2_with fail
  rw [hm.out]
  go_ret2
  exact ⟨rfl, rfl⟩

theorem nlook_nil (k : Int) (w : World) : Calls Try.prog 11 #[.pointer none, .int .i64 k] w fun e w' => e = .returned (.tuple #[.int .i64 0, .string ⟨#[]⟩, .bool false]) ∧ w' = w := by
  go_enter Try.func11, Try.ntmps11
  go_wp2_with fail
  refine (nplace_nil k w).mono ?_
  rintro e w' ⟨rfl, hw⟩
  obtain rfl := hw.symm
  go_wp2_with fail
  go_ret3
  exact ⟨rfl, rfl⟩
theorem nlook_none (g B : Nat) (k : Int) (w : World) (h : Nt w g B []) : Calls Try.prog 11 #[.pointer (some ⟨g, 0, none⟩), .int .i64 k] w fun e w' => e = .returned (.tuple #[.int .i64 0, .string ⟨#[]⟩, .bool false]) ∧ w' = w := by
  go_enter Try.func11, Try.ntmps11
  go_wp2_with fail
  refine (nplace_none g B k w h).mono ?_
  rintro e w' ⟨rfl, hw⟩
  obtain rfl := hw.symm
  go_wp2_with fail
  go_ret3
  exact ⟨rfl, rfl⟩
theorem nlook_any (g B : Nat) (ms : List (Int × ByteArray)) (k : Int) (m : Int × ByteArray) (w : World) (h : Nt w g B ms) (hn : 0 < ms.length) (hm : ms[placeN k ms.length]? = some m) :
    Calls Try.prog 11 #[.pointer (some ⟨g, 0, none⟩), .int .i64 k] w fun e w' => e = .returned (.tuple #[.int .i64 m.1, .string m.2, .bool true]) ∧ ∃ q, w' = w.drewN q := by
  have hD := nplace_any g B ms k w h hn
  have hp := placeN_lt k ms.length hn
  obtain ⟨a, c, hb, ho, hgB, hBw, hl⟩ := h
  obtain ⟨g0, cap, hv, _⟩ := ownsRow_some ho hn
  cases hv
  obtain ⟨m0, m1⟩ := cellsM_get ms _ m hm
  have e0 := ho.cells rfl _ _ m0
  have e1 := ho.cells rfl _ _ m1
  rw [Addr.add_lit, Nat.zero_add] at e0 e1
  have c0 : w.cell? ⟨g, 0, none⟩ = some (.slice (some ⟨g0, 0, none⟩) ms.length c) := hb.cell 0
  clear ho hb hm m0 m1
  generalize placeN k ms.length = i at *
  generalize ms.length = n at *
  go_enter Try.func11, Try.ntmps11
  go_wp2_with fail
  refine hD.mono ?_
  rintro e w' ⟨rfl, hw⟩
  obtain rfl := hw.symm
  go_wp2_with fail
  go_quiet (fail)
  go_wp2_with fail
  go_ret3
  exact ⟨rfl, ⟨_, rfl⟩⟩

theorem ndrop_nil (k : Int) (w : World) : Calls Try.prog 14 #[.pointer none, .int .i64 k] w fun e w' => e = .returned (.bool false) ∧ w' = w := by
  go_enter Try.func14, Try.ntmps14
  go_wp2_with fail
  refine (nplace_nil k w).mono ?_
  rintro e w' ⟨rfl, hw⟩
  obtain rfl := hw.symm
  go_wp2_with fail
  go_ret
  exact ⟨rfl, rfl⟩
theorem ndrop_none (g B : Nat) (k : Int) (w : World) (h : Nt w g B []) : Calls Try.prog 14 #[.pointer (some ⟨g, 0, none⟩), .int .i64 k] w fun e w' => e = .returned (.bool false) ∧ w' = w := by
  go_enter Try.func14, Try.ntmps14
  go_wp2_with fail
  refine (nplace_none g B k w h).mono ?_
  rintro e w' ⟨rfl, hw⟩
  obtain rfl := hw.symm
  go_wp2_with fail
  go_ret
  exact ⟨rfl, rfl⟩
theorem ndrop_any (g B : Nat) (ms : List (Int × ByteArray)) (k : Int) (w : World) (h : Nt w g B ms) (hn : 0 < ms.length) :
    Calls Try.prog 14 #[.pointer (some ⟨g, 0, none⟩), .int .i64 k] w fun e w' => e = .returned (.bool true) ∧ Nt w' g B (ms.take (placeN k ms.length) ++ ms.drop (placeN k ms.length + 1)) ∧ Fr (touched w g) w w' := by
  have hD := nplace_any g B ms k w h hn
  have hp := placeN_lt k ms.length hn
  obtain ⟨a, c, hb, ho, hgB, hBw, hl⟩ := h
  generalize placeN k ms.length = i at *
  have hdel := delete_own B i (i + 1) c a ms w ho rfl (by omega)
  have hlen : (ms.take i ++ ms.drop (i + 1)).length = ms.length - 1 := by simp; omega
  have hbw : ∀ q, a = some q → B ≤ q.block ∧ q.block < w.heap.size := fun q hq => ho.lt _ (by rw [hq]; rfl)
  clear ho
  generalize hN : ms.length = n at *
  replace hN := Lib.hid hN
  replace hlen := Lib.hid hlen
  have c0 : w.cell? ⟨g, 0, none⟩ = some (.slice a n c) := hb.cell 0
  have f0 := hb.frozen 0
  go_enter Try.func14, Try.ntmps14
  go_wp2_with fail
  refine hD.mono ?_
  rintro e w' ⟨rfl, hw⟩
  obtain rfl := hw.symm
  go_wp2_with fail
  refine hdel.mono ?_
  rintro e w1 ⟨rfl, f1, o1⟩
  have b1 := f1.blk hb (by rintro ⟨q, rfl, hq⟩; have := (hbw q rfl).1; omega)
  have fz := b1.frozen 0
  have fc : w1.cell? ⟨g, 0, none⟩ = some (.slice a n c) := b1.cell 0
  have b2 := b1.set 0 (.slice a (n - 1) c)
  have o2 := ownsRow_fr o1 ((Fr.refl (onlyB g) w1).store (g := g) (i := 0) (v := .slice a (n - 1) c) (onlyB_self g)) (fun q hq => by have := (o1.lt q hq).1; unfold onlyB; omega)
  have f2 : Fr (touched w g) w w1 := f1.mono (fun q _ hq => by obtain ⟨z, rfl, hz⟩ := hq; exact Or.inr ⟨z, n, c, hb, hz⟩)
  clear c0 f0 hdel hD
  go_wp2_with fail
  go_ret
  refine ⟨rfl, ⟨a, c, by rw [hlen.out]; exact b2, by rw [hlen.out]; exact o2, hgB, ?_, by rw [hlen.out]; omega⟩, f2.store (touched_g w g)⟩
  have := f1.size; simp [World.setCell]; omega

theorem nbring_nil (k : Int) (w : World) : Calls Try.prog 12 #[.pointer none, .int .i64 k] w fun e w' => e = .returned (.tuple #[.int .i64 0, .string ⟨#[]⟩, .bool false]) ∧ w' = w := by
  go_enter Try.func12, Try.ntmps12
  go_wp2_with fail
  refine (nlook_nil k w).mono ?_
  rintro e w' ⟨rfl, hw⟩
  obtain rfl := hw.symm
  go_wp2_with fail
  refine (ndrop_nil k w).mono ?_
  rintro e w' ⟨rfl, hw⟩
  obtain rfl := hw.symm
  go_wp2_with fail
  go_ret3
  exact ⟨rfl, rfl⟩
theorem nbring_none (g B : Nat) (k : Int) (w : World) (h : Nt w g B []) : Calls Try.prog 12 #[.pointer (some ⟨g, 0, none⟩), .int .i64 k] w fun e w' => e = .returned (.tuple #[.int .i64 0, .string ⟨#[]⟩, .bool false]) ∧ w' = w := by
  go_enter Try.func12, Try.ntmps12
  go_wp2_with fail
  refine (nlook_none g B k w h).mono ?_
  rintro e w' ⟨rfl, hw⟩
  obtain rfl := hw.symm
  go_wp2_with fail
  refine (ndrop_none g B k w h).mono ?_
  rintro e w' ⟨rfl, hw⟩
  obtain rfl := hw.symm
  go_wp2_with fail
  go_ret3
  exact ⟨rfl, rfl⟩
theorem touched_drewN {w : World} {g k q : Nat} (h : touched (w.drewN q) g k) : touched w g k := h
theorem nbring_any (g B : Nat) (ms : List (Int × ByteArray)) (k : Int) (m : Int × ByteArray) (w : World) (h : Nt w g B ms) (hn : 0 < ms.length) (hm : ms[placeN k ms.length]? = some m) :
    Calls Try.prog 12 #[.pointer (some ⟨g, 0, none⟩), .int .i64 k] w fun e w' => e = .returned (.tuple #[.int .i64 m.1, .string m.2, .bool true]) ∧ Nt w' g B (ms.take (placeN k ms.length) ++ ms.drop (placeN k ms.length + 1)) ∧ Fr (touched w g) w w' := by
  go_enter Try.func12, Try.ntmps12
  go_wp2_with fail
  refine (nlook_any g B ms k m w h hn hm).mono ?_
  rintro e w' ⟨rfl, q, rfl⟩
  go_wp2_with fail
  refine (ndrop_any g B ms k _ (h.drewN q) hn).mono ?_
  rintro e w2 ⟨rfl, n2, f2⟩
  go_wp2_with fail
  go_ret3
  exact ⟨rfl, n2, ((Fr.refl (touched w g) w).drewN q).trans f2 (fun _ _ z => z) (fun _ _ z => z)⟩

theorem Try.infoMsgB : (Try.prog.info? 51).map (fun i => (i.zero, i.size, i.bytes)) = some (some (.agg #[.int .i64 0, .string ⟨#[]⟩]), 2, 24) := by kernel_rfl

theorem cell_new2 (w : World) (x y : Value) (t : TypeId) : ∀ j u, [x, y][j]? = some u → (w.alloc (.cells #[x, y] t)).cell? ((⟨w.heap.size, 0, none⟩ : Addr).add j) = some u := by
  intro j u hj
  rw [Addr.add_lit, Nat.zero_add]
  exact ((Blk.new w t [x, y]).cell j).trans hj

set_option maxRecDepth 10000 in
theorem nsend_any (g B : Nat) (ms : List (Int × ByteArray)) (to : Int) (s : ByteArray) (w : World) (h : Nt w g B ms) (hf : ms.length < 200) :
    Calls Try.prog 9 #[.pointer (some ⟨g, 0, none⟩), .int .i64 to, .string s] w fun e w' => e = .returned (.int .i64 0) ∧ Nt w' g B (ms ++ [(to, s)]) ∧ Fr (touched w g) w w' := by
  obtain ⟨a, c, hb, ho, hgB, hBw, hl⟩ := h
  have hI := Try.infoMsgB
  obtain ⟨i0, hi, hz0, hz1, hz2⟩ : ∃ i0, Try.prog.info? 51 = some i0 ∧ i0.zero = some (.agg #[.int .i64 0, .string ⟨#[]⟩]) ∧ i0.size = 2 ∧ i0.bytes = 24 := by
    cases hq : Try.prog.info? 51 with
    | none => rw [hq] at hI; cases hI
    | some k => rw [hq] at hI; simp at hI; exact ⟨k, rfl, hI⟩
  clear hI
  have hlen : (ms ++ [(to, s)]).length = ms.length + 1 := by simp
  generalize hn : ms.length = n at *
  replace hn := Lib.hid hn
  replace hlen := Lib.hid hlen
  have c0 : w.cell? ⟨g, 0, none⟩ = some (.slice a n c) := hb.cell 0
  have f0 := hb.frozen 0
  go_enter Try.func9, Try.ntmps9
  have hA : (w.alloc (.cells #[.int .i64 to, .string s] 51)).ownsRow B 51 2 (.slice a n c) n (cellsM ms) := ownsRow_fr ho ((Fr.refl noB w).alloc _) (fun _ _ q => q)
  have hN := cell_new2 w (.int .i64 to) (.string s) 51
  clear ho
  go_wp2_with (first
    | (at_builtin; go_must (refine wpList_append_at _ rfl (.tmp 19) (.tmp 23) 46 rfl B 51 i0 _ 2 24 Try.underlying46 hi hz0 hz1 hz2 rfl (by omega) _ n _ rfl hA ⟨w.heap.size, 0, none⟩ 1 1 [.int .i64 to, .string s] rfl rfl hN ?_ ?_ ?_ ?_ ?_))
    | fail)
  · intro u hu; simp at hu; rcases hu with rfl | rfl <;> rfl
  · unfold maxLen; omega
  · omega
  · have := ((Fr.refl noB w).alloc (.cells #[.int .i64 to, .string s] 51)).size; omega
  intro v' w1 o1 gr1 _
  have fA := (Fr.refl noB w).alloc (.cells #[.int .i64 to, .string s] 51)
  have bA : Blk (w.alloc (.cells #[.int .i64 to, .string s] 51)) g 48 [.slice a n c] := fA.blk hb (fun q => q)
  have hne : ∀ q, (Value.slice a n c).ownBlock = some q → B ≤ q := fun q hq => (hA.lt q hq).1
  have b1 : Blk w1 g 48 [.slice a n c] := ((Fr.refl (fun k => B ≤ k) _).grown gr1 (fun q hq _ => hne q hq)).blk bA (fun q => by omega)
  have f1 : Fr (touched w g) w w1 := ((Fr.refl (touched w g) w).alloc (.cells #[.int .i64 to, .string s] 51)).grown gr1 (fun q hq _ => by
    cases a with
    | none => simp [Value.ownBlock] at hq
    | some ad => exact Or.inr ⟨ad, n, c, hb, by simpa [Value.ownBlock] using hq⟩)
  obtain ⟨a1, c1, hv⟩ := ownsRow_slice o1
  rw [hv] at o1 ⊢
  have fz := b1.frozen 0
  have fc : w1.cell? ⟨g, 0, none⟩ = some (.slice a n c) := b1.cell 0
  clear hv gr1 hne c0 f0 hA hN
  have b2 := b1.set 0 (.slice a1 (n + 1) c1)
  have o2 := ownsRow_fr o1 ((Fr.refl (onlyB g) w1).store (g := g) (i := 0) (v := .slice a1 (n + 1) c1) (onlyB_self g)) (fun q hq => by have := (o1.lt q hq).1; unfold onlyB; omega)
  go_wp2
  go_ret
  refine ⟨rfl, ⟨a1, c1, by rw [hlen.out]; exact b2, by rw [hlen.out, cellsM_append]; exact o2, hgB, ?_, ?_⟩, f1.store (touched_g w g)⟩
  · have := f1.size; simp [World.setCell]; omega
  · rw [hlen.out]; omega
end Go.Proofs.Ytgpeokhbpnbfeaa
