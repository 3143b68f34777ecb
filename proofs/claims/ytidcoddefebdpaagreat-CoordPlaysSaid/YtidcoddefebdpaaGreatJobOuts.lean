/-
  What a job has to say.
-/
import Derived.Test.YtidcoddefebdpaaGreatJobTake
import Derived.Handy
set_option linter.unusedVariables false
set_option linter.unusedSimpArgs false
set_option maxRecDepth 100000
namespace Go.Proofs.YtidcoddefebdpaaGreat
open Go.RowKit Go Go.Lib

theorem phase_nil (w : World) : Calls Tryz.prog 18 #[.pointer none] w fun e w' => e = .returned (.int .i64 4) ∧ w' = w := by
  go_enter Tryz.func18, Tryz.ntmps18
  go_wp2
  go_ret
  exact ⟨rfl, rfl⟩
theorem phase_any (p : Nat) (j : JS) (w : World) (h : Jb w p j) : Calls Tryz.prog 18 #[.pointer (some ⟨p, 0, none⟩)] w fun e w' => e = .returned (.int .i64 j.ph) ∧ w' = w := by
  have c40 : w.cell? ⟨p, 40, none⟩ = some (.int .i64 j.ph) := h.cell 40
  go_enter Tryz.func18, Tryz.ntmps18
  go_wp2
  go_ret
  exact ⟨rfl, rfl⟩
theorem visited_nil (w : World) : Calls Tryz.prog 46 #[.pointer none] w fun e w' => e = .returned (.slice none 0 0) ∧ w' = w := by
  go_enter Tryz.func46, Tryz.ntmps46
  go_wp2
  go_ret
  exact ⟨rfl, rfl⟩
theorem visited_any (p : Nat) (j : JS) (w : World) (h : Jb w p j) :
    Calls Tryz.prog 46 #[.pointer (some ⟨p, 0, none⟩)] w fun e w' => ∃ v, e = .returned v ∧ w'.ownsRow w.heap.size 3 1 v (whichL (fun _ => true) j 4).length (rowV (whichL (fun _ => true) j 4)) ∧ Fr noB w w' := by
  have hw := which_all p j w h
  go_enter Tryz.func46, Tryz.ntmps46
  go_wp2_with fail
  refine hw.mono ?_
  rintro e w1 ⟨v, rfl, o1, f1⟩
  clear hw
  go_wp2_with fail
  go_ret
  exact ⟨v, rfl, o1, f1⟩

/-- to each of them the same -/
def outC (L : List Int) (m : Value) : List Value := L.flatMap fun a => [.int .i64 a, m]
theorem infoOut : (Tryz.prog.info? 76).map (fun i => (i.zero, i.size, i.bytes)) = some (some (.agg #[.int .i64 0, .nilIface]), 2, 24) := by kernel_rfl
theorem outC_snoc (L : List Int) (a : Int) (m : Value) : outC (L ++ [a]) m = outC L m ++ [.int .i64 a, m] := by simp [outC]
theorem outC_len (L : List Int) (m : Value) : (outC L m).length = L.length * 2 := by
  induction L with
  | nil => rfl
  | cons a r ih => simp only [outC, List.flatMap_cons, List.length_append] at *; simp at *; omega
theorem cell_new2 (w : World) (x y : Value) (t : TypeId) : ∀ j u, [x, y][j]? = some u → (w.alloc (.cells #[x, y] t)).cell? ((⟨w.heap.size, 0, none⟩ : Addr).add j) = some u := by
  intro j u hj
  rw [Addr.add_lit, Nat.zero_add]
  exact ((Blk.new w t [x, y]).cell j).trans hj
set_option maxHeartbeats 1000000 in
set_option maxRecDepth 10000 in
theorem toEach_any (v : Value) (L : List Int) (T : TypeId) (g : Array Value) (w : World) (hv : RdI w v L) (hl : L.length ≤ 1000) :
    Calls Tryz.prog 42 #[v, .iface T (.agg g)] w fun e w' => ∃ u, e = .returned u ∧ w'.ownsRow w.heap.size 76 2 u L.length (outC L (.iface T (.agg g))) ∧ Fr noB w w' := by
  obtain ⟨i0, hi0, hz0, hz1, hz2⟩ : ∃ i0, Tryz.prog.info? 76 = some i0 ∧ i0.zero = some (.agg #[.int .i64 0, .nilIface]) ∧ i0.size = 2 ∧ i0.bytes = 24 := by
    have hI := infoOut
    cases hq : Tryz.prog.info? 76 with
    | none => rw [hq] at hI; cases hI
    | some k => rw [hq] at hI; simp at hI; exact ⟨k, rfl, hI⟩
  obtain ⟨a, c, rfl, h1, h2, h3⟩ := hv
  generalize hn : L.length = n at *
  replace hn := Lib.hid hn
  replace h3 := Lib.hid h3
  generalize hB : w.heap.size = B at *
  replace hB := Lib.hid hB
  go_enter Tryz.func42, Tryz.ntmps42
  go_wp2_with fail
  go_loopw [5, 10] (fun ov i wr => ∃ k : Nat, k ≤ n ∧ i = .int .i64 k ∧ wr.ownsRow B 76 2 ov k (outC (L.take k) (.iface T (.agg g))) ∧ Fr noB w wr) (fun _ i _ => n - (RowKit.intOf i).toNat)
  case atStart => exact ⟨0, by omega, rfl, World.ownsRow_nil _ _ _ _, Fr.refl _ _⟩
  case round =>
    obtain ⟨k, hk, rfl, own, fr⟩ := hrel
    by_cases hlt : k < n
    · obtain ⟨gg, o, rfl, hc⟩ := h3.out k hlt
      have e0 := fr.cell hc (fun q => q)
      have hst : L.take (k + 1) = L.take k ++ [L.getD k 0] := by
        rw [List.take_succ_eq_append_getElem (by rw [hn.out]; exact hlt)]; simp [List.getD, show k < L.length by rw [hn.out]; exact hlt]
      generalize L.getD k 0 = x at *
      replace hst := Lib.hid hst
      have hBw : B ≤ wr.heap.size := by rw [← hB.out]; exact fr.size
      have hA := ownsRow_fr own ((Fr.refl noB wr).alloc (.cells #[.int .i64 x, .iface T (.agg g)] 76)) (fun _ _ q => q)
      have hN := cell_new2 wr (.int .i64 x) (.iface T (.agg g)) 76
      clear hc
      go_wp2_with (first
        | (at_builtin; go_must (refine wpList_append_at _ rfl (.tmp 14) (.tmp 18) 43 rfl B 76 i0 _ 2 24 Tryz.underlying43 hi0 hz0 hz1 hz2 rfl (by omega) _ k _ rfl hA ⟨wr.heap.size, 0, none⟩ 1 1 [.int .i64 x, .iface T (.agg g)] rfl rfl hN (fun u hu => by (simp only [List.mem_cons, List.not_mem_nil, or_false] at hu; rcases hu with rfl | rfl <;> rfl)) ?_ ?_ ?_ ?_))
        | fail)
      · unfold maxLen; omega
      · omega
      · have := ((Fr.refl noB wr).alloc (.cells #[.int .i64 x, .iface T (.agg g)] 76)).size; omega
      intro v' w3 o3 gr3 _
      have fr3 : Fr noB w w3 := (fr.alloc _).grown gr3 (fun q hq hlt => by have := (hA.lt q hq).1; have := hB.out; omega)
      rw [← outC_snoc, ← hst.out] at o3
      clear hA hN gr3 own
      go_wp2_with fail
      go_roundw
      case rel => exact ⟨k + 1, by omega, by go_num, o3, fr3⟩
      case measure => simp [RowKit.intOf]; omega
    · obtain rfl : k = n := by omega
      have htk : L.take k = L := List.take_of_length_le (by rw [hn.out]; exact Nat.le_refl _)
      rw [htk] at own
      go_wp2_with fail
      go_ret
      exact ⟨_, rfl, own, fr⟩

set_option maxHeartbeats 2000000 in
set_option maxRecDepth 10000 in
theorem outs_1 (p : Nat) (j : JS) (w : World) (h : Jb w p j) (hph : j.ph = 1) :
    Calls Tryz.prog 25 #[.pointer (some ⟨p, 0, none⟩)] w fun e w' => ∃ u, e = .returned u ∧ w'.ownsRow w.heap.size 76 2 u (whichL (fun v => !v.p) j 4).length (outC (whichL (fun v => !v.p) j 4) (mPin j.tr j.id)) ∧ Fr noB w w' := by
  unfold mPin
  have hp := phase_any p j w h
  rw [hph] at hp
  have hw := which_pin p j (w.drewN 1) (h.frN ((Fr.refl noB w).drewN 1))
  have hlen := whichL_len (fun v => !v.p) j 4
  generalize whichL (fun v => !v.p) j 4 = L at *
  have hfacts : ∀ w', Fr noB w w' → w'.cell? ⟨p, 1, none⟩ = some (.int .i64 j.tr) ∧ w'.cell? ⟨p, 0, none⟩ = some (.int .i64 j.id) := fun w' f => ⟨(h.frN f).cell 1, (h.frN f).cell 0⟩
  have hte := fun (v : Value) (w' : World) (hv : RdI w' v L) => toEach_any v L 93 #[.int .i64 j.tr, .int .i64 j.id] w' hv (by omega)
  replace hfacts := Lib.hid hfacts
  replace hte := Lib.hid hte
  replace hw := Lib.hid hw
  have f0 : Fr noB w (w.drewN 1) := (Fr.refl noB w).drewN 1
  clear h
  go_enter Tryz.func25, Tryz.ntmps25
  go_wp2_with fail
  refine hp.mono ?_
  rintro e w1 ⟨rfl, hw1⟩
  obtain rfl := hw1.symm
  clear hp
  go_wp2_with fail
  go_region_held3 (fun w' => w'.cell? ⟨p, 1, none⟩ = some (.int .i64 j.tr) ∧ w'.cell? ⟨p, 0, none⟩ = some (.int .i64 j.id))
    (first | exact hfacts.out _ f4 | exact hfacts.out _ f2 | exact hfacts.out _ f0)
    (first
     | (go_at_call 43; refine hw.out.mono ?_; rintro e w2 ⟨v2, rfl, o2, f20⟩; have f2 : Fr noB w w2 := f0.seqN f20; have r2 : RdI w2 v2 L := RdI.of_own o2)
     | (go_at_call 42; refine (hte.out v2 w2 r2).mono ?_; rintro e w4 ⟨v4, rfl, o4, f40⟩; have f4 : Fr noB w w4 := f2.seqN f40; have o4 := ownsRow_mono o4 f2.size))
  all_goals (
    try go_wp2_with fail
    go_ret
    exact ⟨v4, rfl, o4, f4⟩)

set_option maxHeartbeats 2000000 in
set_option maxRecDepth 10000 in
theorem outs_3 (p : Nat) (j : JS) (w : World) (h : Jb w p j) (hph : j.ph = 3) :
    Calls Tryz.prog 25 #[.pointer (some ⟨p, 0, none⟩)] w fun e w' => ∃ u, e = .returned u ∧ w'.ownsRow w.heap.size 76 2 u (whichL (fun v => !v.f) j 4).length (outC (whichL (fun v => !v.f) j 4) (mUnpin j.tr j.id)) ∧ Fr noB w w' := by
  unfold mUnpin
  have hp := phase_any p j w h
  rw [hph] at hp
  have hw := which_free p j (w.drewN 1) (h.frN ((Fr.refl noB w).drewN 1))
  have hlen := whichL_len (fun v => !v.f) j 4
  generalize whichL (fun v => !v.f) j 4 = L at *
  have hfacts : ∀ w', Fr noB w w' → w'.cell? ⟨p, 1, none⟩ = some (.int .i64 j.tr) ∧ w'.cell? ⟨p, 0, none⟩ = some (.int .i64 j.id) := fun w' f => ⟨(h.frN f).cell 1, (h.frN f).cell 0⟩
  have hte := fun (v : Value) (w' : World) (hv : RdI w' v L) => toEach_any v L 102 #[.int .i64 j.tr, .int .i64 j.id] w' hv (by omega)
  replace hfacts := Lib.hid hfacts
  replace hte := Lib.hid hte
  replace hw := Lib.hid hw
  have f0 : Fr noB w (w.drewN 1) := (Fr.refl noB w).drewN 1
  clear h
  go_enter Tryz.func25, Tryz.ntmps25
  go_wp2_with fail
  refine hp.mono ?_
  rintro e w1 ⟨rfl, hw1⟩
  obtain rfl := hw1.symm
  clear hp
  go_wp2_with fail
  go_region_held3 (fun w' => w'.cell? ⟨p, 1, none⟩ = some (.int .i64 j.tr) ∧ w'.cell? ⟨p, 0, none⟩ = some (.int .i64 j.id))
    (first | exact hfacts.out _ f4 | exact hfacts.out _ f2 | exact hfacts.out _ f0)
    (first
     | (go_at_call 43; refine hw.out.mono ?_; rintro e w2 ⟨v2, rfl, o2, f20⟩; have f2 : Fr noB w w2 := f0.seqN f20; have r2 : RdI w2 v2 L := RdI.of_own o2)
     | (go_at_call 42; refine (hte.out v2 w2 r2).mono ?_; rintro e w4 ⟨v4, rfl, o4, f40⟩; have f4 : Fr noB w w4 := f2.seqN f40; have o4 := ownsRow_mono o4 f2.size))
  all_goals (
    try go_wp2_with fail
    go_ret
    exact ⟨v4, rfl, o4, f4⟩)

theorem outs_4 (p : Nat) (j : JS) (w : World) (h : Jb w p j) (hph : j.ph = 4) :
    Calls Tryz.prog 25 #[.pointer (some ⟨p, 0, none⟩)] w fun e w' => e = .returned (.slice none 0 0) ∧ w' = w := by
  have hp := phase_any p j w h
  rw [hph] at hp
  go_enter Tryz.func25, Tryz.ntmps25
  go_wp2_with fail
  refine hp.mono ?_
  rintro e w1 ⟨rfl, hw1⟩
  obtain rfl := hw1.symm
  go_wp2_with fail
  go_ret
  exact ⟨rfl, rfl⟩
theorem outs_nil (w : World) :
    Calls Tryz.prog 25 #[.pointer none] w fun e w' => e = .returned (.slice none 0 0) ∧ w' = w := by
  have hp := phase_nil w
  go_enter Tryz.func25, Tryz.ntmps25
  go_wp2_with fail
  refine hp.mono ?_
  rintro e w1 ⟨rfl, hw1⟩
  obtain rfl := hw1.symm
  go_wp2_with fail
  go_ret
  exact ⟨rfl, rfl⟩
theorem hear_nil (m : Value) (w : World) : Calls Tryz.prog 55 #[.pointer none, m] w fun e w' => e = .returned (.tuple #[]) ∧ w' = w := by
  go_enter Tryz.func55, Tryz.ntmps55
  go_wp2_with fail
  first | go_end0 | ((try simp only [Exit.inBlock, Exit.then]); refine bodyPost_ret (results_none rfl _ _ _) rfl ?_)
  exact ⟨rfl, rfl⟩

theorem manifest_nil (w : World) : Calls Tryz.prog 45 #[.pointer none] w fun e w' => e = .returned (.tuple #[.agg #[.int .i64 0, .int .i64 0, .int .i64 0, .slice none 0 0], .bool false]) ∧ Fr noB w w' := by
  have fX := (Fr.refl noB w).alloc (.cells #[.int .i64 0, .int .i64 0, .int .i64 0, .slice none 0 0] 101)
  go_enter Tryz.func45, Tryz.ntmps45
  go_wp2_with fail
  go_returns
  exact ⟨rfl, fX⟩

theorem manifest_no (p : Nat) (j : JS) (w : World) (h : Jb w p j) (hno : j.ph < 2) : Calls Tryz.prog 45 #[.pointer (some ⟨p, 0, none⟩)] w fun e w' => e = .returned (.tuple #[.agg #[.int .i64 0, .int .i64 0, .int .i64 0, .slice none 0 0], .bool false]) ∧ Fr noB w w' := by
  have fX := (Fr.refl noB w).alloc (.cells #[.int .i64 0, .int .i64 0, .int .i64 0, .slice none 0 0] 101)
  have c40 : (w.alloc (.cells #[.int .i64 0, .int .i64 0, .int .i64 0, .slice none 0 0] 101)).cell? ⟨p, 40, none⟩ = some (.int .i64 j.ph) := (h.frN fX).cell 40
  have hd : decide (j.ph < 2) = true := by simpa using hno
  go_enter Tryz.func45, Tryz.ntmps45
  go_wp2_with fail
  go_returns
  exact ⟨rfl, fX⟩

theorem range_told {w : World} {p : Nat} {j : JS} (h : Jb w p j) (a : Nat) (ha : a < 4) : w.rangeAt p (4 + a * 9 + 3) (toldC (j.at a).t) := fun i v hv => by
  rw [Blk.cell h _]
  have hi : i < 6 := (List.getElem?_eq_some_iff.1 hv).1
  rcases (show a = 0 ∨ a = 1 ∨ a = 2 ∨ a = 3 by omega) with rfl | rfl | rfl | rfl <;>
  rcases (show i = 0 ∨ i = 1 ∨ i = 2 ∨ i = 3 ∨ i = 4 ∨ i = 5 by omega) with rfl | rfl | rfl | rfl | rfl | rfl <;> exact hv
theorem row_typeJ {w : World} {B : Nat} {e : TypeId} {k n : Nat} {v : Value} {xs : List Value} (h : w.ownsRow B e k v n xs) {q : Nat} (hq : v.ownBlock = some q) : ∃ cs, w.heap[q]? = some (.cells cs e (0, 0)) := by
  rcases h.2 with ⟨rfl, _⟩ | ⟨g, cap, cur, rfl, _, hg, _⟩
  · cases hq
  · cases hq; exact ⟨_, hg⟩
theorem store4 (w : World) (g i : Nat) (a b c d : Value) : ∃ w2, w2 = w.setCells g i (#[a, b, c, d] : Array Value).toList ∧ Fr (onlyB g) w w2 ∧
    ∀ t cs, Blk w g t cs → Blk w2 g t ((((cs.set i a).set (i + 1) b).set (i + 1 + 1) c).set (i + 1 + 1 + 1) d) :=
  ⟨_, rfl, by simp only [World.setCells]; exact (((((Fr.refl (onlyB g) w).store rfl).store rfl).store rfl).store rfl), fun t cs h => by simp only [World.setCells]; exact ((((h.set i a).set _ b).set _ c).set _ d)⟩
theorem infoPinned : (Tryz.prog.info? 67).map (fun i => (i.zero, i.size, i.bytes)) = some (some (.agg #[.int .i64 0, .int .i64 0, .int .i64 0, .int .i64 0, .slice none 0 0, .bool false]), 6, 64) := by kernel_rfl
theorem whichL_lt {so : Vis → Bool} {j : JS} {x : Int} (h : x ∈ whichL so j 4) : 0 ≤ x ∧ x < 4 := by
  unfold whichL at h
  obtain ⟨i, hi, rfl⟩ := List.mem_map.1 h
  rw [List.mem_filter, List.mem_range] at hi
  simp only [Int.ofNat_eq_natCast]; omega

set_option maxHeartbeats 2000000 in
set_option maxRecDepth 10000 in
theorem manifest_any (p : Nat) (j : JS) (w : World) (h : Jb w p j) (hph : 2 ≤ j.ph) (hall : noneL (fun v => !v.p) j = true) (hX : ∀ a, a < 4 → ∃ xs, RdI w (.slice (j.at a).t.a (j.at a).t.n (j.at a).t.c) xs ∧ xs.length ≤ 1000) :
    Calls Tryz.prog 45 #[.pointer (some ⟨p, 0, none⟩)] w fun e w' => ∃ pa pc cs, e = .returned (.tuple #[.agg #[.int .i64 j.tr, .int .i64 j.id, .int .i64 j.cl, .slice pa (whichL (fun _ => true) j 4).length pc], .bool true]) ∧ w'.ownsRow w.heap.size 67 6 (.slice pa (whichL (fun _ => true) j 4).length pc) (whichL (fun _ => true) j 4).length cs ∧ Fr noB w w' := by
  have fX := (Fr.refl noB w).alloc (.cells #[.int .i64 0, .int .i64 0, .int .i64 0, .slice none 0 0] 101)
  have hJX := h.frN fX
  have c40 : (w.alloc (.cells #[.int .i64 0, .int .i64 0, .int .i64 0, .slice none 0 0] 101)).cell? ⟨p, 40, none⟩ = some (.int .i64 j.ph) := hJX.cell 40
  have hd : decide (j.ph < 2) = false := by simp; omega
  have hal := allPinned_any p j _ hJX
  rw [hall] at hal
  replace fX := Lib.hid fX
  obtain ⟨ob, hob⟩ : ∃ ob, ob = w.heap.size := ⟨_, rfl⟩
  have hob2 := Lib.hid hob
  clear hob
  clear hJX
  go_enter Tryz.func45, Tryz.ntmps45
  go_wp2_with fail
  refine hal.mono ?_
  rintro e w1 ⟨rfl, f1⟩
  have g1 := fX.out.seqN f1
  have h1 := h.frN g1
  have c0 : w1.cell? ⟨p, 0, none⟩ = some (.int .i64 j.id) := h1.cell 0
  have c1 : w1.cell? ⟨p, 1, none⟩ = some (.int .i64 j.tr) := h1.cell 1
  have c2 : w1.cell? ⟨p, 2, none⟩ = some (.int .i64 j.cl) := h1.cell 2
  have bR1 := f1.blk (Blk.new w 101 [.int .i64 0, .int .i64 0, .int .i64 0, .slice none 0 0]) (fun q => q)
  clear hal f1 c40
  have hfacts : ∀ w', Fr noB w1 w' → w'.cell? ⟨p, 0, none⟩ = some (.int .i64 j.id) ∧ w'.cell? ⟨p, 1, none⟩ = some (.int .i64 j.tr) ∧ w'.cell? ⟨p, 2, none⟩ = some (.int .i64 j.cl) := fun w' f => ⟨f.cell c0 (fun q => q), f.cell c1 (fun q => q), f.cell c2 (fun q => q)⟩
  replace hfacts := Lib.hid hfacts
  go_upto_region 3 with fail
  go_region_held3 (fun w' => w'.cell? ⟨p, 0, none⟩ = some (.int .i64 j.id) ∧ w'.cell? ⟨p, 1, none⟩ = some (.int .i64 j.tr) ∧ w'.cell? ⟨p, 2, none⟩ = some (.int .i64 j.cl))
    (first | exact hfacts.out _ ((Fr.refl noB _).drewN 1) | exact hfacts.out _ (((Fr.refl noB _).drewN 1).alloc _))
    (fail)
  have fM : Fr noB w ((w1.alloc (.cells #[.int .i64 j.tr, .int .i64 j.id, .int .i64 j.cl, .slice none 0 0] 101)).drew) := (g1.alloc _).drew
  have bM : Blk ((w1.alloc (.cells #[.int .i64 j.tr, .int .i64 j.id, .int .i64 j.cl, .slice none 0 0] 101)).drew) w1.heap.size 101 [.int .i64 j.tr, .int .i64 j.id, .int .i64 j.cl, .slice none 0 0] := Blk.new w1 101 [.int .i64 j.tr, .int .i64 j.id, .int .i64 j.cl, .slice none 0 0]
  have hmbB : w.heap.size ≤ w1.heap.size := g1.size
  have bRm := (((Fr.refl noB w1).alloc (.cells #[.int .i64 j.tr, .int .i64 j.id, .int .i64 j.cl, .slice none 0 0] 101)).drew).blk bR1 (fun q => q)
  have hrbm : w.heap.size ≠ w1.heap.size := by have := bR1.lt; omega
  clear bR1
  generalize ((w1.alloc (.cells #[.int .i64 j.tr, .int .i64 j.id, .int .i64 j.cl, .slice none 0 0] 101)).drew) = wm at *
  generalize w1.heap.size = mb at *
  have hvis := visited_any p j wm (h.frN fM)
  have hLr : ∀ x ∈ whichL (fun _ => true) j 4, 0 ≤ x ∧ x < 4 := fun x hx => whichL_lt hx
  have hLl := whichL_len (fun _ => true) j 4
  obtain ⟨L, hL⟩ : ∃ L, L = whichL (fun _ => true) j 4 := ⟨_, rfl⟩
  rw [← hL] at hvis hLr hLl
  replace hL := Lib.hid hL
  replace hLr := Lib.hid hLr
  replace hob2 := Lib.hid hob2
  clear c0 c1 c2 h1 g1 hfacts fX
  go_wp2_with fail
  refine hvis.mono ?_
  rintro e w2 ⟨v2, rfl, o2, f2⟩
  clear hvis
  have b2 := Lib.hid (f2.blk bM (fun q => q))
  have bR := Lib.hid (f2.blk bRm (fun q => q))
  clear bRm
  have f2' := fM.seqN f2
  have r2 : RdI w2 v2 L := RdI.of_own o2
  obtain ⟨a2, c2, rfl, _, _, h2⟩ := r2
  have hmw : mb < wm.heap.size := bM.lt
  have hg2 : ∀ g o, a2 = some ⟨g, o, none⟩ → g ≠ mb := fun g o e => by have := addr_own o2 e; omega
  replace hg2 := Lib.hid hg2
  clear o2 bM fM f2
  generalize hn : L.length = n at *
  replace hn := Lib.hid hn
  replace h2 := Lib.hid h2
  obtain ⟨i0, hi0, hz0, hz1, hz2⟩ : ∃ i0, Tryz.prog.info? 67 = some i0 ∧ i0.zero = some (.agg #[.int .i64 0, .int .i64 0, .int .i64 0, .int .i64 0, .slice none 0 0, .bool false]) ∧ i0.size = 6 ∧ i0.bytes = 64 := by
    have hI := infoPinned
    cases hq : Tryz.prog.info? 67 with
    | none => rw [hq] at hI; cases hI
    | some k => rw [hq] at hI; simp at hI; exact ⟨k, rfl, hI⟩
  obtain ⟨B, hB⟩ : ∃ B, B = w2.heap.size := ⟨_, rfl⟩
  have hwB : w.heap.size ≤ B := by rw [hB]; exact f2'.size
  replace hB := Lib.hid hB
  replace hX := Lib.hid hX
  replace h := Lib.hid h
  go_wp2_with fail
  go_loopw [39] (fun i wr => ∃ (k : Nat) (pa : Option Addr) (pc : Nat) (cs : List Value), k ≤ n ∧ i = .int .i64 k ∧ Hid (Blk wr mb 101 [.int .i64 j.tr, .int .i64 j.id, .int .i64 j.cl, .slice pa k pc]) ∧ wr.ownsRow B 67 6 (.slice pa k pc) k cs ∧ Hid (Fr noB w wr) ∧ Fr (onlyB mb) w2 wr) (fun i _ => n - (RowKit.intOf i).toNat)
  case atStart => exact ⟨0, none, 0, [], by omega, rfl, b2, World.ownsRow_nil _ _ _ _, Lib.hid f2', Fr.refl _ _⟩
  case round =>
    clear b2 f2'
    obtain ⟨k, pa, pc, cs, hk, rfl, bM, own, fr, fr2⟩ := hrel
    by_cases hlt : k < n
    · obtain ⟨g5, o5, rfl, hc5⟩ := h2.out k hlt
      have e5 := fr2.cell hc5 (fun q => hg2.out _ _ rfl (by unfold onlyB at q; exact q))
      have hxm := hLr.out _ (List.mem_of_getElem? (show L[k]? = some (L.getD k 0) by simp [List.getD, show k < L.length by rw [hn.out]; exact hlt]))
      generalize L.getD k 0 = x at *
      obtain ⟨a, rfl⟩ : ∃ a : Nat, x = a := ⟨x.toNat, by omega⟩
      have ha4 : a < 4 := by omega
      have had : decide (a < 4) = true := by simpa using ha4
      obtain ⟨xs, hxs, hxl⟩ := hX.out a ha4
      have hrt := range_told (h.out.frN fr.out) a ha4
      generalize (j.at a).t = T at *
      obtain ⟨tag, ttr, tjb, tct, tsa, tsn, tsc, tlo⟩ := T
      simp only at hxs
      have hrt' : Hid (wr.rangeAt p (4 + a * 9 + 3) [.int .i64 tag, .int .i64 ttr, .int .i64 tjb, .int .i64 tct, .slice tsa tsn tsc, .bool tlo]) := Lib.hid hrt
      have hsz6 : Hid ((Tryz.prog.info? 67).map (·.size) = some ([.int .i64 tag, .int .i64 ttr, .int .i64 tjb, .int .i64 tct, .slice tsa tsn tsc, .bool tlo] : List Value).length) := Lib.hid size_told
      have hmbw : mb < wr.heap.size := Blk.lt bM.out
      have fA := (Fr.refl noB wr).alloc (.cells #[.int .i64 tag, .int .i64 ttr, .int .i64 tjb, .int .i64 tct, .slice tsa tsn tsc, .bool tlo] 67)
      have bA := Blk.new wr 67 [.int .i64 tag, .int .i64 ttr, .int .i64 tjb, .int .i64 tct, .slice tsa tsn tsc, .bool tlo]
      have kA : (wr.alloc (.cells #[.int .i64 tag, .int .i64 ttr, .int .i64 tjb, .int .i64 tct, .slice tsa tsn tsc, .bool tlo] 67)).cell? ⟨wr.heap.size, 4, none⟩ = some (.slice tsa tsn tsc) := bA.cell 4
      have hcl := clone_any _ xs _ ((hxs.fr fr.out (fun _ _ _ _ _ q => q)).fr fA (fun _ _ _ _ _ q => q)) (by omega)
      have htn : xs.length = tsn := by
        obtain ⟨_, _, e, _⟩ := hxs
        simp only [Value.slice.injEq] at e
        exact e.2.1.symm
      rw [htn] at hcl
      obtain ⟨wa, hwa⟩ : ∃ wa, wa = wr.alloc (.cells #[.int .i64 tag, .int .i64 ttr, .int .i64 tjb, .int .i64 tct, .slice tsa tsn tsc, .bool tlo] 67) := ⟨_, rfl⟩
      replace hcl := Lib.hid hcl
      replace fA := Lib.hid fA
      replace bA := Lib.hid bA
      clear hrt hxs hc5
      go_wp2_with (first
        | (refine wpList_load_mid rfl 67 (.tmp 48) rfl p (4 + a * 9 + 3) rfl [.int .i64 tag, .int .i64 ttr, .int .i64 tjb, .int .i64 tct, .slice tsa tsn tsc, .bool tlo] _ hrt'.out Tryz.underlying67 rfl hsz6.out ?_)
        | fail)
      refine hcl.out.mono ?_
      rintro e wB ⟨ta, tc, rfl, rt, ht, fB⟩
      have tbB : wr.heap.size ≤ wB.heap.size := by have := fA.out.size; have := fB.size; omega
      have bT := fB.blk bA.out (fun q => q)
      have cT : wB.cell? ⟨wr.heap.size, 4, none⟩ = some (.slice tsa tsn tsc) := bT.cell 4
      have zT := bT.frozen 4
      have bC : Blk (wB.setCell ⟨wr.heap.size, 4, none⟩ (.slice ta tsn tc)) wr.heap.size 67 [.int .i64 tag, .int .i64 ttr, .int .i64 tjb, .int .i64 tct, .slice ta tsn tc, .bool tlo] := bT.set 4 (.slice ta tsn tc)
      have fC : Fr (onlyB wr.heap.size) wB (wB.setCell ⟨wr.heap.size, 4, none⟩ (.slice ta tsn tc)) := (Fr.refl _ _).store rfl
      have bMC : Hid (Blk (wB.setCell ⟨wr.heap.size, 4, none⟩ (.slice ta tsn tc)) mb 101 [.int .i64 j.tr, .int .i64 j.id, .int .i64 j.cl, .slice pa k pc]) := Lib.hid (fC.blk (fB.blk (fA.out.blk bM.out (fun q => q)) (fun q => q)) (fun q => by unfold onlyB at q; omega))
      have ownC : Hid ((wB.setCell ⟨wr.heap.size, 4, none⟩ (.slice ta tsn tc)).ownsRow B 67 6 (.slice pa k pc) k cs) := Lib.hid (ownsRow_fr (ownsRow_fr (ownsRow_fr own fA.out (fun _ _ q => q)) fB (fun _ _ q => q)) fC (fun g hg q => by have := (own.lt g hg).2; unfold onlyB at q; omega))
      have hBr : B ≤ wr.heap.size := by rw [hB.out]; exact fr2.size
      have frC : Hid (Fr noB w (wB.setCell ⟨wr.heap.size, 4, none⟩ (.slice ta tsn tc))) := Lib.hid (((fr.out.seqN fA.out).seqN fB).storeNew fr.out.size)
      have frC2 : Hid (Fr (onlyB mb) w2 (wB.setCell ⟨wr.heap.size, 4, none⟩ (.slice ta tsn tc))) := Lib.hid (((fr2.seqN fA.out).seqN fB).storeNew fr2.size)
      obtain ⟨wC, hwC⟩ : ∃ wC, wC = wB.setCell ⟨wr.heap.size, 4, none⟩ (.slice ta tsn tc) := ⟨_, rfl⟩
      rw [← hwC] at bC bMC ownC frC frC2
      have hszC : wr.heap.size ≤ wC.heap.size := by rw [hwC]; have := fC.size; omega
      replace hwC := Lib.hid hwC
      clear hcl fA bA bT fC fB rt ht own bM kA
      go_upto_region 9 with fail
      rw [← hwC.out]
      clear hwC cT zT
      have cM3 : wC.cell? ⟨mb, 3, none⟩ = some (.slice pa k pc) := bMC.out.cell 3
      have rC : Hid (wC.rangeAt wr.heap.size 0 [.int .i64 tag, .int .i64 ttr, .int .i64 tjb, .int .i64 tct, .slice ta tsn tc, .bool tlo]) := Lib.hid (fun i u hu => by rw [Blk.cell bC (0 + i), Nat.zero_add]; exact hu)
      have hsz6b : Hid ((Tryz.prog.info? 67).map (·.size) = some ([.int .i64 tag, .int .i64 ttr, .int .i64 tjb, .int .i64 tct, .slice ta tsn tc, .bool tlo] : List Value).length) := Lib.hid size_told
      generalize wr.heap.size = tb at *
      have hA : (wC.alloc (.cells #[.int .i64 tag, .int .i64 ttr, .int .i64 tjb, .int .i64 tct, .slice ta tsn tc, .bool tlo] 67)).ownsRow B 67 6 (.slice pa k pc) k cs := ownsRow_fr ownC.out ((Fr.refl noB wC).alloc _) (fun _ _ q => q)
      have hN : ∀ j' u, ([.int .i64 tag, .int .i64 ttr, .int .i64 tjb, .int .i64 tct, .slice ta tsn tc, .bool tlo] : List Value)[j']? = some u → (wC.alloc (.cells #[.int .i64 tag, .int .i64 ttr, .int .i64 tjb, .int .i64 tct, .slice ta tsn tc, .bool tlo] 67)).cell? ((⟨wC.heap.size, 0, none⟩ : Addr).add j') = some u := fun j' u hj => by
        rw [Addr.add_lit, Nat.zero_add]
        exact ((Blk.new wC 67 [.int .i64 tag, .int .i64 ttr, .int .i64 tjb, .int .i64 tct, .slice ta tsn tc, .bool tlo]).cell j').trans hj
      have hone : ∀ u ∈ ([.int .i64 tag, .int .i64 ttr, .int .i64 tjb, .int .i64 tct, .slice ta tsn tc, .bool tlo] : List Value), u.oneCell' = true := fun u hu => by
        simp only [List.mem_cons, List.not_mem_nil, or_false] at hu
        rcases hu with rfl | rfl | rfl | rfl | rfl | rfl <;> rfl
      replace hone := Lib.hid hone
      have hBC : B ≤ (wC.alloc (.cells #[.int .i64 tag, .int .i64 ttr, .int .i64 tjb, .int .i64 tct, .slice ta tsn tc, .bool tlo] 67)).heap.size := by
        have := ((Fr.refl noB wC).alloc (.cells #[.int .i64 tag, .int .i64 ttr, .int .i64 tjb, .int .i64 tct, .slice ta tsn tc, .bool tlo] 67)).size
        omega
      go_wp2_with (first
        | (refine wpList_load_mid rfl 67 (.tmp 7) rfl tb 0 rfl [.int .i64 tag, .int .i64 ttr, .int .i64 tjb, .int .i64 tct, .slice ta tsn tc, .bool tlo] _ rC.out Tryz.underlying67 rfl hsz6b.out ?_)
        | (at_builtin; go_must (refine wpList_append_at _ rfl (.tmp 55) (.tmp 57) 99 rfl B 67 i0 _ 6 64 Tryz.underlying99 hi0 hz0 hz1 hz2 rfl (by omega) _ k _ rfl hA ⟨wC.heap.size, 0, none⟩ 1 1 [.int .i64 tag, .int .i64 ttr, .int .i64 tjb, .int .i64 tct, .slice ta tsn tc, .bool tlo] rfl rfl hN hone.out ?_ ?_ ?_ ?_))
        | fail)
      · unfold maxLen; omega
      · omega
      · exact hBC
      intro vE wE oE grE _
      obtain ⟨pa', pc', rfl⟩ := ownsRow_slice oE
      have bX := ((Fr.refl noB wC).alloc (.cells #[.int .i64 tag, .int .i64 ttr, .int .i64 tjb, .int .i64 tct, .slice ta tsn tc, .bool tlo] 67)).blk bMC.out (fun q => q)
      have bE : Blk wE mb 101 [.int .i64 j.tr, .int .i64 j.id, .int .i64 j.cl, .slice pa k pc] := by
        have hk1 := grE.block mb bX.lt (fun e => by
          obtain ⟨cs9, hcs9⟩ := row_typeJ hA e.symm
          unfold Blk at bX
          rw [hcs9] at bX
          simp only [Option.some.injEq, Obj.cells.injEq] at bX
          exact absurd bX.2.1 (by decide))
        unfold Blk at bX ⊢
        rw [hk1]; exact bX
      have frE : Fr noB w wE := (frC.out.alloc _).grown grE (fun q hq hlt => by have := (hA.lt q hq).1; have := hB.out; omega)
      have frE2 : Fr (onlyB mb) w2 wE := (frC2.out.alloc _).grown grE (fun q hq hlt => by have := (hA.lt q hq).1; have := hB.out; omega)
      have cE : wE.cell? ⟨mb, 3, none⟩ = some (.slice pa k pc) := bE.cell 3
      have zE := bE.frozen 3
      have bF : Hid (Blk (wE.setCell ⟨mb, 3, none⟩ (.slice pa' (k + 1) pc')) mb 101 [.int .i64 j.tr, .int .i64 j.id, .int .i64 j.cl, .slice pa' (k + 1) pc']) := Lib.hid (bE.set 3 (.slice pa' (k + 1) pc'))
      have fF : Fr (onlyB mb) wE (wE.setCell ⟨mb, 3, none⟩ (.slice pa' (k + 1) pc')) := (Fr.refl _ _).store rfl
      have oF := Lib.hid (ownsRow_fr oE fF (fun g hg q => by
        unfold onlyB at q; subst q
        obtain ⟨cs9, hcs9⟩ := row_typeJ oE hg
        unfold Blk at bE
        rw [hcs9] at bE
        simp only [Option.some.injEq, Obj.cells.injEq] at bE
        exact absurd bE.2.1 (by decide)))
      have frF : Hid (Fr noB w (wE.setCell ⟨mb, 3, none⟩ (.slice pa' (k + 1) pc'))) := Lib.hid (frE.storeNew hmbB)
      have frF2 : Fr (onlyB mb) w2 (wE.setCell ⟨mb, 3, none⟩ (.slice pa' (k + 1) pc')) := frE2.store rfl
      clear hA hN grE bX bE frE bMC ownC frC frC2 rC oE fF frE2
      go_wp2_with fail
      go_roundw
      case rel => exact ⟨k + 1, pa', pc', _, by omega, by go_num, bF, oF.out, frF, frF2⟩
      case measure => simp [RowKit.intOf]; omega
    · obtain rfl : k = n := by omega
      have cM : wr.cell? ⟨mb, 3, none⟩ = some (.slice pa k pc) := bM.out.cell 3
      have rM : Hid (wr.rangeAt mb 0 [.int .i64 j.tr, .int .i64 j.id, .int .i64 j.cl, .slice pa k pc]) := Lib.hid (fun i u hu => by rw [Blk.cell bM.out (0 + i), Nat.zero_add]; exact hu)
      have hsz4 : Hid ((Tryz.prog.info? 101).map (·.size) = some ([.int .i64 j.tr, .int .i64 j.id, .int .i64 j.cl, .slice pa k pc] : List Value).length) := Lib.hid (by kernel_rfl)
      have bRw := fr2.blk bR.out (fun q => hrbm (by unfold onlyB at q; exact q))
      have tR : Hid (wr.there w.heap.size 0 (#[.int .i64 j.tr, .int .i64 j.id, .int .i64 j.cl, .slice pa k pc] : Array Value).size) := Lib.hid (there6 bRw (by simp))
      have hon4 : Hid ((#[.int .i64 j.tr, .int .i64 j.id, .int .i64 j.cl, .slice pa k pc] : Array Value).all (·.oneCell') = true) := Lib.hid (all_oneCell_toArray (cs := [.int .i64 j.tr, .int .i64 j.id, .int .i64 j.cl, .slice pa k pc]) (fun v hv => by
        simp only [List.mem_cons, List.not_mem_nil, or_false] at hv
        rcases hv with rfl | rfl | rfl | rfl <;> rfl))
      have hsz4a : Hid ((Tryz.prog.info? 101).map (·.size) = some (#[.int .i64 j.tr, .int .i64 j.id, .int .i64 j.cl, .slice pa k pc] : Array Value).size) := Lib.hid (by kernel_rfl)
      replace bRw := Lib.hid bRw
      go_wp2_with (first
        | (refine wpList_load_mid rfl 101 (.tmp 4) rfl mb 0 rfl [.int .i64 j.tr, .int .i64 j.id, .int .i64 j.cl, .slice pa k pc] _ rM.out Tryz.underlying101 rfl hsz4.out ?_)
        | (refine wpList_store_mid rfl 101 (.tmp 2) (.tmp 61) rfl w.heap.size 0 #[.int .i64 j.tr, .int .i64 j.id, .int .i64 j.cl, .slice pa k pc] rfl rfl tR.out hsz4a.out hon4.out ?_; obtain ⟨w9, hw9, f9, h9⟩ := store4 wr w.heap.size 0 (.int .i64 j.tr) (.int .i64 j.id) (.int .i64 j.cl) (.slice pa k pc); rw [← hw9]; clear hw9; have h9 := h9 _ _ bRw.out; have k0 : w9.cell? ⟨w.heap.size, 0, none⟩ = some (.int .i64 j.tr) := h9.cell 0; have k1 : w9.cell? ⟨w.heap.size, 1, none⟩ = some (.int .i64 j.id) := h9.cell 1; have k2 : w9.cell? ⟨w.heap.size, 2, none⟩ = some (.int .i64 j.cl) := h9.cell 2; have k3 : w9.cell? ⟨w.heap.size, 3, none⟩ = some (.slice pa k pc) := h9.cell 3; clear h9; replace f9 := Lib.hid f9)
        | fail)
      try simp only [Exit.inBlock, Exit.then]
      refine bodyPost_ret (by simp [results, Tryz.results45, go_sem, k0, k1, k2, k3]; try rfl) rfl ?_
      have hLn : (whichL (fun _ => true) j 4).length = k := by rw [← hL.out]; exact hn.out
      rw [hLn]
      have g9 : Fr noB w w9 := fr.out.trans f9.out (fun _ _ q => q) (fun i hi q => by unfold onlyB at q; omega)
      have o9 := ownsRow_mono (ownsRow_fr own f9.out (fun g hg q => by have := (own.lt g hg).1; have := bR.out.lt; have := hB.out; unfold onlyB at q; omega)) hwB
      exact ⟨pa, pc, cs, rfl, o9, g9⟩
end Go.Proofs.YtidcoddefebdpaaGreat
