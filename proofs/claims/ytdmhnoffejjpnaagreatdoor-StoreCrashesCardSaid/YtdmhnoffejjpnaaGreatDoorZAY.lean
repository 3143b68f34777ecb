/-
  store: New.
  store: Hear, down to take.
  store: what take does with a message of no concern.
  store: what take does with a message of a job that is written, or kept.
  store: what came, looked up.
  store: what take does with a message of a job of which nothing is written: as it is collected.
  store: a Tick with nothing written; what is refused.
  
-/
import Derived.Test.YtdmhnoffejjpnaaGreatDoorZAX
import Derived.Test.YtdmhnoffejjpnaaGreatDoorZAQ
import Derived.Test.YtdmhnoffejjpnaaGreatDoorZAR
section
set_option linter.unusedVariables false
set_option linter.unusedSimpArgs false
set_option maxRecDepth 100000
set_option maxRecDepth 100000
namespace Go.Proofs.YtdmhnoffejjpnaaGreatDoor
open Go.RowKit Go Go.Maps Go.Lib

/-- keys and elements of the Store's maps -/
def mkN (x : Int) : Value := .int .i64 x
def mkB (b : Option Nat) : Value := .map b
def mkP (p : Option Nat) : Value := .pointer (p.map fun g => ⟨g, 0, none⟩)
theorem mkN_inj : ∀ x y, mkN x = mkN y → x = y := fun x y h => by unfold mkN at h; simpa using h
theorem mkB_inj : ∀ x y, mkB x = mkB y → x = y := fun x y h => by unfold mkB at h; simpa using h
theorem mkP_inj : ∀ x y, mkP x = mkP y → x = y := fun x y h => by
  unfold mkP at h
  cases x <;> cases y <;> simp_all
set_option maxHeartbeats 2000000 in
theorem snew_any (w : World) : Calls Tryz.prog 8 #[] w fun e w' => ∃ gS gd bj bc, e = .returned (.pointer (some ⟨gS, 0, none⟩)) ∧ Blk w' gS 84 [.pointer (some ⟨gd, 0, none⟩), .map (some bj), .slice none 0 0, .map (some bc), .int .i64 0] ∧ Blk w' gd 121 [.slice none 0 0, .int .i64 0] ∧ Mp Tryz.prog 3 klI mkN w' bj 0 [] ∧ Mp Tryz.prog 3 klI mkB w' bc 0 [] ∧ gd = w.heap.size ∧ bj = w.heap.size + 1 ∧ bc = w.heap.size + 2 ∧ gS = w.heap.size + 3 ∧ w'.heap.size = w.heap.size + 4 ∧ Fr noB w w' := by
  have hd := dnew_any w
  have f1 := (Fr.refl noB w).alloc (.cells [Value.slice none 0 0, .int .i64 0].toArray 121)
  have b1 := Blk.new w 121 [Value.slice none 0 0, .int .i64 0]
  have s1 : (w.alloc (.cells [Value.slice none 0 0, .int .i64 0].toArray 121)).heap.size = w.heap.size + 1 := by unfold World.alloc; simp only [Array.size_push]
  have hmm := @run_makeMap Tryz.prog
  obtain ⟨w1, hw1⟩ : ∃ q, w.alloc (.cells [Value.slice none 0 0, .int .i64 0].toArray 121) = q := ⟨_, rfl⟩
  rw [hw1] at hd f1 b1 s1
  clear hw1
  obtain ⟨B, hB⟩ : ∃ q, w.heap.size = q := ⟨_, rfl⟩
  rw [hB] at hd b1 s1
  go_enter Tryz.func8, Tryz.ntmps8
  go_wp2_with fail
  refine hd.mono ?_
  rintro e wq ⟨rfl, hw⟩
  obtain rfl := hw
  clear hd
  go_wp2_with fail
  go_ret
  have fa := (Fr.refl noB wq).alloc (.map #[] 0)
  have fb := (Fr.refl noB (wq.alloc (.map #[] 0))).alloc (.map #[] 0)
  have fc := (Fr.refl noB ((wq.alloc (.map #[] 0)).alloc (.map #[] 0))).alloc (.cells #[.pointer (some ⟨B, 0, none⟩), .map (some (B + 1)), .slice none 0 0, .map (some (B + 2)), .int .i64 0] 84)
  have s2 : (wq.alloc (.map #[] 0)).heap.size = B + 2 := by unfold World.alloc; simp only [Array.size_push]; omega
  have s3 : ((wq.alloc (.map #[] 0)).alloc (.map #[] 0)).heap.size = B + 3 := by rw [← Nat.add_assoc B 2 1, ← s2]; unfold World.alloc; simp only [Array.size_push]
  have m1 : Mp Tryz.prog 3 klI mkN (wq.alloc (.map #[] 0)) wq.heap.size 0 [] := Mp.made wq
  have m2 : Mp Tryz.prog 3 klI mkB ((wq.alloc (.map #[] 0)).alloc (.map #[] 0)) (wq.alloc (.map #[] 0)).heap.size 0 [] := Mp.made _
  rw [s1] at m1
  rw [s2] at m2
  have b3 := Blk.new ((wq.alloc (.map #[] 0)).alloc (.map #[] 0)) 84 [.pointer (some ⟨B, 0, none⟩), .map (some (B + 1)), .slice none 0 0, .map (some (B + 2)), .int .i64 0]
  rw [s3] at b3
  rw [hB]
  exact ⟨B + 3, B, B + 1, B + 2, rfl, b3, ((fa.seqN fb).seqN fc).blk b1 (fun q => q), (m1.fr fb (fun q => q)).fr fc (fun q => q), m2.fr fc (fun q => q), rfl, rfl, rfl, rfl, by rw [World.alloc, Array.size_push]; show _ + 1 = _; rw [s3], f1.seqN (fa.seqN (fb.seqN fc))⟩
end Go.Proofs.YtdmhnoffejjpnaaGreatDoor
end

section
set_option linter.unusedVariables false
set_option linter.unusedSimpArgs false
set_option maxRecDepth 100000
set_option maxRecDepth 100000
namespace Go.Proofs.YtdmhnoffejjpnaaGreatDoor
open Go.RowKit Go Go.Maps Go.Lib

theorem shear_nil (v : Value) (w : World) : Calls Tryz.prog 16 #[.pointer none, v] w fun e w' => e = .returned (.slice none 0 0) ∧ w' = w := by
  go_enter Tryz.func16, Tryz.ntmps16
  go_wp2_with fail
  go_ret
  exact ⟨rfl, rfl⟩
/-- a message that isn't right -/
theorem shear_no (gS gd : Nat) (j p m r v : Value) (w : World) (hS : Blk w gS 84 [.pointer (some ⟨gd, 0, none⟩), j, p, m, r])
    (hr : Calls Tryz.prog 40 #[v] w fun e w' => e = .returned (.bool false) ∧ Fr noB w w') :
    Calls Tryz.prog 16 #[.pointer (some ⟨gS, 0, none⟩), v] w fun e w' => e = .returned (.slice none 0 0) ∧ Fr noB w w' := by
  have c0 := hS.cell 0
  simp only [List.getElem?_cons_zero, List.getElem?_cons_succ] at c0
  clear hS
  go_enter Tryz.func16, Tryz.ntmps16
  go_wp2_with fail
  go_fit hr
  rintro e w1 ⟨rfl, f1⟩
  clear hr c0
  replace f1 := Lib.hid f1
  go_wp2_with fail
  go_ret
  exact ⟨rfl, f1.out⟩
/-- a right one: as it is taken -/
theorem shear_yes (gS gd : Nat) (j p m r v : Value) (w : World) (R : Ending → World → Prop) (hS : Blk w gS 84 [.pointer (some ⟨gd, 0, none⟩), j, p, m, r])
    (hr : Calls Tryz.prog 40 #[v] w fun e w' => e = .returned (.bool true) ∧ Fr noB w w')
    (ht : ∀ w1, Fr noB w w1 → Calls Tryz.prog 41 #[.pointer (some ⟨gS, 0, none⟩), v] w1 fun e w' => ∃ u, e = .returned u ∧ R e w') :
    Calls Tryz.prog 16 #[.pointer (some ⟨gS, 0, none⟩), v] w fun e w' => R e w' := by
  have c0 := hS.cell 0
  simp only [List.getElem?_cons_zero, List.getElem?_cons_succ] at c0
  clear hS
  go_enter Tryz.func16, Tryz.ntmps16
  go_wp2_with fail
  go_fit hr
  rintro e w1 ⟨rfl, f1⟩
  clear hr c0
  have ht1 := Lib.hid (ht w1 f1)
  clear ht
  replace f1 := Lib.hid f1
  go_wp2_with fail
  go_fit ht1.out
  rintro e w2 ⟨u, rfl, hR⟩
  replace hR := Lib.hid hR
  clear ht1
  go_wp2_with fail
  exact hR.out
end Go.Proofs.YtdmhnoffejjpnaaGreatDoor
end

section
set_option linter.unusedVariables false
set_option linter.unusedSimpArgs false
set_option maxRecDepth 100000
set_option maxRecDepth 100000
namespace Go.Proofs.YtdmhnoffejjpnaaGreatDoor
open Go.RowKit Go Go.Maps Go.Lib

theorem stake_other (p : Value) (t : TypeId) (v : Value) (w : World)
    (hm : ∀ w, (Instr.typeAssert (.iface t v) 40 73 true).run Tryz.prog w = .ok (.tuple #[.agg #[.int .i64 0, .int .i64 0, .int .i64 0, .slice none 0 0], .bool false]) w)
    (hc : ∀ w, (Instr.typeAssert (.iface t v) 40 75 true).run Tryz.prog w = .ok (.tuple #[.agg #[.int .i64 0, .int .i64 0, .int .i64 0, .int .i64 0, .int .i64 0, .slice none 0 0], .bool false]) w) :
    Calls Tryz.prog 41 #[p, .iface t v] w fun e w' => e = .returned (.slice none 0 0) ∧ Fr noB w w' := by
  have f1 := (Fr.refl noB w).alloc (.cells #[.int .i64 0, .int .i64 0, .int .i64 0, .slice none 0 0] 73)
  have f2 := f1.alloc (.cells #[.int .i64 0, .int .i64 0, .int .i64 0, .int .i64 0, .int .i64 0, .slice none 0 0] 75)
  go_enter Tryz.func41, Tryz.ntmps41
  go_wp2_with (simp only [hm, hc])
  go_ret
  exact ⟨rfl, f2⟩
end Go.Proofs.YtdmhnoffejjpnaaGreatDoor
end

section
set_option linter.unusedVariables false
set_option linter.unusedSimpArgs false
set_option maxRecDepth 100000
set_option maxRecDepth 100000
namespace Go.Proofs.YtdmhnoffejjpnaaGreatDoor
open Go.RowKit Go Go.Maps Go.Lib

theorem zeroN (w : World) : (zeroValue 3).run Tryz.prog w = .ok (mkN 0) w := by kernel_rfl
theorem job_look {w : World} {bj n : Nat} {J : List (Int × Int)} (h : Mp Tryz.prog 3 klI mkN w bj n J) (jb : Int) (hj : okI jb) : (Instr.lookup 80 (.map (some bj)) (.int .i64 jb) false).run Tryz.prog w = .ok (.int .i64 ((look J jb).getD 0)) w :=
  h.run_look KI' Tryz.underlying80 (zeroN w) mkN_inj jb hj
set_option maxHeartbeats 2000000 in
theorem stake_man (gS bj n : Nat) (J : List (Int × Int)) (d p m r : Value) (t j c : Int) (sa : Option Addr) (sn sc : Nat) (w : World) (hS : Blk w gS 84 [d, .map (some bj), p, m, r])
    (hJ : Mp Tryz.prog 3 klI mkN w bj n J) (hj : okI j) (hk : look J j = some 2) :
    Calls Tryz.prog 41 #[.pointer (some ⟨gS, 0, none⟩), .iface 73 (.agg #[.int .i64 t, .int .i64 j, .int .i64 c, .slice sa sn sc])] w fun e w' => ∃ g, e = .returned (.slice (some ⟨g, 0, none⟩) 1 1) ∧ w.heap.size ≤ g ∧ Blk w' g 40 [.iface 76 (.agg #[.int .i64 t, .int .i64 j])] ∧ Fr noB w w' := by
  have hm := fun w => as_Manifest_Manifest (.agg #[.int .i64 t, .int .i64 j, .int .i64 c, .slice sa sn sc]) w
  have hc := fun w => as_Manifest_Chunk (.agg #[.int .i64 t, .int .i64 j, .int .i64 c, .slice sa sn sc]) w
  have f1 := (Fr.refl noB w).alloc (.cells #[.int .i64 t, .int .i64 j, .int .i64 c, .slice sa sn sc] 73)
  have f2 := f1.alloc (.cells #[.int .i64 0, .int .i64 0, .int .i64 0, .int .i64 0, .int .i64 0, .slice none 0 0] 75)
  have hof := of_of (v := .bool true) (of_Manifest t j c sa sn sc ((w.alloc (.cells #[.int .i64 t, .int .i64 j, .int .i64 c, .slice sa sn sc] 73)).alloc (.cells #[.int .i64 0, .int .i64 0, .int .i64 0, .int .i64 0, .int .i64 0, .slice none 0 0] 75)))
  have hlk := fun w' (f : Fr noB w w') => job_look (hJ.fr f (fun q => q)) j hj
  rw [hk] at hlk
  have h1 := fun w' (f : Fr noB w w') => (f.blk hS (fun q => q)).cell 1
  simp only [List.getElem?_cons_zero, List.getElem?_cons_succ, Option.getD_some] at h1 hlk
  replace hlk := Lib.hid hlk
  replace h1 := Lib.hid h1
  unfold mManifest at hof
  replace hof := Lib.hid hof
  clear hS hJ hk
  go_enter Tryz.func41, Tryz.ntmps41
  go_wp2_with (simp only [hm, hc])
  go_fit hof.out
  rintro e w3 ⟨rfl, f3⟩
  have f4 := f2.seqN f3
  have hl := hlk.out w3 f4
  have h2 := h1.out w3 f4
  have hby : (Fr noB w3 (w3.alloc (.cells #[.iface 76 (.agg #[.int .i64 t, .int .i64 j])] 40))) := (Fr.refl _ _).alloc _
  have bb := Blk.new w3 40 [.iface 76 (.agg #[.int .i64 t, .int .i64 j])]
  have f5 := f4.seqN hby
  have hs := f4.size
  replace f5 := Lib.hid f5
  clear f1 f2 f3 f4 hof hlk h1 hby hm hc
  go_wp2_with (simp only [hl])
  go_ret
  exact ⟨_, rfl, hs, bb, f5.out⟩
set_option maxHeartbeats 2000000 in
theorem stake_man1 (gS bj n : Nat) (J : List (Int × Int)) (d p m r : Value) (t j c : Int) (sa : Option Addr) (sn sc : Nat) (w : World) (hS : Blk w gS 84 [d, .map (some bj), p, m, r])
    (hJ : Mp Tryz.prog 3 klI mkN w bj n J) (hj : okI j) (hk : look J j = some 1) :
    Calls Tryz.prog 41 #[.pointer (some ⟨gS, 0, none⟩), .iface 73 (.agg #[.int .i64 t, .int .i64 j, .int .i64 c, .slice sa sn sc])] w fun e w' => e = .returned (.slice none 0 0) ∧ Fr noB w w' := by
  have hm := fun w => as_Manifest_Manifest (.agg #[.int .i64 t, .int .i64 j, .int .i64 c, .slice sa sn sc]) w
  have hc := fun w => as_Manifest_Chunk (.agg #[.int .i64 t, .int .i64 j, .int .i64 c, .slice sa sn sc]) w
  have f1 := (Fr.refl noB w).alloc (.cells #[.int .i64 t, .int .i64 j, .int .i64 c, .slice sa sn sc] 73)
  have f2 := f1.alloc (.cells #[.int .i64 0, .int .i64 0, .int .i64 0, .int .i64 0, .int .i64 0, .slice none 0 0] 75)
  have hof := of_of (v := .bool true) (of_Manifest t j c sa sn sc ((w.alloc (.cells #[.int .i64 t, .int .i64 j, .int .i64 c, .slice sa sn sc] 73)).alloc (.cells #[.int .i64 0, .int .i64 0, .int .i64 0, .int .i64 0, .int .i64 0, .slice none 0 0] 75)))
  have hlk := fun w' (f : Fr noB w w') => job_look (hJ.fr f (fun q => q)) j hj
  rw [hk] at hlk
  have h1 := fun w' (f : Fr noB w w') => (f.blk hS (fun q => q)).cell 1
  simp only [List.getElem?_cons_zero, List.getElem?_cons_succ, Option.getD_some] at h1 hlk
  replace hlk := Lib.hid hlk
  replace h1 := Lib.hid h1
  unfold mManifest at hof
  replace hof := Lib.hid hof
  clear hS hJ hk
  go_enter Tryz.func41, Tryz.ntmps41
  go_wp2_with (simp only [hm, hc])
  go_fit hof.out
  rintro e w3 ⟨rfl, f3⟩
  have f4 := f2.seqN f3
  have hl := hlk.out w3 f4
  have h2 := h1.out w3 f4
  replace f4 := Lib.hid f4
  clear f1 f2 f3 hof hlk h1 hm hc
  go_wp2_with (simp only [hl])
  go_ret
  exact ⟨rfl, f4.out⟩
set_option maxHeartbeats 2000000 in
theorem stake_chunk (gS bj n : Nat) (J : List (Int × Int)) (d p m r : Value) (ca t j ci cn st : Int) (sa : Option Addr) (sn sc : Nat) (w : World) (hS : Blk w gS 84 [d, .map (some bj), p, m, r])
    (hJ : Mp Tryz.prog 3 klI mkN w bj n J) (hj : okI j) (hst : st = 1 ∨ st = 2) (hk : look J j = some st) :
    Calls Tryz.prog 41 #[.pointer (some ⟨gS, 0, none⟩), .iface 75 (.agg #[.int .i64 ca, .int .i64 t, .int .i64 j, .int .i64 ci, .int .i64 cn, .slice sa sn sc])] w fun e w' => e = .returned (.slice none 0 0) ∧ Fr noB w w' := by
  have hm := fun w => as_Chunk_Manifest (.agg #[.int .i64 ca, .int .i64 t, .int .i64 j, .int .i64 ci, .int .i64 cn, .slice sa sn sc]) w
  have hc := fun w => as_Chunk_Chunk (.agg #[.int .i64 ca, .int .i64 t, .int .i64 j, .int .i64 ci, .int .i64 cn, .slice sa sn sc]) w
  have f1 := (Fr.refl noB w).alloc (.cells #[.int .i64 0, .int .i64 0, .int .i64 0, .slice none 0 0] 73)
  have f2 := f1.alloc (.cells #[.int .i64 ca, .int .i64 t, .int .i64 j, .int .i64 ci, .int .i64 cn, .slice sa sn sc] 75)
  have hof := of_of (v := .bool true) (of_Chunk ca t j ci cn sa sn sc ((w.alloc (.cells #[.int .i64 0, .int .i64 0, .int .i64 0, .slice none 0 0] 73)).alloc (.cells #[.int .i64 ca, .int .i64 t, .int .i64 j, .int .i64 ci, .int .i64 cn, .slice sa sn sc] 75)))
  have hlk := fun w' (f : Fr noB w w') => job_look (hJ.fr f (fun q => q)) j hj
  rw [hk] at hlk
  have h1 := fun w' (f : Fr noB w w') => (f.blk hS (fun q => q)).cell 1
  simp only [List.getElem?_cons_zero, List.getElem?_cons_succ, Option.getD_some] at h1 hlk
  replace hlk := Lib.hid hlk
  replace h1 := Lib.hid h1
  unfold mChunk at hof
  replace hof := Lib.hid hof
  clear hS hJ hk
  go_enter Tryz.func41, Tryz.ntmps41
  go_wp2_with (simp only [hm, hc])
  go_fit hof.out
  rintro e w3 ⟨rfl, f3⟩
  have f4 := f2.seqN f3
  have hl := hlk.out w3 f4
  have h2 := h1.out w3 f4
  replace f4 := Lib.hid f4
  clear f1 f2 f3 hof hlk h1 hm hc
  rcases hst with rfl | rfl
  all_goals (
    go_wp2_with (simp only [hl])
    go_ret
    exact ⟨rfl, f4.out⟩)
end Go.Proofs.YtdmhnoffejjpnaaGreatDoor
end

section
set_option linter.unusedVariables false
set_option linter.unusedSimpArgs false
set_option maxRecDepth 100000
set_option maxRecDepth 100000
namespace Go.Proofs.YtdmhnoffejjpnaaGreatDoor
open Go.RowKit Go Go.Maps Go.Lib

theorem zeroB (w : World) : (zeroValue 156).run Tryz.prog w = .ok (mkB none) w := by kernel_rfl
theorem zeroP (w : World) : (zeroValue 157).run Tryz.prog w = .ok (mkP none) w := by kernel_rfl
theorem came_look {w : World} {bc n : Nat} {C : List (Int × Option Nat)} (h : Mp Tryz.prog 3 klI mkB w bc n C) (jb : Int) (hj : okI jb) : (Instr.lookup 81 (.map (some bc)) (.int .i64 jb) false).run Tryz.prog w = .ok (.map ((look C jb).getD none)) w :=
  h.run_look KI' Tryz.underlying81 (zeroB w) mkB_inj jb hj
theorem asm_look {w : World} {b n : Nat} {C : List (Int × Option Nat)} (h : Mp Tryz.prog 3 klI mkP w b n C) (t : Int) (ht : okI t) : (Instr.lookup 156 (.map (some b)) (.int .i64 t) false).run Tryz.prog w = .ok (mkP ((look C t).getD none)) w :=
  h.run_look KI' Tryz.underlying156 (zeroP w) mkP_inj t ht
end Go.Proofs.YtdmhnoffejjpnaaGreatDoor
end

section
set_option linter.unusedVariables false
set_option linter.unusedSimpArgs false
set_option maxRecDepth 100000
set_option maxRecDepth 100000
namespace Go.Proofs.YtdmhnoffejjpnaaGreatDoor
open Go.RowKit Go Go.Maps Go.Lib

set_option maxHeartbeats 2000000 in
theorem stake_man0 (R : World → Prop) (gS bj n : Nat) (J : List (Int × Int)) (d p m r : Value) (t j c : Int) (sa : Option Addr) (sn sc : Nat) (w : World) (hS : Blk w gS 84 [d, .map (some bj), p, m, r])
    (hJ : Mp Tryz.prog 3 klI mkN w bj n J) (hj : okI j) (hk : look J j = none)
    (hcol : ∀ w1, Fr noB w w1 → Calls Tryz.prog 63 #[.pointer (some ⟨gS, 0, none⟩), .int .i64 t, .int .i64 j, .iface 73 (.agg #[.int .i64 t, .int .i64 j, .int .i64 c, .slice sa sn sc])] w1 fun e w' => e = .returned (.tuple #[]) ∧ R w') :
    Calls Tryz.prog 41 #[.pointer (some ⟨gS, 0, none⟩), .iface 73 (.agg #[.int .i64 t, .int .i64 j, .int .i64 c, .slice sa sn sc])] w fun e w' => e = .returned (.slice none 0 0) ∧ R w' := by
  have hm := fun w => as_Manifest_Manifest (.agg #[.int .i64 t, .int .i64 j, .int .i64 c, .slice sa sn sc]) w
  have hc := fun w => as_Manifest_Chunk (.agg #[.int .i64 t, .int .i64 j, .int .i64 c, .slice sa sn sc]) w
  have f1 := (Fr.refl noB w).alloc (.cells #[.int .i64 t, .int .i64 j, .int .i64 c, .slice sa sn sc] 73)
  have f2 := f1.alloc (.cells #[.int .i64 0, .int .i64 0, .int .i64 0, .int .i64 0, .int .i64 0, .slice none 0 0] 75)
  have hof := of_of (v := .bool true) (of_Manifest t j c sa sn sc ((w.alloc (.cells #[.int .i64 t, .int .i64 j, .int .i64 c, .slice sa sn sc] 73)).alloc (.cells #[.int .i64 0, .int .i64 0, .int .i64 0, .int .i64 0, .int .i64 0, .slice none 0 0] 75)))
  have hlk := fun w' (f : Fr noB w w') => job_look (hJ.fr f (fun q => q)) j hj
  rw [hk] at hlk
  have h1 := fun w' (f : Fr noB w w') => (f.blk hS (fun q => q)).cell 1
  simp only [List.getElem?_cons_zero, List.getElem?_cons_succ, Option.getD_none] at h1 hlk
  replace hlk := Lib.hid hlk
  replace h1 := Lib.hid h1
  unfold mManifest at hof
  replace hof := Lib.hid hof
  clear hS hJ hk
  go_enter Tryz.func41, Tryz.ntmps41
  go_wp2_with (simp only [hm, hc])
  go_fit hof.out
  rintro e w3 ⟨rfl, f3⟩
  have f4 := f2.seqN f3
  have hl := hlk.out w3 f4
  have h2 := h1.out w3 f4
  have hco := Lib.hid (hcol w3 f4)
  clear f1 f2 f3 f4 hof hlk h1 hm hc hcol
  go_wp2_with (simp only [hl])
  go_fit hco.out
  rintro e w4 ⟨rfl, hR⟩
  replace hR := Lib.hid hR
  clear hco
  go_wp2_with fail
  go_ret
  exact ⟨rfl, hR.out⟩
set_option maxHeartbeats 2000000 in
theorem stake_chunk0 (R : World → Prop) (gS bj n : Nat) (J : List (Int × Int)) (d p m r : Value) (ca t j ci cn : Int) (sa : Option Addr) (sn sc : Nat) (w : World) (hS : Blk w gS 84 [d, .map (some bj), p, m, r])
    (hJ : Mp Tryz.prog 3 klI mkN w bj n J) (hj : okI j) (hk : look J j = none)
    (hcol : ∀ w1, Fr noB w w1 → Calls Tryz.prog 63 #[.pointer (some ⟨gS, 0, none⟩), .int .i64 t, .int .i64 j, .iface 75 (.agg #[.int .i64 ca, .int .i64 t, .int .i64 j, .int .i64 ci, .int .i64 cn, .slice sa sn sc])] w1 fun e w' => e = .returned (.tuple #[]) ∧ R w') :
    Calls Tryz.prog 41 #[.pointer (some ⟨gS, 0, none⟩), .iface 75 (.agg #[.int .i64 ca, .int .i64 t, .int .i64 j, .int .i64 ci, .int .i64 cn, .slice sa sn sc])] w fun e w' => e = .returned (.slice none 0 0) ∧ R w' := by
  have hm := fun w => as_Chunk_Manifest (.agg #[.int .i64 ca, .int .i64 t, .int .i64 j, .int .i64 ci, .int .i64 cn, .slice sa sn sc]) w
  have hc := fun w => as_Chunk_Chunk (.agg #[.int .i64 ca, .int .i64 t, .int .i64 j, .int .i64 ci, .int .i64 cn, .slice sa sn sc]) w
  have f1 := (Fr.refl noB w).alloc (.cells #[.int .i64 0, .int .i64 0, .int .i64 0, .slice none 0 0] 73)
  have f2 := f1.alloc (.cells #[.int .i64 ca, .int .i64 t, .int .i64 j, .int .i64 ci, .int .i64 cn, .slice sa sn sc] 75)
  have hof := of_of (v := .bool true) (of_Chunk ca t j ci cn sa sn sc ((w.alloc (.cells #[.int .i64 0, .int .i64 0, .int .i64 0, .slice none 0 0] 73)).alloc (.cells #[.int .i64 ca, .int .i64 t, .int .i64 j, .int .i64 ci, .int .i64 cn, .slice sa sn sc] 75)))
  have hlk := fun w' (f : Fr noB w w') => job_look (hJ.fr f (fun q => q)) j hj
  rw [hk] at hlk
  have h1 := fun w' (f : Fr noB w w') => (f.blk hS (fun q => q)).cell 1
  simp only [List.getElem?_cons_zero, List.getElem?_cons_succ, Option.getD_none] at h1 hlk
  replace hlk := Lib.hid hlk
  replace h1 := Lib.hid h1
  unfold mChunk at hof
  replace hof := Lib.hid hof
  clear hS hJ hk
  go_enter Tryz.func41, Tryz.ntmps41
  go_wp2_with (simp only [hm, hc])
  go_fit hof.out
  rintro e w3 ⟨rfl, f3⟩
  have f4 := f2.seqN f3
  have hl := hlk.out w3 f4
  have h2 := h1.out w3 f4
  have hco := Lib.hid (hcol w3 f4)
  clear f1 f2 f3 f4 hof hlk h1 hm hc hcol
  go_wp2_with (simp only [hl])
  go_fit hco.out
  rintro e w4 ⟨rfl, hR⟩
  replace hR := Lib.hid hR
  clear hco
  go_wp2_with fail
  go_ret
  exact ⟨rfl, hR.out⟩
end Go.Proofs.YtdmhnoffejjpnaaGreatDoor
end

section
set_option linter.unusedVariables false
set_option linter.unusedSimpArgs false
set_option maxRecDepth 100000
set_option maxRecDepth 100000
namespace Go.Proofs.YtdmhnoffejjpnaaGreatDoor
open Go.RowKit Go Go.Maps Go.Lib

theorem stick_no (gS c : Nat) (a : Option Addr) (d j m r : Value) (w : World) (hS : Blk w gS 84 [d, j, .slice a 0 c, m, r]) :
    Calls Tryz.prog 11 #[.pointer (some ⟨gS, 0, none⟩)] w fun e w' => e = .returned (.slice none 0 0) ∧ w' = w := by
  have c2 := hS.cell 2
  simp only [List.getElem?_cons_zero, List.getElem?_cons_succ] at c2
  clear hS
  go_enter Tryz.func11, Tryz.ntmps11
  go_wp2_with fail
  go_ret
  exact ⟨rfl, rfl⟩
end Go.Proofs.YtdmhnoffejjpnaaGreatDoor
end

section
set_option linter.unusedVariables false
set_option linter.unusedSimpArgs false
set_option maxRecDepth 100000
namespace Go.Proofs.YtdmhnoffejjpnaaGreatDoor
open Go.RowKit Go Go.Lib

/-- how many of the loose bytes a crash leaves -/
def crN (k : Int) (loose : Nat) : Nat := (wrap64 ((IntKind.u64.wrap k).tmod ((loose : Int) + 1))).toNat
theorem crN_spec (k : Int) (loose : Nat) (h : loose ≤ 65536) : wrap64 ((IntKind.u64.wrap k).tmod ((loose : Int) + 1)) = crN k loose ∧ crN k loose ≤ loose := by
  obtain ⟨q, hq, h0, h1⟩ := umod k (loose + 1) (by omega) (by omega)
  unfold crN
  rw [hq]
  omega

theorem dcrash_nil (n : Int) (w : World) : Calls Tryz.prog 32 #[.pointer none, .int .i64 n] w fun e w' => e = .returned (.tuple #[]) ∧ w' = w := by
  go_enter Tryz.func32, Tryz.ntmps32
  go_wp2
  go_end0
  exact ⟨rfl, rfl⟩

set_option maxHeartbeats 400000 in
theorem dcrash_any (g B : Nat) (bs : List UInt8) (kept : Nat) (k : Int) (w : World) (h : Dk w g B bs kept) (hk : -9223372036854775808 ≤ k ∧ k ≤ 9223372036854775807) :
    Calls Tryz.prog 32 #[.pointer (some ⟨g, 0, none⟩), .int .i64 k] w fun e w' => e = .returned (.tuple #[]) ∧ Dk w' g B (bs.take (kept + crN k (bs.length - kept))) (kept + crN k (bs.length - kept)) ∧ Fr (touched w g) w w' ∧ ∀ q, touched w' g q → touched w g q := by
  have hD := h
  obtain ⟨a, c, hb, ho, hgB, hBw, hkp, hl⟩ := h
  clear ho
  generalize hn : bs.length = n at *
  obtain ⟨L, hL⟩ : ∃ L, n - kept = L := ⟨_, rfl⟩
  obtain ⟨hc1, hc2⟩ := crN_spec k L (by omega)
  rw [hL]
  have c0 : w.cell? ⟨g, 0, none⟩ = some (.slice a n c) := hb.cell 0
  have c1 : w.cell? ⟨g, 1, none⟩ = some (.int .i64 kept) := hb.cell 1
  have e1 : (n : Int) - kept = L := by omega
  clear hb
  replace hL := Lib.hid hL
  generalize hq : crN k L = q at *
  replace hn := Lib.hid hn
  replace hq := Lib.hid hq
  have hLb : (L : Int) ≤ 65536 := by omega
  have hqb : (q : Int) ≤ L := by omega
  obtain ⟨hk0, hk1⟩ := hk
  go_enter Tryz.func32, Tryz.ntmps32
  go_wp2_with fail
  go_quiet (fail)
  go_wp2_with fail
  have w1 : IntKind.i64.wrap ((L : Int) + 1) = (L : Int) + 1 := IntWalk.i64_in _ (by omega)
  have w2 : IntKind.u64.wrap ((L : Int) + 1) = (L : Int) + 1 := by rw [IntKind.wrap_u64]; omega
  have w3 : IntKind.i64.wrap ((IntKind.u64.wrap k).tmod ((L : Int) + 1)) = q := by rw [← hc1]; rw [IntKind.wrap_i64]; unfold wrap64; rfl
  have w4 : IntKind.i64.wrap ((kept : Int) + (q : Int)) = (kept : Int) + (q : Int) := IntWalk.i64_in _ (by omega)
  have w5 : ¬ ((L : Int) + 1 = 0) := by omega
  go_region_with (go_at_call 35; refine (dcut_any g B bs kept _ _ ?_ ?_).mono ?_; exact hD; omega; rintro e w1 ⟨rfl, d1, f1, t1⟩)
  all_goals
    have hcut : cutN ((kept : Int) + (q : Int)) bs.length = kept + q := by rw [hn.out]; unfold cutN; omega
    rw [hcut] at d1
    go_end0
    exact ⟨rfl, d1, ((Fr.refl (touched w g) w).drewN _).trans f1 (fun _ _ h => h) (fun _ _ h => h), fun q hq => t1 q hq⟩
end Go.Proofs.YtdmhnoffejjpnaaGreatDoor
end
