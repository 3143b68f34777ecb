/-
  What a job says while it ships: the manifest to the collector, and to each agent that it collects.
-/
import Derived.Test.YtidcoddefebdpaaGreatJobShip
import Derived.Test.YtidcoddefebdpaaGreatJobMan
import Derived.Laws.AppendOwnNone
set_option linter.unusedVariables false
set_option linter.unusedSimpArgs false
set_option maxRecDepth 100000
namespace Go.Proofs.YtidcoddefebdpaaGreat
open Go.RowKit Go Go.Lib

set_option maxHeartbeats 4000000 in
set_option maxRecDepth 10000 in
theorem outs_2F (p : Nat) (j : JS) (X : Nat → List Int) (w : World) (h : Jb w p j) (hph : j.ph = 2) (hall : noneL (fun v => !v.p) j = true) (hX : ∀ a, a < 4 → RdI w (.slice (j.at a).t.a (j.at a).t.n (j.at a).t.c) (X a) ∧ (X a).length ≤ 1000) :
    Calls Tryz.prog 25 #[.pointer (some ⟨p, 0, none⟩)] w fun e w' => ∃ u pa pc wm cs, e = .returned u ∧ w'.ownsRow w.heap.size 76 2 u ((whichL (fun _ => true) j 4).length + 1) ([.int .i64 (-1), mManifest j.tr j.id j.cl (.slice pa (whichL (fun _ => true) j 4).length pc)] ++ outC (whichL (fun _ => true) j 4) (mCollect j.tr j.id)) ∧ Fr noB w w' ∧ Fr noB w wm ∧ Fr noB wm w' ∧ wm.ownsRow w.heap.size 67 6 (.slice pa (whichL (fun _ => true) j 4).length pc) (whichL (fun _ => true) j 4).length cs ∧ PartsAt wm w.heap.size (Value.slice pa (whichL (fun _ => true) j 4).length pc).ownBlock j X (whichL (fun _ => true) j 4) (whichL (fun _ => true) j 4).length cs := by
  unfold mCollect mManifest
  have hp := phase_any p j w h
  rw [hph] at hp
  have hm := manifest_full p j X w h (by omega) hall hX
  have hlen := whichL_len (fun _ => true) j 4
  have hvis := fun (w' : World) (f : Fr noB w w') => visited_any p j w' (h.frN f)
  generalize whichL (fun _ => true) j 4 = L at *
  have hte := fun (v : Value) (w' : World) (hv : RdI w' v L) => toEach_any v L 96 #[.int .i64 j.tr, .int .i64 j.id] w' hv (by omega)
  have hfj : ∀ w', Fr noB w w' → w'.cell? ⟨p, 1, none⟩ = some (.int .i64 j.tr) ∧ w'.cell? ⟨p, 0, none⟩ = some (.int .i64 j.id) := fun w' f => ⟨(h.frN f).cell 1, (h.frN f).cell 0⟩
  replace hfj := Lib.hid hfj
  replace hte := Lib.hid hte
  replace hvis := Lib.hid hvis
  clear h hX
  go_enter Tryz.func25, Tryz.ntmps25
  go_wp2_with fail
  refine hp.mono ?_
  rintro e w1 ⟨rfl, hw1⟩
  obtain rfl := hw1.symm
  clear hp
  go_wp2_with fail
  refine hm.mono ?_
  rintro e w2 ⟨pa, pc, cs, rfl, o2, hpt2, f2⟩
  clear hm
  generalize hLn : L.length = n at *
  replace hLn := Lib.hid hLn
  have o2' := Lib.hid o2
  have f2' := Lib.hid f2
  replace hpt2 := Lib.hid hpt2
  obtain ⟨wm, hwm⟩ : ∃ wm, wm = w2 := ⟨_, rfl⟩
  rw [← hwm] at o2' f2' hpt2
  have fm2 : Hid (Fr noB wm w2) := Lib.hid (by rw [hwm]; exact Fr.refl _ _)
  clear hwm
  have bM := Blk.new w2 101 [.int .i64 j.tr, .int .i64 j.id, .int .i64 j.cl, .slice pa n pc]
  have fM := f2.alloc (.cells #[.int .i64 j.tr, .int .i64 j.id, .int .i64 j.cl, .slice pa n pc] 101)
  obtain ⟨w3, hw3⟩ : ∃ w3, w3 = w2.alloc (.cells #[.int .i64 j.tr, .int .i64 j.id, .int .i64 j.cl, .slice pa n pc] 101) := ⟨_, rfl⟩
  go_upto_region 6 with fail
  rw [← hw3]
  replace bM : Blk w3 w2.heap.size 101 [.int .i64 j.tr, .int .i64 j.id, .int .i64 j.cl, .slice pa n pc] := by rw [hw3]; exact bM
  replace fM : Fr noB w w3 := by rw [hw3]; exact fM
  have fm3 : Hid (Fr noB wm w3) := Lib.hid (by rw [hw3]; exact fm2.out.alloc _)
  clear hw3 f2 o2 fm2
  generalize w2.heap.size = mb at *
  have hfacts : ∀ w', Fr noB w3 w' → (w'.cell? ⟨p, 1, none⟩ = some (.int .i64 j.tr) ∧ w'.cell? ⟨p, 0, none⟩ = some (.int .i64 j.id)) ∧ w'.cell? ⟨mb, 0, none⟩ = some (.int .i64 j.tr) ∧ w'.cell? ⟨mb, 1, none⟩ = some (.int .i64 j.id) ∧ w'.cell? ⟨mb, 2, none⟩ = some (.int .i64 j.cl) ∧ w'.cell? ⟨mb, 3, none⟩ = some (.slice pa n pc) := fun w' f => ⟨hfj.out w' (fM.seqN f), (f.blk bM (fun q => q)).cell 0, (f.blk bM (fun q => q)).cell 1, (f.blk bM (fun q => q)).cell 2, (f.blk bM (fun q => q)).cell 3⟩
  replace hfacts := Lib.hid hfacts
  obtain ⟨i0, hi0, hz0, hz1, hz2⟩ : ∃ i0, Tryz.prog.info? 76 = some i0 ∧ i0.zero = some (.agg #[.int .i64 0, .nilIface]) ∧ i0.size = 2 ∧ i0.bytes = 24 := by
    have hI := infoOut
    cases hq : Tryz.prog.info? 76 with
    | none => rw [hq] at hI; cases hI
    | some k => rw [hq] at hI; simp at hI; exact ⟨k, rfl, hI⟩
  have hone := outC_one L 96 #[.int .i64 j.tr, .int .i64 j.id]
  have hll := outC_len L (.iface 96 (.agg #[.int .i64 j.tr, .int .i64 j.id]))
  have hlit : ((w3.alloc (.cells #[.int .i64 (-1), .iface 101 (.agg #[.int .i64 j.tr, .int .i64 j.id, .int .i64 j.cl, .slice pa n pc])] 76)).drew).ownsRow w3.heap.size 76 2 (.slice (some ⟨w3.heap.size, 0, none⟩) 1 1) 1 [.int .i64 (-1), .iface 101 (.agg #[.int .i64 j.tr, .int .i64 j.id, .int .i64 j.cl, .slice pa n pc])] := own_new w3 76 [.int .i64 (-1), .iface 101 (.agg #[.int .i64 j.tr, .int .i64 j.id, .int .i64 j.cl, .slice pa n pc])] 2 1 rfl (by unfold maxLen; omega)
  rw [hLn.out] at hll
  replace hlit := Lib.hid hlit
  obtain ⟨OC, hOC⟩ : ∃ OC, OC = outC L (.iface 96 (.agg #[.int .i64 j.tr, .int .i64 j.id])) := ⟨_, rfl⟩
  rw [← hOC] at hone hll hte
  replace hOC := Lib.hid hOC
  replace hone := Lib.hid hone
  replace hll := Lib.hid hll
  have hn4 : n ≤ 4 := hlen
  have hsz1 : 1 + n ≤ maxLen := by unfold maxLen; omega
  have hsz2 : (1 + n) * 24 ≤ 140737488355328 := by omega
  have h02 : 0 < 2 := by omega
  have hlitA : ∀ wq : World, w3.heap.size ≤ wq.heap.size → (wq.alloc (.cells #[.int .i64 (-1), .iface 101 (.agg #[.int .i64 j.tr, .int .i64 j.id, .int .i64 j.cl, .slice pa n pc])] 76)).ownsRow w3.heap.size 76 2 (.slice (some ⟨wq.heap.size, 0, none⟩) 1 1) 1 [.int .i64 (-1), .iface 101 (.agg #[.int .i64 j.tr, .int .i64 j.id, .int .i64 j.cl, .slice pa n pc])] := fun wq hq => ownsRow_mono (own_new wq 76 [.int .i64 (-1), .iface 101 (.agg #[.int .i64 j.tr, .int .i64 j.id, .int .i64 j.cl, .slice pa n pc])] 2 1 rfl (by unfold maxLen; omega)) hq
  replace hlitA := Lib.hid hlitA
  go_region_held3 (fun w' => (w'.cell? ⟨p, 1, none⟩ = some (.int .i64 j.tr) ∧ w'.cell? ⟨p, 0, none⟩ = some (.int .i64 j.id)) ∧ w'.cell? ⟨mb, 0, none⟩ = some (.int .i64 j.tr) ∧ w'.cell? ⟨mb, 1, none⟩ = some (.int .i64 j.id) ∧ w'.cell? ⟨mb, 2, none⟩ = some (.int .i64 j.cl) ∧ w'.cell? ⟨mb, 3, none⟩ = some (.slice pa n pc))
    (first | exact hfacts.out _ g9 | exact hfacts.out _ f7 | exact hfacts.out _ (f7.alloc _) | exact hfacts.out _ f5 | exact hfacts.out _ (f5.alloc _) | exact hfacts.out _ (((Fr.refl noB _).alloc _).drew) | exact hfacts.out _ ((Fr.refl noB _).alloc _) | exact hfacts.out _ ((Fr.refl noB _).drewN 1) | fail)
    (first
     | (have qq := tok1; clear qq; rw [if_pos (by rfl)]; refine (wp_append_rd (.tmp 32) (.tmp 45) 43 rfl w3.heap.size 76 i0 _ 2 24 Tryz.underlying43 hi0 hz0 hz1 hz2 rfl h02 (.slice (some ⟨w3.heap.size, 0, none⟩) 1 1) 1 [.int .i64 (-1), .iface 101 (.agg #[.int .i64 j.tr, .int .i64 j.id, .int .i64 j.cl, .slice pa n pc])] (by simp [Act.eval, Act.put]) olit1 n v7 OC (by simp [Act.eval, Act.put]) (own_src o7) hll.out hone.out hsz1 hsz2 f7.size ?_); intro v9 w9 o9 f9; have g9 := fr_own olit1 f7 f9)
     | (have qq := tok2; clear qq; rw [if_pos (by rfl)]; refine (wp_append_rd (.tmp 32) (.tmp 45) 43 rfl w3.heap.size 76 i0 _ 2 24 Tryz.underlying43 hi0 hz0 hz1 hz2 rfl h02 (.slice (some ⟨w5.heap.size, 0, none⟩) 1 1) 1 [.int .i64 (-1), .iface 101 (.agg #[.int .i64 j.tr, .int .i64 j.id, .int .i64 j.cl, .slice pa n pc])] (by simp [Act.eval, Act.put]) olit2 n v7 OC (by simp [Act.eval, Act.put]) (own_src o7) hll.out hone.out hsz1 hsz2 f7.size ?_); intro v9 w9 o9 f9; have g9 := fr_own olit2 f7 f9)
     | (have qq := tok3; clear qq; rw [if_pos (by rfl)]; refine (wp_append_rd (.tmp 32) (.tmp 45) 43 rfl w3.heap.size 76 i0 _ 2 24 Tryz.underlying43 hi0 hz0 hz1 hz2 rfl h02 (.slice (some ⟨w7.heap.size, 0, none⟩) 1 1) 1 [.int .i64 (-1), .iface 101 (.agg #[.int .i64 j.tr, .int .i64 j.id, .int .i64 j.cl, .slice pa n pc])] (by simp [Act.eval, Act.put]) (hlitA.out w7 f7.size) n v7 OC (by simp [Act.eval, Act.put]) (own_src (ownsRow_fr o7 ((Fr.refl noB w7).alloc _) (fun _ _ q => q))) hll.out hone.out hsz1 hsz2 (f7.alloc _).size ?_); intro v9 w9 o9 f9; have g9 := fr_own (hlitA.out w7 f7.size) (f7.alloc _) f9)
     | (go_at_call 42; have qq := lit5; clear qq; refine (hte.out v5 w5 r5).mono ?_; rintro e w7 ⟨v7, rfl, o7, f70⟩; have f7 : Fr noB w3 w7 := f5.seqN f70; have olit1 := ownsRow_fr lit5 f70 (fun _ _ q => q); have tok1 : True := trivial)
     | (go_at_call 42; have qq := tokV; clear qq; refine (hte.out v5 w5 r5).mono ?_; rintro e w7 ⟨v7, rfl, o7, f70⟩; have f7 : Fr noB w3 w7 := f5.seqN f70; have tok3 : True := trivial)
     | (go_at_call 42; have qq := tokV; clear qq; refine (hte.out v5 _ (r5.fr ((Fr.refl noB w5).alloc _) (fun _ _ _ _ _ q => q))).mono ?_; rintro e w7 ⟨v7, rfl, o7, f70⟩; have f7 : Fr noB w3 w7 := (f5.alloc _).seqN f70; have olit2 := ownsRow_fr (hlitA.out w5 f5.size) f70 (fun _ _ q => q); have tok2 : True := trivial)
     | (go_at_call 46; refine (hvis.out w3.drew (fM.seqN (Fr.refl noB _).drew)).mono ?_; rintro e w5 ⟨v5, rfl, o5, f50⟩; have f5 : Fr noB w3 w5 := ((Fr.refl noB w3).drew).seqN f50; have r5 : RdI w5 v5 L := RdI.of_own o5; have tokV : True := trivial)
     | (go_at_call 46; refine (hvis.out _ (fM.seqN (((Fr.refl noB _).alloc _).drew))).mono ?_; rintro e w5 ⟨v5, rfl, o5, f50⟩; have f5 : Fr noB w3 w5 := (((Fr.refl noB w3).alloc _).drew).seqN f50; have r5 : RdI w5 v5 L := RdI.of_own o5; have lit5 := ownsRow_fr hlit.out f50 (fun _ _ q => q))
     | fail)
  all_goals (
    have hw3 : w.heap.size ≤ w3.heap.size := fM.size
    have o10 := ownsRow_mono o9 hw3
    rw [Nat.add_comm] at o10
    try go_wp2_with fail
    go_ret
    exact ⟨v9, pa, pc, wm, cs, rfl, by rw [hLn.out, ← hOC.out]; exact o10, fM.seqN g9, f2'.out, fm3.out.seqN g9, by rw [hLn.out]; exact o2'.out, by rw [hLn.out]; exact hpt2.out⟩)
end Go.Proofs.YtidcoddefebdpaaGreat
