/-
  What a job's manifest holds: of each agent that was visited what it told.
-/
import Derived.Test.YtidcoddefebdpaaGreatJobShip
set_option linter.unusedVariables false
set_option linter.unusedSimpArgs false
set_option maxRecDepth 100000
namespace Go.Proofs.YtidcoddefebdpaaGreat
open Go.RowKit Go Go.Lib

/-- The parts of a manifest: k of L have theirs among cs. -/
def PartsAt (w : World) (B : Nat) (row : Option Nat) (j : JS) (X : Nat → List Int) (L : List Int) (k : Nat) (cs : List Value) : Prop :=
  ∀ i, i < k → ∃ ta tc, (∀ q u, (toldC { (j.at (L.getD i 0).toNat).t with a := ta, c := tc })[q]? = some u → cs[i * 6 + q]? = some u) ∧ RdI w (.slice ta (j.at (L.getD i 0).toNat).t.n tc) (X (L.getD i 0).toNat) ∧
    (X (L.getD i 0).toNat ≠ [] → ∀ g o, ta = some ⟨g, o, none⟩ → B ≤ g ∧ g < w.heap.size ∧ row ≠ some g)
theorem PartsAt.snoc {w : World} {B : Nat} {row : Option Nat} {j : JS} {X : Nat → List Int} {L : List Int} {k : Nat} {cs : List Value} {ta : Option Addr} {tc : Nat} (h : PartsAt w B row j X L k cs) (hl : cs.length = k * 6)
    (hr : RdI w (.slice ta (j.at (L.getD k 0).toNat).t.n tc) (X (L.getD k 0).toNat)) (hg : X (L.getD k 0).toNat ≠ [] → ∀ g o, ta = some ⟨g, o, none⟩ → B ≤ g ∧ g < w.heap.size ∧ row ≠ some g) :
    PartsAt w B row j X L (k + 1) (cs ++ toldC { (j.at (L.getD k 0).toNat).t with a := ta, c := tc }) := by
  intro i hi
  rcases Nat.lt_or_ge i k with hik | hik
  · obtain ⟨ta', tc', h1, h2, h3⟩ := h i hik
    refine ⟨ta', tc', fun q u hq => ?_, h2, h3⟩
    have h9 := h1 q u hq
    rw [List.getElem?_append_left (List.getElem?_eq_some_iff.1 h9).1]
    exact h9
  · obtain rfl : i = k := by omega
    refine ⟨ta, tc, fun q u hq => ?_, hr, hg⟩
    rw [List.getElem?_append_right (by omega), hl, show i * 6 + q - i * 6 = q by omega]
    exact hq
theorem PartsAt.step {w w' : World} {B : Nat} {row row' : Option Nat} {j : JS} {X : Nat → List Int} {L : List Int} {k : Nat} {cs : List Value} {S : Nat → Prop} (h : PartsAt w B row j X L k cs) (f : Fr S w w')
    (hS : ∀ q, B ≤ q → q < w.heap.size → row ≠ some q → ¬ S q) (hr : ∀ q, q < w.heap.size → row ≠ some q → row' ≠ some q) : PartsAt w' B row' j X L k cs := by
  intro i hi
  obtain ⟨ta, tc, h1, h2, h3⟩ := h i hi
  refine ⟨ta, tc, h1, h2.fr1 f (fun hne g o n c e => ?_), fun hne g o e => ?_⟩
  · obtain ⟨k1, k2, k3⟩ := h3 hne g o (by injection e)
    exact hS g k1 k2 k3
  · obtain ⟨k1, k2, k3⟩ := h3 hne g o e
    exact ⟨k1, by have := f.size; omega, hr g k2 k3⟩
theorem PartsAt.base {w : World} {B B' : Nat} {row : Option Nat} {j : JS} {X : Nat → List Int} {L : List Int} {k : Nat} {cs : List Value} (h : PartsAt w B row j X L k cs) (hb : B' ≤ B) : PartsAt w B' row j X L k cs := by
  intro i hi
  obtain ⟨ta, tc, h1, h2, h3⟩ := h i hi
  exact ⟨ta, tc, h1, h2, fun hne g o e => by obtain ⟨k1, k2, k3⟩ := h3 hne g o e; exact ⟨by omega, k2, k3⟩⟩

set_option maxHeartbeats 2000000 in
set_option maxRecDepth 10000 in
theorem manifest_full (p : Nat) (j : JS) (X : Nat → List Int) (w : World) (h : Jb w p j) (hph : 2 ≤ j.ph) (hall : noneL (fun v => !v.p) j = true) (hX : ∀ a, a < 4 → RdI w (.slice (j.at a).t.a (j.at a).t.n (j.at a).t.c) (X a) ∧ (X a).length ≤ 1000) :
    Calls Tryz.prog 45 #[.pointer (some ⟨p, 0, none⟩)] w fun e w' => ∃ pa pc cs, e = .returned (.tuple #[.agg #[.int .i64 j.tr, .int .i64 j.id, .int .i64 j.cl, .slice pa (whichL (fun _ => true) j 4).length pc], .bool true]) ∧ w'.ownsRow w.heap.size 67 6 (.slice pa (whichL (fun _ => true) j 4).length pc) (whichL (fun _ => true) j 4).length cs ∧ PartsAt w' w.heap.size (Value.slice pa (whichL (fun _ => true) j 4).length pc).ownBlock j X (whichL (fun _ => true) j 4) (whichL (fun _ => true) j 4).length cs ∧ Fr noB w w' := by
  have fX := (Fr.refl noB w).alloc (.cells #[.int .i64 0, .int .i64 0, .int .i64 0, .slice none 0 0] 101)
  have hJX := h.frN fX
  have c40 : (w.alloc (.cells #[.int .i64 0, .int .i64 0, .int .i64 0, .slice none 0 0] 101)).cell? ⟨p, 40, none⟩ = some (.int .i64 j.ph) := hJX.cell 40
  have hd : decide (j.ph < 2) = false := by simp; omega
  have hal := allPinned_any p j _ hJX
  rw [hall] at hal
  replace fX := Lib.hid fX
  obtain ⟨ob, hob⟩ : ∃ ob, ob = w.heap.size := ⟨_, rfl⟩
  have hob2 := Lib.hid hob
  clear hob
  clear hJX
  go_enter Tryz.func45, Tryz.ntmps45
  go_wp2_with fail
  refine hal.mono ?_
  rintro e w1 ⟨rfl, f1⟩
  have g1 := fX.out.seqN f1
  have h1 := h.frN g1
  have c0 : w1.cell? ⟨p, 0, none⟩ = some (.int .i64 j.id) := h1.cell 0
  have c1 : w1.cell? ⟨p, 1, none⟩ = some (.int .i64 j.tr) := h1.cell 1
  have c2 : w1.cell? ⟨p, 2, none⟩ = some (.int .i64 j.cl) := h1.cell 2
  have bR1 := f1.blk (Blk.new w 101 [.int .i64 0, .int .i64 0, .int .i64 0, .slice none 0 0]) (fun q => q)
  clear hal f1 c40
  have hfacts : ∀ w', Fr noB w1 w' → w'.cell? ⟨p, 0, none⟩ = some (.int .i64 j.id) ∧ w'.cell? ⟨p, 1, none⟩ = some (.int .i64 j.tr) ∧ w'.cell? ⟨p, 2, none⟩ = some (.int .i64 j.cl) := fun w' f => ⟨f.cell c0 (fun q => q), f.cell c1 (fun q => q), f.cell c2 (fun q => q)⟩
  replace hfacts := Lib.hid hfacts
  go_upto_region 3 with fail
  go_region_held3 (fun w' => w'.cell? ⟨p, 0, none⟩ = some (.int .i64 j.id) ∧ w'.cell? ⟨p, 1, none⟩ = some (.int .i64 j.tr) ∧ w'.cell? ⟨p, 2, none⟩ = some (.int .i64 j.cl))
    (first | exact hfacts.out _ ((Fr.refl noB _).drewN 1) | exact hfacts.out _ (((Fr.refl noB _).drewN 1).alloc _))
    (fail)
  have fM : Fr noB w ((w1.alloc (.cells #[.int .i64 j.tr, .int .i64 j.id, .int .i64 j.cl, .slice none 0 0] 101)).drew) := (g1.alloc _).drew
  have bM : Blk ((w1.alloc (.cells #[.int .i64 j.tr, .int .i64 j.id, .int .i64 j.cl, .slice none 0 0] 101)).drew) w1.heap.size 101 [.int .i64 j.tr, .int .i64 j.id, .int .i64 j.cl, .slice none 0 0] := Blk.new w1 101 [.int .i64 j.tr, .int .i64 j.id, .int .i64 j.cl, .slice none 0 0]
  have hmbB : w.heap.size ≤ w1.heap.size := g1.size
  have bRm := (((Fr.refl noB w1).alloc (.cells #[.int .i64 j.tr, .int .i64 j.id, .int .i64 j.cl, .slice none 0 0] 101)).drew).blk bR1 (fun q => q)
  have hrbm : w.heap.size ≠ w1.heap.size := by have := bR1.lt; omega
  clear bR1
  generalize ((w1.alloc (.cells #[.int .i64 j.tr, .int .i64 j.id, .int .i64 j.cl, .slice none 0 0] 101)).drew) = wm at *
  generalize w1.heap.size = mb at *
  have hvis := visited_any p j wm (h.frN fM)
  have hLr : ∀ x ∈ whichL (fun _ => true) j 4, 0 ≤ x ∧ x < 4 := fun x hx => whichL_lt hx
  have hLl := whichL_len (fun _ => true) j 4
  obtain ⟨L, hL⟩ : ∃ L, L = whichL (fun _ => true) j 4 := ⟨_, rfl⟩
  rw [← hL] at hvis hLr hLl
  replace hL := Lib.hid hL
  replace hLr := Lib.hid hLr
  replace hob2 := Lib.hid hob2
  clear c0 c1 c2 h1 g1 hfacts fX
  go_wp2_with fail
  refine hvis.mono ?_
  rintro e w2 ⟨v2, rfl, o2, f2⟩
  clear hvis
  have b2 := Lib.hid (f2.blk bM (fun q => q))
  have bR := Lib.hid (f2.blk bRm (fun q => q))
  clear bRm
  have f2' := fM.seqN f2
  have r2 : RdI w2 v2 L := RdI.of_own o2
  obtain ⟨a2, c2, rfl, _, _, h2⟩ := r2
  have hmw : mb < wm.heap.size := bM.lt
  have hg2 : ∀ g o, a2 = some ⟨g, o, none⟩ → g ≠ mb := fun g o e => by have := addr_own o2 e; omega
  replace hg2 := Lib.hid hg2
  clear o2 bM fM f2
  generalize hn : L.length = n at *
  replace hn := Lib.hid hn
  replace h2 := Lib.hid h2
  obtain ⟨i0, hi0, hz0, hz1, hz2⟩ : ∃ i0, Tryz.prog.info? 67 = some i0 ∧ i0.zero = some (.agg #[.int .i64 0, .int .i64 0, .int .i64 0, .int .i64 0, .slice none 0 0, .bool false]) ∧ i0.size = 6 ∧ i0.bytes = 64 := by
    have hI := infoPinned
    cases hq : Tryz.prog.info? 67 with
    | none => rw [hq] at hI; cases hI
    | some k => rw [hq] at hI; simp at hI; exact ⟨k, rfl, hI⟩
  obtain ⟨B, hB⟩ : ∃ B, B = w2.heap.size := ⟨_, rfl⟩
  have hwB : w.heap.size ≤ B := by rw [hB]; exact f2'.size
  have hmbBB : mb < B := by rw [hB]; exact Blk.lt b2.out
  have hwBB : w.heap.size < B := by rw [hB]; exact Blk.lt bR.out
  replace hB := Lib.hid hB
  replace hX := Lib.hid hX
  replace h := Lib.hid h
  go_wp2_with fail
  go_loopw [39] (fun i wr => ∃ (k : Nat) (pa : Option Addr) (pc : Nat) (cs : List Value), k ≤ n ∧ i = .int .i64 k ∧ Hid (Blk wr mb 101 [.int .i64 j.tr, .int .i64 j.id, .int .i64 j.cl, .slice pa k pc]) ∧ wr.ownsRow B 67 6 (.slice pa k pc) k cs ∧ Hid (PartsAt wr B (Value.slice pa k pc).ownBlock j X L k cs) ∧ Hid (Fr noB w wr) ∧ Fr (onlyB mb) w2 wr) (fun i _ => n - (RowKit.intOf i).toNat)
  case atStart => exact ⟨0, none, 0, [], by omega, rfl, b2, World.ownsRow_nil _ _ _ _, Lib.hid (fun i hi => absurd hi (Nat.not_lt_zero _)), Lib.hid f2', Fr.refl _ _⟩
  case round =>
    clear b2 f2'
    obtain ⟨k, pa, pc, cs, hk, rfl, bM, own, hpt, fr, fr2⟩ := hrel
    by_cases hlt : k < n
    · obtain ⟨g5, o5, rfl, hc5⟩ := h2.out k hlt
      have e5 := fr2.cell hc5 (fun q => hg2.out _ _ rfl (by unfold onlyB at q; exact q))
      have hxm := hLr.out _ (List.mem_of_getElem? (show L[k]? = some (L.getD k 0) by simp [List.getD, show k < L.length by rw [hn.out]; exact hlt]))
      have hsn := fun (w' : World) (row : Option Nat) (cs : List Value) (ta : Option Addr) (tc : Nat) => PartsAt.snoc (w := w') (B := B) (row := row) (j := j) (X := X) (L := L) (k := k) (cs := cs) (ta := ta) (tc := tc)
      generalize L.getD k 0 = x at *
      obtain ⟨a, rfl⟩ : ∃ a : Nat, x = a := ⟨x.toNat, by omega⟩
      have ha4 : a < 4 := by omega
      simp only [Int.toNat_natCast] at hsn
      have had : decide (a < 4) = true := by simpa using ha4
      obtain ⟨hxs, hxl⟩ := hX.out a ha4
      generalize X a = xs at *
      have hrt := range_told (h.out.frN fr.out) a ha4
      generalize (j.at a).t = T at *
      obtain ⟨tag, ttr, tjb, tct, tsa, tsn, tsc, tlo⟩ := T
      simp only at hxs
      have hrt' : Hid (wr.rangeAt p (4 + a * 9 + 3) [.int .i64 tag, .int .i64 ttr, .int .i64 tjb, .int .i64 tct, .slice tsa tsn tsc, .bool tlo]) := Lib.hid hrt
      have hsz6 : Hid ((Tryz.prog.info? 67).map (·.size) = some ([.int .i64 tag, .int .i64 ttr, .int .i64 tjb, .int .i64 tct, .slice tsa tsn tsc, .bool tlo] : List Value).length) := Lib.hid size_told
      have hmbw : mb < wr.heap.size := Blk.lt bM.out
      have hrowlt : ∀ q, (Value.slice pa k pc).ownBlock = some q → q < wr.heap.size := fun q e => (own.lt q e).2
      have hcsl : cs.length = k * 6 := own.1
      replace hrowlt := Lib.hid hrowlt
      replace hcsl := Lib.hid hcsl
      replace hsn := Lib.hid hsn
      have fA := (Fr.refl noB wr).alloc (.cells #[.int .i64 tag, .int .i64 ttr, .int .i64 tjb, .int .i64 tct, .slice tsa tsn tsc, .bool tlo] 67)
      have bA := Blk.new wr 67 [.int .i64 tag, .int .i64 ttr, .int .i64 tjb, .int .i64 tct, .slice tsa tsn tsc, .bool tlo]
      have kA : (wr.alloc (.cells #[.int .i64 tag, .int .i64 ttr, .int .i64 tjb, .int .i64 tct, .slice tsa tsn tsc, .bool tlo] 67)).cell? ⟨wr.heap.size, 4, none⟩ = some (.slice tsa tsn tsc) := bA.cell 4
      have hcl := clone_any _ xs _ ((hxs.fr fr.out (fun _ _ _ _ _ q => q)).fr fA (fun _ _ _ _ _ q => q)) (by omega)
      have htn : xs.length = tsn := by
        obtain ⟨_, _, e, _⟩ := hxs
        simp only [Value.slice.injEq] at e
        exact e.2.1.symm
      rw [htn] at hcl
      obtain ⟨wa, hwa⟩ : ∃ wa, wa = wr.alloc (.cells #[.int .i64 tag, .int .i64 ttr, .int .i64 tjb, .int .i64 tct, .slice tsa tsn tsc, .bool tlo] 67) := ⟨_, rfl⟩
      replace hcl := Lib.hid hcl
      replace fA := Lib.hid fA
      replace bA := Lib.hid bA
      clear hrt hxs hc5
      go_wp2_with (first
        | (refine wpList_load_mid rfl 67 (.tmp 48) rfl p (4 + a * 9 + 3) rfl [.int .i64 tag, .int .i64 ttr, .int .i64 tjb, .int .i64 tct, .slice tsa tsn tsc, .bool tlo] _ hrt'.out Tryz.underlying67 rfl hsz6.out ?_)
        | fail)
      refine hcl.out.mono ?_
      rintro e wB ⟨ta, tc, rfl, rt, ht, fB⟩
      have tbB : wr.heap.size ≤ wB.heap.size := by have := fA.out.size; have := fB.size; omega
      have bT := fB.blk bA.out (fun q => q)
      have cT : wB.cell? ⟨wr.heap.size, 4, none⟩ = some (.slice tsa tsn tsc) := bT.cell 4
      have zT := bT.frozen 4
      have bC : Blk (wB.setCell ⟨wr.heap.size, 4, none⟩ (.slice ta tsn tc)) wr.heap.size 67 [.int .i64 tag, .int .i64 ttr, .int .i64 tjb, .int .i64 tct, .slice ta tsn tc, .bool tlo] := bT.set 4 (.slice ta tsn tc)
      have fC : Fr (onlyB wr.heap.size) wB (wB.setCell ⟨wr.heap.size, 4, none⟩ (.slice ta tsn tc)) := (Fr.refl _ _).store rfl
      have bMC : Hid (Blk (wB.setCell ⟨wr.heap.size, 4, none⟩ (.slice ta tsn tc)) mb 101 [.int .i64 j.tr, .int .i64 j.id, .int .i64 j.cl, .slice pa k pc]) := Lib.hid (fC.blk (fB.blk (fA.out.blk bM.out (fun q => q)) (fun q => q)) (fun q => by unfold onlyB at q; omega))
      have ownC : Hid ((wB.setCell ⟨wr.heap.size, 4, none⟩ (.slice ta tsn tc)).ownsRow B 67 6 (.slice pa k pc) k cs) := Lib.hid (ownsRow_fr (ownsRow_fr (ownsRow_fr own fA.out (fun _ _ q => q)) fB (fun _ _ q => q)) fC (fun g hg q => by have := (own.lt g hg).2; unfold onlyB at q; omega))
      have hBr : B ≤ wr.heap.size := by rw [hB.out]; exact fr2.size
      have frC : Hid (Fr noB w (wB.setCell ⟨wr.heap.size, 4, none⟩ (.slice ta tsn tc))) := Lib.hid (((fr.out.seqN fA.out).seqN fB).storeNew fr.out.size)
      have frC2 : Hid (Fr (onlyB mb) w2 (wB.setCell ⟨wr.heap.size, 4, none⟩ (.slice ta tsn tc))) := Lib.hid (((fr2.seqN fA.out).seqN fB).storeNew fr2.size)
      have frW : Hid (Fr (fun q => q = mb ∨ (Value.slice pa k pc).ownBlock = some q) wr (wB.setCell ⟨wr.heap.size, 4, none⟩ (.slice ta tsn tc))) := Lib.hid (((fA.out.mono (fun _ _ q => False.elim q)).seqN fB).storeNew (Nat.le_refl _))
      have hta : ∀ g o, ta = some ⟨g, o, none⟩ → wr.heap.size < g := fun g o e => by
        have h9 := ht g o e
        simp at h9
        omega
      have rtC : Hid (RdI (wB.setCell ⟨wr.heap.size, 4, none⟩ (.slice ta tsn tc)) (.slice ta tsn tc) xs) := Lib.hid (rt.fr fC (fun g o n c e q => by
        have := hta g o (by injection e)
        unfold onlyB at q; omega))
      replace hta := Lib.hid hta
      obtain ⟨wC, hwC⟩ : ∃ wC, wC = wB.setCell ⟨wr.heap.size, 4, none⟩ (.slice ta tsn tc) := ⟨_, rfl⟩
      rw [← hwC] at bC bMC ownC frC frC2 frW rtC
      have hszC : wr.heap.size ≤ wC.heap.size := by rw [hwC]; have := fC.size; omega
      replace hwC := Lib.hid hwC
      clear hcl fA bA bT fC fB rt ht own bM kA
      have htbw : Hid (wr.heap.size ≤ wr.heap.size ∧ mb < wr.heap.size) := Lib.hid ⟨Nat.le_refl _, hmbw⟩
      have hBtb : Hid (B ≤ wr.heap.size) := Lib.hid hBr
      have hmB : Hid (mb < B) := Lib.hid hmbBB
      have hpstep := fun (w' : World) (row' : Option Nat) (S : Nat → Prop) => PartsAt.step (w := wr) (w' := w') (row' := row') (S := S) hpt.out
      replace hpstep := Lib.hid hpstep
      go_upto_region 9 with fail
      rw [← hwC.out]
      clear hwC cT zT
      have cM3 : wC.cell? ⟨mb, 3, none⟩ = some (.slice pa k pc) := bMC.out.cell 3
      have rC : Hid (wC.rangeAt wr.heap.size 0 [.int .i64 tag, .int .i64 ttr, .int .i64 tjb, .int .i64 tct, .slice ta tsn tc, .bool tlo]) := Lib.hid (fun i u hu => by rw [Blk.cell bC (0 + i), Nat.zero_add]; exact hu)
      have hsz6b : Hid ((Tryz.prog.info? 67).map (·.size) = some ([.int .i64 tag, .int .i64 ttr, .int .i64 tjb, .int .i64 tct, .slice ta tsn tc, .bool tlo] : List Value).length) := Lib.hid size_told
      generalize wr.heap.size = tb at *
      have hA : (wC.alloc (.cells #[.int .i64 tag, .int .i64 ttr, .int .i64 tjb, .int .i64 tct, .slice ta tsn tc, .bool tlo] 67)).ownsRow B 67 6 (.slice pa k pc) k cs := ownsRow_fr ownC.out ((Fr.refl noB wC).alloc _) (fun _ _ q => q)
      have hN : ∀ j' u, ([.int .i64 tag, .int .i64 ttr, .int .i64 tjb, .int .i64 tct, .slice ta tsn tc, .bool tlo] : List Value)[j']? = some u → (wC.alloc (.cells #[.int .i64 tag, .int .i64 ttr, .int .i64 tjb, .int .i64 tct, .slice ta tsn tc, .bool tlo] 67)).cell? ((⟨wC.heap.size, 0, none⟩ : Addr).add j') = some u := fun j' u hj => by
        rw [Addr.add_lit, Nat.zero_add]
        exact ((Blk.new wC 67 [.int .i64 tag, .int .i64 ttr, .int .i64 tjb, .int .i64 tct, .slice ta tsn tc, .bool tlo]).cell j').trans hj
      have hone : ∀ u ∈ ([.int .i64 tag, .int .i64 ttr, .int .i64 tjb, .int .i64 tct, .slice ta tsn tc, .bool tlo] : List Value), u.oneCell' = true := fun u hu => by
        simp only [List.mem_cons, List.not_mem_nil, or_false] at hu
        rcases hu with rfl | rfl | rfl | rfl | rfl | rfl <;> rfl
      replace hone := Lib.hid hone
      have hBC : B ≤ (wC.alloc (.cells #[.int .i64 tag, .int .i64 ttr, .int .i64 tjb, .int .i64 tct, .slice ta tsn tc, .bool tlo] 67)).heap.size := by
        have := ((Fr.refl noB wC).alloc (.cells #[.int .i64 tag, .int .i64 ttr, .int .i64 tjb, .int .i64 tct, .slice ta tsn tc, .bool tlo] 67)).size
        omega
      go_wp2_with (first
        | (refine wpList_load_mid rfl 67 (.tmp 7) rfl tb 0 rfl [.int .i64 tag, .int .i64 ttr, .int .i64 tjb, .int .i64 tct, .slice ta tsn tc, .bool tlo] _ rC.out Tryz.underlying67 rfl hsz6b.out ?_)
        | (at_builtin; go_must (refine wpList_append_at _ rfl (.tmp 55) (.tmp 57) 99 rfl B 67 i0 _ 6 64 Tryz.underlying99 hi0 hz0 hz1 hz2 rfl (by omega) _ k _ rfl hA ⟨wC.heap.size, 0, none⟩ 1 1 [.int .i64 tag, .int .i64 ttr, .int .i64 tjb, .int .i64 tct, .slice ta tsn tc, .bool tlo] rfl rfl hN hone.out ?_ ?_ ?_ ?_))
        | fail)
      · unfold maxLen; omega
      · omega
      · exact hBC
      intro vE wE oE grE mvE
      obtain ⟨pa', pc', rfl⟩ := ownsRow_slice oE
      have hzE : tb ≤ (wC.alloc (.cells #[.int .i64 tag, .int .i64 ttr, .int .i64 tjb, .int .i64 tct, .slice ta tsn tc, .bool tlo] 67)).heap.size := by
        have := ((Fr.refl noB wC).alloc (.cells #[.int .i64 tag, .int .i64 ttr, .int .i64 tjb, .int .i64 tct, .slice ta tsn tc, .bool tlo] 67)).size
        omega
      have hzC : wC.heap.size ≤ (wC.alloc (.cells #[.int .i64 tag, .int .i64 ttr, .int .i64 tjb, .int .i64 tct, .slice ta tsn tc, .bool tlo] 67)).heap.size := ((Fr.refl noB wC).alloc _).size
      have frWE := (frW.out.alloc (.cells #[.int .i64 tag, .int .i64 ttr, .int .i64 tjb, .int .i64 tct, .slice ta tsn tc, .bool tlo] 67)).grown grE (fun q hq _ => Or.inr hq)
      have frWF : Fr (fun q => q = mb ∨ (Value.slice pa k pc).ownBlock = some q) wr (wE.setCell ⟨mb, 3, none⟩ (.slice pa' (k + 1) pc')) := frWE.store (Or.inl rfl)
      have hrow' : ∀ q, q < wC.heap.size → (Value.slice pa k pc).ownBlock ≠ some q → (Value.slice pa' (k + 1) pc').ownBlock ≠ some q := by
        intro q hq hne e
        rcases mvE with h | h
        · rw [h] at e; exact hne e
        · rw [h] at e; injection e with e; omega
      have hptF := hpstep.out _ (Value.slice pa' (k + 1) pc').ownBlock _ frWF (fun q hB' hq hne hS => by
        rcases hS with h | h
        · have := hmB.out; omega
        · exact hne h) (fun q hq hne => hrow' q (by have := htbw.out; omega) hne)
      have rtF : RdI (wE.setCell ⟨mb, 3, none⟩ (.slice pa' (k + 1) pc')) (.slice ta tsn tc) xs := by
        have r1 := rtC.out.fr ((Fr.refl noB wC).alloc (.cells #[.int .i64 tag, .int .i64 ttr, .int .i64 tjb, .int .i64 tct, .slice ta tsn tc, .bool tlo] 67)) (fun _ _ _ _ _ q => q)
        have r2 := r1.fr ((Fr.refl (fun q => (Value.slice pa k pc).ownBlock = some q) _).grown grE (fun q hq _ => hq)) (fun g o n c e q => by
          have h1 := hta.out g o (by injection e)
          have h2 := hrowlt.out g q
          have := htbw.out
          omega)
        exact r2.fr ((Fr.refl (onlyB mb) wE).store rfl) (fun g o n c e q => by
          have h1 := hta.out g o (by injection e)
          unfold onlyB at q
          have := htbw.out
          omega)
      have hptN := hsn.out _ _ _ ta tc hptF hcsl.out rtF (fun hne g o e => by
        have h1 := hta.out g o e
        have hcl : g < wC.heap.size := by
          obtain ⟨a9, c9, e9, _, _, h9⟩ := rtC.out
          injection e9 with e9
          subst e9
          obtain ⟨g', o', e', hc'⟩ := h9 0 (List.length_pos_iff.2 hne)
          rw [e] at e'
          cases e'
          exact lt_of_cell hc'
        refine ⟨by have := hBtb.out; have := htbw.out; omega, ?_, ?_⟩
        · have := grE.size
          have h5 : (wE.setCell ⟨mb, 3, none⟩ (.slice pa' (k + 1) pc')).heap.size = wE.heap.size := by simp [World.setCell]
          omega
        · exact hrow' g hcl (fun q => by have := hrowlt.out g q; have := htbw.out; omega))
      replace hptN := Lib.hid hptN
      clear frWE frWF hrow' hptF rtF
      have bX := ((Fr.refl noB wC).alloc (.cells #[.int .i64 tag, .int .i64 ttr, .int .i64 tjb, .int .i64 tct, .slice ta tsn tc, .bool tlo] 67)).blk bMC.out (fun q => q)
      have bE : Blk wE mb 101 [.int .i64 j.tr, .int .i64 j.id, .int .i64 j.cl, .slice pa k pc] := by
        have hk1 := grE.block mb bX.lt (fun e => by
          obtain ⟨cs9, hcs9⟩ := row_typeJ hA e.symm
          unfold Blk at bX
          rw [hcs9] at bX
          simp only [Option.some.injEq, Obj.cells.injEq] at bX
          exact absurd bX.2.1 (by decide))
        unfold Blk at bX ⊢
        rw [hk1]; exact bX
      have frE : Fr noB w wE := (frC.out.alloc _).grown grE (fun q hq hlt => by have := (hA.lt q hq).1; have := hB.out; omega)
      have frE2 : Fr (onlyB mb) w2 wE := (frC2.out.alloc _).grown grE (fun q hq hlt => by have := (hA.lt q hq).1; have := hB.out; omega)
      have cE : wE.cell? ⟨mb, 3, none⟩ = some (.slice pa k pc) := bE.cell 3
      have zE := bE.frozen 3
      have bF : Hid (Blk (wE.setCell ⟨mb, 3, none⟩ (.slice pa' (k + 1) pc')) mb 101 [.int .i64 j.tr, .int .i64 j.id, .int .i64 j.cl, .slice pa' (k + 1) pc']) := Lib.hid (bE.set 3 (.slice pa' (k + 1) pc'))
      have fF : Fr (onlyB mb) wE (wE.setCell ⟨mb, 3, none⟩ (.slice pa' (k + 1) pc')) := (Fr.refl _ _).store rfl
      have oF := Lib.hid (ownsRow_fr oE fF (fun g hg q => by
        unfold onlyB at q; subst q
        obtain ⟨cs9, hcs9⟩ := row_typeJ oE hg
        unfold Blk at bE
        rw [hcs9] at bE
        simp only [Option.some.injEq, Obj.cells.injEq] at bE
        exact absurd bE.2.1 (by decide)))
      have frF : Hid (Fr noB w (wE.setCell ⟨mb, 3, none⟩ (.slice pa' (k + 1) pc'))) := Lib.hid (frE.storeNew hmbB)
      have frF2 : Fr (onlyB mb) w2 (wE.setCell ⟨mb, 3, none⟩ (.slice pa' (k + 1) pc')) := frE2.store rfl
      clear hA hN grE bX bE frE bMC ownC frC frC2 rC oE fF frE2
      go_wp2_with fail
      go_roundw
      case rel => exact ⟨k + 1, pa', pc', _, by omega, by go_num, bF, oF.out, hptN, frF, frF2⟩
      case measure => simp [RowKit.intOf]; omega
    · obtain rfl : k = n := by omega
      have cM : wr.cell? ⟨mb, 3, none⟩ = some (.slice pa k pc) := bM.out.cell 3
      have rM : Hid (wr.rangeAt mb 0 [.int .i64 j.tr, .int .i64 j.id, .int .i64 j.cl, .slice pa k pc]) := Lib.hid (fun i u hu => by rw [Blk.cell bM.out (0 + i), Nat.zero_add]; exact hu)
      have hsz4 : Hid ((Tryz.prog.info? 101).map (·.size) = some ([.int .i64 j.tr, .int .i64 j.id, .int .i64 j.cl, .slice pa k pc] : List Value).length) := Lib.hid (by kernel_rfl)
      have bRw := fr2.blk bR.out (fun q => hrbm (by unfold onlyB at q; exact q))
      have tR : Hid (wr.there w.heap.size 0 (#[.int .i64 j.tr, .int .i64 j.id, .int .i64 j.cl, .slice pa k pc] : Array Value).size) := Lib.hid (there6 bRw (by simp))
      have hon4 : Hid ((#[.int .i64 j.tr, .int .i64 j.id, .int .i64 j.cl, .slice pa k pc] : Array Value).all (·.oneCell') = true) := Lib.hid (all_oneCell_toArray (cs := [.int .i64 j.tr, .int .i64 j.id, .int .i64 j.cl, .slice pa k pc]) (fun v hv => by
        simp only [List.mem_cons, List.not_mem_nil, or_false] at hv
        rcases hv with rfl | rfl | rfl | rfl <;> rfl))
      have hsz4a : Hid ((Tryz.prog.info? 101).map (·.size) = some (#[.int .i64 j.tr, .int .i64 j.id, .int .i64 j.cl, .slice pa k pc] : Array Value).size) := Lib.hid (by kernel_rfl)
      replace bRw := Lib.hid bRw
      go_wp2_with (first
        | (refine wpList_load_mid rfl 101 (.tmp 4) rfl mb 0 rfl [.int .i64 j.tr, .int .i64 j.id, .int .i64 j.cl, .slice pa k pc] _ rM.out Tryz.underlying101 rfl hsz4.out ?_)
        | (refine wpList_store_mid rfl 101 (.tmp 2) (.tmp 61) rfl w.heap.size 0 #[.int .i64 j.tr, .int .i64 j.id, .int .i64 j.cl, .slice pa k pc] rfl rfl tR.out hsz4a.out hon4.out ?_; obtain ⟨w9, hw9, f9, h9⟩ := store4 wr w.heap.size 0 (.int .i64 j.tr) (.int .i64 j.id) (.int .i64 j.cl) (.slice pa k pc); rw [← hw9]; clear hw9; have h9 := h9 _ _ bRw.out; have k0 : w9.cell? ⟨w.heap.size, 0, none⟩ = some (.int .i64 j.tr) := h9.cell 0; have k1 : w9.cell? ⟨w.heap.size, 1, none⟩ = some (.int .i64 j.id) := h9.cell 1; have k2 : w9.cell? ⟨w.heap.size, 2, none⟩ = some (.int .i64 j.cl) := h9.cell 2; have k3 : w9.cell? ⟨w.heap.size, 3, none⟩ = some (.slice pa k pc) := h9.cell 3; clear h9; replace f9 := Lib.hid f9)
        | fail)
      try simp only [Exit.inBlock, Exit.then]
      refine bodyPost_ret (by simp [results, Tryz.results45, go_sem, k0, k1, k2, k3]; try rfl) rfl ?_
      have hLn : (whichL (fun _ => true) j 4).length = k := by rw [← hL.out]; exact hn.out
      rw [hLn]
      have g9 : Fr noB w w9 := fr.out.trans f9.out (fun _ _ q => q) (fun i hi q => by unfold onlyB at q; omega)
      have o9 := ownsRow_mono (ownsRow_fr own f9.out (fun g hg q => by have := (own.lt g hg).1; have := bR.out.lt; have := hB.out; unfold onlyB at q; omega)) hwB
      have p9 := (hpt.out.step (row' := (Value.slice pa k pc).ownBlock) f9.out (fun q hq1 _ _ q2 => by unfold onlyB at q2; omega) (fun q _ hne => hne)).base hwB
      have hLL : whichL (fun _ => true) j 4 = L := hL.out.symm
      rw [hLL]
      exact ⟨pa, pc, cs, rfl, o9, p9, g9⟩
end Go.Proofs.YtidcoddefebdpaaGreat
