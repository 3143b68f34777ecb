/-
  store: awake.
  store: may these calls be played?
  The reference's comparison of two records that read alike.
-/
import Derived.Test.YtdmhnoffejjpnaaGreatDoorZBE
section
set_option linter.unusedVariables false
set_option linter.unusedSimpArgs false
set_option maxRecDepth 100000
namespace Go.Proofs.YtdmhnoffejjpnaaGreatDoor
open Go.RowKit Go Go.Maps Go.Lib

theorem rdi_nilA (w : World) : RdI w (.slice none 0 0) [] := ⟨none, 0, rfl, by simp, by simp, fun i hi => by simp at hi⟩
theorem rdsp_nilA (w : World) : RdSp w (.slice none 0 0) [] := ⟨none, 0, rfl, Nat.le_refl _, by simp, by simp, fun i s hi => by simp at hi⟩
theorem rd_oneA {w : World} {gp : Nat} (b : Blk w gp 70 [.int .i64 0, .int .i64 7, .int .i64 2, .int .i64 0, .slice none 0 0, .bool false]) : RdPs w (.slice (some ⟨gp, 0, none⟩) 1 1) [pA] := by
  refine ⟨some ⟨gp, 0, none⟩, 1, rfl, Nat.le_refl _, by decide, fun i p hi => ?_⟩
  match i, hi with
  | 0, hi =>
    injection hi with hi
    subst hi
    refine ⟨gp, 0, none, 0, rfl, fun q x hx => ?_, rdi_nilA _⟩
    rw [Nat.zero_add]
    refine (b.cell (0 * 6 + q)).trans ?_
    match q, hx with
    | 0, hx => exact hx
    | 1, hx => exact hx
    | 2, hx => exact hx
    | 3, hx => exact hx
    | 4, hx => exact hx
    | 5, hx => exact hx
theorem iface_eqA (w : World) : (binOp .eql 40 (.iface 76 (.agg #[.int .i64 7, .int .i64 2])) (.iface 76 (.agg #[.int .i64 7, .int .i64 2]))).run Tryz.prog w = .ok (.bool true) w := by kernel_rfl
theorem SRow.keep {w0 w w' : World} {col c2 : Nat → Tg} {v : Value} {L : List (Int × Int)} (h : SRow w0 w col v L) (k : Stp w w' col c2) : SRow w0 w' c2 v L := by
  obtain ⟨a, c, rfl, h1, h2⟩ := h
  exact ⟨a, c, rfl, ownsRow_fr h1 k.1 (fun g hg e => e (h2 g hg)), fun g hg => by rw [k.2 g (h1.lt g hg).2]; exact h2 g hg⟩
set_option maxHeartbeats 8000000 in
theorem awake18_any (w : World) (hg : Gl w) : Calls Tryz.prog 6 #[] w fun e w' => e = .returned (.bool true) ∧ Fr noB w w' := by
  go_enter Tryz.func6, Tryz.ntmps6
  go_wp2_with fail
  go_fit (snew_l w)
  rintro e w1 ⟨gS, col, rfl, h1⟩
  obtain ⟨gp, hgp⟩ : ∃ gp, w1.heap.size = gp := ⟨_, rfl⟩
  have hcg : col gp = tg0 := Classical.byContradiction fun e => by have := h1.low gp e; omega
  have hcg1 : col (gp + 1) = tg0 := Classical.byContradiction fun e => by have := h1.low (gp + 1) e; omega
  have fa := (Fr.refl noB w1).alloc (.cells #[.int .i64 0, .int .i64 7, .int .i64 2, .int .i64 0, .slice none 0 0, .bool false] 70)
  have fb := (Fr.refl noB (w1.alloc (.cells #[.int .i64 0, .int .i64 7, .int .i64 2, .int .i64 0, .slice none 0 0, .bool false] 70))).alloc (.cells #[.int .i64 7, .int .i64 2, .int .i64 1, .slice (some ⟨gp, 0, none⟩) 1 1] 73)
  have b2 := fb.blk (Blk.new w1 70 [.int .i64 0, .int .i64 7, .int .i64 2, .int .i64 0, .slice none 0 0, .bool false]) (fun q => q)
  have hs1 : (w1.alloc (.cells #[.int .i64 0, .int .i64 7, .int .i64 2, .int .i64 0, .slice none 0 0, .bool false] 70)).heap.size = gp + 1 := by rw [← hgp]; unfold World.alloc; simp only [Array.size_push]
  have b3 := Blk.new (w1.alloc (.cells #[.int .i64 0, .int .i64 7, .int .i64 2, .int .i64 0, .slice none 0 0, .bool false] 70)) 73 [.int .i64 7, .int .i64 2, .int .i64 1, .slice (some ⟨gp, 0, none⟩) 1 1]
  rw [hgp] at b2
  rw [hs1] at b3
  have h2 := h1.frN (fa.seqN fb)
  replace fa := Lib.hid fa
  replace fb := Lib.hid fb
  replace b2 := Lib.hid b2
  replace b3 := Lib.hid b3
  replace h2 := Lib.hid h2
  replace hgp := Lib.hid hgp
  replace hs1 := Lib.hid hs1
  clear h1
  go_upto_region 5 with fail
  try rw [hgp.out]
  try rw [hs1.out]
  generalize ((w1.alloc (.cells #[.int .i64 0, .int .i64 7, .int .i64 2, .int .i64 0, .slice none 0 0, .bool false] 70)).alloc (.cells #[.int .i64 7, .int .i64 2, .int .i64 1, .slice (some ⟨gp, 0, none⟩) 1 1] 73)) = w2 at *
  have hlt1 : gp + 1 < w2.heap.size := b3.out.lt
  have m0 : w2.cell? ⟨gp + 1, 0, none⟩ = some (.int .i64 7) := b3.out.cell 0
  have m1 : w2.cell? ⟨gp + 1, 1, none⟩ = some (.int .i64 2) := b3.out.cell 1
  have m2 : w2.cell? ⟨gp + 1, 2, none⟩ = some (.int .i64 1) := b3.out.cell 2
  have m3 : w2.cell? ⟨gp + 1, 3, none⟩ = some (.slice (some ⟨gp, 0, none⟩) 1 1) := b3.out.cell 3
  have hmA : ∀ w', Fr (fun q => col q ≠ tg0) w2 w' → MsW w' (mManifest 7 2 1 (.slice (some ⟨gp, 0, none⟩) 1 1)) mA := fun w' f => ⟨_, rfl, rd_oneA (f.blk b2.out (fun e => e hcg))⟩
  have c1 := shear_l h2.out hg (by omega) hmA
  rw [XA_h1, XA_b0] at c1
  unfold mManifest at c1
  replace c1 := Lib.hid c1
  clear fa fb h2
  replace hcg := Lib.hid hcg
  replace hcg1 := Lib.hid hcg1
  replace hmA := Lib.hid hmA
  go_wp2_with fail
  go_fit c1.out
  rintro e w3 ⟨va, col3, rfl, h3, ra, s3⟩
  have k2 := s3.1.blk b2.out (fun e => e hcg.out)
  have k3 := s3.1.blk b3.out (fun e => e hcg1.out)
  have d3 : col3 gp = tg0 := by rw [s3.2 gp (by omega)]; exact hcg.out
  have d31 : col3 (gp + 1) = tg0 := by rw [s3.2 (gp + 1) (by omega)]; exact hcg1.out
  have hlt3 : gp + 1 < w3.heap.size := k3.lt
  obtain ⟨aa, ac, rfl, ra2, _⟩ := ra
  have c2 := shear_l (m := cA) (v := mChunk 0 7 2 0 1 (.slice none 0 0)) h3 hg (by omega) (fun w' f => ⟨_, rfl, rdsp_nilA w'⟩)
  rw [XA_h2, XA_b1] at c2
  unfold mChunk at c2
  replace c2 := Lib.hid c2
  replace k2 := Lib.hid k2
  replace k3 := Lib.hid k3
  replace d3 := Lib.hid d3
  replace d31 := Lib.hid d31
  clear c1 h3 s3 ra2 m0 m1 m2 m3 b2 b3 hcg hcg1 hmA hlt1
  simp only [List.length_nil]
  go_wp2_with fail
  go_fit c2.out
  rintro e w4 ⟨vb, col4, rfl, h4, rb, s4⟩
  have l2 := s4.1.blk k2.out (fun e => e d3.out)
  have l3 := s4.1.blk k3.out (fun e => e d31.out)
  have d4 : col4 gp = tg0 := by rw [s4.2 gp (by omega)]; exact d3.out
  have d41 : col4 (gp + 1) = tg0 := by rw [s4.2 (gp + 1) (by omega)]; exact d31.out
  have hlt4 : gp + 1 < w4.heap.size := l3.lt
  have c3 := spending_l h4
  have c4 := stick_l h4
  rw [XA_K2.2.1] at c3
  rw [XA_t2] at c4
  replace c3 := Lib.hid c3
  replace c4 := Lib.hid c4
  replace l2 := Lib.hid l2
  replace l3 := Lib.hid l3
  replace d4 := Lib.hid d4
  replace d41 := Lib.hid d41
  clear c2 h4 s4 rb k2 k3 d3 d31 hlt3
  go_wp2_with fail
  go_fit c3.out
  rintro e w4' ⟨rfl, hw⟩
  obtain rfl := hw.symm
  clear hw c3
  simp only [List.length_cons, List.length_nil, show ((0 + 1 : Nat) : Int) = 1 from rfl]
  go_wp2_with fail
  go_fit c4.out
  rintro e w5 ⟨vt, col5, rfl, h5, rt, s5⟩
  have n2 := s5.1.blk l2.out (fun e => e d4.out)
  have n3 := s5.1.blk l3.out (fun e => e d41.out)
  have d5 : col5 gp = tg0 := by rw [s5.2 gp (by omega)]; exact d4.out
  have d51 : col5 (gp + 1) = tg0 := by rw [s5.2 (gp + 1) (by omega)]; exact d41.out
  have hlt5 : gp + 1 < w5.heap.size := n3.lt
  have q0 : w5.cell? ⟨gp + 1, 0, none⟩ = some (.int .i64 7) := n3.cell 0
  have q1 : w5.cell? ⟨gp + 1, 1, none⟩ = some (.int .i64 2) := n3.cell 1
  have q2 : w5.cell? ⟨gp + 1, 2, none⟩ = some (.int .i64 1) := n3.cell 2
  have q3 : w5.cell? ⟨gp + 1, 3, none⟩ = some (.slice (some ⟨gp, 0, none⟩) 1 1) := n3.cell 3
  have h5' : StL w w5 gS col5 (0 + 2 + 2) XA3 := h5
  have c5 := shear_l (m := mA) (v := mManifest 7 2 1 (.slice (some ⟨gp, 0, none⟩) 1 1)) h5' hg (by omega) (fun w' f => ⟨_, rfl, rd_oneA (f.blk n2 (fun e => e d5))⟩)
  rw [XA_h3, XA_b3] at c5
  unfold mManifest at c5
  replace c5 := Lib.hid c5
  replace rt := Lib.hid rt
  clear c4 h5 h5' s5 l2 l3 d4 d41 hlt4 n2 n3 d5 d51 hlt5
  go_wp2_with fail
  go_fit c5.out
  rintro e w6 ⟨vc, col6, rfl, h6, rc, s6⟩
  have rt6 := rt.out.keep s6
  have c6 := scrash_l (k := 5) h6 hg (by omega)
  obtain ⟨ca, cc, rfl, rc2, _⟩ := rc
  replace c6 := Lib.hid c6
  replace rt6 := Lib.hid rt6
  have hIn := Lib.hid h6.inv
  clear c5 h6 s6 rt rc2 q0 q1 q2 q3
  simp only [List.length_cons, List.length_nil, show ((0 + 1 : Nat) : Int) = 1 from rfl]
  go_wp2_with fail
  go_fit c6.out
  rintro e w7 ⟨col7, rfl, h7, s7⟩
  have eK : (XA3.crash 5).K = [rA] := crash_nil hIn.out XA_K3.2.1 5
  obtain ⟨ta, tc, rfl, ot, _⟩ := rt6.out.keep s7
  obtain ⟨tg, tcap, hts, _⟩ := ownsRow_some ot (by decide)
  obtain ⟨rfl, rfl⟩ : ta = some ⟨tg, 0, none⟩ ∧ tc = tcap := by injection hts with h1 _ h2; exact ⟨h1, h2⟩
  have et := ot.cells (g := tg) rfl 0 (mStored 7 2) rfl
  rw [add_none, Nat.zero_add] at et
  unfold mStored at et
  have ieq := iface_eqA
  have y1 := srecords_l h7 hg
  rw [eK] at y1
  replace y1 := Lib.hid y1
  have H7 := Lib.hid h7
  clear c6 h7 s7 rt6 ot hts hIn
  simp only [List.length_cons, List.length_nil, show ((0 + 1 : Nat) : Int) = 1 from rfl]
  go_wp2_with fail
  go_fit y1.out
  rintro e w8 ⟨a8, c8, Q8, rfl, _, _, _, f8⟩
  have h8 := H7.out.frN f8
  have y8 := squery_l 7 1 h8 hg
  rw [eK, show ([rA].filter fun x => !goneQ 7 1 x) = [rA] from by rfl] at y8
  replace y8 := Lib.hid y8
  replace h8 := Lib.hid h8
  clear f8
  simp only [List.length_cons, List.length_nil, show ((0 + 1 : Nat) : Int) = 1 from rfl]
  go_wp2_with fail
  go_fit y8.out
  rintro e w9 ⟨a9, c9, Q9, rfl, _, _, _, f9⟩
  have h9 := h8.out.frN f9
  have y9 := squery_l 7 2 h9 hg
  rw [eK, show ([rA].filter fun x => !goneQ 7 2 x) = [] from by rfl] at y9
  replace y9 := Lib.hid y9
  replace h9 := Lib.hid h9
  clear f9
  simp only [List.length_cons, List.length_nil, show ((0 + 1 : Nat) : Int) = 1 from rfl]
  go_wp2_with fail
  go_fit y9.out
  rintro e w10 ⟨a10, c10, Q10, rfl, _, _, _, f10⟩
  have h10 := h9.out.frN f10
  have y10 := squery_l 0 (-1) h10 hg
  rw [eK, show ([rA].filter fun x => !goneQ 0 (-1) x) = [rA] from by rfl] at y10
  replace y10 := Lib.hid y10
  replace h10 := Lib.hid h10
  clear f10
  simp only [List.length_cons, List.length_nil, show ((0 + 1 : Nat) : Int) = 1 from rfl]
  go_wp2_with fail
  go_fit y10.out
  rintro e w11 ⟨a11, c11, Q11, rfl, _, _, _, f11⟩
  have h11 := h10.out.frN f11
  have p1 := spending_l h11
  have p2 := srefused_l h11
  rw [show (XA3.crash 5).Wn.length = 0 from rfl] at p1
  rw [show (XA3.crash 5).R = 0 from rfl] at p2
  replace p1 := Lib.hid p1
  replace p2 := Lib.hid p2
  have fin := Lib.hid h11.f
  clear h11 f11
  simp only [List.length_cons, List.length_nil, show ((0 + 1 : Nat) : Int) = 1 from rfl]
  go_wp2_with fail
  go_fit p1.out
  rintro e w12 ⟨rfl, hw⟩
  obtain rfl := hw.symm
  clear hw
  simp only [show ((0 : Nat) : Int) = 0 from rfl]
  go_wp2_with fail
  go_fit p2.out
  rintro e w12 ⟨rfl, hw⟩
  obtain rfl := hw.symm
  clear hw
  simp only [show ((0 : Nat) : Int) = 0 from rfl]
  go_wp2_with fail
  go_ret
  exact ⟨rfl, fin.out⟩
end Go.Proofs.YtdmhnoffejjpnaaGreatDoor
end

section
set_option linter.unusedVariables false
set_option linter.unusedSimpArgs false
set_option maxRecDepth 100000
namespace Go.Proofs.YtdmhnoffejjpnaaGreatDoor
open Go.ChangeShapes Go.WideShapes Go.ChangeAt Go.RowKit Go Go.Maps Go.Lib

def fewA8 (xs : List OpA) : Bool := xs.all okOpA && decide (xs.length ≤ 150)
theorem fewA8_no {xs : List OpA} {k : Nat} {m : OpA} (hk : xs[k]? = some m) (h : okOpA m = false) : fewA8 xs = false := by
  unfold fewA8
  rw [show xs.all okOpA = false from by
    rw [Bool.eq_false_iff]
    intro q
    rw [List.all_eq_true] at q
    have := q m (List.mem_of_getElem? hk)
    rw [h] at this
    cases this]
  rfl
theorem fewA8_yes {xs : List OpA} (h : ∀ (i : Nat) (m : OpA), xs[i]? = some m → okOpA m = true) : fewA8 xs = decide (xs.length ≤ 150) := by
  unfold fewA8
  rw [show xs.all okOpA = true from by
    rw [List.all_eq_true]
    intro x hx
    obtain ⟨i, hi, rfl⟩ := List.getElem_of_mem hx
    exact h i _ (List.getElem?_eq_getElem hi)]
  rfl
theorem few18_any (v : Value) (xs : List OpA) (W w : World) (hv : SlR w v 9 (IsOpA W) xs) (hW : Fr noB W w) :
    Calls Tryz.prog 7 #[v] w fun e w' => e = .returned (.bool (fewA8 xs)) ∧ Fr noB w w' := by
  obtain ⟨a, c, rfl, hx1, hx2, hx3⟩ := hv
  unfold maxLen at hx2
  have hyes := fewA8_yes (xs := xs)
  have hno := fun k m => fewA8_no (xs := xs) (k := k) (m := m)
  have hget : ∀ k, k < xs.length → ∃ m, xs[k]? = some m := fun k hk => ⟨xs[k], List.getElem?_eq_getElem hk⟩
  generalize hn : xs.length = n at *
  have hnb : n ≤ 9223372036854775807 := by omega
  replace hx3 := Lib.hid hx3
  replace hget := Lib.hid hget
  replace hn := Lib.hid hn
  replace hyes := Lib.hid hyes
  replace hno := Lib.hid hno
  obtain ⟨hx1, _⟩ := hx1
  generalize hF : fewA8 xs = F at *
  replace hF := Lib.hid hF
  go_enter Tryz.func7, Tryz.ntmps7
  go_wp2_with fail
  go_loopw [7] (fun i wr => ∃ k : Nat, k ≤ n ∧ i = .int .i64 k ∧ Hid (∀ (i : Nat) (m : OpA), i < k → xs[i]? = some m → okOpA m = true) ∧ Fr noB w wr) (fun i _ => n - (RowKit.intOf i).toNat)
  case atStart => exact ⟨0, by omega, rfl, Lib.hid (fun i _ hi _ => by omega), Fr.refl _ _⟩
  case round =>
    obtain ⟨k, hk, rfl, hok, fr⟩ := hrel
    by_cases hlt : k < n
    · obtain ⟨m, hm⟩ := hget.out k hlt
      obtain ⟨g, o, cs, rfl, hcs, ⟨rfl, hsp, _⟩, hc⟩ := hx3.out k m hm
      have c0 := fr.cell (hc 0 _ rfl) (fun q => q)
      have c1 := fr.cell (hc 1 _ rfl) (fun q => q)
      have c2 := fr.cell (hc 2 _ rfl) (fun q => q)
      have c3 := fr.cell (hc 3 _ rfl) (fun q => q)
      have c4 := fr.cell (hc 4 _ rfl) (fun q => q)
      have c5 := fr.cell (hc 5 _ rfl) (fun q => q)
      have c6 := fr.cell (hc 6 _ rfl) (fun q => q)
      have c7 := fr.cell (hc 7 _ rfl) (fun q => q)
      have c8 := fr.cell (hc 8 _ rfl) (fun q => q)
      rw [Nat.add_zero] at c0
      simp only [← Nat.add_assoc] at c1 c2 c3 c4 c5 c6 c7 c8
      have fA0 : Fr noB wr (wr.alloc (.cells (opaC m).toArray 32)) := (Fr.refl _ _).alloc _
      have bA := Blk.new wr 32 (opaC m)
      have hfw := few_any _ m.sp _ (hsp.frN ((hW.seqN fr).seqN fA0))
      have okd : okOpA m = (fewS m.sp && (decide (m.xs.length ≤ 20) && decide (m.a ≤ 1099511627776))) := rfl
      generalize fewS m.sp = fs at *
      unfold opaC at fA0 bA hfw
      obtain ⟨b, hb⟩ : ∃ b, wr.heap.size = b := ⟨_, rfl⟩
      rw [hb] at bA
      have f02 := fr.seqN fA0
      replace bA := Lib.hid bA
      replace hfw := Lib.hid hfw
      replace hm := Lib.hid hm
      replace okd := Lib.hid okd
      replace f02 := Lib.hid f02
      clear hc hsp fA0 hcs
      go_wp2_with fail
      try rw [hb]
      go_fit hfw.out
      rintro e w1 ⟨rfl, f1⟩
      have g1 := f02.out.seqN f1
      have b1 := f1.blk bA.out (fun q => q)
      have d1 : w1.cell? ⟨b, 1, none⟩ = some (.int .i64 m.a) := b1.cell 1
      have d7 : w1.cell? ⟨b, 7, none⟩ = some (.slice m.ua m.xs.length m.uc) := b1.cell 7
      clear c0 c1 c2 c3 c4 c5 c6 c7 c8 bA hfw f02 f1 fr b1
      cases fs with
      | false =>
        have hF0 : F = false := hno.out k m hm.out (by rw [okd.out]; rfl)
        subst hF0
        replace g1 := Lib.hid g1
        go_wp2_with fail
        go_ret
        exact ⟨rfl, g1.out⟩
      | true =>
        by_cases h1 : m.xs.length ≤ 20
        · by_cases h2 : m.a ≤ 1099511627776
          · have hok1 : Hid (okOpA m = true) := Lib.hid (by rw [okd.out]; simp [h1, h2])
            have hd1 : decide (20 < (m.xs.length : Int)) = false := by simp; omega
            have hd2 : decide (1099511627776 < m.a) = false := by simp; omega
            clear h1 h2 okd
            go_wp2_with fail
            go_roundw
            case rel => exact ⟨k + 1, by omega, by go_num, Lib.hid (fun i m' hi hm' => by
              rcases Nat.lt_or_ge i k with q | q
              · exact hok.out i m' q hm'
              · obtain rfl : i = k := by omega
                obtain rfl : m = m' := Option.some.inj (hm.out.symm.trans hm')
                exact hok1.out), g1⟩
            case measure => simp [RowKit.intOf]; omega
          · have hF0 : F = false := hno.out k m hm.out (by rw [okd.out]; simp [h2])
            subst hF0
            have hd1 : decide (20 < (m.xs.length : Int)) = false := by simp; omega
            have hd2 : decide (1099511627776 < m.a) = true := by simp; omega
            clear h1 h2 okd
            replace g1 := Lib.hid g1
            go_wp2_with fail
            go_ret
            exact ⟨rfl, g1.out⟩
        · have hF0 : F = false := hno.out k m hm.out (by rw [okd.out]; simp [h1])
          subst hF0
          have hd1 : decide (20 < (m.xs.length : Int)) = true := by simp; omega
          clear h1 okd
          replace g1 := Lib.hid g1
          go_wp2_with fail
          go_ret
          exact ⟨rfl, g1.out⟩
    · obtain rfl : k = n := by omega
      have hF0 : F = decide (k ≤ 150) := hyes.out (fun i m hm => hok.out i m (by have := (List.getElem?_eq_some_iff.1 hm).1; rw [hn.out] at this; exact this) hm)
      by_cases h2 : k ≤ 150
      · have hd : F = true := by rw [hF0]; simpa using h2
        have hd2 : decide ((k : Int) ≤ 150) = true := by simp; omega
        subst hd
        clear hF0
        go_wp2_with fail
        go_ret
        exact ⟨rfl, fr⟩
      · have hd : F = false := by rw [hF0]; simpa using h2
        have hd2 : decide ((k : Int) ≤ 150) = false := by simp; omega
        subst hd
        clear hF0
        go_wp2_with fail
        go_ret
        exact ⟨rfl, fr⟩
/-! ### opening the arguments -/
end Go.Proofs.YtdmhnoffejjpnaaGreatDoor
end

section
set_option linter.unusedVariables false
set_option linter.unusedSimpArgs false
set_option maxRecDepth 100000
namespace Go.Proofs.YtdmhnoffejjpnaaGreatDoor
open Go.RowKit Go Go.Maps Go.Lib


set_option maxHeartbeats 400000 in
theorem sameInts16_any (v u : Value) (xs ys : List Int) (w : World) (hv : RdI w v xs) (hu : RdI w u ys) :
    Calls Tryz.prog 53 #[v, u] w fun e w' => e = .returned (.bool (decide (xs = ys))) ∧ ∃ q, w' = w.drewN q := by
  obtain ⟨a, c, rfl, h1, h2, h3⟩ := hv
  obtain ⟨b, d, rfl, k1, k2, k3⟩ := hu
  by_cases hl : xs.length = ys.length
  · generalize hn : ys.length = n at *
    rw [hl] at h1 h2 h3 ⊢
    replace hn := Lib.hid hn
    replace hl := Lib.hid hl
    replace h3 := Lib.hid h3
    replace k3 := Lib.hid k3
    go_enter Tryz.func53, Tryz.ntmps53
    go_wp2_with fail
    go_loopw [5] (fun i wr => ∃ k : Nat, k ≤ n ∧ i = .int .i64 k ∧ Hid (xs.take k = ys.take k) ∧ ∃ q, wr = w.drewN q) (fun i _ => n - (RowKit.intOf i).toNat)
    case atStart => exact ⟨0, by omega, rfl, Lib.hid (by simp), 0, rfl⟩
    case round =>
      obtain ⟨k, hk, rfl, hkt, q, rfl⟩ := hrel
      by_cases hlt : k < n
      · obtain ⟨g, o, rfl, e1⟩ := h3.out k hlt
        obtain ⟨g2, o2, rfl, e2⟩ := k3.out k hlt
        have hx1 : xs.take (k + 1) = xs.take k ++ [xs.getD k 0] := by
          have : k < xs.length := by have := hl.out; omega
          rw [List.take_succ_eq_append_getElem this]; simp [List.getD, this]
        have hy1 : ys.take (k + 1) = ys.take k ++ [ys.getD k 0] := by
          have : k < ys.length := by have := hn.out; omega
          rw [List.take_succ_eq_append_getElem this]; simp [List.getD, this]
        generalize xs.getD k 0 = x at *
        generalize ys.getD k 0 = y at *
        replace hx1 := Lib.hid hx1
        replace hy1 := Lib.hid hy1
        replace e1 : (w.drewN q).cell? ⟨g, o + k, none⟩ = some (.int .i64 x) := e1
        replace e2 : (w.drewN q).cell? ⟨g2, o2 + k, none⟩ = some (.int .i64 y) := e2
        generalize hw : w.drewN q = wd at *
        replace hw := Lib.hid hw
        by_cases hxy : x = y
        · subst hxy
          go_wp2_with fail
          go_quiet (fail)
          go_wp2_with fail
          go_roundw
          case rel => exact ⟨k + 1, by omega, by go_num, Lib.hid (by rw [hx1.out, hy1.out, hkt.out]), _, by rw [← hw.out, World.drewN_drewN]⟩
          case measure => simp [RowKit.intOf]; omega
        · have hb : (x != y) = true := by simpa using hxy
          have hne : decide (xs = ys) = false := by
            simp only [decide_eq_false_iff_not]
            intro he
            subst he
            have h5 := hx1.out
            rw [hy1.out] at h5
            simp at h5
            exact hxy h5.symm
          replace hne := Lib.hid hne
          go_wp2_with fail
          go_quiet (fail)
          go_wp2_with fail
          go_ret
          exact ⟨by first | (rw [hne.out]; done) | (rw [hne.out]; rfl), _, by rw [← hw.out, World.drewN_drewN]⟩
      · obtain rfl : k = n := by omega
        have he : decide (xs = ys) = true := by
          have h5 := hkt.out
          rw [List.take_of_length_le (by have := hl.out; omega), List.take_of_length_le (by have := hn.out; omega)] at h5
          simpa using h5
        replace he := Lib.hid he
        go_wp2_with fail
        go_ret
        exact ⟨by first | (rw [he.out]; done) | (rw [he.out]; rfl), q, rfl⟩
  · have hd : ((xs.length : Int) != (ys.length : Int)) = true := by simp; omega
    have hne : decide (xs = ys) = false := by
      simp only [decide_eq_false_iff_not]
      intro he; exact hl (by rw [he])
    rw [hne]
    generalize xs.length = n at *
    generalize ys.length = m at *
    clear h3 k3
    go_enter Tryz.func53, Tryz.ntmps53
    go_wp2_with fail
    go_ret
    exact ⟨rfl, 0, rfl⟩
/-- parts of a record that read so -/
def RdRP (w : World) (v : Value) (L : List (Pn × List Sp)) : Prop := ∃ a c, v = .slice a L.length c ∧ L.length ≤ 100000 ∧ ∀ i x, L[i]? = some x → ∃ g sa sc ca cc, a = some ⟨g, 0, none⟩ ∧ w.cell? ⟨g, i * 4, none⟩ = some (.int .i64 x.1.a) ∧ w.cell? ⟨g, i * 4 + 1, none⟩ = some (.slice sa x.2.length sc) ∧ w.cell? ⟨g, i * 4 + 2, none⟩ = some (.slice ca x.1.cr.length cc) ∧ w.cell? ⟨g, i * 4 + 3, none⟩ = some (.bool x.1.lo) ∧ RdSp w (.slice sa x.2.length sc) x.2 ∧ RdI w (.slice ca x.1.cr.length cc) x.1.cr
theorem RdRP.frN {w w' : World} {v : Value} {L : List (Pn × List Sp)} (h : RdRP w v L) (f : Fr noB w w') : RdRP w' v L := by
  obtain ⟨a, c, rfl, h1, h2⟩ := h
  refine ⟨a, c, rfl, h1, fun i x hi => ?_⟩
  obtain ⟨g, sa, sc, ca, cc, e, c0, c1, c2, c3, s, r⟩ := h2 i x hi
  exact ⟨g, sa, sc, ca, cc, e, f.cell c0 (fun q => q), f.cell c1 (fun q => q), f.cell c2 (fun q => q), f.cell c3 (fun q => q), s.frN f, r.frN f⟩

/-- two blocks made one after the other -/
theorem two_l (w : World) (t : TypeId) (xs ys : List Value) : Blk ((w.alloc (.cells xs.toArray t)).alloc (.cells ys.toArray t)) w.heap.size t xs := ((Fr.refl noB _).alloc _).blk (Blk.new w t xs) (fun q => q)
theorem two_r (w : World) (t : TypeId) (xs ys : List Value) : Blk ((w.alloc (.cells xs.toArray t)).alloc (.cells ys.toArray t)) (w.heap.size + 1) t ys := by
  have := Blk.new (w.alloc (.cells xs.toArray t)) t ys
  rwa [size_alloc] at this
set_option maxHeartbeats 16000000 in
theorem same16_any (t j c : Int) (wh : Bool) (v u : Value) (L : List (Pn × List Sp)) (w : World) (hv : RdRP w v L) (hu : RdRP w u L) :
    Calls Tryz.prog 25 #[.agg #[.int .i64 t, .int .i64 j, .int .i64 c, .bool wh, v], .agg #[.int .i64 t, .int .i64 j, .int .i64 c, .bool wh, u]] w fun e w' => e = .returned (.bool true) ∧ Fr noB w w' := by
  obtain ⟨va, vc, rfl, hl1, hx⟩ := hv
  obtain ⟨ub, uc, rfl, _, hy⟩ := hu
  obtain ⟨N, hN⟩ : ∃ N, L.length = N := ⟨_, rfl⟩
  rw [hN] at hl1 ⊢
  have hget : ∀ k, k < N → ∃ m, L[k]? = some m := fun k hk => ⟨L[k]'(by omega), List.getElem?_eq_getElem (by omega)⟩
  have f1 : Fr noB w (w.alloc (.cells #[.int .i64 t, .int .i64 j, .int .i64 c, .bool wh, .slice va N vc] 63)) := (Fr.refl _ _).alloc _
  have b1 := Blk.new w 63 [.int .i64 t, .int .i64 j, .int .i64 c, .bool wh, .slice va N vc]
  obtain ⟨xb, hxb⟩ : ∃ xb, w.heap.size = xb := ⟨_, rfl⟩
  rw [hxb] at b1
  have hs1 : (w.alloc (.cells #[.int .i64 t, .int .i64 j, .int .i64 c, .bool wh, .slice va N vc] 63)).heap.size = xb + 1 := by rw [size_alloc, hxb]
  have f2 : Fr noB (w.alloc (.cells #[.int .i64 t, .int .i64 j, .int .i64 c, .bool wh, .slice va N vc] 63)) ((w.alloc (.cells #[.int .i64 t, .int .i64 j, .int .i64 c, .bool wh, .slice va N vc] 63)).alloc (.cells #[.int .i64 t, .int .i64 j, .int .i64 c, .bool wh, .slice ub N uc] 63)) := (Fr.refl _ _).alloc _
  have b2 := Blk.new (w.alloc (.cells #[.int .i64 t, .int .i64 j, .int .i64 c, .bool wh, .slice va N vc] 63)) 63 [.int .i64 t, .int .i64 j, .int .i64 c, .bool wh, .slice ub N uc]
  rw [hs1] at b2
  have b12 := f2.blk b1 (fun q => q)
  have fw := f1.seqN f2
  replace hN := Lib.hid hN
  replace hget := Lib.hid hget
  replace hx := Lib.hid hx
  replace hy := Lib.hid hy
  clear f1 b1 f2 hs1
  go_enter Tryz.func25, Tryz.ntmps25
  go_upto_region 1 with fail
  try rw [hxb]
  try rw [hxb]
  replace hxb := Lib.hid hxb
  generalize ((w.alloc (.cells #[.int .i64 t, .int .i64 j, .int .i64 c, .bool wh, .slice va N vc] 63)).alloc (.cells #[.int .i64 t, .int .i64 j, .int .i64 c, .bool wh, .slice ub N uc] 63)) = w2 at *
  have p0 : w2.cell? ⟨xb, 0, none⟩ = some (.int .i64 t) := b12.cell 0
  have p1 : w2.cell? ⟨xb, 1, none⟩ = some (.int .i64 j) := b12.cell 1
  have p2 : w2.cell? ⟨xb, 2, none⟩ = some (.int .i64 c) := b12.cell 2
  have p3 : w2.cell? ⟨xb, 3, none⟩ = some (.bool wh) := b12.cell 3
  have p4 : w2.cell? ⟨xb, 4, none⟩ = some (.slice va N vc) := b12.cell 4
  have q0 : w2.cell? ⟨xb + 1, 0, none⟩ = some (.int .i64 t) := b2.cell 0
  have q1 : w2.cell? ⟨xb + 1, 1, none⟩ = some (.int .i64 j) := b2.cell 1
  have q2 : w2.cell? ⟨xb + 1, 2, none⟩ = some (.int .i64 c) := b2.cell 2
  have q3 : w2.cell? ⟨xb + 1, 3, none⟩ = some (.bool wh) := b2.cell 3
  have q4 : w2.cell? ⟨xb + 1, 4, none⟩ = some (.slice ub N uc) := b2.cell 4
  have n1 : (t != t) = false := by simp
  have n2 : (j != j) = false := by simp
  have n3 : (c != c) = false := by simp
  have n4 : (wh != wh) = false := by simp
  have n5 : ((N : Int) != (N : Int)) = false := by simp
  replace b12 := Lib.hid b12
  replace b2 := Lib.hid b2
  replace fw := Lib.hid fw
  go_wp2_with fail
  clear p0 p1 p2 p3 p4 q0 q1 q2 q3 q4 n1 n2 n3 n4 n5
  go_loopw [5] (fun vi wr => ∃ k : Nat, k ≤ N ∧ vi = .int .i64 k ∧ Fr noB w2 wr) (fun vi _ => N - (RowKit.intOf vi).toNat)
  case atStart => exact ⟨0, by omega, rfl, Fr.refl _ _⟩
  case round =>
    obtain ⟨k, hk, rfl, fr⟩ := hrel
    have bx := fr.blk b12.out (fun q => q)
    have p4 : wr.cell? ⟨xb, 4, none⟩ = some (.slice va N vc) := bx.cell 4
    by_cases hlt : k < N
    · obtain ⟨x, hk2⟩ := hget.out k hlt
      obtain ⟨g, sa, sc, ca, cc, rfl, c0, c1, c2, c3, s1, r1⟩ := hx.out k x hk2
      obtain ⟨g', sb, sd, cb, cd, rfl, d0, d1, d2, d3, s2, r2⟩ := hy.out k x hk2
      have hS : ∀ w', Fr noB wr w' → (w'.cell? ⟨xb, 4, none⟩ = some (.slice (some ⟨g, 0, none⟩) N vc) ∧ w'.cell? ⟨xb + 1, 4, none⟩ = some (.slice (some ⟨g', 0, none⟩) N uc)) ∧ (w'.cell? ⟨g, k * 4, none⟩ = some (.int .i64 x.1.a) ∧ w'.cell? ⟨g, k * 4 + 1, none⟩ = some (.slice sa x.2.length sc) ∧ w'.cell? ⟨g, k * 4 + 2, none⟩ = some (.slice ca x.1.cr.length cc) ∧ w'.cell? ⟨g, k * 4 + 3, none⟩ = some (.bool x.1.lo)) ∧ w'.cell? ⟨g', k * 4, none⟩ = some (.int .i64 x.1.a) ∧ w'.cell? ⟨g', k * 4 + 1, none⟩ = some (.slice sb x.2.length sd) ∧ w'.cell? ⟨g', k * 4 + 2, none⟩ = some (.slice cb x.1.cr.length cd) ∧ w'.cell? ⟨g', k * 4 + 3, none⟩ = some (.bool x.1.lo) := fun w' f => by
        have F := fw.out.seqN (fr.seqN f)
        exact ⟨⟨((fr.seqN f).blk b12.out (fun q => q)).cell 4, ((fr.seqN f).blk b2.out (fun q => q)).cell 4⟩, ⟨F.cell c0 (fun q => q), F.cell c1 (fun q => q), F.cell c2 (fun q => q), F.cell c3 (fun q => q)⟩, F.cell d0 (fun q => q), F.cell d1 (fun q => q), F.cell d2 (fun q => q), F.cell d3 (fun q => q)⟩
      have F0 := fw.out.seqN fr
      have hsm := fun w' (f : Fr noB wr w') => same_any _ _ x.2 w' (s1.frN (F0.seqN f)) (s2.frN (F0.seqN f))
      have hsi := fun w' (f : Fr noB wr w') => sameInts16_any _ _ x.1.cr x.1.cr w' (r1.frN (F0.seqN f)) (r2.frN (F0.seqN f))
      have hb1 : (k : Int) < N := by omega
      generalize x.1.a = a at *
      generalize x.2.length = n at *
      generalize x.1.cr.length = m at *
      generalize x.1.lo = lo at *
      replace hS := Lib.hid hS
      replace hsm := Lib.hid hsm
      replace hsi := Lib.hid hsi
      replace F0 := Lib.hid F0
      replace hk2 := Lib.hid hk2
      clear c0 c1 c2 c3 d0 d1 d2 d3 bx s1 s2 r1 r2
      go_upto_region 6 with fail
      go_cut [6, 7] from 50 to 59 (fun v6 v7 wx => ∃ g1 g2, v6 = .pointer (some ⟨g1, 0, none⟩) ∧ v7 = .pointer (some ⟨g2, 0, none⟩) ∧ Hid (Blk wx g1 112 [.int .i64 a, .slice sa n sc, .slice ca m cc, .bool lo]) ∧ Hid (Blk wx g2 112 [.int .i64 a, .slice sb n sd, .slice cb m cd, .bool lo]) ∧ Fr noB wr wx)
      case first =>
        clear p4
        go_region_held3 (fun w' => (w'.cell? ⟨xb, 4, none⟩ = some (.slice (some ⟨g, 0, none⟩) N vc) ∧ w'.cell? ⟨xb + 1, 4, none⟩ = some (.slice (some ⟨g', 0, none⟩) N uc)) ∧ (w'.cell? ⟨g, k * 4, none⟩ = some (.int .i64 a) ∧ w'.cell? ⟨g, k * 4 + 1, none⟩ = some (.slice sa n sc) ∧ w'.cell? ⟨g, k * 4 + 2, none⟩ = some (.slice ca m cc) ∧ w'.cell? ⟨g, k * 4 + 3, none⟩ = some (.bool lo)) ∧ w'.cell? ⟨g', k * 4, none⟩ = some (.int .i64 a) ∧ w'.cell? ⟨g', k * 4 + 1, none⟩ = some (.slice sb n sd) ∧ w'.cell? ⟨g', k * 4 + 2, none⟩ = some (.slice cb m cd) ∧ w'.cell? ⟨g', k * 4 + 3, none⟩ = some (.bool lo))
          (first | exact hS.out _ ((Fr.refl noB wr).drewN 1) | exact hS.out _ (((Fr.refl noB wr).drewN 1).alloc _) | exact hS.out _ ((((Fr.refl noB wr).drewN 1).alloc _).alloc _) | exact hS.out _ (((Fr.refl noB wr).alloc _).drewN 1) | exact hS.out _ ((((Fr.refl noB wr).alloc _).alloc _).drewN 1) | fail)
          (fail)
        all_goals (
          go_wp2_with fail
          go_meet
          first
            | exact ⟨_, _, rfl, rfl, Lib.hid (two_l _ _ _ _), Lib.hid (two_r _ _ _ _), (((Fr.refl noB wr).drewN 1).alloc _).alloc _⟩
            | exact ⟨_, _, rfl, rfl, Lib.hid (two_r _ _ _ _), Lib.hid (two_l _ _ _ _), (((Fr.refl noB wr).drewN 1).alloc _).alloc _⟩
            | (trace_state; fail))
      case rest =>
        obtain ⟨g1, g2, rfl, rfl, hb1', hb2', fc⟩ := hcut
        have y0 : wc.cell? ⟨g1, 0, none⟩ = some (.int .i64 a) := hb1'.out.cell 0
        have y1 : wc.cell? ⟨g1, 1, none⟩ = some (.slice sa n sc) := hb1'.out.cell 1
        have y3 : wc.cell? ⟨g1, 3, none⟩ = some (.bool lo) := hb1'.out.cell 3
        have z0 : wc.cell? ⟨g2, 0, none⟩ = some (.int .i64 a) := hb2'.out.cell 0
        have z1 : wc.cell? ⟨g2, 1, none⟩ = some (.slice sb n sd) := hb2'.out.cell 1
        have z3 : wc.cell? ⟨g2, 3, none⟩ = some (.bool lo) := hb2'.out.cell 3
        have n1 : (a != a) = false := by simp
        have n2 : (lo != lo) = false := by simp
        have hsm2 := hsm.out wc fc
        replace fc := Lib.hid fc
        clear p4 hS
        replace hsm2 := Lib.hid hsm2
        go_wp2_with fail
        go_fit hsm2.out
        rintro e w5 ⟨rfl, f5⟩
        have fc5 := fc.out.seqN f5
        have y2 : w5.cell? ⟨g1, 2, none⟩ = some (.slice ca m cc) := (f5.blk hb1'.out (fun q => q)).cell 2
        have z2 : w5.cell? ⟨g2, 2, none⟩ = some (.slice cb m cd) := (f5.blk hb2'.out (fun q => q)).cell 2
        have hsi2 := hsi.out w5 fc5
        rw [decide_eq_true trivial] at hsi2
        replace hsi2 := Lib.hid hsi2
        replace fc5 := Lib.hid fc5
        clear y0 y1 y3 z0 z1 z3 n1 n2 f5 hsm2
        go_wp2_with fail
        go_fit hsi2.out
        rintro e w6 ⟨rfl, nq, rfl⟩
        have frz := fr.seqN (fc5.out.drewN nq)
        clear y2 z2 hsi2
        go_wp2_with fail
        go_roundw
        case rel => exact ⟨k + 1, by omega, by go_num, frz⟩
        case measure => simp [RowKit.intOf]; omega
    · obtain rfl : k = N := by omega
      replace bx := Lib.hid bx
      go_wp2_with fail
      go_ret
      exact ⟨rfl, fw.out.seqN fr⟩

/-- a record's parts as pairs -/
def pairsR (r : RC) : List (Pn × List Sp) := r.ps.map fun p => (⟨p.a, 0, 0, 0, p.cr, p.lo⟩, p.S)
theorem RdRP.of_su {w : World} {B : Nat} {v : Value} {U : List SU} {r : RC} (h : w.ownsRow B 112 4 v r.ps.length (U.flatMap SU.cs)) (ho : OwnSU w B U) (hp : U.map SU.x = r.ps) (hl : r.ps.length ≤ 100000) : RdRP w v (pairsR r) := by
  obtain ⟨a, c, rfl⟩ := ownsRow_slice h
  have e0 : (pairsR r).length = r.ps.length := by unfold pairsR; rw [List.length_map]
  refine ⟨a, c, by rw [e0], by rw [e0]; exact hl, fun i x hi => ?_⟩
  unfold pairsR at hi
  rw [← hp, List.map_map, List.getElem?_map] at hi
  cases hq : U[i]? with
  | none => rw [hq] at hi; cases hi
  | some u =>
    rw [hq] at hi
    injection hi with hi
    subst hi
    have hm := List.mem_of_getElem? hq
    have hlt : i < U.length := (List.getElem?_eq_some_iff.1 hq).1
    have hul : U.length = r.ps.length := by rw [← hp, List.length_map]
    obtain ⟨g, cap, hv, _⟩ := ownsRow_some h (by omega)
    have ha : a = some ⟨g, 0, none⟩ := by injection hv with h1 _ _
    subst ha
    have key : ∀ q x, u.cs[q]? = some x → q < 4 → w.cell? ⟨g, i * 4 + q, none⟩ = some x := fun q x hx hq4 => by
      have h2 := SU.get U i q u hq hq4
      have h3 := h.cells (g := g) rfl (i * 4 + q) x (by rw [h2]; exact hx)
      rw [add_none, Nat.zero_add] at h3
      exact h3
    exact ⟨g, u.sa, u.sc, u.ca, u.cc, rfl, key 0 _ rfl (by omega), key 1 _ rfl (by omega), key 2 _ rfl (by omega), key 3 _ rfl (by omega), RdSp.of_own (ho.s u hm) rfl, RdI.of_own (ho.c u hm)⟩
theorem OwnQ1.rp {w : World} {B : Nat} {q : QU} (h : OwnQ1 w B q) (hl : q.x.ps.length ≤ 100000) : RdRP w q.v (pairsR q.x) := RdRP.of_su h.r h.s h.m hl
theorem rp_len {r : RC} : (pairsR r).length = r.ps.length := by unfold pairsR; rw [List.length_map]
theorem same_rc (r : RC) (v u : Value) (w : World) (hv : RdRP w v (pairsR r)) (hu : RdRP w u (pairsR r)) :
    Calls Tryz.prog 25 #[rcV r v, rcV r u] w fun e w' => e = .returned (.bool true) ∧ Fr noB w w' := same16_any r.tr r.jb r.cl r.wh v u (pairsR r) w hv hu
end Go.Proofs.YtdmhnoffejjpnaaGreatDoor
end
