/-
  store: what a crash leaves: the law walked.
-/
import Derived.Test.YtdmhnoffejjpnaaGreatDoorZCA
import Derived.Deep.CutBlock
section
set_option linter.unusedVariables false
set_option linter.unusedSimpArgs false
set_option maxRecDepth 100000
namespace Go.Proofs.YtdmhnoffejjpnaaGreatDoor
open Go.RowKit Go Go.Maps Go.Lib

theorem rg_sub {w : World} {b r n : Nat} {L td : List (Int × Bool)} (h : Rg Tryz.prog 3 klI mkT w b r n L td) : ∀ p ∈ td, p ∈ L := by
  obtain ⟨_, _, _, _, _, _, _, h1, _⟩ := h
  exact h1
set_option maxHeartbeats 16000000 in
theorem crashes_any (v : Value) (xs : List OpA) (w : World) (hg : Gl w) (hv : SlR w v 9 (IsOpA w) xs) :
    Calls Tryz.prog 4 #[v] w fun e w' => e = .returned (.bool true) ∧ Fr noB w w' := by
  have hfew := fun w' (f : Fr noB w w') => few18_any v xs w w' (hv.frame f (fun _ _ q => q)) f
  obtain ⟨va, vc, rfl, hx1, hx2, hx3⟩ := hv
  unfold maxLen at hx2
  obtain ⟨n, hn⟩ : ∃ n, xs.length = n := ⟨_, rfl⟩
  rw [hn] at hx1 ⊢
  simp only [hn] at hfew
  have hnb : n ≤ 9223372036854775807 := by have := hx1.1; omega
  have hget : ∀ k, k < n → ∃ m, xs[k]? = some m := fun k hk => ⟨xs[k]'(by rw [hn]; exact hk), List.getElem?_eq_getElem _⟩
  have hok : fewA8 xs = true → n ≤ 150 ∧ ∀ m ∈ xs, m.xs.length ≤ 20 := fun h => by
    unfold fewA8 okOpA at h
    simp only [Bool.and_eq_true, List.all_eq_true, decide_eq_true_eq] at h
    exact ⟨by omega, fun m hm => (h.1 m hm).2.1⟩
  replace hn := Lib.hid hn
  replace hx3 := Lib.hid hx3
  replace hfew := Lib.hid hfew
  replace hget := Lib.hid hget
  go_enter Tryz.func4, Tryz.ntmps4
  go_wp2_with fail
  go_fit (awake18_any w hg)
  rintro e w2 ⟨rfl, g2⟩
  have hf2 := hfew.out w2 g2
  generalize fewA8 xs = fw at *
  cases fw
  · clear hok
    go_wp2_with fail
    go_fit hf2
    rintro e w3 ⟨rfl, f3⟩
    have g3 := g2.seqN f3
    clear f3 hf2 g2
    go_wp2_with fail
    go_fit (awake18_any w3 (hg.fr g3))
    rintro e w4 ⟨rfl, f4⟩
    have g4 := g3.seqN f4
    clear f4 g3
    go_wp2_with fail
    go_ret
    exact ⟨rfl, g4⟩
  obtain ⟨hn150, hxs20⟩ := hok rfl
  replace hxs20 := Lib.hid hxs20
  clear hok
  go_wp2_with fail
  go_fit hf2
  rintro e w3 ⟨rfl, f3⟩
  have g3 := g2.seqN f3
  clear f3 hf2 g2 hfew
  go_wp2_with fail
  go_fit (snew_l w3)
  rintro e w4 ⟨gS, col0, rfl, h4⟩
  have H4 : StL w w4 gS col0 0 SS.zero := ⟨h4.s, fun q hq => Nat.le_trans g3.size (h4.hi q hq), g3.seqN h4.f⟩
  have hmm := @run_makeMap Tryz.prog
  obtain ⟨mT, hmT⟩ : ∃ mT, w4.heap.size = mT := ⟨_, rfl⟩
  have f5 := (Fr.refl noB w4).alloc (.map #[] 0)
  have C5 : CrL w (w4.alloc (.map #[] 0)) gS col0 0 SS.zero mT [] := ⟨H4.frN f5, by rw [← hmT]; exact Mp.made w4, Classical.byContradiction fun e => by have := H4.low mT e; omega, by rw [← hmT]; exact H4.f.size, fun p hp => by cases hp⟩
  replace C5 := Lib.hid C5
  replace hmT := Lib.hid hmT
  clear h4 g3 H4 f5
  go_wp2_with fail
  try rw [hmT.out]
  generalize (w4.alloc (.map #[] 0)) = w5 at *
  go_loopg [34] n (fun gk i wr => ∃ (k : Nat) (col : Nat → Tg) (X : SS) (T : List (Int × Bool)), k + gk = n ∧ i = .int .i64 k ∧ Hid (CrL w wr gS col (2 * k) X mT T))
  case atStart => exact ⟨0, _, _, _, Nat.zero_add _, rfl, C5⟩
  case round =>
    clear C5
    obtain ⟨k, col, X, T, hk, rfl, hI⟩ := hrel
    by_cases hlt : k < n
    · obtain ⟨x, hx⟩ := hget.out k hlt
      obtain ⟨g', o', cs', rfl, _, ⟨rfl, hsp, hri, wfs⟩, hc⟩ := hx3.out k x hx
      have h20 := hxs20.out x (List.mem_of_getElem? hx)
      have fr := hI.out.s.f
      have c0 := fr.cell (hc 0 _ rfl) (fun q => q)
      have c1 := fr.cell (hc 1 _ rfl) (fun q => q)
      have c2 := fr.cell (hc 2 _ rfl) (fun q => q)
      have c3 := fr.cell (hc 3 _ rfl) (fun q => q)
      have c4 := fr.cell (hc 4 _ rfl) (fun q => q)
      have c5 := fr.cell (hc 5 _ rfl) (fun q => q)
      have c6 := fr.cell (hc 6 _ rfl) (fun q => q)
      have c7 := fr.cell (hc 7 _ rfl) (fun q => q)
      have c8 := fr.cell (hc 8 _ rfl) (fun q => q)
      rw [Nat.add_zero] at c0
      simp only [← Nat.add_assoc] at c1 c2 c3 c4 c5 c6 c7 c8
      have hb1 : (k : Int) < n := by omega
      have hmeas := Lib.hid (show n - (k + 1) < gk by omega)
      have hkn2 := Lib.hid (show k + 1 + (n - (k + 1)) = n by omega)
      have hsu := Lib.hid (num_sucs k (by omega))
      have hk150 := Lib.hid (show k < 150 by omega)
      have fA : Fr noB wr (wr.alloc (.cells (opaC x).toArray 32)) := (Fr.refl _ _).alloc _
      have bA := Blk.new wr 32 (opaC x)
      obtain ⟨ob, hob⟩ : ∃ ob, wr.heap.size = ob := ⟨_, rfl⟩
      rw [hob] at bA
      have hA := hI.out.frN fA
      have hsA := hsp.frN (fr.seqN fA)
      have hrA := hri.frN (fr.seqN fA)
      have wfi : -9223372036854775808 ≤ x.i ∧ x.i ≤ 9223372036854775807 := by have := wfs.2.2.2.2.1; simpa [Lit.wf, IntKind.min, IntKind.max, IntKind.signed, IntKind.bits] using this
      have hcob : col ob = tg0 := Classical.byContradiction fun e => by have := hI.out.s.low ob e; omega
      unfold opaC at fA hA hsA hrA bA
      have hrc := srecords_l hA.s hg
      replace hrc := Lib.hid hrc
      replace hsA := Lib.hid hsA
      replace hrA := Lib.hid hrA
      replace bA := Lib.hid bA
      replace hA := Lib.hid hA
      replace hob := Lib.hid hob
      replace wfi := Lib.hid wfi
      replace hcob := Lib.hid hcob
      replace hx := Lib.hid hx
      replace hsp := Lib.hid hsp
      replace h20 := Lib.hid h20
      clear hc hri hk fr fA hI wfs
      go_upto_region 8 with fail
      try rw [hob.out]
      generalize (wr.alloc (.cells _ 32)) = wa at *
      clear c0 c1 c2 c3 c4 c5 c6 c7 c8
      go_wp2_with fail
      go_fit hrc.out
      rintro e w6 ⟨a6, c6, Q6, rfl, o6, q6, e6, f6⟩
      have h6 := hA.out.frN f6
      have hpe := spending_l h6.s
      have b6 := f6.blk bA.out (fun q => q)
      replace hpe := Lib.hid hpe
      replace h6 := Lib.hid h6
      replace o6 := Lib.hid o6
      replace q6 := Lib.hid q6
      replace e6 := Lib.hid e6
      replace f6 := Lib.hid f6
      replace b6 := Lib.hid b6
      obtain ⟨lk, hlk⟩ : ∃ q, X.K.length = q := ⟨_, rfl⟩
      obtain ⟨lw, hlw⟩ : ∃ q, X.Wn.length = q := ⟨_, rfl⟩
      rw [hlw] at hpe
      rw [hlk] at o6 ⊢
      replace hlk := Lib.hid hlk
      replace hlw := Lib.hid hlw
      clear hrc
      go_wp2_with fail
      go_fit hpe.out
      rintro e w6' ⟨rfl, hw⟩
      obtain rfl := hw.symm
      clear hw hpe
      have d0 : w6.cell? ⟨ob, 0, none⟩ = some (.int .i64 x.k) := b6.out.cell 0
      go_upto_block 2 with fail
      obtain ⟨kd, hkd⟩ : ∃ q, x.k = q := ⟨_, rfl⟩
      rw [hkd] at d0
      try rw [hkd]
      replace hkd := Lib.hid hkd
      go_cut [9] (fun v9 wx => ∃ (col' : Nat → Tg) (X' : SS) (B : List (Int × Int)), Hid (CrL w wx gS col' (2 * (k + 1)) X' mT T) ∧ Hid (SRow w6 wx col' v9 B) ∧ Hid (∀ p ∈ B, p.2 ∈ jbs X'.K))
      case first =>
        by_cases hk20 : kd = 20
        · subst hk20
          have ht := stick_l h6.out.s
          replace ht := Lib.hid ht
          clear d0
          go_wp2_with fail
          go_fit ht.out
          rintro e w7 ⟨v7, col7, rfl, h7, r7, s7⟩
          have C7 := (h6.out.step h7 s7 (tick_K X))
          have C7' : CrL w w7 gS col7 (2 * (k + 1)) X.tick mT T := { C7 with s := C7.s.up (by omega) (by have := hk150.out; omega) }
          replace C7' := Lib.hid C7'
          replace r7 := Lib.hid r7
          clear ht h7 s7 C7
          go_wp2_with fail
          go_meet
          exact ⟨col7, X.tick, X.told2, C7', r7, Lib.hid (told_K X)⟩
        · have n20 : (kd == 20) = false := by simpa using hk20
          have m20 : decide (kd = 20) = false := by simpa using hk20
          by_cases hk21 : kd = 21
          · subst hk21
            have d4 : w6.cell? ⟨ob, 4, none⟩ = some (.int .i64 x.i) := b6.out.cell 4
            have hcr := scrash_l (k := x.i) h6.out.s hg wfi.out
            obtain ⟨xi, hxi⟩ : ∃ q, x.i = q := ⟨_, rfl⟩
            rw [hxi] at d4 hcr
            replace hcr := Lib.hid hcr
            replace hxi := Lib.hid hxi
            clear d0
            go_wp2_with fail
            go_fit hcr.out
            rintro e w7 ⟨col7, rfl, h7, s7⟩
            have C7 := (h6.out.step h7 s7 (crash_K h6.out.s.inv xi))
            have C7' : CrL w w7 gS col7 (2 * (k + 1)) (X.crash xi) mT T := { C7 with s := C7.s.up (by omega) (by have := hk150.out; omega) }
            have hB6 : ∀ g, wa.heap.size ≤ g → g < w6.heap.size → col g = tg0 := fun g h1 h2 => Classical.byContradiction fun e => by
              have := hA.out.s.low g e
              omega
            have o7 := ownsRow_fr o6.out s7.1 (fun g hg e => e (hB6 g (o6.out.lt g hg).1 (o6.out.lt g hg).2))
            have q7 := q6.out.keepS hB6 s7.1
            have hcl := crash_len h6.out.s.inv xi
            have hget2 := crash_get h6.out.s.inv xi
            have hrc2 := srecords_l h7 hg
            obtain ⟨ln, hln⟩ : ∃ q, (X.crash xi).K.length = q := ⟨_, rfl⟩
            rw [hln] at hrc2 hcl
            rw [hlk.out, hlw.out] at hcl
            have hln6 : ln ≤ 65536 := by rw [← hln]; exact (wn_len h7.inv).2
            have hokX : ∀ r ∈ X.K, r.ps.length ≤ 100000 := fun r hr => by
              have := (rc_ok (h6.out.s.inv.ok r (List.mem_append.2 (Or.inl hr))).1).n
              omega
            replace hrc2 := Lib.hid hrc2
            replace C7' := Lib.hid C7'
            replace o7 := Lib.hid o7
            replace q7 := Lib.hid q7
            replace hget2 := Lib.hid hget2
            replace hokX := Lib.hid hokX
            have hcl2 := Lib.hid (⟨hcl.1, hcl.2, hln6⟩ : lk ≤ ln ∧ ln ≤ lk + lw ∧ ln ≤ 65536)
            clear hcr h7 s7 C7 hB6 hcl hln6 d4
            go_wp2_with fail
            go_fit hrc2.out
            rintro e w8 ⟨a8, c8, Q8, rfl, o8, q8, e8, f8⟩
            have C8 := C7'.out.frN f8
            have hp8 := spending_l C8.s
            rw [show (X.crash xi).Wn.length = 0 from rfl] at hp8
            have o78 := ownsRow_fr o7.out f8 (fun _ _ q => q)
            have q78 := q7.out.frN f8
            have lwb : lw ≤ 65536 := by rw [← hlw.out]; exact (wn_len h6.out.s.inv).1
            have t1 : decide ((ln : Int) < (lk : Int)) = false := by have := hcl2.out; simp; omega
            have t1' : decide (ln < lk) = false := by have := hcl2.out; simp; omega
            have lsum : IntKind.i64.wrap ((lk : Int) + (lw : Int)) = ((lk + lw : Nat) : Int) := by have := hcl2.out; rw [IntWalk.i64_in _ (by omega)]; rfl
            have lsum2 : wrap64 ((lk : Int) + (lw : Int)) = ((lk + lw : Nat) : Int) := by have := hcl2.out; rw [IntWalk.wrap64_in _ (by omega)]; rfl
            obtain ⟨ls, hls⟩ : ∃ q, lk + lw = q := ⟨_, rfl⟩
            rw [hls] at lsum lsum2
            have t2 : decide (((ls : Nat) : Int) < (ln : Int)) = false := by have := hcl2.out; simp; omega
            have t2' : decide (ls < ln) = false := by have := hcl2.out; simp; omega
            replace hp8 := Lib.hid hp8
            replace C8 := Lib.hid C8
            replace o8 := Lib.hid o8
            replace q8 := Lib.hid q8
            replace e8 := Lib.hid e8
            replace o78 := Lib.hid o78
            replace q78 := Lib.hid q78
            replace hls := Lib.hid hls
            replace lwb := Lib.hid lwb
            clear hrc2 o7 q7 f8 C7'
            go_wp2_with fail
            go_fit hp8.out
            rintro e w8' ⟨rfl, hw⟩
            obtain rfl := hw.symm
            clear hw hp8 t1 t1' t2 t2' lsum lsum2
            simp only [show ((0 : Nat) : Int) = 0 from rfl]
            go_wp2_with fail
            go_loopg [81] lk (fun gj v81 wy => ∃ i : Nat, i + gj = lk ∧ v81 = .int .i64 i ∧ Fr noB w8 wy)
            case atStart => exact ⟨0, Nat.zero_add _, rfl, Fr.refl _ _⟩
            case round =>
              obtain ⟨wy, rfl⟩ : ∃ wy : World, wy = wr := ⟨_, rfl⟩
              obtain ⟨gj, rfl⟩ : ∃ gj : Nat, gj = gk := ⟨_, rfl⟩
              obtain ⟨i, hij, rfl, fy⟩ := hrel
              by_cases hil : i < lk
              · obtain ⟨r, hr⟩ : ∃ r, X.K[i]? = some r := ⟨_, List.getElem?_eq_getElem (by rw [hlk.out]; exact hil)⟩
                obtain ⟨q, hq, hqx⟩ : ∃ q, Q6[i]? = some q ∧ q.x = r := by
                  have h1 := hr
                  rw [← e6.out, List.getElem?_map] at h1
                  cases h2 : Q6[i]? with
                  | none => rw [h2] at h1; cases h1
                  | some q => rw [h2] at h1; injection h1 with h1; exact ⟨q, rfl, h1⟩
                obtain ⟨q', hq', hqx'⟩ : ∃ q, Q8[i]? = some q ∧ q.x = r := by
                  have h1 := hget2.out i r hr
                  rw [← e8.out, List.getElem?_map] at h1
                  cases h2 : Q8[i]? with
                  | none => rw [h2] at h1; cases h1
                  | some q => rw [h2] at h1; injection h1 with h1; exact ⟨q, rfl, h1⟩
                have owa := ownsRow_fr o78.out fy (fun _ _ q => q)
                have owb := ownsRow_fr o8.out fy (fun _ _ q => q)
                obtain ⟨ga, ca', hsa, _⟩ := ownsRow_some owa (by omega)
                obtain ⟨gb, cb', hsb, _⟩ := ownsRow_some owb (by have := hcl2.out; omega)
                obtain ⟨rfl, rfl⟩ : a6 = some ⟨ga, 0, none⟩ ∧ c6 = ca' := by injection hsa with h1 _ h2; exact ⟨h1, h2⟩
                obtain ⟨rfl, rfl⟩ : a8 = some ⟨gb, 0, none⟩ ∧ c8 = cb' := by injection hsb with h1 _ h2; exact ⟨h1, h2⟩
                have p0 := own_cellQ owa hq (q := 0) rfl
                have p1 := own_cellQ owa hq (q := 1) rfl
                have p2 := own_cellQ owa hq (q := 2) rfl
                have p3 := own_cellQ owa hq (q := 3) rfl
                have p4 := own_cellQ owa hq (q := 4) rfl
                have s0 := own_cellQ owb hq' (q := 0) rfl
                have s1 := own_cellQ owb hq' (q := 1) rfl
                have s2 := own_cellQ owb hq' (q := 2) rfl
                have s3 := own_cellQ owb hq' (q := 3) rfl
                have s4 := own_cellQ owb hq' (q := 4) rfl
                rw [Nat.add_zero] at p0 s0
                have rp1 := ((q78.out q (List.mem_of_getElem? hq)).frN fy).rp (by rw [hqx]; exact hokX.out r (List.mem_of_getElem? hr))
                have rp2 := ((q8.out q' (List.mem_of_getElem? hq')).frN fy).rp (by rw [hqx']; exact hokX.out r (List.mem_of_getElem? hr))
                obtain ⟨xa, xn, xc, hxv⟩ : ∃ a n c, q.v = .slice a n c := ⟨_, _, _, rfl⟩
                obtain ⟨ya, yn, yc, hyv⟩ : ∃ a n c, q'.v = .slice a n c := ⟨_, _, _, rfl⟩
                rw [hqx] at p0 p1 p2 p3 rp1
                rw [hqx'] at s0 s1 s2 s3 rp2
                rw [hxv] at p4 rp1
                rw [hyv] at s4 rp2
                have hsame := fun w' (f : Fr noB wy w') => same_rc r (.slice ya yn yc) (.slice xa xn xc) w' (rp2.frN f) (rp1.frN f)
                unfold rcV at hsame
                obtain ⟨rt, hrt⟩ : ∃ x, r.tr = x := ⟨_, rfl⟩
                obtain ⟨rj, hrj⟩ : ∃ x, r.jb = x := ⟨_, rfl⟩
                obtain ⟨rcl, hrcl⟩ : ∃ x, r.cl = x := ⟨_, rfl⟩
                obtain ⟨rw', hrw⟩ : ∃ x, r.wh = x := ⟨_, rfl⟩
                rw [hrt] at p0 s0
                rw [hrj] at p1 s1
                rw [hrcl] at p2 s2
                rw [hrw] at p3 s3
                rw [hrt, hrj, hrcl, hrw] at hsame
                have hS : ∀ w', Fr noB wy w' → (w'.cell? ⟨ga, i * 5, none⟩ = some (.int .i64 rt) ∧ w'.cell? ⟨ga, i * 5 + 1, none⟩ = some (.int .i64 rj) ∧ w'.cell? ⟨ga, i * 5 + 2, none⟩ = some (.int .i64 rcl) ∧ w'.cell? ⟨ga, i * 5 + 3, none⟩ = some (.bool rw') ∧ w'.cell? ⟨ga, i * 5 + 4, none⟩ = some (.slice xa xn xc)) ∧ (w'.cell? ⟨gb, i * 5, none⟩ = some (.int .i64 rt) ∧ w'.cell? ⟨gb, i * 5 + 1, none⟩ = some (.int .i64 rj) ∧ w'.cell? ⟨gb, i * 5 + 2, none⟩ = some (.int .i64 rcl) ∧ w'.cell? ⟨gb, i * 5 + 3, none⟩ = some (.bool rw') ∧ w'.cell? ⟨gb, i * 5 + 4, none⟩ = some (.slice ya yn yc)) := fun w' f =>
                  ⟨⟨f.cell p0 (fun q => q), f.cell p1 (fun q => q), f.cell p2 (fun q => q), f.cell p3 (fun q => q), f.cell p4 (fun q => q)⟩, f.cell s0 (fun q => q), f.cell s1 (fun q => q), f.cell s2 (fun q => q), f.cell s3 (fun q => q), f.cell s4 (fun q => q)⟩
                have j1 : (i : Int) < lk := by omega
                have j2 : (i : Int) < ln := by have := hcl2.out; omega
                have j0 : (0 : Int) ≤ i := by omega
                have ji := Lib.hid (show i + 1 + (lk - (i + 1)) = lk by omega)
                have jm := Lib.hid (show lk - (i + 1) < gj by omega)
                have js := Lib.hid (num_sucs i (by have := hcl2.out; omega))
                replace hS := Lib.hid hS
                replace hsame := Lib.hid hsame
                replace fy := Lib.hid fy
                clear p0 p1 p2 p3 p4 s0 s1 s2 s3 s4 rp1 rp2 owa owb hsa hsb hq hqx hq' hqx' hxv hyv hrt hrj hrcl hrw hr hij
                go_upto_region 22 with fail
                go_region_held3 (fun w' => (w'.cell? ⟨ga, i * 5, none⟩ = some (.int .i64 rt) ∧ w'.cell? ⟨ga, i * 5 + 1, none⟩ = some (.int .i64 rj) ∧ w'.cell? ⟨ga, i * 5 + 2, none⟩ = some (.int .i64 rcl) ∧ w'.cell? ⟨ga, i * 5 + 3, none⟩ = some (.bool rw') ∧ w'.cell? ⟨ga, i * 5 + 4, none⟩ = some (.slice xa xn xc)) ∧ (w'.cell? ⟨gb, i * 5, none⟩ = some (.int .i64 rt) ∧ w'.cell? ⟨gb, i * 5 + 1, none⟩ = some (.int .i64 rj) ∧ w'.cell? ⟨gb, i * 5 + 2, none⟩ = some (.int .i64 rcl) ∧ w'.cell? ⟨gb, i * 5 + 3, none⟩ = some (.bool rw') ∧ w'.cell? ⟨gb, i * 5 + 4, none⟩ = some (.slice ya yn yc)))
                  (first | exact hS.out _ z7 | exact hS.out _ ((Fr.refl noB _).drewN 1) | fail)
                  (first
                    | (go_at_call 25; refine (hsame.out _ ((Fr.refl noB _).drewN 1)).mono ?_; rintro e wz ⟨rfl, z70⟩; have z7 := ((Fr.refl noB wy).drewN 1).seqN z70)
                    | fail)
                all_goals (
                  have fz := fy.out.seqN z7
                  clear j1 j2 j0
                  go_wp2_with fail
                  go_roundg (lk - (i + 1))
                  case rel => exact ⟨i + 1, ji.out, by first | exact js.out | rfl, fz⟩
                  case measure => exact jm.out)
              · obtain rfl : i = lk := by omega
                have C9 := Lib.hid (C8.out.frN fy)
                go_wp2_with fail
                go_meet
                exact ⟨col7, X.crash xi, [], C9, Lib.hid (SRow.nil _ _ _), Lib.hid (fun p hp => by cases hp)⟩
          · have n21 : (kd == 21) = false := by simpa using hk21
            have m21 : decide (kd = 21) = false := by simpa using hk21
            have hmsg := messageC_any x w6 (hsp.out.frN h6.out.s.f) (hrA.out.frN f6.out) h20.out
            have d1 : w6.cell? ⟨ob, 1, none⟩ = some (.int .i64 x.a) := b6.out.cell 1
            have d2 : w6.cell? ⟨ob, 2, none⟩ = some (.int .i64 x.t) := b6.out.cell 2
            have d3 : w6.cell? ⟨ob, 3, none⟩ = some (.int .i64 x.j) := b6.out.cell 3
            have d4 : w6.cell? ⟨ob, 4, none⟩ = some (.int .i64 x.i) := b6.out.cell 4
            have d5 : w6.cell? ⟨ob, 5, none⟩ = some (.int .i64 x.n) := b6.out.cell 5
            have d6 : w6.cell? ⟨ob, 6, none⟩ = some (.slice x.sa x.sp.length x.sc) := b6.out.cell 6
            have d7 : w6.cell? ⟨ob, 7, none⟩ = some (.slice x.ua x.xs.length x.uc) := b6.out.cell 7
            have d8 : w6.cell? ⟨ob, 8, none⟩ = some (.bool x.lo) := b6.out.cell 8
            unfold opaC at hmsg
            rw [hkd.out] at hmsg
            replace hmsg := Lib.hid hmsg
            clear hk20 hk21
            go_wp2_with fail
            go_fit hmsg.out
            rintro e w7 ⟨mv, rfl, hmo, hmb, f7⟩
            have h7 := h6.out.frN f7
            have hkeep := hm_keep h6.out.s hsp.out hmo hmb f7
            have hh := shearO_l h7.s hg (by have := hk150.out; omega) hkeep
            replace hh := Lib.hid hh
            replace h7 := Lib.hid h7
            replace f7 := Lib.hid f7
            clear d0 d1 d2 d3 d4 d5 d6 d7 d8 hmsg hmo hmb hkeep n20 n21 m20 m21
            go_wp2_with fail
            go_fit hh.out
            rintro e w8 ⟨v8, col8, rfl, h8, r8, s8⟩
            have C8 := h7.out.step h8 s8 (fun j hj => by rw [hearO_K]; exact hj)
            have C8' : CrL w w8 gS col8 (2 * (k + 1)) (X.hearO x.ms) mT T := { C8 with s := C8.s.up (by omega) (by have := hk150.out; omega) }
            have r8' : SRow w6 w8 col8 v8 (X.backO x.ms) := by
              obtain ⟨a, c, e1, e2, e3⟩ := r8
              exact ⟨a, c, e1, ownsRow_mono e2 f7.out.size, e3⟩
            have hb8 : ∀ p ∈ X.backO x.ms, p.2 ∈ jbs (X.hearO x.ms).K := fun p hp => by rw [hearO_K]; exact back_K X x.ms p hp
            replace C8' := Lib.hid C8'
            replace r8' := Lib.hid r8'
            replace hb8 := Lib.hid hb8
            clear hh h8 r8 s8 C8
            go_wp2_with fail
            go_meet
            exact ⟨col8, _, _, C8', r8', hb8⟩
      case rest =>
        obtain ⟨col', X', B, hC, hR, hB⟩ := hcut
        obtain ⟨ba, bc, rfl, hrow, hfree⟩ := hR.out
        obtain ⟨lB, hlB⟩ : ∃ q, B.length = q := ⟨_, rfl⟩
        rw [hlB] at hrow
        have hof := fun (t j : Int) (w : World) => of_of (v := .nilIface) (of_Stored t j w)
        unfold mStored at hof
        replace hof := Lib.hid hof
        replace hrow := Lib.hid hrow
        replace hlB := Lib.hid hlB
        obtain ⟨W6, hW6⟩ : ∃ q, w6.heap.size = q := ⟨_, rfl⟩
        rw [hW6] at hrow
        clear hR hfree h6 hA bA b6 o6 q6 e6 f6 hlk hlw hsA hrA d0 hW6
        rw [hlB.out]
        go_wp2_with fail
        go_loopg [97] lB (fun gj v97 wy => ∃ (j : Nat) (T' : List (Int × Bool)), j + gj = lB ∧ v97 = .int .i64 j ∧ Hid (CrL w wy gS col' (2 * (k + 1)) X' mT T') ∧ Hid (wy.ownsRow W6 40 1 (.slice ba lB bc) lB (B.map fun p => mStored p.1 p.2)))
        case atStart => exact ⟨0, T, Nat.zero_add _, rfl, hC, hrow⟩
        case round =>
          clear hC hrow
          obtain ⟨wy, rfl⟩ : ∃ wy : World, wy = wr := ⟨_, rfl⟩
          obtain ⟨gj, rfl⟩ : ∃ gj : Nat, gj = gk := ⟨_, rfl⟩
          obtain ⟨j, T', hj, rfl, hC, hrow⟩ := hrel
          by_cases hjl : j < lB
          · obtain ⟨p, hp⟩ : ∃ p, B[j]? = some p := ⟨_, List.getElem?_eq_getElem (by rw [hlB.out]; exact hjl)⟩
            obtain ⟨bg, bc', hsl, _⟩ := ownsRow_some hrow.out (by omega)
            obtain ⟨rfl, rfl⟩ : ba = some ⟨bg, 0, none⟩ ∧ bc = bc' := by injection hsl with h1 _ h2; exact ⟨h1, h2⟩
            have e0 := hrow.out.cells (g := bg) rfl j (mStored p.1 p.2) (by rw [List.getElem?_map, hp]; rfl)
            rw [add_none, Nat.zero_add] at e0
            unfold mStored at e0
            have hpK := hB.out p (List.mem_of_getElem? hp)
            obtain ⟨pt, hpt⟩ : ∃ q, p.1 = q := ⟨_, rfl⟩
            obtain ⟨pj, hpj⟩ : ∃ q, p.2 = q := ⟨_, rfl⟩
            rw [hpj] at hpK
            rw [hpt, hpj] at e0
            have okp : okI pj := by
              obtain ⟨r, hr, rfl⟩ := List.mem_map.1 hpK
              exact okI_jb (hC.out.s.inv.ok r (List.mem_append.2 (Or.inl hr)))
            have hof1 := hof.out pt pj wy
            have j1 : (j : Int) < lB := by omega
            have j0 : (0 : Int) ≤ j := by omega
            have ji := Lib.hid (show j + 1 + (lB - (j + 1)) = lB by omega)
            have jm := Lib.hid (show lB - (j + 1) < gj by omega)
            have jb6 : lB ≤ 9223372036854775807 := by
              have h1 := hrow.out
              rcases h1.2 with ⟨h2, h3⟩ | ⟨g1, cap, cur, h2, _, _, h3, h4, _⟩
              · omega
              · unfold maxLen at h4; omega
            have js := Lib.hid (show Value.int .i64 (wrap64 ((j : Int) + 1)) = Value.int .i64 ((j + 1 : Nat) : Int) by rw [IntWalk.wrap64_in _ (by omega)]; rfl)
            replace hof1 := Lib.hid hof1
            replace hpK := Lib.hid hpK
            clear hp hsl hpt hpj hj jb6
            go_wp2_with fail
            go_fit hof1.out
            rintro e w7 ⟨rfl, f7⟩
            have C7 := hC.out.frN f7
            have hM7 := C7.m
            have hTl := C7.len
            have o7 := ownsRow_fr hrow.out f7 (fun _ _ q => q)
            replace C7 := Lib.hid C7
            replace o7 := Lib.hid o7
            clear hof1 f7 e0 hC hrow
            go_wp2_with (first
              | (at_mapUpdate; go_must (refine wpList_put_mp _ rfl _ _ _ 59 rfl KI' Tryz.underlying59 mkT_inj hM7 (by unfold maxLen; omega) pj true okp rfl rfl rfl ?_); intro w8 m8 f8)
              | fail)
            have C8 := Lib.hid (C7.out.tell f8 m8 hpK.out)
            have o8 := Lib.hid (ownsRow_fr o7.out f8 (fun g hg e => row_ne_map o7.out hM7 hg (by unfold onlyB at e; exact e)))
            clear C7 hM7 hTl o7 m8 f8
            go_wp2_with fail
            go_roundg (lB - (j + 1))
            case rel => exact ⟨j + 1, _, ji.out, by first | exact js.out | rfl, C8, o8⟩
            case measure => exact jm.out
          · obtain rfl : j = lB := by omega
            have hmm := @run_makeMap Tryz.prog
            obtain ⟨mS, hmS⟩ : ∃ mS, wy.heap.size = mS := ⟨_, rfl⟩
            have fM := (Fr.refl noB wy).alloc (.map #[] 0)
            have CM := hC.out.frN fM
            have SM : SeL (wy.alloc (.map #[] 0)) mS X'.K 0 [] := ⟨by rw [← hmS]; exact Mp.made wy, fun j => by simp [jbs, look], Nat.le_refl _⟩
            have hmSf : col' mS = tg0 ∧ mS ≠ mT ∧ w.heap.size ≤ mS := ⟨Classical.byContradiction fun e => by have := hC.out.s.low mS e; omega, by have := hC.out.m.lt; omega, by rw [← hmS]; exact hC.out.s.f.size⟩
            replace CM := Lib.hid CM
            replace SM := Lib.hid SM
            replace hmSf := Lib.hid hmSf
            replace hmS := Lib.hid hmS
            clear hC hrow fM
            go_upto_region 32 with fail
            try rw [hmS.out]
            generalize (wy.alloc (.map #[] 0)) = wM at *
            clear hmm
            have hrc := srecords_l CM.out.s hg
            obtain ⟨lk, hlk⟩ : ∃ q, X'.K.length = q := ⟨_, rfl⟩
            rw [hlk] at hrc
            have hlk6 := Lib.hid (show lk ≤ 65536 by rw [← hlk]; exact (wn_len CM.out.s.inv).2)
            have hokX : ∀ r ∈ X'.K, okW r := fun r hr => CM.out.s.inv.ok r (List.mem_append.2 (Or.inl hr))
            have hnd : (jbs X'.K).Nodup := by
              have := CM.out.s.inv.nd
              unfold SS.all at this
              rw [jbs_app] at this
              exact (List.nodup_append.1 this).1
            replace hrc := Lib.hid hrc
            replace hlk := Lib.hid hlk
            replace hokX := Lib.hid hokX
            replace hnd := Lib.hid hnd
            go_wp2_with fail
            go_fit hrc.out
            rintro e w8 ⟨a8, c8, Q8, rfl, o8, q8, e8, f8⟩
            have C8 := Lib.hid (CM.out.frN f8)
            have S8 : Hid (SeL w8 mS X'.K 0 []) := Lib.hid ⟨SM.out.m.fr f8 (fun q => q), SM.out.l, SM.out.n⟩
            obtain ⟨W8, hW8⟩ : ∃ q, wM.heap.size = q := ⟨_, rfl⟩
            rw [hW8] at o8 q8
            have hlt8 := Lib.hid (show mS < W8 by rw [← hW8]; exact SM.out.m.lt)
            replace o8 := Lib.hid o8
            replace q8 := Lib.hid q8
            replace e8 := Lib.hid e8
            clear hrc CM SM f8 hW8
            go_wp2_with fail
            go_loopg [114] lk (fun gi v114 wz => ∃ (i : Nat) (SL : List (Int × Bool)), i + gi = lk ∧ v114 = .int .i64 i ∧ Hid (CrL w wz gS col' (2 * (k + 1)) X' mT T') ∧ Hid (SeL wz mS X'.K i SL) ∧ Hid (Fr (onlyB mS) w8 wz))
            case atStart => exact ⟨0, [], Nat.zero_add _, rfl, C8, S8, Lib.hid (Fr.refl _ _)⟩
            case round =>
              clear C8 S8
              obtain ⟨wz, rfl⟩ : ∃ wz : World, wz = wr := ⟨_, rfl⟩
              obtain ⟨gi, rfl⟩ : ∃ gi : Nat, gi = gk := ⟨_, rfl⟩
              obtain ⟨i, SL, hi, rfl, hC, hS, fz⟩ := hrel
              have hrowm : ∀ q, onlyB mS q → q < W8 := fun q e => by unfold onlyB at e; have := hlt8.out; omega
              by_cases hil : i < lk
              · obtain ⟨r, hr⟩ : ∃ r, X'.K[i]? = some r := ⟨_, List.getElem?_eq_getElem (by rw [hlk.out]; exact hil)⟩
                obtain ⟨q, hq, hqx⟩ : ∃ q, Q8[i]? = some q ∧ q.x = r := by
                  have h1 := hr
                  rw [← e8.out, List.getElem?_map] at h1
                  cases h2 : Q8[i]? with
                  | none => rw [h2] at h1; cases h1
                  | some q => rw [h2] at h1; injection h1 with h1; exact ⟨q, rfl, h1⟩
                have ow := ownsRow_fr o8.out fz.out (fun g hg e => by have := (o8.out.lt g hg).1; have := hrowm g e; omega)
                obtain ⟨rg, rc', hsl, _⟩ := ownsRow_some ow (by omega)
                obtain ⟨rfl, rfl⟩ : a8 = some ⟨rg, 0, none⟩ ∧ c8 = rc' := by injection hsl with h1 _ h2; exact ⟨h1, h2⟩
                have p0 := own_cellQ ow hq (q := 0) rfl
                have p1 := own_cellQ ow hq (q := 1) rfl
                have p2 := own_cellQ ow hq (q := 2) rfl
                have p3 := own_cellQ ow hq (q := 3) rfl
                have p4 := own_cellQ ow hq (q := 4) rfl
                rw [Nat.add_zero] at p0
                have hqm := List.mem_of_getElem? hq
                have okr := hokX.out r (List.mem_of_getElem? hr)
                have rd := ((q8.out q hqm).fr fz.out (fun g hg e => by have := ((q8.out q hqm).r.lt g hg).1; have := hrowm g e; omega) (fun u hu g hg e => by have := ((q8.out q hqm).s.lt hu hg).1; have := hrowm g e; omega)).rd (by rw [hqx]; have := (rc_ok okr.1).n; omega)
                obtain ⟨xa, xn, xc, hxv⟩ : ∃ a n c, q.v = .slice a n c := ⟨_, _, _, rfl⟩
                rw [hqx] at p0 p1 p2 p3 rd
                rw [hxv] at p4 rd
                have okj := okI_jb okr
                have hnot := jbs_not hnd.out hr
                have hlook : look SL r.jb = none := by rw [hS.out.l, if_neg hnot]
                have hri := fun w' (f : Fr noB wz w') => rright16_any r (.slice xa xn xc) w' (rd.frN f) okr.1
                unfold rcV at hri
                have hnx := fun w' m => SeL.next (w' := w') (r := r) hS.out hr m
                obtain ⟨rt, hrt⟩ : ∃ x, r.tr = x := ⟨_, rfl⟩
                obtain ⟨rj, hrj⟩ : ∃ x, r.jb = x := ⟨_, rfl⟩
                obtain ⟨rcl, hrcl⟩ : ∃ x, r.cl = x := ⟨_, rfl⟩
                obtain ⟨rw', hrw⟩ : ∃ x, r.wh = x := ⟨_, rfl⟩
                rw [hrt] at p0
                rw [hrj] at p1 okj hlook hnx
                rw [hrcl] at p2
                rw [hrw] at p3
                rw [hrt, hrj, hrcl, hrw] at hri
                have j1 : (i : Int) < lk := by omega
                have j0 : (0 : Int) ≤ i := by omega
                have ji := Lib.hid (show i + 1 + (lk - (i + 1)) = lk by omega)
                have jm := Lib.hid (show lk - (i + 1) < gi by omega)
                have js := Lib.hid (num_sucs i (by have := hlk6.out; omega))
                have fx := (Fr.refl noB wz).alloc (.cells #[.int .i64 rt, .int .i64 rj, .int .i64 rcl, .bool rw', .slice xa xn xc] 63)
                have bx := Blk.new wz 63 [.int .i64 rt, .int .i64 rj, .int .i64 rcl, .bool rw', .slice xa xn xc]
                obtain ⟨cb, hcb⟩ : ∃ cb, wz.heap.size = cb := ⟨_, rfl⟩
                rw [hcb] at bx
                have hSx := hS.out.m.fr fx (fun q => q)
                have hlb := look_bool hSx rj okj
                rw [hlook] at hlb
                have hri2 := hri _ fx
                have hcbm := Lib.hid (show mS < cb by rw [← hcb]; exact hS.out.m.lt)
                have hSn := Lib.hid hS.out.n
                replace hSx := Lib.hid hSx
                replace hri2 := Lib.hid hri2
                replace hnx := Lib.hid hnx
                replace fx := Lib.hid fx
                replace bx := Lib.hid bx
                replace hcb := Lib.hid hcb
                clear ow hsl hq hqx hqm okr rd hxv hnot hlook hri hrt hrj hrcl hrw hr hi hS hrowm
                go_upto_region 35 with fail
                try rw [hcb.out]
                generalize (wz.alloc (.cells #[.int .i64 rt, .int .i64 rj, .int .i64 rcl, .bool rw', .slice xa xn xc] 63)) = wx at *
                clear p0 p1 p2 p3 p4
                have y0 : wx.cell? ⟨cb, 0, none⟩ = some (.int .i64 rt) := bx.out.cell 0
                have y1 : wx.cell? ⟨cb, 1, none⟩ = some (.int .i64 rj) := bx.out.cell 1
                have y2 : wx.cell? ⟨cb, 2, none⟩ = some (.int .i64 rcl) := bx.out.cell 2
                have y3 : wx.cell? ⟨cb, 3, none⟩ = some (.bool rw') := bx.out.cell 3
                have y4 : wx.cell? ⟨cb, 4, none⟩ = some (.slice xa xn xc) := bx.out.cell 4
                replace hlb : (Instr.lookup 59 (.map (some mS)) (.int .i64 rj) false).run Tryz.prog wx = .ok (.bool false) wx := hlb
                go_wp2_with fail
                go_fit hri2.out
                rintro e w9 ⟨rfl, f9⟩
                have b9 := f9.blk bx.out (fun q => q)
                have y1' : w9.cell? ⟨cb, 1, none⟩ = some (.int .i64 rj) := b9.cell 1
                have hM9 := hSx.out.fr f9 (fun q => q)
                have fz9 := fx.out.seqN f9
                have hSL6 : SL.length < maxLen := by have h1 := hSn.out; have h2 := hlk6.out; unfold maxLen; omega
                replace fz9 := Lib.hid fz9
                replace hSL6 := Lib.hid hSL6
                clear y0 y1 y2 y3 y4 hlb hri2 f9 b9 hSx
                go_wp2_with (first
                  | (at_mapUpdate; go_must (refine wpList_put_mp _ rfl _ _ _ 59 rfl KI' Tryz.underlying59 mkT_inj hM9 hSL6.out rj true okj rfl rfl rfl ?_); intro wq mq fq)
                  | fail)
                have C9 := Lib.hid ((hC.out.frN fz9.out).frS fq (fun q e => by unfold onlyB at e; rw [e]; exact hmSf.out))
                have S9 := Lib.hid (hnx.out _ mq)
                have F9 : Hid (Fr (onlyB mS) w8 wq) := Lib.hid ((fz.out.seqN fz9.out).trans fq (fun _ _ q => q) (fun _ _ q => q))
                clear hM9 mq fq y1' fz9 hnx
                go_wp2_with fail
                go_roundg (lk - (i + 1))
                case rel => exact ⟨i + 1, _, ji.out, by first | exact js.out | rfl, C9, S9, F9⟩
                case measure => exact jm.out
              · obtain rfl : i = lk := by omega
                have hMT := hC.out.m
                have hTK := hC.out.t
                have hSall : ∀ j, j ∈ jbs X'.K → look SL j = some true := fun j hj => by
                  rw [hS.out.l j, List.take_of_length_le (by rw [hlk.out]; exact Nat.le_refl _), if_pos hj]
                have hlTr : mT < wz.heap.size := hMT.lt
                have hlSr : mS < wz.heap.size := hS.out.m.lt
                have hlow := hC.out.s.low
                have hww := hC.out.s.f.size
                replace hSall := Lib.hid hSall
                replace hTK := Lib.hid hTK
                replace hlow := Lib.hid hlow
                replace hlTr := Lib.hid hlTr
                replace hlSr := Lib.hid hlSr
                replace hww := Lib.hid hww
                go_wp2_with (first
                  | (at_range; refine wpList_range_mp _ rfl _ 59 rfl KI' Tryz.underlying59 hMT rfl ?_; intro wR rR fR sR)
                  | fail)
                (try go_frame)
                obtain ⟨rr, hrr⟩ : ∃ rr, wz.heap.size = rr := ⟨_, rfl⟩
                rw [hrr] at rR hlTr hlSr hlow hww ⊢
                replace hrr := Lib.hid hrr
                have fR2 : Fr (fun z => rr ≤ z) wz wR := fR.mono (fun _ _ z => False.elim z)
                go_loopg [] (wR.rangeLeft mT rr) (fun gq wq => (∃ td, Rg Tryz.prog 3 klI mkT wq mT rr T'.length T' td) ∧ wq.rangeLeft mT rr ≤ gq ∧ Fr (fun z => rr ≤ z) wz wq)
                case atStart => exact ⟨⟨_, rR⟩, Nat.le_refl _, fR2⟩
                case round =>
                  clear rR fR sR fR2 hMT
                  obtain ⟨wq, rfl⟩ : ∃ wq : World, wq = wr := ⟨_, rfl⟩
                  obtain ⟨gq, rfl⟩ : ∃ gq : Nat, gq = gk := ⟨_, rfl⟩
                  obtain ⟨⟨td, rg⟩, hgq, fq⟩ := hrel
                  have C9 := Lib.hid (hC.out.frS fq (fun q e => ⟨Classical.byContradiction fun e2 => by have := hlow.out q e2; omega, by have := hlTr.out; omega, by have := hww.out; omega⟩))
                  go_wp2_with (first
                    | (at_next; refine wpList_next_rg _ rfl rfl rfl _ rfl KI' Tryz.underlying3 mkT_inj rg rfl ?_ ?_)
                    | fail)
                  · intro htd
                    clear rg fq htd hgq
                    go_wp2_with fail
                    go_roundg (n - (k + 1))
                    case rel => exact ⟨k + 1, col', X', T', hkn2.out, by first | exact hsu.out | rfl, C9⟩
                    case measure => exact hmeas.out
                  · intro x'
                    refine ⟨?_, ?_⟩
                    all_goals (
                      intro wb hwx hmx rb hltb fb sb2 hen
                      have hmem := rg_sub rg _ hmx
                      have fr9 : Fr (fun z => rr ≤ z) wz wb := fq.trans fb (fun _ _ z => z) (fun z hz e => by unfold onlyB at e; omega)
                      have hlb := look_bool (hS.out.m.fr fr9 (fun e => by have := hlSr.out; omega)) x' hwx
                      rw [hSall.out x' (hTK.out _ hmem)] at hlb
                      replace hlb : (Instr.lookup 59 (.map (some mS)) (.int .i64 x') false).run Tryz.prog wb = .ok (.bool true) wb := hlb
                      unfold mkT at hen
                      replace fr9 := Lib.hid fr9
                      replace rb := Lib.hid rb
                      have hm9 := Lib.hid (show wb.rangeLeft mT rr < gq by omega)
                      clear rg fq fb hmx hmem hltb sb2 hgq C9 hwx
                      go_wp2_with fail
                      go_roundg (wb.rangeLeft mT rr)
                      case rel => exact ⟨⟨_, rb.out⟩, Nat.le_refl _, fr9.out⟩
                      case measure => exact hm9.out)
    · obtain rfl : k = n := by omega
      have z1 := scrash_nil 1 wr
      have fin := Lib.hid hI.out.s.f
      have z2 := fun v w => shear_nil v w
      have z3 := fun w => stick_nil w
      have z4 := fun w => records_nil w
      have z5 := fun w => query_nil 0 (-1) w
      have z6 := fun w => pending_nil w
      have z7 := fun w => refused_nil w
      replace z1 := Lib.hid z1
      replace z2 := Lib.hid z2
      replace z3 := Lib.hid z3
      replace z4 := Lib.hid z4
      replace z5 := Lib.hid z5
      replace z6 := Lib.hid z6
      replace z7 := Lib.hid z7
      go_wp2_with fail
      go_fit z1.out
      rintro e wq ⟨rfl, hw⟩
      obtain rfl := hw.symm
      clear hw z1
      go_wp2_with fail
      go_fit (z2.out _ _)
      rintro e wq ⟨rfl, hw⟩
      obtain rfl := hw.symm
      clear hw z2
      go_wp2_with fail
      go_fit (z3.out _)
      rintro e wq ⟨rfl, hw⟩
      obtain rfl := hw.symm
      clear hw z3
      go_wp2_with fail
      go_fit (z4.out _)
      rintro e wq ⟨rfl, hw⟩
      obtain rfl := hw.symm
      clear hw z4
      go_wp2_with fail
      go_fit (z5.out _)
      rintro e w9 ⟨rfl, f9⟩
      have fin9 := Lib.hid (fin.out.seqN f9)
      clear z5 f9
      go_wp2_with fail
      go_fit (z6.out _)
      rintro e wq ⟨rfl, hw⟩
      obtain rfl := hw.symm
      clear hw z6
      go_wp2_with fail
      go_fit (z7.out _)
      rintro e wq ⟨rfl, hw⟩
      obtain rfl := hw.symm
      clear hw z7
      go_wp2_with fail
      go_ret
      exact ⟨rfl, fin9.out⟩
end Go.Proofs.YtdmhnoffejjpnaaGreatDoor
end
