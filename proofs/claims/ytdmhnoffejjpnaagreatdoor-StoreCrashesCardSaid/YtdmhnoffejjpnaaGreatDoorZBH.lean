/-
  store: what is asked for are those that are kept: the law walked.
  What the listed package-level variables give the walks.
-/
import Derived.Test.YtdmhnoffejjpnaaGreatDoorZBG
import Derived.Lib.MinMax
import Derived.Deep.DeepCutAuto
import Derived.Test.YtdmhnoffejjpnaaGreatDoorZAC
import Derived.Lib.LaidTab
import Derived.Lib.LaidU8
import Derived.LaidMore
import Derived.LaidLaws
import Derived.MakeChecks
import Derived.ProofKit
import Derived.OpenShut
import Derived.Stop.Joined
section
set_option linter.unusedVariables false
set_option linter.unusedSimpArgs false
set_option maxRecDepth 100000
namespace Go.Proofs.YtdmhnoffejjpnaaGreatDoor
open Go.RowKit Go Go.Maps Go.Lib

theorem filter_at {α : Type} (P : α → Bool) : ∀ (L : List α) (k : Nat) (x : α), L[k]? = some x → P x = true → (L.filter P)[((L.take k).filter P).length]? = some x
  | [], k, x, h, _ => by simp at h
  | y :: L, 0, x, h, hp => by simp at h; subst h; simp [hp]
  | y :: L, k + 1, x, h, hp => by
    have ih := filter_at P L k x (by simpa using h) hp
    rw [List.take_succ_cons, List.filter_cons, List.filter_cons]
    by_cases hy : P y = true
    · rw [if_pos hy, if_pos hy]; simpa using ih
    · rw [if_neg hy, if_neg hy]; exact ih
theorem filter_more {α : Type} (P : α → Bool) (L : List α) (k : Nat) (x : α) (h : L[k]? = some x) : ((L.take (k + 1)).filter P).length = ((L.take k).filter P).length + (if P x = true then 1 else 0) := by
  rw [List.take_add_one, h]
  show ((L.take k ++ [x]).filter P).length = _
  rw [List.filter_append, List.length_append]
  congr 1
  by_cases hp : P x = true <;> simp [hp]
theorem filter_sub {α : Type} (P Q : α → Bool) (h : ∀ x, P x = true → Q x = true) : ∀ L : List α, (L.filter P).length ≤ (L.filter Q).length
  | [] => Nat.le_refl _
  | x :: L => by
    have ih := filter_sub P Q h L
    rw [List.filter_cons, List.filter_cons]
    by_cases hp : P x = true
    · rw [if_pos hp, if_pos (h x hp)]; simp; exact ih
    · rw [if_neg hp]
      by_cases hq : Q x = true
      · rw [if_pos hq]; simp; omega
      · rw [if_neg hq]; exact ih
theorem gone_tr (tr cl : Int) (x : RC) : (!goneQ tr cl x) = true → (!goneQ tr (-1) x) = true := by unfold goneQ; cases h : (tr != 0 && x.tr != tr) <;> simp
theorem gone_cl (tr cl : Int) (x : RC) : (!goneQ tr cl x) = true → (!goneQ 0 cl x) = true := by unfold goneQ; cases h : (tr != 0 && x.tr != tr) <;> simp
theorem num_suc (c : Nat) (h : c ≤ 65536) : Value.int .i64 (wrap64 ((c : Int) + 1)) = Value.int .i64 ((c + 1 : Nat) : Int) := by rw [IntWalk.wrap64_in _ (by omega)]; rfl
theorem gone_eq (tr cl : Int) (r : RC) : (!goneQ tr cl r) = ((tr == 0 || r.tr == tr) && (cl == -1 || r.cl == cl)) := by
  unfold goneQ
  simp only [bne]
  cases h1 : (tr == 0) <;> cases h2 : (r.tr == tr) <;> cases h3 : (cl == -1) <;> cases h4 : (r.cl == cl) <;> rfl
/-- a message stays what it is while the store turns -/
theorem hm_keep {w wr w2 : World} {gS : Nat} {col : Nat → Tg} {n : Nat} {X : SS} {m : OpA} {v : Value} (h : StL w wr gS col n X) (hs : RdSp w (.slice m.sa m.sp.length m.sc) m.sp) (hmo : MsO w2 v m.ms) (hmb : MsB w2 wr.heap.size m v) (f : Fr noB wr w2) :
    ∀ w', Fr (fun q => col q ≠ tg0) w2 w' → MsO w' v m.ms := fun w' f' =>
  (hmb.keep (M0 := w.heap.size) hmo (hs.frN (h.f.seqN f)) (rdsp_lt hs) f' (fun g hg e => by
    have h1 := h.hi g e
    have h2 := h.low g e
    rcases hg with hg | hg <;> omega)).1
set_option maxHeartbeats 16000000 in
theorem queries_any (v : Value) (xs : List OpA) (tr cl : Int) (w : World) (hg : Gl w) (hv : SlR w v 9 (IsOpA w) xs) (wf1 : (Lit.int .i64 tr).wf = true) (wf2 : (Lit.int .i64 cl).wf = true) :
    Calls Tryz.prog 5 #[v, .int .i64 tr, .int .i64 cl] w fun e w' => e = .returned (.bool true) ∧ Fr noB w w' := by
  have hfew := fun w' (f : Fr noB w w') => few18_any v xs w w' (hv.frame f (fun _ _ q => q)) f
  obtain ⟨va, vc, rfl, hx1, hx2, hx3⟩ := hv
  unfold maxLen at hx2
  obtain ⟨n, hn⟩ : ∃ n, xs.length = n := ⟨_, rfl⟩
  rw [hn] at hx1 ⊢
  simp only [hn] at hfew
  have hnb : n ≤ 9223372036854775807 := by have := hx1.1; omega
  have hget : ∀ k, k < n → ∃ m, xs[k]? = some m := fun k hk => ⟨xs[k]'(by rw [hn]; exact hk), List.getElem?_eq_getElem _⟩
  have hok : fewA8 xs = true → n ≤ 150 ∧ ∀ m ∈ xs, m.xs.length ≤ 20 := fun h => by
    unfold fewA8 okOpA at h
    simp only [Bool.and_eq_true, List.all_eq_true, decide_eq_true_eq] at h
    exact ⟨by omega, fun m hm => (h.1 m hm).2.1⟩
  replace hn := Lib.hid hn
  replace hx3 := Lib.hid hx3
  replace hfew := Lib.hid hfew
  replace hget := Lib.hid hget
  replace wf1 := Lib.hid wf1
  replace wf2 := Lib.hid wf2
  go_enter Tryz.func5, Tryz.ntmps5
  go_wp2_with fail
  go_fit (awake18_any w hg)
  rintro e w2 ⟨rfl, g2⟩
  have hf2 := hfew.out w2 g2
  generalize fewA8 xs = fw at *
  cases fw
  · clear hok
    go_wp2_with fail
    go_fit hf2
    rintro e w3 ⟨rfl, f3⟩
    have g3 := g2.seqN f3
    clear f3 hf2 g2
    go_wp2_with fail
    go_fit (awake18_any w3 (hg.fr g3))
    rintro e w4 ⟨rfl, f4⟩
    have g4 := g3.seqN f4
    clear f4 g3
    go_wp2_with fail
    go_ret
    exact ⟨rfl, g4⟩
  obtain ⟨hn150, hxs20⟩ := hok rfl
  replace hxs20 := Lib.hid hxs20
  clear hok
  go_wp2_with fail
  go_fit hf2
  rintro e w3 ⟨rfl, f3⟩
  have g3 := g2.seqN f3
  clear f3 hf2 g2 hfew
  go_wp2_with fail
  go_fit (snew_l w3)
  rintro e w4 ⟨gS, col0, rfl, h4⟩
  have H4 : StL w w4 gS col0 0 SS.zero := ⟨h4.s, fun q hq => Nat.le_trans g3.size (h4.hi q hq), g3.seqN h4.f⟩
  replace H4 := Lib.hid H4
  clear h4 g3
  go_wp2_with fail
  go_loopg [30] n (fun gk i wr => ∃ (k : Nat) (col : Nat → Tg) (X : SS), k + gk = n ∧ i = .int .i64 k ∧ Hid (StL w wr gS col (2 * k) X))
  case atStart => exact ⟨0, _, _, Nat.zero_add _, rfl, H4⟩
  case round =>
    clear H4
    obtain ⟨k, col, X, hk, rfl, hI⟩ := hrel
    by_cases hlt : k < n
    · obtain ⟨x, hx⟩ := hget.out k hlt
      obtain ⟨g', o', cs', rfl, _, ⟨rfl, hsp, hri, _⟩, hc⟩ := hx3.out k x hx
      have h20 := hxs20.out x (List.mem_of_getElem? hx)
      have fr := hI.out.f
      have c0 := fr.cell (hc 0 _ rfl) (fun q => q)
      have c1 := fr.cell (hc 1 _ rfl) (fun q => q)
      have c2 := fr.cell (hc 2 _ rfl) (fun q => q)
      have c3 := fr.cell (hc 3 _ rfl) (fun q => q)
      have c4 := fr.cell (hc 4 _ rfl) (fun q => q)
      have c5 := fr.cell (hc 5 _ rfl) (fun q => q)
      have c6 := fr.cell (hc 6 _ rfl) (fun q => q)
      have c7 := fr.cell (hc 7 _ rfl) (fun q => q)
      have c8 := fr.cell (hc 8 _ rfl) (fun q => q)
      rw [Nat.add_zero] at c0
      simp only [← Nat.add_assoc] at c1 c2 c3 c4 c5 c6 c7 c8
      have hb1 : (k : Int) < n := by omega
      have hmeas : n - (k + 1) < gk := by omega
      have hkn2 : k + 1 + (n - (k + 1)) = n := by omega
      have hk150 : k < 150 := by omega
      have fA : Fr noB wr (wr.alloc (.cells (opaC x).toArray 32)) := (Fr.refl _ _).alloc _
      have hA := hI.out.frN fA
      have hmsg := messageC_any x (wr.alloc (.cells (opaC x).toArray 32)) (hsp.frN (fr.seqN fA)) (hri.frN (fr.seqN fA)) h20
      unfold opaC at hmsg fA hA
      replace hmsg := Lib.hid hmsg
      replace hmeas := Lib.hid hmeas
      replace hkn2 := Lib.hid hkn2
      replace hsp := Lib.hid hsp
      replace hk150 := Lib.hid hk150
      replace hA := Lib.hid hA
      replace hx := Lib.hid hx
      clear hc hri hk fr fA hI h20
      go_wp2_with fail
      go_fit hmsg.out
      rintro e w7 ⟨mv, rfl, hmo, hmb, f7⟩
      have h7 := hA.out.frN f7
      have hkeep := hm_keep hA.out hsp.out hmo hmb f7
      have hh := shearO_l h7 hg (by have := hk150.out; omega) hkeep
      replace hh := Lib.hid hh
      clear c0 c1 c2 c3 c4 c5 c6 c7 c8 hmsg hmo hmb f7 h7 hkeep hA
      go_wp2_with fail
      go_fit hh.out
      rintro e w8 ⟨v8, col8, rfl, h8, _, _⟩
      have h8' : StL w w8 gS col8 (2 * (k + 1)) (X.hearO x.ms) := by rw [show 2 * (k + 1) = 2 * k + 2 by omega]; exact h8
      replace h8' := Lib.hid h8'
      clear h8 hh
      go_wp2_with fail
      go_roundg (n - (k + 1))
      case rel => exact ⟨k + 1, col8, _, hkn2.out, by go_num, h8'⟩
      case measure => exact hmeas.out
    · obtain rfl : k = n := by omega
      have ht := stick_l hI.out
      replace ht := Lib.hid ht
      go_wp2_with fail
      go_fit ht.out
      rintro e w5 ⟨v5, col5, rfl, h5, _, _⟩
      obtain ⟨Y, hY⟩ : ∃ Y, X.tick = Y := ⟨_, rfl⟩
      have hYw : Y.Wn.length = 0 := by rw [← hY]; rfl
      rw [hY] at h5
      have hKl := (wn_len h5.inv).2
      have hokK : ∀ r ∈ Y.K, r.ps.length ≤ 100000 := fun r hr => by
        have := (rc_ok (h5.inv.ok r (List.mem_append.2 (Or.inl hr))).1).n
        omega
      have y1 := squery_l tr (-1) h5 hg
      replace y1 := Lib.hid y1
      have H5 := Lib.hid h5
      clear ht hI h5 hY
      obtain ⟨la, hla⟩ : ∃ q, (Y.K.filter fun x => !goneQ tr (-1) x).length = q := ⟨_, rfl⟩
      obtain ⟨lb, hlb⟩ : ∃ q, (Y.K.filter fun x => !goneQ 0 cl x).length = q := ⟨_, rfl⟩
      obtain ⟨lc, hlc⟩ : ∃ q, (Y.K.filter fun x => !goneQ tr cl x).length = q := ⟨_, rfl⟩
      obtain ⟨lk, hlk⟩ : ∃ q, Y.K.length = q := ⟨_, rfl⟩
      have i1 : lc ≤ la := by rw [← hla, ← hlc]; exact filter_sub _ _ (gone_tr tr cl) _
      have i2 : lc ≤ lb := by rw [← hlb, ← hlc]; exact filter_sub _ _ (gone_cl tr cl) _
      have i3 : la ≤ lk := by rw [← hla, ← hlk]; exact List.length_filter_le _ _
      rw [hlk] at hKl
      have i4 : la ≤ 65536 := by omega
      have i5 : lb ≤ lk := by rw [← hlb, ← hlk]; exact List.length_filter_le _ _
      rw [hla] at y1
      have hii := Lib.hid (⟨i1, i2, i3, i4, i5, hKl⟩ : lc ≤ la ∧ lc ≤ lb ∧ la ≤ lk ∧ la ≤ 65536 ∧ lb ≤ lk ∧ lk ≤ 65536)
      clear i1 i2 i3 i4 i5 hKl
      replace hla := Lib.hid hla
      replace hlb := Lib.hid hlb
      replace hlc := Lib.hid hlc
      replace hlk := Lib.hid hlk
      replace hokK := Lib.hid hokK
      replace hYw := Lib.hid hYw
      go_wp2_with fail
      go_fit y1.out
      rintro e w6 ⟨a6, c6, Q6, rfl, _, _, _, f6⟩
      have h6 := H5.out.frN f6
      have y2 := squery_l 0 cl h6 hg
      rw [hlb.out] at y2
      replace y2 := Lib.hid y2
      replace h6 := Lib.hid h6
      clear y1 H5 f6
      go_wp2_with fail
      go_fit y2.out
      rintro e w7 ⟨a7, c7, Q7, rfl, _, _, _, f7⟩
      have h7 := h6.out.frN f7
      have y3 := squery_l tr cl h7 hg
      rw [hlc.out] at y3
      replace y3 := Lib.hid y3
      replace h7 := Lib.hid h7
      clear y2 h6 f7
      go_wp2_with fail
      go_fit y3.out
      rintro e w8 ⟨a8, c8, Q8, rfl, o8, q8, e8, f8⟩
      have h8 := h7.out.frN f8
      have y4 := srecords_l h8 hg
      rw [hlk.out] at y4
      replace y4 := Lib.hid y4
      replace h8 := Lib.hid h8
      replace o8 := Lib.hid o8
      replace q8 := Lib.hid q8
      replace e8 := Lib.hid e8
      clear y3 h7 f8
      go_wp2_with fail
      go_fit y4.out
      rintro e w9 ⟨a9, c9, Q9, rfl, o9, q9, e9, f9⟩
      have h9 := h8.out.frN f9
      have o89 := ownsRow_fr o8.out f9 (fun _ _ q => q)
      have q89 := q8.out.frN f9
      replace o9 := Lib.hid o9
      replace q9 := Lib.hid q9
      replace e9 := Lib.hid e9
      replace o89 := Lib.hid o89
      replace q89 := Lib.hid q89
      replace h9 := Lib.hid h9
      clear y4 h8 o8 q8 f9
      obtain ⟨PP, hPP⟩ : ∃ PP : RC → Bool, (fun x => !goneQ tr cl x) = PP := ⟨_, rfl⟩
      rw [hPP] at e8
      have hlc2 : Hid ((Y.K.filter PP).length = lc) := Lib.hid (by rw [← hPP]; exact hlc.out)
      replace hPP := Lib.hid hPP
      have hlk6 := Lib.hid (hii.out.2.2.2.2.2)
      go_wp2_with fail
      go_loopg [14, 55] lk (fun gk v14 v55 wr => ∃ i : Nat, i + gk = lk ∧ v14 = .int .i64 (((Y.K.take i).filter PP).length : Int) ∧ v55 = .int .i64 i ∧ Fr noB w9 wr)
      case atStart => exact ⟨0, Nat.zero_add _, rfl, rfl, Fr.refl _ _⟩
      case round =>
        obtain ⟨i, hik, rfl, rfl, fr⟩ := hrel
        by_cases hlt2 : i < lk
        · obtain ⟨r, hr⟩ : ∃ r, Y.K[i]? = some r := ⟨_, List.getElem?_eq_getElem (by rw [hlk.out]; exact hlt2)⟩
          obtain ⟨q, hq, hqx⟩ : ∃ q, Q9[i]? = some q ∧ q.x = r := by
            have h1 := hr
            rw [← e9.out, List.getElem?_map] at h1
            cases h2 : Q9[i]? with
            | none => rw [h2] at h1; cases h1
            | some q => rw [h2] at h1; injection h1 with h1; exact ⟨q, rfl, h1⟩
          have ow := ownsRow_fr o9.out fr (fun _ _ q => q)
          obtain ⟨rg, rc', hsl, _⟩ := ownsRow_some ow (by omega)
          obtain ⟨rfl, rfl⟩ : a9 = some ⟨rg, 0, none⟩ ∧ c9 = rc' := by injection hsl with h1 _ h2; exact ⟨h1, h2⟩
          have e0 := own_cellQ ow hq (q := 0) rfl
          have e1 := own_cellQ ow hq (q := 1) rfl
          have e2 := own_cellQ ow hq (q := 2) rfl
          have e3 := own_cellQ ow hq (q := 3) rfl
          have e4 := own_cellQ ow hq (q := 4) rfl
          rw [Nat.add_zero] at e0
          have hps : q.x.ps.length ≤ 100000 := by rw [hqx]; exact hokK.out r (List.mem_of_getElem? hr)
          have rp1 := ((q9.out q (List.mem_of_getElem? hq)).frN fr).rp hps
          obtain ⟨qa, qn, qc, hqv⟩ : ∃ a n c, q.v = .slice a n c := ⟨_, _, _, rfl⟩
          rw [hqx] at e0 e1 e2 e3 rp1
          rw [hqv] at e4 rp1
          have hmore := filter_more PP Y.K i r hr
          have hat := filter_at PP Y.K i r hr
          obtain ⟨c, hc⟩ : ∃ c, ((Y.K.take i).filter PP).length = c := ⟨_, rfl⟩
          rw [hc] at hmore hat
          have hcb : c ≤ i := by rw [← hc]; exact Nat.le_trans (List.length_filter_le _ _) (List.length_take_le _ _)
          have hP : PP r = ((tr == 0 || r.tr == tr) && (cl == -1 || r.cl == cl)) := by
            rw [← hPP.out]
            exact gone_eq tr cl r
          have hkn2 : i + 1 + (lk - (i + 1)) = lk := by omega
          have hmeas : lk - (i + 1) < gk := by omega
          have hb1 : (i : Int) < lk := by omega
          have h0 : (0 : Int) ≤ i := by omega
          have hi6 := Lib.hid (show i ≤ 65536 by have := hlk6.out; omega)
          have hw1i := Lib.hid (num_suc i (by have := hlk6.out; omega))
          replace hcb := Lib.hid hcb
          obtain ⟨rt, hrt⟩ : ∃ x, r.tr = x := ⟨_, rfl⟩
          obtain ⟨rj, hrj⟩ : ∃ x, r.jb = x := ⟨_, rfl⟩
          obtain ⟨rcl, hrcl⟩ : ∃ x, r.cl = x := ⟨_, rfl⟩
          obtain ⟨rw', hrw⟩ : ∃ x, r.wh = x := ⟨_, rfl⟩
          have hrx : r.tr = rt ∧ r.jb = rj ∧ r.cl = rcl ∧ r.wh = rw' := ⟨hrt, hrj, hrcl, hrw⟩
          rw [hrt] at e0 hP
          rw [hrj] at e1
          rw [hrcl] at e2 hP
          rw [hrw] at e3
          have fx := (Fr.refl noB wr).alloc (.cells #[.int .i64 rt, .int .i64 rj, .int .i64 rcl, .bool rw', .slice qa qn qc] 63)
          have bx := Blk.new wr 63 [.int .i64 rt, .int .i64 rj, .int .i64 rcl, .bool rw', .slice qa qn qc]
          obtain ⟨cb, hcb'⟩ : ∃ cb, wr.heap.size = cb := ⟨_, rfl⟩
          rw [hcb'] at bx
          have rp2 := rp1.frN fx
          have fr2 := fr.seqN fx
          rw [hc]
          replace hP := Lib.hid hP
          replace hmore := Lib.hid hmore
          replace hat := Lib.hid hat
          replace rp2 := Lib.hid rp2
          replace fr2 := Lib.hid fr2
          replace hkn2 := Lib.hid hkn2
          replace hmeas := Lib.hid hmeas
          replace bx := Lib.hid bx
          replace hcb' := Lib.hid hcb'
          replace hr := Lib.hid hr
          replace hrx := Lib.hid hrx
          clear ow hq hqx hqv hrt hrj hrcl hrw rp1 fx fr hsl hps
          go_upto_region 16 with fail
          try rw [hcb'.out]
          generalize (wr.alloc (.cells #[.int .i64 rt, .int .i64 rj, .int .i64 rcl, .bool rw', .slice qa qn qc] 63)) = wx at *
          clear e0 e1 e2 e3 e4
          go_cut [17, 18] (fun v17 v18 wy => v17 = .bool (tr == 0 || rt == tr) ∧ v18 = .bool (cl == -1 || rcl == cl) ∧ Fr noB wx wy)
          case first =>
            have p0 : wx.cell? ⟨cb, 0, none⟩ = some (.int .i64 rt) := bx.out.cell 0
            have p2 : wx.cell? ⟨cb, 2, none⟩ = some (.int .i64 rcl) := bx.out.cell 2
            obtain ⟨b1, hb1'⟩ : ∃ b, (tr == 0) = b := ⟨_, rfl⟩
            obtain ⟨b2, hb2'⟩ : ∃ b, (rt == tr) = b := ⟨_, rfl⟩
            obtain ⟨b3, hb3'⟩ : ∃ b, (cl == -1) = b := ⟨_, rfl⟩
            obtain ⟨b4, hb4'⟩ : ∃ b, (rcl == cl) = b := ⟨_, rfl⟩
            have hd1 : decide (tr = 0) = b1 := by rw [← hb1']; rfl
            have hd2 : decide (rt = tr) = b2 := by rw [← hb2']; rfl
            have hd3 : decide (cl = -1) = b3 := by rw [← hb3']; rfl
            have hd4 : decide (rcl = cl) = b4 := by rw [← hb4']; rfl
            cases b1 <;> cases b3
            all_goals (
              go_quiet (fail)
              go_wp2_with fail
              go_meet
              exact ⟨by rw [hb1', hb2']; rfl, by rw [hb3', hb4']; rfl, (Fr.refl noB wx).drewN _⟩)
          case rest =>
            obtain ⟨rfl, rfl, fy⟩ := hcut
            obtain ⟨bX, hX⟩ : ∃ b, (tr == 0 || rt == tr) = b := ⟨_, rfl⟩
            obtain ⟨bY, hYb⟩ : ∃ b, (cl == -1 || rcl == cl) = b := ⟨_, rfl⟩
            have hPb : PP r = (bX && bY) := by rw [hP.out, hX, hYb]
            rw [hX, hYb]
            have fr3 := fr2.out.seqN fy
            replace hX := Lib.hid hX
            replace hYb := Lib.hid hYb
            replace fr3 := Lib.hid fr3
            by_cases hboth : (bX && bY) = true
            · obtain ⟨rfl, rfl⟩ : bX = true ∧ bY = true := by simpa using hboth
              have hPt : PP r = true := hPb
              have h8 := hat.out hPt
              have hclt : c < lc := by rw [← hlc2.out]; exact (List.getElem?_eq_some_iff.1 h8).1
              obtain ⟨q', hq', hqx'⟩ : ∃ q, Q8[c]? = some q ∧ q.x = r := by
                rw [← e8.out, List.getElem?_map] at h8
                cases h2 : Q8[c]? with
                | none => rw [h2] at h8; cases h8
                | some q => rw [h2] at h8; injection h8 with h8; exact ⟨q, rfl, h8⟩
              have ow := ownsRow_fr o89.out fr3.out (fun _ _ q => q)
              obtain ⟨sg, sc', hsl, _⟩ := ownsRow_some ow (by omega)
              obtain ⟨rfl, rfl⟩ : a8 = some ⟨sg, 0, none⟩ ∧ c8 = sc' := by injection hsl with h1 _ h2; exact ⟨h1, h2⟩
              have d0 := own_cellQ ow hq' (q := 0) rfl
              have d1 := own_cellQ ow hq' (q := 1) rfl
              have d2 := own_cellQ ow hq' (q := 2) rfl
              have d3 := own_cellQ ow hq' (q := 3) rfl
              have d4 := own_cellQ ow hq' (q := 4) rfl
              rw [Nat.add_zero] at d0
              have rp3 := ((q89.out q' (List.mem_of_getElem? hq')).frN fr3.out).rp (by rw [hqx']; exact hokK.out r (List.mem_of_getElem? hr.out))
              obtain ⟨sa, sn, sc, hqv'⟩ : ∃ a n c, q'.v = .slice a n c := ⟨_, _, _, rfl⟩
              rw [hqx'] at d0 d1 d2 d3 rp3
              rw [hqv'] at d4 rp3
              have rp4 := rp2.out.frN fy
              have hsame := fun w' (f : Fr noB wc w') => same_rc r (.slice sa sn sc) (.slice qa qn qc) w' (rp3.frN f) (rp4.frN f)
              have bxc := fy.blk bx.out (fun q => q)
              have hrr : r.tr = rt ∧ r.jb = rj ∧ r.cl = rcl ∧ r.wh = rw' := hrx.out
              unfold rcV at hsame
              rw [hrr.1, hrr.2.1, hrr.2.2.1, hrr.2.2.2] at hsame
              rw [hrr.1] at d0
              rw [hrr.2.1] at d1
              rw [hrr.2.2.1] at d2
              rw [hrr.2.2.2] at d3
              have hS : ∀ w', Fr noB wc w' → (w'.cell? ⟨sg, c * 5, none⟩ = some (.int .i64 rt) ∧ w'.cell? ⟨sg, c * 5 + 1, none⟩ = some (.int .i64 rj) ∧ w'.cell? ⟨sg, c * 5 + 2, none⟩ = some (.int .i64 rcl) ∧ w'.cell? ⟨sg, c * 5 + 3, none⟩ = some (.bool rw') ∧ w'.cell? ⟨sg, c * 5 + 4, none⟩ = some (.slice sa sn sc)) ∧ (w'.cell? ⟨cb, 0, none⟩ = some (.int .i64 rt) ∧ w'.cell? ⟨cb, 1, none⟩ = some (.int .i64 rj) ∧ w'.cell? ⟨cb, 2, none⟩ = some (.int .i64 rcl) ∧ w'.cell? ⟨cb, 3, none⟩ = some (.bool rw') ∧ w'.cell? ⟨cb, 4, none⟩ = some (.slice qa qn qc)) := fun w' f =>
                ⟨⟨f.cell d0 (fun q => q), f.cell d1 (fun q => q), f.cell d2 (fun q => q), f.cell d3 (fun q => q), f.cell d4 (fun q => q)⟩, (f.blk bxc (fun q => q)).cell 0, (f.blk bxc (fun q => q)).cell 1, (f.blk bxc (fun q => q)).cell 2, (f.blk bxc (fun q => q)).cell 3, (f.blk bxc (fun q => q)).cell 4⟩
              have hcd : (c : Int) < lc := by omega
              have hcd2 : decide ((c : Int) ≥ lc) = false := by simp; omega
              have hcd3 : decide ((lc : Int) ≤ c) = false := by simp; omega
              have hcd4 : decide (lc ≤ c) = false := by simp; omega
              have hge : ∀ w : World, (binOp .geq 3 (.int .i64 (c : Int)) (.int .i64 (lc : Int))).run Tryz.prog w = .ok (.bool false) w := fun w => by simp [go_sem]; omega
              have hc0 : (0 : Int) ≤ c := by omega
              have hw1c := Lib.hid (num_suc c (by have h1 := hcb.out; have h2 := hi6.out; omega))
              replace hS := Lib.hid hS
              replace hsame := Lib.hid hsame
              have hm1 : ((Y.K.take (i + 1)).filter PP).length = c + 1 := by rw [hmore.out, if_pos hPt]
              replace hm1 := Lib.hid hm1
              clear ow hq' hqx' hqv' rp3 rp4 bxc d0 d1 d2 d3 d4 hsl h8 hPb hboth hPt hrr
              go_wp2_with fail
              go_region_held3 (fun w' => (w'.cell? ⟨sg, c * 5, none⟩ = some (.int .i64 rt) ∧ w'.cell? ⟨sg, c * 5 + 1, none⟩ = some (.int .i64 rj) ∧ w'.cell? ⟨sg, c * 5 + 2, none⟩ = some (.int .i64 rcl) ∧ w'.cell? ⟨sg, c * 5 + 3, none⟩ = some (.bool rw') ∧ w'.cell? ⟨sg, c * 5 + 4, none⟩ = some (.slice sa sn sc)) ∧ (w'.cell? ⟨cb, 0, none⟩ = some (.int .i64 rt) ∧ w'.cell? ⟨cb, 1, none⟩ = some (.int .i64 rj) ∧ w'.cell? ⟨cb, 2, none⟩ = some (.int .i64 rcl) ∧ w'.cell? ⟨cb, 3, none⟩ = some (.bool rw') ∧ w'.cell? ⟨cb, 4, none⟩ = some (.slice qa qn qc)))
                (first | exact hS.out _ z7 | exact hS.out _ ((Fr.refl noB _).drewN 1) | fail)
                (first
                  | (go_at_call 25; refine (hsame.out _ ((Fr.refl noB _).drewN 1)).mono ?_; rintro e wz ⟨rfl, z70⟩; have z7 := ((Fr.refl noB wc).drewN 1).seqN z70)
                  | fail)
              all_goals (
                have fr5 := fr3.out.seqN z7
                clear hcd hcd2 hcd3 hcd4 hge hc0 hclt
                go_wp2_with fail
                go_roundg (lk - (i + 1))
                case rel => exact ⟨i + 1, hkn2.out, by rw [hm1.out]; exact hw1c.out, hw1i.out, fr5⟩
                case measure => exact hmeas.out)
            · have hm0 : ((Y.K.take (i + 1)).filter PP).length = c := by rw [hmore.out, if_neg (by rw [hPb]; exact hboth)]; rfl
              replace hm0 := Lib.hid hm0
              cases bX <;> cases bY
              all_goals (first
                | (exfalso; exact hboth rfl)
                | (clear hboth hPb
                   go_wp2_with fail
                   go_roundg (lk - (i + 1))
                   case rel => exact ⟨i + 1, hkn2.out, by rw [hm0.out], hw1i.out, fr3.out⟩
                   case measure => exact hmeas.out))
        · obtain rfl : i = lk := by omega
          have htk : Y.K.take i = Y.K := List.take_of_length_le (by rw [hlk.out]; exact Nat.le_refl _)
          have hp := spending_l (h9.out.frN fr)
          rw [hYw.out] at hp
          have hfin := h9.out.f.seqN fr
          rw [htk, hlc2.out]
          obtain ⟨i1, i2, i3, i4, i5, _⟩ := hii.out
          have m1 : (lc : Int) ≤ la := by omega
          have m2 : (lc : Int) ≤ lb := by omega
          have m3 : (la : Int) ≤ i := by omega
          have hmn := @Go.Lib.run_min_ints Tryz.prog
          have hmin : decide ((lc : Int) ≤ min (la : Int) (lb : Int)) = true := by simp; omega
          have hmin2 : (lc : Int) ≤ min (la : Int) (lb : Int) := by omega
          replace hp := Lib.hid hp
          replace hfin := Lib.hid hfin
          go_wp2_with fail
          go_fit hp.out
          rintro e w12 ⟨rfl, hw⟩
          obtain rfl := hw.symm
          clear hw
          simp only [show ((0 : Nat) : Int) = 0 from rfl]
          go_wp2_with fail
          go_ret
          exact ⟨rfl, hfin.out⟩
end Go.Proofs.YtdmhnoffejjpnaaGreatDoor
end

section
set_option linter.unusedVariables false
set_option linter.unusedSimpArgs false
namespace Go.Proofs.YtdmhnoffejjpnaaGreatDoor
open Go.ChangeShapes Go.WideShapes Go.ChangeAt Go.RowKit Go

/-- the listed variables -/
def laidL : List (String × DataW Unit) := [("math/bits.deBruijn32tab", Rows.laid_math_bits_deBruijn32tab), ("math/bits.deBruijn64tab", Rows.laid_math_bits_deBruijn64tab), ("internal/strconv.uint64pow10", Rows.laid_internal_strconv_uint64pow10), ("strconv.ErrRange", Rows.laid_strconv_ErrRange), ("strconv.ErrSyntax", Rows.laid_strconv_ErrSyntax)]

/-- the heap that the door's own run leaves -/
noncomputable def doorW (os : Os) : World := World.doorLaid Tryz.prog 400 os
theorem door_met (os : Os) (args : Array Value) : laidMetH Tryz.prog laidL ((doorW os).forCall (fun _ _ => 0) ⟨#[], args, []⟩).memory :=
  laidMetH_of_parts3 (fuel := 8) (laidMet_of_run' 8 (by kernel_rfl) (by kernel_rfl)) (by kernel_rfl) (by kernel_rfl)

theorem err_cell {W : World} {n : String} {g : Nat} {nm : String} {d : DataW Unit} {ms : Array (String × TypeId)} (hg : Tryz.prog.globalNamed n = some g) (ht : (Tryz.prog.globals[g]?).map (·.type) = some 217) (hi : Tryz.prog.underlying 217 = some (.interface ms))
    (h : Go.Lib.VarReads Tryz.prog W n (.iface nm d)) : ∃ te pe, W.cell? ⟨g, 0, none⟩ = some (.iface te pe) := by
  obtain ⟨g', t', cs, fuel, p, hg', ht', hv, hd⟩ := h
  obtain rfl := Option.some.inj (hg.symm.trans hg')
  obtain rfl := Option.some.inj (ht.symm.trans ht')
  obtain ⟨f1, u, v, hcs, _, _⟩ := iface_of_trod hi hd
  refine ⟨u, v, ?_⟩
  have := World.var?_cell hg hv 0
  rw [this, ← Array.getElem?_toList, hcs]
  rfl

theorem gl_laid {W : World} (h : laidMetH Tryz.prog laidL W) : Gl W := by
  rw [MakeChecks.laidMetH_plain _ _ _ (by kernel_rfl)] at h
  refine ⟨?_, ?_, ?_⟩
  · exact err_cell (by kernel_rfl) (by kernel_rfl) Tryz.underlying217 (Go.Lib.laidMet.reads h (List.Mem.tail _ (List.Mem.tail _ (List.Mem.tail _ (List.Mem.tail _ (List.Mem.head _))))))
  · exact err_cell (by kernel_rfl) (by kernel_rfl) Tryz.underlying217 (Go.Lib.laidMet.reads h (List.Mem.tail _ (List.Mem.tail _ (List.Mem.tail _ (List.Mem.head _)))))
  · have hr : Go.Lib.VarReads Tryz.prog W "math/bits.deBruijn64tab" (Go.Lib.tabData .u8 [0, 1, 56, 2, 57, 49, 28, 3, 61, 58, 42, 50, 38, 29, 17, 4, 62, 47, 59, 36, 45, 43, 51, 22, 53, 39, 33, 30, 24, 18, 12, 5, 63, 55, 48, 27, 60, 41, 37, 16, 46, 35, 44, 21, 52, 32, 23, 11, 54, 26, 40, 15, 34, 20, 31, 10, 25, 14, 19, 9, 13, 8, 7, 6]) := Go.Lib.laidMet.reads h (List.Mem.tail _ (List.Mem.head _))
    obtain ⟨g', t', cs, fuel, p, hg', ht', hv, hd⟩ := hr
    obtain rfl := Option.some.inj ((show Tryz.prog.globalNamed "math/bits.deBruijn64tab" = some 5 by kernel_rfl).symm.trans hg')
    obtain rfl := Option.some.inj ((show (Tryz.prog.globals[5]?).map (·.type) = some 253 by kernel_rfl).symm.trans ht')
    have hcs := Go.Lib.cells_of_tab Tryz.underlying253 Tryz.underlying5 (by kernel_rfl) (by kernel_rfl) hd
    have := World.var?_cell hg' hv 15
    rw [this, ← Array.getElem?_toList, hcs]
    rfl
end Go.Proofs.YtdmhnoffejjpnaaGreatDoor
end
