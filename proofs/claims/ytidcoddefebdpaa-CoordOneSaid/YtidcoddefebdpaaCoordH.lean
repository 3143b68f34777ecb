/-
  The coordinator hears any message.
-/
import Derived.Test.YtidcoddefebdpaaCoordT
set_option linter.unusedVariables false
set_option linter.unusedSimpArgs false
set_option maxRecDepth 100000
set_option maxRecDepth 100000
namespace Go.Proofs.Ytidcoddefebdpaa
open Go.RowKit Go Go.Maps Go.Lib

/-- is it no Trigger? -/
def NoTr : Ms → Prop
  | .trigger _ _ _ => False
  | _ => True
theorem as_noTr {v : Value} {m : Ms} {w0 : World} (h : MsW w0 v m) (hm : NoTr m) : ∀ w, (Instr.typeAssert v 42 54 true).run Try.prog w = .ok (.tuple #[.agg #[.int .i64 0, .int .i64 0, .int .i64 0], .bool false]) w := by
  intro w
  cases m with
  | trigger a t c => exact hm.elim
  | pin t j => obtain rfl := h; exact as_Pin_Trigger _ w
  | pinned p => obtain ⟨u, rfl, _⟩ := h; exact as_Pinned_Trigger _ w
  | gone a t j => obtain rfl := h; exact as_Gone_Trigger _ w
  | collect t j => obtain rfl := h; exact as_Collect_Trigger _ w
  | chunk a t j i n sp => obtain ⟨u, rfl, _⟩ := h; exact as_Chunk_Trigger _ w
  | manifest t j c ps => obtain ⟨u, rfl, _⟩ := h; exact as_Manifest_Trigger _ w
  | stored t j => obtain rfl := h; exact as_Stored_Trigger _ w
  | unpin t j => obtain rfl := h; exact as_Unpin_Trigger _ w
  | unpinned a t j => obtain rfl := h; exact as_Unpinned_Trigger _ w
/-- the names that a Pinned tells lie apart from the coordinator's blocks -/
def ApC (c bm : Nat) (C : CS) (m : Ms) (v : Value) : Prop := ∀ pn ua un uc, m = .pinned pn → v = mPinned pn.a pn.t pn.j pn.n (.slice ua un uc) pn.lo → pn.cr ≠ [] → ∀ g o, ua = some ⟨g, o, none⟩ → ¬ coS c bm C g
/-- what a message that is no trigger makes of the coordinator -/
def CS.other (C : CS) (m : Ms) : CS × Option JE := match C.at m.tj.1 with
  | none => (C, none)
  | some e => C.told e m
theorem hear_oth {C : CS} {m : Ms} (hm : NoTr m) (pn : Nat) (hok : m.ok = true) : C.hear m pn = C.other m := by
  unfold CS.hear CS.other
  rw [hok]
  cases m with
  | trigger a t c => exact hm.elim
  | _ => rfl
theorem put_has {C : CS} {e : JE} (he : e ∈ C.Q) (m : Ms) : e.hear m ∈ (C.put (e.hear m)).Q := by
  unfold CS.put
  refine List.mem_map.2 ⟨e, he, ?_⟩
  rw [if_pos]
  exact (hearM_tr e.j m).1.symm
theorem told_out {C : CS} {e : JE} {m : Ms} (h4 : (e.j.hearM m).ph ≠ 4) (h : ¬ ((e.j.hearM m).ph = e.j.ph ∧ (e.j.hearM m).all = e.j.all)) : C.told e m = (C.put (e.hear m), some (e.hear m)) := by
  unfold CS.told
  rw [if_neg h4, if_neg h]
theorem told_still {C : CS} {e : JE} {m : Ms} (h4 : (e.j.hearM m).ph ≠ 4) (h : (e.j.hearM m).ph = e.j.ph ∧ (e.j.hearM m).all = e.j.all) : C.told e m = (C.put (e.hear m), none) := by
  unfold CS.told
  rw [if_neg h4, if_pos h]
set_option maxHeartbeats 16000000 in
theorem take_other (c bm : Nat) (U : Nat → Prop) (C : CS) (m : Ms) (v : Value) (w : World) (h : Co w c bm U C) (hm : MsW w v m) (hn : NoTr m) (hok : m.ok = true) (hap : ApC c bm C m v) :
    Calls Try.prog 18 #[.pointer (some ⟨c, 0, none⟩), v] w fun e w' => SayPost e w w' c bm U C (fun _ => C.other m) := by
  have has := as_noTr hm hn
  obtain ⟨ht1, ht2⟩ := tj_ok hok
  have okt : okI m.tj.1 := okI_of (by omega) (by omega)
  have fX : Fr noB w (w.alloc (.cells #[.int .i64 0, .int .i64 0, .int .i64 0] 54)) := (Fr.refl _ _).alloc _
  have hof := fun w' (f : Fr noB w w') => of_co c bm U C m.tj.1 w' (h.frN f) okt
  have hms := fun w' (f : Fr noB w w') => of_ms v m w' (hm.frN f)
  obtain ⟨tt, htt⟩ : ∃ tt, m.tj.1 = tt := ⟨_, rfl⟩
  obtain ⟨tj, htj⟩ : ∃ tj, m.tj.2 = tj := ⟨_, rfl⟩
  rw [htt] at ht1 ht2 okt
  simp only [htt, htj] at hof hms
  have hms1 := hms _ fX
  replace hof := Lib.hid hof
  replace hms := Lib.hid hms
  replace hms1 := Lib.hid hms1
  replace hm := Lib.hid hm
  replace h := Lib.hid h
  replace htt := Lib.hid htt
  replace htj := Lib.hid htj
  replace hap := Lib.hid hap
  replace okt := Lib.hid okt
  go_enter Try.func18, Try.ntmps18
  go_wp2_with fail
  go_fit hms1.out
  rintro e w1 ⟨rfl, f1⟩
  have g1 := fX.seqN f1
  have hof1 := hof.out w1 g1
  clear hms1 fX f1 hms
  cases hat : C.at tt with
  | none =>
    rw [hat] at hof1
    have hof1' : Calls Try.prog 9 #[.pointer (some ⟨c, 0, none⟩), .int .i64 tt] w1 fun e w' => e = .returned (.pointer none) ∧ w' = w1 := hof1
    have hno : C.other m = (C, none) := by unfold CS.other; rw [htt.out, hat]
    replace hno := Lib.hid hno
    replace hof1' := Lib.hid hof1'
    clear hof1
    go_wp2_with fail
    go_fit hof1'.out
    rintro e w2 ⟨rfl, hw⟩
    obtain rfl := hw.symm
    go_wp2_with fail
    go_ret
    exact SayPost.no (fun _ => hno.out) h.out g1
  | some e =>
    rw [hat] at hof1
    have hof1' : Calls Try.prog 9 #[.pointer (some ⟨c, 0, none⟩), .int .i64 tt] w1 fun e' w' => e' = .returned (.pointer (some ⟨e.p, 0, none⟩)) ∧ w' = w1 := hof1
    obtain ⟨he, hetr⟩ := at_some hat
    have hto : C.other m = C.told e m := by unfold CS.other; rw [htt.out, hat]
    have H1 := h.out.frN g1
    have J1 := H1.jobs e he
    have hph := phase_jg e.p U e.j e.X w1 J1
    have hvi := vis_any e.p U e.j e.X w1 J1
    replace hto := Lib.hid hto
    replace hof1' := Lib.hid hof1'
    replace he := Lib.hid he
    replace hetr := Lib.hid hetr
    replace H1 := Lib.hid H1
    replace J1 := Lib.hid J1
    replace hph := Lib.hid hph
    replace hvi := Lib.hid hvi
    replace hat := Lib.hid hat
    clear hof1 hof
    go_wp2_with fail
    go_fit hof1'.out
    rintro e' w2 ⟨rfl, hw⟩
    obtain rfl := hw.symm
    clear hw hof1'
    go_wp2_with fail
    go_fit hph.out
    rintro e' w2 ⟨rfl, hw⟩
    obtain rfl := hw.symm
    clear hw
    go_wp2_with fail
    go_fit hvi.out
    rintro e' w3 ⟨vv, rfl, ov, f3⟩
    have g3 := g1.seqN f3
    have hpw1 : e.p < w1.heap.size := H1.out.lt e.p (Or.inl (Or.inr (Or.inr ⟨e, he.out, rfl⟩)))
    have H3 := H1.out.frN f3
    have hlt := H3.lt
    have hpl := hlt e.p (Or.inl (Or.inr (Or.inr ⟨e, he.out, rfl⟩)))
    have J3 := ((H3.jobs e he.out).monoL (M := fun g => U g ∨ w3.heap.size ≤ g) (fun g _ q => Or.inl q))
    have hhear := hear_ms e.p (fun g => U g ∨ w3.heap.size ≤ g) e.j e.X m v w3 J3 (fun g hg => Or.inr hg) (fun q => by
      rcases q with q | q
      · exact H3.nu.2.2 e he.out q
      · omega) (hm.out.frN g3) (fun pn ua un uc h1 h2 h3 g o h4 q => hap.out pn ua un uc h1 h2 h3 g o h4 (Or.inr (Or.inr ⟨e, he.out, q⟩)))
    replace ov := Lib.hid ov
    replace hhear := Lib.hid hhear
    replace H3 := Lib.hid H3
    replace g3 := Lib.hid g3
    clear hvi hph f3 J3 J1 H1 g1 hlt
    go_wp2_with fail
    go_fit hhear.out
    rintro e' w4 ⟨rfl, J4, f4⟩
    have H4 := H3.out.heard he.out m J4 f4
    have hph4 := phase_jg e.p _ _ _ w4 J4
    have fr4 : Fr (coS c bm C) w w4 := g3.out.trans f4 (fun _ _ q => q.elim) (fun i _ q => Or.inr (Or.inr ⟨e, he.out, q⟩))
    obtain ⟨ph, hphe⟩ : ∃ ph, (e.j.hearM m).ph = ph := ⟨_, rfl⟩
    rw [hphe] at hph4
    replace hph4 := Lib.hid hph4
    replace hphe := Lib.hid hphe
    replace H4 := Lib.hid H4
    replace J4 := Lib.hid J4
    replace f4 := Lib.hid f4
    replace fr4 := Lib.hid fr4
    clear hhear
    go_wp2_with fail
    go_fit hph4.out
    rintro e' w5 ⟨rfl, hw⟩
    obtain rfl := hw.symm
    clear hw
    have hU4 : ∀ g, upU U w3 w4 g → U g ∨ w.heap.size ≤ g := fun g hg => by
      rcases hg.1 with q | q
      · exact Or.inl q
      · exact Or.inr (by have := g3.out.size; omega)
    replace hU4 := Lib.hid hU4
    by_cases h4 : ph = 4
    · subst h4
      have hto4 : C.other m = (C.drop e.j.tr, none) := by rw [hto.out]; unfold CS.told; rw [if_pos hphe.out]
      have c2 : w4.cell? ⟨c, 2, none⟩ = some (.map (some bm)) := H4.out.blk.cell 2
      have hmp := H4.out.mp
      have hdl : Try.prog.follows .mixedOrders = true := by kernel_rfl
      replace hto4 := Lib.hid hto4
      go_wp2_with (first
        | (at_delete; refine wpList_del_mp _ rfl _ _ 60 3 rfl keyIJ Try.underlying60 hmp tt okt.out rfl rfl ?_; intro w5 m5 f5; replace m5 := Lib.hid m5; replace f5 := Lib.hid f5; clear hmp)
        | fail)
      have H5 := H4.out.dropped m5.out f5.out
      rw [show C.put (e.hear m) = C.put (e.hear m) from rfl, ← hetr.out, show e.j.tr = (e.hear m).j.tr from (hearM_tr e.j m).1.symm, put_drop, show (e.hear m).j.tr = e.j.tr from (hearM_tr e.j m).1] at H5
      have fr5 : Fr (coS c bm C) w w5 := fr4.out.trans f5.out (fun _ _ q => q) (fun i _ q => Or.inr (Or.inl q))
      replace H5 := Lib.hid H5
      replace fr5 := Lib.hid fr5
      go_wp2_with fail
      go_ret
      refine ⟨_, w.heap.size, rfl, Nat.le_refl _, ?_, ?_⟩
      · rw [hto4.out]; rfl
      · rw [hto4.out]; exact ⟨_, H5.out, hU4.out, fr5.out⟩
    · have e4 : (ph == 4) = false := by simpa using h4
      have h4' : (e.j.hearM m).ph ≠ 4 := by rw [hphe.out]; exact h4
      replace h4 := Lib.hid h4
      replace h4' := Lib.hid h4'
      by_cases hpp : ph = e.j.ph
      · have ep : (ph == e.j.ph) = true := by simpa using hpp
        have hvi4 := vis_any e.p _ _ _ w4 J4.out
        replace hpp := Lib.hid hpp
        replace hvi4 := Lib.hid hvi4
        go_wp2_with fail
        go_fit hph4.out
        rintro e' w5 ⟨rfl, hw⟩
        obtain rfl := hw.symm
        clear hw
        go_wp2_with fail
        go_fit hvi4.out
        rintro e' w5 ⟨v2, rfl, o2, f5⟩
        have ovw : w5.ownsRow w1.heap.size 3 1 vv (whichL (fun _ => true) e.j 4).length (rowV (whichL (fun _ => true) e.j 4)) := ownsRow_fr (ownsRow_fr ov.out f4.out (fun g hg q => by
          have h1 := (ov.out.lt g hg).1
          unfold onlyB at q
          omega)) f5 (fun _ _ q => q)
        have heq := equal_any v2 vv _ _ w5 (RdI.of_own o2) (RdI.of_own ovw) (by have := whichL_len (fun _ => true) (e.j.hearM m) 4; omega) (by have := whichL_len (fun _ => true) e.j 4; omega)
        have H5 := H4.out.frN f5
        have fr5 := fr4.out.seqN f5
        obtain ⟨b, hb⟩ : ∃ b, decide (whichL (fun _ => true) (e.j.hearM m) 4 = whichL (fun _ => true) e.j 4) = b := ⟨_, rfl⟩
        rw [hb] at heq
        replace heq := Lib.hid heq
        replace hb := Lib.hid hb
        replace H5 := Lib.hid H5
        replace fr5 := Lib.hid fr5
        clear o2 ovw f5 hvi4 hph4
        go_wp2_with fail
        go_fit heq.out
        rintro e' w6 ⟨rfl, f6⟩
        have H6 := H5.out.frN f6
        have fr6 := fr5.out.seqN f6
        clear heq f6
        cases b with
        | true =>
          have htoo : C.other m = (C.put (e.hear m), none) := by rw [hto.out]; exact told_still h4'.out ⟨by rw [hphe.out]; exact hpp.out, of_decide_eq_true hb.out⟩
          replace htoo := Lib.hid htoo
          replace H6 := Lib.hid H6
          replace fr6 := Lib.hid fr6
          go_wp2_with fail
          go_ret
          refine ⟨_, w.heap.size, rfl, Nat.le_refl _, ?_, ?_⟩
          · rw [htoo.out]; rfl
          · rw [htoo.out]; exact ⟨_, H6.out, hU4.out, fr6.out⟩
        | false =>
          have htoo : C.other m = (C.put (e.hear m), some (e.hear m)) := by rw [hto.out]; exact told_out h4'.out (fun q => by have := of_decide_eq_false hb.out; exact this q.2)
          replace htoo := Lib.hid htoo
          have hout := pouts_any e.p _ (e.hear m).j (e.hear m).X w6 (H6.jobs (e.hear m) (put_has he.out m)) (H6.wf.inv (e.hear m) (put_has he.out m))
          replace hout := Lib.hid hout
          replace H6 := Lib.hid H6; replace fr6 := Lib.hid fr6
          go_wp2_with fail
          go_fit hout.out
          rintro e' wz ⟨u, pv, rfl, oz, rz, fz⟩
          replace oz := Lib.hid oz
          replace rz := Lib.hid rz
          replace fz := Lib.hid fz
          clear hout
          go_wp2_with fail
          go_ret
          refine ⟨u, w.heap.size, rfl, Nat.le_refl _, ?_, ?_⟩
          · rw [htoo.out]; exact ⟨pv, ownsRow_mono oz.out fr6.out.size, rz.out⟩
          · rw [htoo.out]; exact ⟨_, H6.out.frN fz.out, hU4.out, fr6.out.seqN fz.out⟩
      · have ep : (ph == e.j.ph) = false := by simpa using hpp
        have htoo : C.other m = (C.put (e.hear m), some (e.hear m)) := by rw [hto.out]; exact told_out h4'.out (fun q => hpp (by rw [← hphe.out]; exact q.1))
        replace htoo := Lib.hid htoo
        replace hpp := Lib.hid hpp
        go_wp2_with fail
        go_fit hph4.out
        rintro e' w5 ⟨rfl, hw⟩
        obtain rfl := hw.symm
        clear hw hph4
        have hout := pouts_any e.p _ (e.hear m).j (e.hear m).X w4 (H4.out.jobs (e.hear m) (put_has he.out m)) (H4.out.wf.inv (e.hear m) (put_has he.out m))
        replace hout := Lib.hid hout
        skip
        go_wp2_with fail
        go_fit hout.out
        rintro e' wz ⟨u, pv, rfl, oz, rz, fz⟩
        replace oz := Lib.hid oz
        replace rz := Lib.hid rz
        replace fz := Lib.hid fz
        clear hout
        go_wp2_with fail
        go_ret
        refine ⟨u, w.heap.size, rfl, Nat.le_refl _, ?_, ?_⟩
        · rw [htoo.out]; exact ⟨pv, ownsRow_mono oz.out fr4.out.size, rz.out⟩
        · rw [htoo.out]; exact ⟨_, H4.out.frN fz.out, hU4.out, fr4.out.seqN fz.out⟩
theorem SayPost.eq {e : Ending} {w w' : World} {c bm : Nat} {U : Nat → Prop} {C : CS} {f g : Nat → CS × Option JE} (h : SayPost e w w' c bm U C f) (hfg : ∀ pn, f pn = g pn) : SayPost e w w' c bm U C g := by
  obtain ⟨u, pn, h1, h2, h3, h4⟩ := h
  exact ⟨u, pn, h1, h2, by rw [← hfg]; exact h3, by rw [← hfg]; exact h4⟩
set_option maxHeartbeats 4000000 in
theorem take_trig (c bm : Nat) (U : Nat → Prop) (C : CS) (a t cl : Int) (w : World) (h : Co w c bm U C) (hb : bTrigger a t cl = true) (hla : C.la < 1073741824) (hrf : 0 ≤ C.rf ∧ C.rf < 1000000000) :
    Calls Try.prog 18 #[.pointer (some ⟨c, 0, none⟩), mTrigger a t cl] w fun e w' => SayPost e w w' c bm U C (C.begin a t cl) := by
  have fX : Fr noB w (w.alloc (.cells #[.int .i64 a, .int .i64 t, .int .i64 cl] 54)) := (Fr.refl _ _).alloc _
  have hbg := begin_co c bm U C a t cl _ (h.frN fX) hb hla hrf
  have has := as_Trigger_Trigger
  replace hbg := Lib.hid hbg
  clear h hb hla hrf
  unfold mTrigger
  go_enter Try.func18, Try.ntmps18
  go_wp2_with fail
  go_fit hbg.out
  rintro e w1 ⟨u, pn, rfl, hp, ho, U', H, hU, fr⟩
  have hsz := fX.size
  have hout : OutP w.heap.size w1 u (C.begin a t cl pn).2 := by
    cases hq : (C.begin a t cl pn).2 with
    | none => rw [hq] at ho; exact ho
    | some e => rw [hq] at ho; obtain ⟨pv, o1, o2⟩ := ho; exact ⟨pv, ownsRow_mono o1 hsz, o2⟩
  have hfin : SayPost (.returned u) w w1 c bm U C (C.begin a t cl) := ⟨u, pn, rfl, by omega, hout, U', H, fun g hg => (hU g hg).imp id (fun q => by omega), fX.trans fr (fun _ _ q => q.elim) (fun _ _ q => q)⟩
  replace hfin := Lib.hid hfin
  clear hp ho H hU fr hout hsz fX hbg
  go_wp2_with fail
  go_ret
  exact hfin.out
set_option maxHeartbeats 4000000 in
theorem hear_co (c bm : Nat) (U : Nat → Prop) (C : CS) (m : Ms) (v : Value) (w : World) (h : Co w c bm U C) (hm : MsW w v m) (hap : ApC c bm C m v) (hla : C.la < 1073741824) (hrf : 0 ≤ C.rf ∧ C.rf < 1000000000) :
    Calls Try.prog 10 #[.pointer (some ⟨c, 0, none⟩), v] w fun e w' => SayPost e w w' c bm U C (C.hear m) := by
  have hr := right_ms v m w hm
  obtain ⟨b, hb⟩ : ∃ b, m.ok = b := ⟨_, rfl⟩
  rw [hb] at hr
  cases b with
  | false =>
    have hno : ∀ pn, C.hear m pn = (C, none) := fun pn => by unfold CS.hear; rw [if_pos hb]
    replace h := Lib.hid h
    replace hno := Lib.hid hno
    replace hr := Lib.hid hr
    clear hm hap hb hla hrf
    go_enter Try.func10, Try.ntmps10
    go_wp2_with fail
    go_fit hr.out
    rintro e w1 ⟨rfl, f1⟩
    go_wp2_with fail
    go_ret
    exact SayPost.no hno.out h.out f1
  | true =>
    have htk : ∀ w1, Fr noB w w1 → Calls Try.prog 18 #[.pointer (some ⟨c, 0, none⟩), v] w1 fun e w' => SayPost e w1 w' c bm U C (C.hear m) := fun w1 f1 => by
      by_cases hn : NoTr m
      · exact (take_other c bm U C m v w1 (h.frN f1) (hm.frN f1) hn hb hap).mono fun e w' q => q.eq (fun pn => (hear_oth hn pn hb).symm)
      · cases m with
        | trigger a t cl =>
          obtain rfl := hm
          exact (take_trig c bm U C a t cl w1 (h.frN f1) hb hla hrf).mono fun e w' q => q.eq (fun pn => by unfold CS.hear; rw [hb, if_neg (by simp)])
        | _ => exact absurd trivial hn
    replace htk := Lib.hid htk
    replace hr := Lib.hid hr
    clear hm hap hb hla hrf h
    go_enter Try.func10, Try.ntmps10
    go_wp2_with fail
    go_fit hr.out
    rintro e w1 ⟨rfl, f1⟩
    have htk1 := htk.out w1 f1
    replace htk1 := Lib.hid htk1
    clear hr htk
    go_wp2_with fail
    go_fit htk1.out
    rintro e w2 ⟨u, pn, rfl, hp, ho, U', H, hU, fr⟩
    have hsz := f1.size
    have hout : OutP w.heap.size w2 u (C.hear m pn).2 := by
      cases hq : (C.hear m pn).2 with
      | none => rw [hq] at ho; exact ho
      | some e => rw [hq] at ho; obtain ⟨pv, o1, o2⟩ := ho; exact ⟨pv, ownsRow_mono o1 hsz, o2⟩
    have hfin : SayPost (.returned u) w w2 c bm U C (C.hear m) := ⟨u, pn, rfl, by omega, hout, U', H, fun g hg => (hU g hg).imp id (fun q => by omega), f1.trans fr (fun _ _ q => q.elim) (fun _ _ q => q)⟩
    replace hfin := Lib.hid hfin
    clear hp ho H hU fr hout hsz f1 htk1
    go_wp2_with fail
    go_ret
    exact hfin.out
theorem right_nilC (w : World) : Calls Try.prog 17 #[.nilIface] w fun e w' => e = .returned (.bool false) ∧ Fr noB w w' := right_of ((mayBe_nil w).mono fun e w' ⟨h1, h2⟩ => ⟨h1, by subst h2; exact Fr.refl _ _⟩)
set_option maxHeartbeats 4000000 in
theorem hear_co_nil (c : Nat) (w : World) : Calls Try.prog 10 #[.pointer (some ⟨c, 0, none⟩), .nilIface] w fun e w' => e = .returned (.slice none 0 0) ∧ Fr noB w w' := by
  have hr := right_nilC w
  go_enter Try.func10, Try.ntmps10
  go_wp2_with fail
  go_fit hr
  rintro e w1 ⟨rfl, f1⟩
  go_wp2_with fail
  go_ret
  exact ⟨rfl, f1⟩
end Go.Proofs.Ytidcoddefebdpaa
