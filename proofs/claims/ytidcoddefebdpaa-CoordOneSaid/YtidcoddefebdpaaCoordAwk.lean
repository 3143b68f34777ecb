/-
  What the layer's laws ask first.
-/
import Derived.Test.YtidcoddefebdpaaCoordV
set_option linter.unusedVariables false
set_option linter.unusedSimpArgs false
set_option maxRecDepth 100000
set_option maxRecDepth 100000
namespace Go.Proofs.Ytidcoddefebdpaa
open Go.RowKit Go Go.Maps Go.Lib

def kC0 : CS := CS.new 2 1
def kJ1 : JS := JS.new 1 7 0 2 1
def kE1 (pn : Nat) : JE := ⟨pn, 1, kJ1, fun _ => []⟩
def kC1 (pn : Nat) (rf : Int) : CS := ⟨2, 1, 1, rf, [kE1 pn]⟩
def kP : Pn := ⟨1, 7, 1, 0, [], false⟩
def kE2 (pn : Nat) : JE := (kE1 pn).hear (.pinned kP)
def kE3 (pn : Nat) : JE := (kE2 pn).hear (.stored 7 1)
def kC2 (pn : Nat) : CS := ⟨2, 1, 1, 1, [kE2 pn]⟩
def kC3 (pn : Nat) : CS := ⟨2, 1, 1, 1, [kE3 pn]⟩
def kC4 : CS := ⟨2, 1, 1, 1, []⟩
theorem kh1 (pn : Nat) : kC0.hear (.trigger 1 7 0) pn = (kC1 pn 0, some (kE1 pn)) := by rfl
theorem kh2 (pn q : Nat) : (kC1 pn 0).hear (.trigger 0 7 0) q = (kC1 pn 0, none) := by rfl
theorem kh3 (pn q : Nat) : (kC1 pn 0).hear (.trigger 0 8 0) q = (kC1 pn 1, none) := by rfl
theorem kh4 (pn q : Nat) : (kC1 pn 1).hear (.pinned kP) q = (kC2 pn, some (kE2 pn)) := by rfl
theorem kh5 (pn q : Nat) : (kC2 pn).hear (.stored 7 1) q = (kC3 pn, some (kE3 pn)) := by rfl
theorem kh6 (pn q : Nat) : (kC3 pn).hear (.unpinned 1 7 1) q = (kC4, none) := by rfl
theorem kl1 (pn : Nat) (pv : Value) : ((kE1 pn).j.zg pv).length = 1 := by rfl
theorem kl2 (pn : Nat) (pv : Value) : ((kE2 pn).j.zg pv).length = 2 := by rfl
theorem kp3 (pn : Nat) : (kE3 pn).j.ph = 3 := by rfl
theorem ka3 (pn : Nat) : (kC3 pn).at 7 = some (kE3 pn) := by rfl
theorem ka4 : kC4.at 7 = none := by rfl
theorem CoV.out {B : Nat} {w : World} {u : Value} {e : JE} {n : Nat} (h : OutP B w u (some e)) (hn : ∀ pv, (e.j.zg pv).length = n) : ∃ a c, u = .slice a n c := by
  obtain ⟨pv, o, _⟩ := h
  rw [hn] at o
  exact ownsRow_slice o
theorem apD_no {D : Nat → Prop} {m : Ms} {v : Value} (h : ∀ pn, m = .pinned pn → pn.cr = []) : ApD D m v := fun pn ua un uc h1 _ h3 => absurd (h pn h1) h3
/-- a job of the coordinator's: how far it is -/
theorem phase_cv {w0 w : World} {c bm : Nat} {D : Nat → Prop} {C : CS} (h : CoV w0 w c bm D C) {e : JE} (he : e ∈ C.Q) : Calls Try.prog 16 #[.pointer (some ⟨e.p, 0, none⟩)] w fun x w' => x = .returned (.int .i64 e.j.ph) ∧ w' = w := by
  obtain ⟨U, H, _⟩ := h.is
  exact phase_jg e.p _ _ _ w (H.jobs e he)
theorem of_cv {w0 w : World} {c bm : Nat} {D : Nat → Prop} {C : CS} (h : CoV w0 w c bm D C) (t : Int) (ht : okI t) : Calls Try.prog 9 #[.pointer (some ⟨c, 0, none⟩), .int .i64 t] w fun e w' => e = .returned (ptJ (C.at t)) ∧ w' = w := by
  obtain ⟨U, H, _⟩ := h.is
  exact of_co c bm U C t w H ht
theorem jobs_cv {w0 w : World} {c bm : Nat} {D : Nat → Prop} {C : CS} (h : CoV w0 w c bm D C) : Calls Try.prog 8 #[.pointer (some ⟨c, 0, none⟩)] w fun e w' => e = .returned (.int .i64 C.Q.length) ∧ w' = w := by
  obtain ⟨U, H, _⟩ := h.is
  exact jobs_co c bm U C w H
theorem last_cv {w0 w : World} {c bm : Nat} {D : Nat → Prop} {C : CS} (h : CoV w0 w c bm D C) : Calls Try.prog 7 #[.pointer (some ⟨c, 0, none⟩)] w fun e w' => e = .returned (.int .i64 C.la) ∧ w' = w := by
  obtain ⟨U, H, _⟩ := h.is
  exact last_co c bm U C w H
theorem refused_cv {w0 w : World} {c bm : Nat} {D : Nat → Prop} {C : CS} (h : CoV w0 w c bm D C) : Calls Try.prog 15 #[.pointer (some ⟨c, 0, none⟩)] w fun e w' => e = .returned (.int .i64 C.rf) ∧ w' = w := by
  obtain ⟨U, H, _⟩ := h.is
  exact refused_co c bm U C w H
theorem tick_cv {w0 w : World} {c bm : Nat} {D : Nat → Prop} {C : CS} (h : CoV w0 w c bm D C) : Calls Try.prog 12 #[.pointer (some ⟨c, 0, none⟩)] w fun e w' => TickPost e w w' C.Q := by
  obtain ⟨U, H, _⟩ := h.is
  exact tick_co c bm U C w H
theorem new_cv (ag jobs : Int) (b l sd bu ra : Value) (w : World) (h : mayCo ag jobs = true) :
    Calls Try.prog 6 #[.agg (cfC ag jobs b l sd bu ra).toArray] w fun e w' => ∃ c bm D, e = .returned (.tuple #[.pointer (some ⟨c, 0, none⟩), .int .i64 0]) ∧ CoV w w' c bm D (CS.new ag jobs) := by
  refine (new_co ag jobs b l sd bu ra w h).mono ?_
  rintro e w' ⟨c, bm, rfl, h1, h2, H, f⟩
  refine ⟨c, bm, fun g => coS c bm (CS.new ag jobs) g ∨ noB g, rfl, ⟨⟨noB, H, fun g hg => hg⟩, fun g hg => ?_, fun g hg => H.lt g hg, f⟩⟩
  rcases hg with (rfl | rfl | ⟨e, he, _⟩) | q
  · exact h1
  · exact h2
  · cases he
  · exact q.elim
theorem tick_1 {e : JE} {P : List Value} (h : [e].length = P.length) {n : Nat} (hn : ∀ pv, (e.j.zg pv).length = n) : (tickG [e] P).length = n := by
  match P, h with
  | [pv], _ =>
    show (e.j.zg pv ++ []).length = n
    rw [List.append_nil]; exact hn pv
set_option maxHeartbeats 8000000 in
theorem awake_any (w : World) : Calls Try.prog 4 #[] w fun e w' => e = .returned (.bool true) ∧ Fr noB w w' := by
  have hn := new_cv 2 1 (.int .i64 0) (.int .i64 0) (.int .u64 0) (.int .i64 0) (.int .i64 0) w (by decide)
  have hno := fun w' => new_co_no 2 0 (.int .i64 0) (.int .i64 0) (.int .u64 0) (.int .i64 0) (.int .i64 0) w' (by decide)
  unfold cfC at hn hno
  replace hn := Lib.hid hn
  replace hno := Lib.hid hno
  go_enter Try.func4, Try.ntmps4
  go_wp2_with fail
  go_fit hn.out
  rintro e w1 ⟨c, bm, D0, rfl, h1⟩
  replace h1 := Lib.hid h1
  clear hn
  go_wp2_with fail
  refine (hno.out _).mono ?_
  rintro e w2 ⟨rfl, f2⟩
  have hc := hear_cv w c bm D0 kC0 (.trigger 1 7 0) (mTrigger 1 7 0) w2 (h1.out.frN f2) rfl (apD_no (fun _ q => by cases q)) (by decide) (by decide)
  unfold mTrigger at hc
  replace hc := Lib.hid hc
  clear h1 f2 hno
  go_wp2_with fail
  go_fit hc.out
  rintro e w3 ⟨u1, pn, D1, rfl, ho, hpn, h3, hD1, f3⟩
  rw [kh1] at ho h3
  obtain ⟨u1a, u1c, rfl⟩ := CoV.out ho (kl1 pn)
  have hc2 := hear_cv w c bm D1 (kC1 pn 0) (.trigger 0 7 0) (mTrigger 0 7 0) w3 h3 rfl (apD_no (fun _ q => by cases q)) (show (1 : Int) < 1073741824 by decide) (show (0 : Int) ≤ 0 ∧ (0 : Int) < 1000000000 by decide)
  unfold mTrigger at hc2
  replace hc2 := Lib.hid hc2
  clear hc ho hpn h3 hD1 f3
  go_wp2_with fail
  go_fit hc2.out
  rintro e w4 ⟨u2, q2, D2, rfl, ho, hpn, h4, hD2, f4⟩
  rw [kh2] at ho h4
  obtain rfl := ho
  have hc3 := hear_cv w c bm D2 (kC1 pn 0) (.trigger 0 8 0) (mTrigger 0 8 0) w4 h4 rfl (apD_no (fun _ q => by cases q)) (show (1 : Int) < 1073741824 by decide) (show (0 : Int) ≤ 0 ∧ (0 : Int) < 1000000000 by decide)
  unfold mTrigger at hc3
  replace hc3 := Lib.hid hc3
  clear hc2 hpn h4 hD2 f4
  go_wp2_with fail
  go_fit hc3.out
  rintro e w5 ⟨u3, q3, D3, rfl, ho, hpn, h5, hD3, f5⟩
  rw [kh3] at ho h5
  obtain rfl := ho
  have ht := tick_cv h5
  replace ht := Lib.hid ht
  replace h5 := Lib.hid h5
  clear hc3 hpn hD3 f5
  go_wp2_with fail
  go_fit ht.out
  rintro e w6 ⟨u4, P, rfl, hP, o4, _, f6⟩
  have o4 : w6.ownsRow w5.heap.size 47 2 u4 1 (zgC (tickG (kC1 pn 1).Q P)) := by
    have e1 : (tickG (kC1 pn 1).Q P).length = 1 := tick_1 (e := kE1 pn) hP (kl1 pn)
    rw [e1] at o4; exact o4
  obtain ⟨u4a, u4c, rfl⟩ := ownsRow_slice o4
  have h6 := h5.out.frN f6
  have hc4 := hear_cv w c bm D3 (kC1 pn 1) (.pinned kP) (mPinned 1 7 1 0 (.slice none 0 0) false) w6 h6 ⟨_, rfl, RdI.none _⟩ (apD_no (fun p q => by injection q with q; subst q; rfl)) (show (1 : Int) < 1073741824 by decide) (show (0 : Int) ≤ 1 ∧ (1 : Int) < 1000000000 by decide)
  unfold mPinned at hc4
  replace hc4 := Lib.hid hc4
  clear ht hP o4 f6 h6 h5
  go_wp2_with fail
  go_fit hc4.out
  rintro e w7 ⟨u5, q5, D4, rfl, ho, hpn, h7, hD4, f7⟩
  rw [kh4] at ho h7
  obtain ⟨u5a, u5c, rfl⟩ := CoV.out ho (kl2 pn)
  have hc5 := hear_cv w c bm D4 (kC2 pn) (.stored 7 1) (mStored 7 1) w7 h7 rfl (apD_no (fun _ q => by cases q)) (show (1 : Int) < 1073741824 by decide) (show (0 : Int) ≤ 1 ∧ (1 : Int) < 1000000000 by decide)
  unfold mStored at hc5
  replace hc5 := Lib.hid hc5
  clear hc4 ho hpn h7 hD4 f7
  go_wp2_with fail
  go_fit hc5.out
  rintro e w8 ⟨u6, q6, D5, rfl, ho, hpn, h8, hD5, f8⟩
  rw [kh5] at ho h8
  have hof := of_cv h8 7 (by rfl)
  have hph := phase_cv h8 (e := kE3 pn) (List.mem_singleton.2 rfl)
  rw [ka3] at hof
  rw [kp3] at hph
  have hof2 : Calls Try.prog 9 #[.pointer (some ⟨c, 0, none⟩), .int .i64 7] w8 fun e w' => e = .returned (.pointer (some ⟨pn, 0, none⟩)) ∧ w' = w8 := hof
  have hph2 : Calls Try.prog 16 #[.pointer (some ⟨pn, 0, none⟩)] w8 fun e w' => e = .returned (.int .i64 3) ∧ w' = w8 := hph
  have hc6 := hear_cv w c bm D5 (kC3 pn) (.unpinned 1 7 1) (mUnpinned 1 7 1) w8 h8 rfl (apD_no (fun _ q => by cases q)) (show (1 : Int) < 1073741824 by decide) (show (0 : Int) ≤ 1 ∧ (1 : Int) < 1000000000 by decide)
  unfold mUnpinned at hc6
  replace hc6 := Lib.hid hc6
  replace hof2 := Lib.hid hof2
  replace hph2 := Lib.hid hph2
  clear hc5 ho hpn h8 hD5 f8 hof hph
  go_wp2_with fail
  go_fit hof2.out
  rintro e w9 ⟨rfl, hw9⟩
  obtain rfl := hw9.symm
  clear hw9
  go_wp2_with fail
  go_fit hph2.out
  rintro e w10 ⟨rfl, hw10⟩
  obtain rfl := hw10.symm
  clear hw10
  go_wp2_with fail
  go_fit hc6.out
  rintro e w11 ⟨u7, q7, D6, rfl, ho, hpn, h11, hD6, f11⟩
  rw [kh6] at ho h11
  have hf := h11.fr0
  have hcR := refused_cv h11
  have hcJ := jobs_cv h11
  have hcL := last_cv h11
  have hcO := of_cv h11 7 (by rfl)
  rw [ka4] at hcO
  unfold ptJ at hcO
  replace hcR : Calls Try.prog 15 #[.pointer (some ⟨c, 0, none⟩)] w11 fun e w' => e = .returned (.int .i64 1) ∧ w' = w11 := hcR
  replace hcJ : Calls Try.prog 8 #[.pointer (some ⟨c, 0, none⟩)] w11 fun e w' => e = .returned (.int .i64 0) ∧ w' = w11 := hcJ
  replace hcL : Calls Try.prog 7 #[.pointer (some ⟨c, 0, none⟩)] w11 fun e w' => e = .returned (.int .i64 1) ∧ w' = w11 := hcL
  replace hcO : Calls Try.prog 9 #[.pointer (some ⟨c, 0, none⟩), .int .i64 7] w11 fun e w' => e = .returned (.pointer none) ∧ w' = w11 := hcO
  replace hcR := Lib.hid hcR
  replace hcJ := Lib.hid hcJ
  replace hcL := Lib.hid hcL
  replace hcO := Lib.hid hcO
  replace hf := Lib.hid hf
  clear hc6 ho hpn h11 hD6 f11 hof2 hph2
  repeat' (first
    | (go_at_call 15; refine hcR.out.mono ?_; rintro e wx ⟨rfl, hwx⟩; obtain rfl := hwx.symm; clear hwx)
    | (go_at_call 8; refine hcJ.out.mono ?_; rintro e wx ⟨rfl, hwx⟩; obtain rfl := hwx.symm; clear hwx)
    | (go_at_call 7; refine hcL.out.mono ?_; rintro e wx ⟨rfl, hwx⟩; obtain rfl := hwx.symm; clear hwx)
    | (go_at_call 9; refine hcO.out.mono ?_; rintro e wx ⟨rfl, hwx⟩; obtain rfl := hwx.symm; clear hwx)
    | (go_ret; exact ⟨rfl, hf.out⟩; done)
    | go_wp2_with fail)
end Go.Proofs.Ytidcoddefebdpaa
