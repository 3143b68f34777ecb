/-
  MsgPrints, whatever comes in.
  Proved here: for every input the law spoorlaw09.MsgPrints returns true, and its arguments read behind the call as they read before; no condition.
-/
import Derived.Test.YtbmafogjmdilkaaGreatDoorMgC
import Derived.Test.YtbmafogjmdilkaaGreatDoorMgD
import Derived.Test.YtbmafogjmdilkaaGreatDoorArgs
import Derived.OpenShut
import Derived.ShutString
import Derived.ChangeOld
import Derived.Test.YtbmafogjmdilkaaGreatDoorDoor
import Derived.Test.YtbmafogjmdilkaaGreatDoorCards
import Derived.Test.YtbmafogjmdilkaaGreatDoorTie
import Derived.SevenTiedAt
import Derived.SizedLaws
section
set_option linter.unusedVariables false
set_option linter.unusedSimpArgs false
set_option maxRecDepth 100000
namespace Go.Proofs.YtbmafogjmdilkaaGreatDoor
open Go.ChangeShapes Go.WideShapes Go.ChangeAt Go.RowKit Go Go.Lib
def IsSp (cs : List Value) (m : Sp) : Prop := cs = spC m
theorem sp_open {H : Type} {enc : TypeId × Value → H} {w : World} {base : Nat} {held : Bool} (n : Nat) (cs : List Value) (y : DataW H × List MemPlace) (hl : cs.length = 3)
    (h : DataW.trod enc Tryz.prog w base (fun _ => true) held n 62 cs = some y) : ∃ m, IsSp cs m := by
  obtain ⟨a, ha, wa⟩ := fld_int (i := 0) (off := 0) Tryz.underlying62 h rfl (by kernel_rfl) (by omega) Tryz.underlying3
  obtain ⟨b, hb, wb⟩ := fld_int (i := 1) (off := 1) Tryz.underlying62 h rfl (by kernel_rfl) (by omega) Tryz.underlying3
  obtain ⟨c, hc, wc⟩ := fld_str (i := 2) (off := 2) Tryz.underlying62 h rfl (by kernel_rfl) (by omega) Tryz.underlying9
  exact ⟨⟨a, b, c⟩, by unfold IsSp spC; rw [list3 hl, ha, hb, hc]⟩
theorem RdSp.of_slr {w : World} {v : Value} {L : List Sp} (h : SlR w v 3 IsSp L) : RdSp w v L := by
  obtain ⟨a, c, rfl, ⟨h1, h2⟩, h3, h4⟩ := h
  refine ⟨a, c, rfl, h1, h3, h2, fun i s hi => ?_⟩
  obtain ⟨g, o, cs, rfl, hl, hcs, hc⟩ := h4 i s hi
  unfold IsSp at hcs
  subst hcs
  refine ⟨g, o, rfl, ?_, ?_, ?_⟩
  · exact hc 0 _ rfl
  · have := hc 1 _ rfl; rwa [← Nat.add_assoc] at this
  · have := hc 2 _ rfl; rwa [← Nat.add_assoc] at this
theorem RdI.of_slr {w : World} {v : Value} {L : List Int} (h : SlR w v 1 (IsI .i64) L) : RdI w v L := by
  obtain ⟨a, c, rfl, ⟨h1, h2⟩, h3, h4⟩ := h
  refine ⟨a, c, rfl, by unfold maxLen at h3; omega, h1, fun i hi => ?_⟩
  obtain ⟨g, o, cs, rfl, hl, ⟨hcs, _⟩, hc⟩ := h4 i _ (List.getElem?_eq_getElem hi)
  refine ⟨g, o, rfl, ?_⟩
  have := hc 0 (.int .i64 L[i]) (by rw [hcs]; rfl)
  rw [Nat.mul_one, Nat.add_zero] at this
  rw [this]
  simp [hi]
set_option maxHeartbeats 2000000 in
theorem prints_none (k a t j c n : Int) (cr : List Int) (lo : Bool) (sp : List Sp) (ua : Option Addr) (uc : Nat) (sa : Option Addr) (sc : Nat) (w : World) (hg : Gl w) (hs : RdSp w (.slice sa sp.length sc) sp)
    (ha2 : a ≤ 1099511627776) (hcl : cr.length ≤ 20) (hfw : fewS sp = true) (hk : k < 1 ∨ 10 < k) :
    Calls Tryz.prog 3 #[.int .i64 k, .int .i64 a, .int .i64 t, .int .i64 j, .int .i64 c, .int .i64 n, .slice ua cr.length uc, .bool lo, .slice sa sp.length sc] w fun e w' => e = .returned (.bool true) ∧ Fr noB w w' := by
  have haw := awake_any w hg
  have hfew := fun w' (f : Fr noB w w') => few_any _ sp w' (hs.frN f)
  rw [hfw] at hfew
  have hmk := fun w' => make_0 k a t j c n ua cr.length uc lo sa sp.length sc w' hk
  have hc20 : ¬ ((cr.length : Int) > 20) := by omega
  have hai : ¬ (a > 1099511627776) := by omega
  clear hs hk
  generalize cr.length = cl at *
  generalize sp.length = sl at *
  replace haw := Lib.hid haw
  replace hfew := Lib.hid hfew
  replace hmk := Lib.hid hmk
  replace hfw := Lib.hid hfw
  go_enter Tryz.func3, Tryz.ntmps3
  go_wp2_with fail
  go_fit haw.out
  rintro e w1 ⟨rfl, f1⟩
  go_wp2_with fail
  go_fit (hfew.out w1 f1)
  rintro e w2 ⟨rfl, f2⟩
  have fr2 := f1.seqN f2
  go_wp2_with fail
  go_fit (hmk.out w2)
  rintro e w3 ⟨rfl, f3⟩
  have fr3 := fr2.seqN f3
  go_wp2_with fail
  go_fit (right_nil w3)
  rintro e w4 ⟨rfl, f4⟩
  have fr4 := fr3.seqN f4
  go_wp2_with fail
  go_fit (mayBe_none w4)
  rintro e w5 ⟨rfl, f5⟩
  rw [show strB [] = ByteArray.mk #[] from rfl]
  go_wp2_with fail
  go_ret
  exact ⟨rfl, fr4.seqN f5⟩
set_option maxHeartbeats 2000000 in
theorem prints_long (k a t j c n : Int) (cr : List Int) (lo : Bool) (ua : Option Addr) (uc : Nat) (sa : Option Addr) (sn sc : Nat) (w : World) (hg : Gl w) (hcl : 20 < cr.length) :
    Calls Tryz.prog 3 #[.int .i64 k, .int .i64 a, .int .i64 t, .int .i64 j, .int .i64 c, .int .i64 n, .slice ua cr.length uc, .bool lo, .slice sa sn sc] w fun e w' => e = .returned (.bool true) ∧ Fr noB w w' := by
  have haw := awake_any w hg
  have haw2 := fun w' (f : Fr noB w w') => awake_any w' (hg.fr f)
  have hc20 : (cr.length : Int) > 20 := by omega
  generalize cr.length = cl at *
  replace haw := Lib.hid haw
  replace haw2 := Lib.hid haw2
  go_enter Tryz.func3, Tryz.ntmps3
  go_wp2_with fail
  go_fit haw.out
  rintro e w1 ⟨rfl, f1⟩
  go_wp2_with fail
  go_fit (haw2.out w1 f1)
  rintro e w2 ⟨rfl, f2⟩
  go_wp2_with fail
  go_ret
  exact ⟨rfl, f1.seqN f2⟩
set_option maxHeartbeats 2000000 in
theorem prints_few (k a t j c n : Int) (cr : List Int) (lo : Bool) (sp : List Sp) (ua : Option Addr) (uc : Nat) (sa : Option Addr) (sc : Nat) (w : World) (hg : Gl w) (hs : RdSp w (.slice sa sp.length sc) sp) (hcl : cr.length ≤ 20) (hfw : fewS sp = false ∨ (fewS sp = true ∧ 1099511627776 < a)) :
    Calls Tryz.prog 3 #[.int .i64 k, .int .i64 a, .int .i64 t, .int .i64 j, .int .i64 c, .int .i64 n, .slice ua cr.length uc, .bool lo, .slice sa sp.length sc] w fun e w' => e = .returned (.bool true) ∧ Fr noB w w' := by
  have haw := awake_any w hg
  have haw2 := fun w' (f : Fr noB w w') => awake_any w' (hg.fr f)
  have hfew := fun w' (f : Fr noB w w') => few_any _ sp w' (hs.frN f)
  have hc20 : ¬ ((cr.length : Int) > 20) := by omega
  clear hs
  generalize cr.length = cl at *
  generalize sp.length = sl at *
  replace haw := Lib.hid haw
  replace haw2 := Lib.hid haw2
  rcases hfw with hfw | ⟨hfw, hai⟩
  all_goals (
    rw [hfw] at hfew
    replace hfew := Lib.hid hfew
    replace hfw := Lib.hid hfw
    go_enter Tryz.func3, Tryz.ntmps3
    go_wp2_with fail
    go_fit haw.out
    rintro e w1 ⟨rfl, f1⟩
    go_wp2_with fail
    go_fit (hfew.out w1 f1)
    rintro e w2 ⟨rfl, f2⟩
    have fr2 := f1.seqN f2
    go_wp2_with fail
    go_fit (haw2.out w2 fr2)
    rintro e w3 ⟨rfl, f3⟩
    go_wp2_with fail
    go_ret
    exact ⟨rfl, fr2.seqN f3⟩)
theorem msg_prints (k a t j c n : Int) (uv : Value) (cr : List Int) (lo : Bool) (sv : Value) (sp : List Sp) (w : World) (hg : Gl w) (hk : (Lit.int .i64 k).wf = true) (ha : (Lit.int .i64 a).wf = true) (ht : (Lit.int .i64 t).wf = true) (hj : (Lit.int .i64 j).wf = true) (hc : (Lit.int .i64 c).wf = true) (hn : (Lit.int .i64 n).wf = true) (hu : SlR w uv 1 (IsI .i64) cr) (hs : SlR w sv 3 IsSp sp) :
    Calls Tryz.prog 3 #[.int .i64 k, .int .i64 a, .int .i64 t, .int .i64 j, .int .i64 c, .int .i64 n, uv, .bool lo, sv] w fun e w' => e = .returned (.bool true) ∧ Fr noB w w' := by
  have hu1 := RdI.of_slr hu
  have hs1 := RdSp.of_slr hs
  have hu2 := hu1
  have hs2 := hs1
  obtain ⟨ua, uc, rfl, _⟩ := hu2
  obtain ⟨sa, sc, rfl, _⟩ := hs2
  have ha1 := wf_i64 ha
  by_cases h1 : 20 < cr.length
  · exact prints_long k a t j c n cr lo ua uc sa _ sc w hg h1
  cases h2 : fewS sp with
  | false => exact prints_few k a t j c n cr lo sp ua uc sa sc w hg hs1 (by omega) (Or.inl h2)
  | true =>
  by_cases h3 : 1099511627776 < a
  · exact prints_few k a t j c n cr lo sp ua uc sa sc w hg hs1 (by omega) (Or.inr ⟨h2, h3⟩)
  by_cases h4 : k < 1 ∨ 10 < k
  · exact prints_none k a t j c n cr lo sp ua uc sa sc w hg hs1 (by omega) (by omega) h2 h4
  have hkk : k = 1 ∨ k = 2 ∨ k = 3 ∨ k = 4 ∨ k = 5 ∨ k = 6 ∨ k = 7 ∨ k = 8 ∨ k = 9 ∨ k = 10 := by omega
  rcases hkk with rfl | rfl | rfl | rfl | rfl | rfl | rfl | rfl | rfl | rfl
  · exact prints_1 a t j c n cr lo sp ua uc sa sc w hg hu1 hs1 (by omega) (by omega) (by omega) h2
  · exact prints_2 a t j c n cr lo sp ua uc sa sc w hg hu1 hs1 (by omega) (by omega) (by omega) h2
  · exact prints_3 a t j c n cr lo sp ua uc sa sc w hg hu1 hs1 (by omega) (by omega) (by omega) h2
  · exact prints_4 a t j c n cr lo sp ua uc sa sc w hg hu1 hs1 (by omega) (by omega) (by omega) h2
  · exact prints_5 a t j c n cr lo sp ua uc sa sc w hg hu1 hs1 (by omega) (by omega) (by omega) h2
  · exact prints_6 a t j c n cr lo sp ua uc sa sc w hg hu1 hs1 (by omega) (by omega) (by omega) h2
  · exact prints_7 a t j c n cr lo sp ua uc sa sc w hg hu1 hs1 (by omega) (by omega) (by omega) h2
  · exact prints_8 a t j c n cr lo sp ua uc sa sc w hg hu1 hs1 (by omega) (by omega) (by omega) h2
  · exact prints_9 a t j c n cr lo sp ua uc sa sc w hg hu1 hs1 (by omega) (by omega) (by omega) h2
  · exact prints_10 a t j c n cr lo sp ua uc sa sc w hg hu1 hs1 (by omega) (by omega) (by omega) h2
end Go.Proofs.YtbmafogjmdilkaaGreatDoor
end

section
set_option linter.unusedVariables false
set_option linter.unusedSimpArgs false
namespace Go.Proofs.YtbmafogjmdilkaaGreatDoor.msgPrints
open Go.ChangeShapes Go.WideShapes Go.ChangeAt Go.RowKit
open Go.ChangeMaps (open_string shut_string)

theorem own : ownKnob Tryz.prog.godebug = none := by kernel_rfl
theorem laidOut : laidOutB Tryz.prog = true := by kernel_rfl

theorem met {W : World} (h : laidMetH Tryz.prog Rows.msgPrintsRow.laid W) : laidMetH Tryz.prog laidL W := h
theorem met2 (os : Os) (args : Array Value) : laidMetH Tryz.prog Rows.msgPrintsRow.laid ((doorW os).forCall (fun _ _ => 0) ⟨#[], args, []⟩).memory := door_met os args
set_option maxRecDepth 100000 in
theorem lifted (os : Os) (started : os.Started) (H : Type) (enc : TypeId × Value → H) :
    ReturnsInHanded {} Tryz.checked os 3 .any (fun w args => (Rows.msgPrintsSpec.pre enc Tryz.prog Tryz.f3 [] false w args ∧ laidMetH Tryz.prog Rows.msgPrintsRow.laid w) ∧ sizedMet enc Tryz.prog Tryz.f3 (OpenSpec.ofChange Rows.msgPrintsSpec) false w args) (Rows.msgPrintsSpec.post enc Tryz.prog Tryz.f3 false true false false) := by
  refine returnsInHanded_of_change_and (C := Tryz.checked) (X := fun w _ => laidMetH Tryz.prog Rows.msgPrintsRow.laid w) (fun _ _ _ hh h => h.of_heap hh) own started (by kernel_rfl) Tryz.func3
    (ChangeSpec.witness_shaped (enc := enc) (C := Tryz.checked) (os := os) (X := fun w _ => laidMetH Tryz.prog Rows.msgPrintsRow.laid w) false (doorW os) #[.int .i64 0, .int .i64 0, .int .i64 0, .int .i64 0, .int .i64 0, .int .i64 0, .slice none 0 0, .bool false, .slice none 0 0] 8 rfl (World.shaped_of_RefB (by kernel_rfl) (by kernel_rfl)) (by kernel_rfl) (by kernel_rfl) (by kernel_rfl) (met2 os _)) ?_
  intro W base args ds gs before hval0 hW hcnd hsz0 hL _
  have hsz : (DataW.weightsEach Tryz.prog (Tryz.f3.params.toList ++ Rows.msgPrintsSpec.plain.varTypes Tryz.prog) (ds ++ gs)).all (· ≤ reachBytes) = true := hsz0
  have hL2 := met hL
  have hval : ∀ (j : Nat) t v, Tryz.f3.params[j]? = some t → args[j]? = some v → Value.okWide Tryz.prog W .any base t v := hval0
  have hW' := hW
  obtain ⟨p, q, hA0, hV, rfl, hfz, hnd⟩ := hW
  have hA : DataW.TrodAll enc Tryz.prog W 0 (fun _ => true) true Tryz.f3.params.toList args.toList ds p := hA0
  rw [Tryz.params3] at hA hval hsz
  obtain ⟨v0, vs0, d0, ds0, p0, q0, hargs, rfl, rfl, h0, r0⟩ := trodAll_cons hA
  obtain ⟨v1, vs1, d1, ds1, p1, q1, rfl, rfl, rfl, h1, r1⟩ := trodAll_cons r0
  obtain ⟨v2, vs2, d2, ds2, p2, q2, rfl, rfl, rfl, h2, r2⟩ := trodAll_cons r1
  obtain ⟨v3, vs3, d3, ds3, p3, q3, rfl, rfl, rfl, h3, r3⟩ := trodAll_cons r2
  obtain ⟨v4, vs4, d4, ds4, p4, q4, rfl, rfl, rfl, h4, r4⟩ := trodAll_cons r3
  obtain ⟨v5, vs5, d5, ds5, p5, q5, rfl, rfl, rfl, h5, r5⟩ := trodAll_cons r4
  obtain ⟨v6, vs6, d6, ds6, p6, q6, rfl, rfl, rfl, h6, r6⟩ := trodAll_cons r5
  obtain ⟨v7, vs7, d7, ds7, p7, q7, rfl, rfl, rfl, h7, r7⟩ := trodAll_cons r6
  obtain ⟨v8, vs8, d8, ds8, p8, q8, rfl, rfl, rfl, h8, r8⟩ := trodAll_cons r7
  obtain ⟨rfl, rfl, rfl⟩ := trodAll_nil r8
  obtain rfl : args = #[v0, v1, v2, v3, v4, v5, v6, v7, v8] := by cases args; simp_all
  obtain ⟨rfl, rfl⟩ := trodVars_none hV
  obtain ⟨a0, rfl, rfl, rfl, w0⟩ := open_int Tryz.underlying3 (hval 0 3 v0 rfl rfl) h0
  obtain ⟨a1, rfl, rfl, rfl, w1⟩ := open_int Tryz.underlying3 (hval 1 3 v1 rfl rfl) h1
  obtain ⟨a2, rfl, rfl, rfl, w2⟩ := open_int Tryz.underlying3 (hval 2 3 v2 rfl rfl) h2
  obtain ⟨a3, rfl, rfl, rfl, w3⟩ := open_int Tryz.underlying3 (hval 3 3 v3 rfl rfl) h3
  obtain ⟨a4, rfl, rfl, rfl, w4⟩ := open_int Tryz.underlying3 (hval 4 3 v4 rfl rfl) h4
  obtain ⟨a5, rfl, rfl, rfl, w5⟩ := open_int Tryz.underlying3 (hval 5 3 v5 rfl rfl) h5
  have k6 := h6
  have lt6 : ∀ x ∈ p6, x.block < W.heap.size := by obtain ⟨m, hm⟩ := k6; exact DataW.trod_lt m _ _ _ hm
  obtain ⟨xs6, w6⟩ : ∃ xs, SlR W v6 1 (IsI .i64) xs := by
    obtain ⟨fuel, hf⟩ := h6
    exact slr_of_trod _ Tryz.underlying22 (by kernel_rfl) (by omega) (okWide_slice Tryz.underlying22 (hval 6 22 v6 rfl rfl)) hf ((fun n cs y _ h => let ⟨m, hm, _, hw⟩ := DataW.trod_int Tryz.underlying3 h; ⟨m, hm, hw⟩))
  obtain ⟨a7, rfl, rfl, rfl⟩ := open_bool Tryz.underlying4 (hval 7 4 v7 rfl rfl) h7
  have k8 := h8
  have lt8 : ∀ x ∈ p8, x.block < W.heap.size := by obtain ⟨m, hm⟩ := k8; exact DataW.trod_lt m _ _ _ hm
  obtain ⟨xs8, w8⟩ : ∃ xs, SlR W v8 3 IsSp xs := by
    obtain ⟨fuel, hf⟩ := h8
    exact slr_of_trod _ Tryz.underlying23 (by kernel_rfl) (by omega) (okWide_slice Tryz.underlying23 (hval 8 23 v8 rfl rfl)) hf (sp_open)
  clear hA0 hval0
  refine (msg_prints a0 a1 a2 a3 a4 a5 v6 xs6 a7 v8 xs8 W (gl_laid hL2) w0 w1 w2 w3 w4 w5 w6 w8).mono fun e W' ⟨he, fr⟩ => ?_
  have bel := Fr.below fr
  subst he
  exact ⟨_, rfl, _, _, _, [], _, [], hW', trodAll_mk1 (shut_bool Tryz.underlying4 _), (trodAll_cons_mk (shut_int Tryz.underlying3 w0) (trodAll_cons_mk (shut_int Tryz.underlying3 w1) (trodAll_cons_mk (shut_int Tryz.underlying3 w2) (trodAll_cons_mk (shut_int Tryz.underlying3 w3) (trodAll_cons_mk (shut_int Tryz.underlying3 w4) (trodAll_cons_mk (shut_int Tryz.underlying3 w5) (trodAll_cons_mk (Below.trod laidOut (by kernel_rfl) (of_decide_eq_true (by kernel_rfl)) k6 bel lt6) (trodAll_cons_mk (shut_bool Tryz.underlying4 _) (trodAll_cons_mk (Below.trod laidOut (by kernel_rfl) (of_decide_eq_true (by kernel_rfl)) k8 bel lt8) trodAll_mk0))))))))), rfl, bel.frame _, fun h => by cases h⟩

theorem said : Rows.MsgPrintsSaid :=
  OpenClaim.holds_of_wide 3 Tryz.f3 rfl rfl rfl rfl rfl rfl rfl ⟨rfl, rfl, rfl, rfl, rfl⟩ rfl rfl rfl rfl rfl (by kernel_rfl) Tryz.func3 (by kernel_rfl)
    (of_decide_eq_true (by kernel_rfl)) (by unfold Func.isWrapper; first | (rw [if_pos (by decide +kernel)]; kernel_rfl) | (rw [if_neg (by decide +kernel)]; exact ⟨rfl, rfl⟩))
    (fun os started H enc _ => lifted os started H enc)

theorem plain (f : FuncId) (fn : Func) (hf : Tryz.pinned.checked.prog.funcNamed "spoor/spoorlaw09.MsgPrints" = some f) (hfn : Tryz.pinned.checked.prog.funcs[f]? = some fn) :
    true = Tryz.pinned.checked.prog.looks [] ∧ ∀ (j : Nat) t, fn.params[j]? = some t → Tryz.pinned.checked.prog.wantsStandIn t = false := by
  obtain rfl : f = 3 := Option.some.inj ((show Tryz.prog.funcNamed "spoor/spoorlaw09.MsgPrints" = some 3 by kernel_rfl).symm.trans hf) |>.symm
  obtain rfl : fn = Tryz.f3 := (Option.some.inj (Tryz.func3.symm.trans hfn)).symm
  refine ⟨by kernel_rfl, fun j t ht => ?_⟩
  rw [Tryz.params3] at ht
  have hm : t ∈ ([3, 3, 3, 3, 3, 3, 22, 4, 23] : List TypeId) := by simpa using Array.mem_of_getElem? ht
  have hall : (([3, 3, 3, 3, 3, 3, 22, 4, 23] : List TypeId).all fun u => !Tryz.prog.wantsStandIn u) = true := by kernel_rfl
  exact (show Tryz.prog.wantsStandIn t = false by simpa using List.all_eq_true.1 hall t hm)

theorem proved : Rows.MsgPrintsCardSaid :=
  Claim7.holds_tied_plain_at .later [] _ _ _ _ said (fun _ h => by cases h) (by kernel_rfl) (fun _ h => by cases h) msgPrints_row_tie rfl ⟨rfl, rfl⟩ (by kernel_rfl) rfl plain (by kernel_rfl)
#print axioms proved
end Go.Proofs.YtbmafogjmdilkaaGreatDoor.msgPrints
end
