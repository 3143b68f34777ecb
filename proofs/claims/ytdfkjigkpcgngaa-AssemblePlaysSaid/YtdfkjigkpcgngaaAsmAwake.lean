/-
  What the layer's laws ask first.
-/
import Derived.Test.YtdfkjigkpcgngaaAsmV
set_option linter.unusedVariables false
set_option linter.unusedSimpArgs false
set_option maxRecDepth 100000
set_option maxRecDepth 100000
namespace Go.Proofs.Ytdfkjigkpcgngaa
open Go.RowKit Go Go.Maps Go.Lib

def aP0 : Pn := ⟨0, 7, 2, 1, [], false⟩
def aP1 : Pn := ⟨1, 7, 2, 0, [], false⟩
def aSp : Sp := ⟨7, 1, ⟨#[115]⟩⟩
def aS0 : PS := ⟨7, 2, none, []⟩
def aS1 : PS := ⟨7, 2, some (1, [aP0, aP1]), []⟩
def aS2 : PS := ⟨7, 2, some (1, [aP0, aP1]), [(0, 1, [(0, [aSp])])]⟩
def aS3 : PS := ⟨7, 2, some (1, [aP0, aP1]), [(1, 1, [(0, [])]), (0, 1, [(0, [aSp])])]⟩
theorem ah1 : aS0.hear (.manifest 7 2 1 [aP0, aP1]) = (true, aS1) := by rfl
theorem ah2 : aS1.hear (.chunk 0 7 2 0 1 [aSp]) = (true, aS2) := by rfl
theorem ah3 : aS2.hear (.chunk 1 7 2 0 1 []) = (true, aS3) := by rfl
theorem ah4 : aS3.hear (.chunk 1 7 2 0 1 []) = (false, aS3) := by rfl
theorem am2 : aS2.miss = [1] := by rfl
theorem am3 : aS3.miss = [] := by rfl
theorem ar2 : aS2.recd = none := by rfl
theorem ar3 : aS3.recd = some (1, [(aP0, [aSp]), (aP1, [])]) := by rfl
theorem rdi_nil (w : World) : RdI w (.slice none 0 0) [] := ⟨none, 0, rfl, by simp, by simp, fun i hi => by simp at hi⟩
theorem rd_two (w : World) : RdPs (w.alloc (.cells #[.int .i64 0, .int .i64 7, .int .i64 2, .int .i64 1, .slice none 0 0, .bool false, .int .i64 1, .int .i64 7, .int .i64 2, .int .i64 0, .slice none 0 0, .bool false] 65)) (.slice (some ⟨w.heap.size, 0, none⟩) 2 2) [aP0, aP1] := by
  have b := Blk.new w 65 [.int .i64 0, .int .i64 7, .int .i64 2, .int .i64 1, .slice none 0 0, .bool false, .int .i64 1, .int .i64 7, .int .i64 2, .int .i64 0, .slice none 0 0, .bool false]
  refine ⟨some ⟨w.heap.size, 0, none⟩, 2, rfl, Nat.le_refl _, by decide, fun i p hi => ?_⟩
  match i, hi with
  | 0, hi =>
    injection hi with hi
    subst hi
    refine ⟨w.heap.size, 0, none, 0, rfl, fun q x hx => ?_, rdi_nil _⟩
    rw [Nat.zero_add]
    refine (b.cell (0 * 6 + q)).trans ?_
    match q, hx with
    | 0, hx => exact hx
    | 1, hx => exact hx
    | 2, hx => exact hx
    | 3, hx => exact hx
    | 4, hx => exact hx
    | 5, hx => exact hx
  | 1, hi =>
    injection hi with hi
    subst hi
    refine ⟨w.heap.size, 0, none, 0, rfl, fun q x hx => ?_, rdi_nil _⟩
    rw [Nat.zero_add]
    refine (b.cell (1 * 6 + q)).trans ?_
    match q, hx with
    | 0, hx => exact hx
    | 1, hx => exact hx
    | 2, hx => exact hx
    | 3, hx => exact hx
    | 4, hx => exact hx
    | 5, hx => exact hx
theorem two_of : ∀ (U : List RU), U.length = 2 → ∃ u0 u1, U = [u0, u1]
  | [u0, u1], _ => ⟨u0, u1, rfl⟩
set_option maxHeartbeats 8000000 in
theorem awake_any (w : World) : Calls Try.prog 6 #[] w fun e w' => e = .returned (.bool true) ∧ Fr noB w w' := by
  have hn := new_v 7 2 w
  replace hn := Lib.hid hn
  go_enter Try.func6, Try.ntmps6
  go_wp2_with fail
  go_fit hn.out
  rintro e w1 ⟨p, bm, D0, rfl, h1⟩
  replace h1 := Lib.hid h1
  clear hn
  go_wp2_with fail
  have fA : Fr noB w1 (w1.alloc (.cells #[.int .i64 0, .int .i64 7, .int .i64 2, .int .i64 1, .slice none 0 0, .bool false, .int .i64 1, .int .i64 7, .int .i64 2, .int .i64 0, .slice none 0 0, .bool false] 65)) := (Fr.refl _ _).alloc _
  have hc := hear_v w p bm D0 aS0 (.manifest 7 2 1 [aP0, aP1]) (mManifest 7 2 1 (.slice (some ⟨w1.heap.size, 0, none⟩) 2 2)) _ (h1.out.frN fA) ⟨_, rfl, rd_two w1⟩
  rw [ah1] at hc
  unfold mManifest at hc
  go_fit hc
  rintro e w2 ⟨rfl, _, D1, h2, _⟩
  replace h2 := Lib.hid h2
  clear hc fA h1
  go_wp2_with fail
  have fA : Fr noB w2 (w2.alloc (.cells #[.int .i64 7, .int .i64 1, .string ⟨#[115]⟩] 63)) := (Fr.refl _ _).alloc _
  have hsp : RdSp (w2.alloc (.cells #[.int .i64 7, .int .i64 1, .string ⟨#[115]⟩] 63)) (.slice (some ⟨w2.heap.size, 0, none⟩) 1 1) [aSp] := RdSp.of_own (own_new w2 63 [.int .i64 7, .int .i64 1, .string ⟨#[115]⟩] 3 1 rfl (by unfold maxLen; omega)) rfl
  have hc := hear_v w p bm D1 aS1 (.chunk 0 7 2 0 1 [aSp]) (mChunk 0 7 2 0 1 (.slice (some ⟨w2.heap.size, 0, none⟩) 1 1)) _ (h2.out.frN fA) ⟨_, rfl, hsp⟩
  rw [ah2] at hc
  unfold mChunk at hc
  go_fit hc
  rintro e w3 ⟨rfl, _, D2, h3, _⟩
  have hm := missing_v w p bm D2 aS2 w3 h3
  rw [am2] at hm
  replace h3 := Lib.hid h3
  replace hm := Lib.hid hm
  clear hc fA h2 hsp
  go_wp2_with fail
  go_fit hm.out
  rintro e w4 ⟨vm, rfl, om, f4⟩
  have h4 := h3.out.frN f4
  have hr := record_v w p bm D2 aS2 w4 h4
  rw [ar2] at hr
  have rm : RdI w4 vm [1] := RdI.of_own om
  obtain ⟨ma, mc, rfl⟩ := ownsRow_slice om
  have hma : ∀ g o n c, Value.slice ma 1 mc = .slice (some ⟨g, o, none⟩) n c → ¬ D2 g ∧ g < w4.heap.size := fun g o n c e => by
    injection e with e1 _ _
    subst e1
    have h9 := om.lt g rfl
    exact ⟨fun q => by have := h3.out.lt g q; omega, h9.2⟩
  replace hma := Lib.hid hma
  replace h4 := Lib.hid h4
  replace hr := Lib.hid hr
  replace rm := Lib.hid rm
  clear hm f4 h3 om
  go_wp2_with fail
  go_fit hr.out
  rintro e w5 ⟨f5, h5, _⟩
  obtain rfl := h5 rfl
  unfold noRec
  clear h5 hr
  have f5s : Hid (w4.heap.size ≤ w5.heap.size) := Lib.hid f5.size
  have f5a := f5.alloc (.cells #[.int .i64 0, .int .i64 0, .int .i64 0, .bool false, .slice none 0 0] 50)
  have h5 := h4.out.frN f5a
  have rm5 := rm.out.frN f5a
  have hc := hear_v w p bm D2 aS2 (.chunk 1 7 2 0 1 []) (mChunk 1 7 2 0 1 (.slice none 0 0)) _ h5 ⟨_, rfl, rd_nil _⟩
  rw [ah3] at hc
  unfold mChunk at hc
  replace hc := Lib.hid hc
  replace rm5 := Lib.hid rm5
  clear f5a f5 h5 h4 rm
  go_wp2_with fail
  go_fit hc.out
  rintro e w6 ⟨rfl, f6, D3, h6, hD3⟩
  have hs45 : Hid (w4.heap.size < (w5.alloc (.cells #[.int .i64 0, .int .i64 0, .int .i64 0, .bool false, .slice none 0 0] 50)).heap.size) := Lib.hid (by have := f5s.out; rw [size_alloc]; omega)
  have rm6 := rm5.out.fr f6 (fun g o n c e => (hma.out g o n c e).1)
  have hma3 : ∀ g o n c, Value.slice ma 1 mc = .slice (some ⟨g, o, none⟩) n c → ¬ D3 g := fun g o n c e q => by
    rcases hD3 g q with q | q
    · exact (hma.out g o n c e).1 q
    · have := (hma.out g o n c e).2; have := hs45.out; omega
  have hc2 := hear_v w p bm D3 aS3 (.chunk 1 7 2 0 1 []) (mChunk 1 7 2 0 1 (.slice none 0 0)) _ h6 ⟨_, rfl, rd_nil _⟩
  rw [ah4] at hc2
  unfold mChunk at hc2
  replace hc2 := Lib.hid hc2
  replace rm6 := Lib.hid rm6
  replace hma3 := Lib.hid hma3
  clear hc rm5 f6 h6 hD3 hma hs45 f5s
  go_wp2_with fail
  go_fit hc2.out
  rintro e w7 ⟨rfl, f7, D4, h7, hD4⟩
  have rm7 := rm6.out.fr f7 (fun g o n c e => hma3.out g o n c e)
  have hr := record_v w p bm D4 aS3 w7 h7
  rw [ar3] at hr
  change Calls Try.prog 16 #[.pointer (some ⟨p, 0, none⟩)] w7 fun e w' => RecPost e w7 w' 7 2 (some (1, [(aP0, [aSp]), (aP1, [])])) at hr
  replace hr := Lib.hid hr
  replace rm7 := Lib.hid rm7
  replace h7 := Lib.hid h7
  clear hc2 rm6 f7 hD4 hma3
  go_wp2_with fail
  go_fit hr.out
  rintro e w8 ⟨f8, _, h8⟩
  obtain ⟨vR, U, he, oR, oU, hU⟩ := h8 _ _ rfl
  rw [show wholeL [(aP0, [aSp]), (aP1, [])] = true from rfl] at he
  subst he
  obtain ⟨u0, u1, rfl⟩ := two_of U (by have := congrArg List.length hU; simpa using this)
  have hu0 : u0.S.length = 1 := by
    have : RU.pair u0 = (aP0, [aSp]) := by injection hU
    have := congrArg (fun x => x.2.length) this
    exact this
  have oR' : w8.ownsRow w7.heap.size 69 4 vR 2 ([u0, u1].flatMap RU.cs) := oR
  obtain ⟨gR, cR, rfl, hgR⟩ := ownsRow_some oR' (by omega)
  have k1 : w8.cell? ⟨gR, 1, none⟩ = some (.slice u0.sa 1 u0.sc) := by
    have := oR'.cells (g := gR) rfl 1 (.slice u0.sa u0.S.length u0.sc) rfl
    rw [add_none, hu0] at this
    exact this
  have f9 : Fr noB w8 (w8.alloc (.cells #[.int .i64 7, .int .i64 2, .int .i64 1, .bool true, .slice (some ⟨gR, 0, none⟩) 2 cR] 50)) := (Fr.refl _ _).alloc _
  have b9 := Blk.new w8 50 [.int .i64 7, .int .i64 2, .int .i64 1, .bool true, .slice (some ⟨gR, 0, none⟩) 2 cR]
  have f79 := f8.seqN f9
  have h9 := h7.out.frN f79
  have rm9 := rm7.out.frN f79
  have k19 := f9.cell k1 (fun q => q)
  obtain ⟨rb, hrb⟩ : ∃ rb, w8.heap.size = rb := ⟨_, rfl⟩
  rw [hrb] at b9
  replace b9 := Lib.hid b9
  replace h9 := Lib.hid h9
  replace rm9 := Lib.hid rm9
  replace k19 := Lib.hid k19
  clear h8 oR oU hU hu0 oR' hgR k1 f8 f9 f79 h7 rm7 hr
  go_upto_region 11 with fail
  try rw [hrb]
  clear hrb
  generalize (w8.alloc (.cells #[.int .i64 7, .int .i64 2, .int .i64 1, .bool true, .slice (some ⟨gR, 0, none⟩) 2 cR] 50)) = w9 at *
  have fA : Fr noB w9 (w9.alloc (.cells #[.int .i64 1] 3)) := (Fr.refl _ _).alloc _
  have rN : RdI (w9.alloc (.cells #[.int .i64 1] 3)) (.slice (some ⟨w9.heap.size, 0, none⟩) 1 1) [1] := RdI.of_own (own_new w9 3 [.int .i64 1] 1 1 rfl (by unfold maxLen; omega))
  have hsi := sameInts_any (.slice ma 1 mc) (.slice (some ⟨w9.heap.size, 0, none⟩) 1 1) [1] [1] _ (rm9.out.frN fA) rN
  rw [show decide (([1] : List Int) = [1]) = true from by decide] at hsi
  replace hsi := Lib.hid hsi
  replace fA := Lib.hid fA
  clear rN rm9
  go_wp2_with fail
  go_fit hsi.out
  rintro e w10 ⟨rfl, q, hq⟩
  have f10 : Fr noB w9 w10 := by rw [hq]; exact fA.out.drewN q
  have b10 := f10.blk b9.out (fun q => q)
  have d2 : w10.cell? ⟨rb, 2, none⟩ = some (.int .i64 1) := b10.cell 2
  have d3 : w10.cell? ⟨rb, 3, none⟩ = some (.bool true) := b10.cell 3
  have d4 : w10.cell? ⟨rb, 4, none⟩ = some (.slice (some ⟨gR, 0, none⟩) 2 cR) := b10.cell 4
  have k10 := f10.cell k19.out (fun q => q)
  have hm := missing_v w p bm D4 aS3 w10 (h9.out.frN f10)
  rw [am3] at hm
  replace hm := Lib.hid hm
  replace f10 := Lib.hid f10
  clear hsi fA hq b9 k19 b10
  go_wp2_with fail
  go_fit hm.out
  rintro e w11 ⟨vm, rfl, om, f11⟩
  obtain ⟨xa, xc, rfl⟩ := ownsRow_slice om
  have fz := Lib.hid ((h9.out.fr0.seqN f10.out).seqN f11)
  clear om hm d2 d3 d4 k10 f10 h9 f11
  go_wp2_with fail
  go_ret
  exact ⟨rfl, fz.out⟩
end Go.Proofs.Ytdfkjigkpcgngaa
