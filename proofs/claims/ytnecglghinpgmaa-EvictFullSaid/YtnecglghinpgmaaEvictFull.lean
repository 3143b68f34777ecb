/-
  What the law EvictFull walks.
-/
import Derived.Test.YtnecglghinpgmaaKeepAwake
set_option linter.unusedVariables false
set_option linter.unusedSimpArgs false
namespace Go.Proofs.Ytnecglghinpgmaa
open Go.RowKit Go Go.Maps Go.Lib

theorem add_len : ∀ (P : TP) (t : Int) (x : ByteArray), risT P → txt P t = [] → (∀ p ∈ P, p.2 ≠ []) → (addT P t x).length = P.length + 1
  | [], t, x, _, _, _ => rfl
  | (k, l) :: r, t, x, h, h0, hn => by
    unfold addT
    by_cases h1 : t = k
    · subst h1
      unfold txt at h0
      rw [look_cons_same] at h0
      exact absurd h0 (hn _ (List.mem_cons_self ..))
    · rw [if_neg h1]
      by_cases h2 : t < k
      · rw [if_pos h2]; rfl
      · rw [if_neg h2, List.length_cons, add_len r t x (risT_tail h) (by unfold txt at *; rwa [look_cons_other _ _ h1] at h0) (fun p hp => hn p (List.mem_cons_of_mem _ hp)), List.length_cons]
/-- q traces, each of one buffer, all of them pinned -/
structure FullI (sd : Int) (q : Nat) (K : KS) : Prop where
  sd : K.sd = sd
  loss : K.loss = []
  gone : K.gone = []
  used : used K.P = q
  len : K.P.length = q
  pins : ∀ t ∈ K.pins, 1 ≤ t ∧ t ≤ q
  plen : K.pins.length ≤ q
  keys : ∀ p ∈ K.P, p.1 ∈ K.pins
theorem FullI.start (sd : Int) : FullI sd 0 ⟨sd, [], [], [], []⟩ := ⟨rfl, rfl, rfl, rfl, rfl, by simp, Nat.le_refl _, by simp⟩
theorem FullI.fresh {sd : Int} {q : Nat} {K : KS} (h : FullI sd q K) {t : Int} (ht : (q : Int) < t) : t ∉ K.pins ∧ txt K.P t = [] := by
  refine ⟨fun q => by have := h.pins t q; omega, Decidable.byContradiction fun q => ?_⟩
  have := h.pins t (h.keys _ (txt_mem q))
  omega
theorem FullI.write {sd : Int} {q N : Nat} {K : KS} (h : FullI sd q K) (hq : q < N) (hN : N ≤ 16) {x : ByteArray} (hx : x.size ≤ 40) :
    K.we N ((q : Int) + 1) x = 0 ∧ K.wr N ((q : Int) + 1) x = { K with P := addT K.P ((q : Int) + 1) x } := by
  obtain ⟨h1, h2⟩ := h.fresh (t := (q : Int) + 1) (by omega)
  have hm : mayB ((q : Int) + 1) x = true := by unfold mayB; simp; omega
  have hr : ¬ noRoom N K.P ((q : Int) + 1) := fun e => by have := e.2; rw [h.used] at this; omega
  unfold KS.we KS.wr
  rw [if_neg (by rw [hm]; decide), if_neg (by rw [h.loss]; simp), if_neg h1, if_neg hr, if_neg (by rw [hm]; decide), if_neg (by rw [h.loss]; simp), if_neg h1, if_neg hr]
  exact ⟨rfl, rfl⟩
theorem FullI.step {sd : Int} {q : Nat} {K : KS} (h : FullI sd q K) (hr : risT K.P) (hn : ∀ p ∈ K.P, p.2 ≠ []) (x : ByteArray) : FullI sd (q + 1) { K with P := addT K.P ((q : Int) + 1) x, pins := outL K.pins ((q : Int) + 1) ++ [(q : Int) + 1] } := by
  obtain ⟨h1, h2⟩ := h.fresh (t := (q : Int) + 1) (by omega)
  rw [outL_no h1]
  refine ⟨h.sd, h.loss, h.gone, ?_, ?_, fun t ht => ?_, ?_, fun p hp => ?_⟩
  · show Go.Proofs.Ytnecglghinpgmaa.used (addT K.P _ x) = _
    rw [used_add K.P _ x hr, h2, h.used]; rfl
  · show (addT K.P _ x).length = _
    rw [add_len K.P _ x hr h2 hn, h.len]
  · rcases List.mem_append.1 ht with e | e
    · have := h.pins t e; omega
    · have := List.mem_singleton.1 e; omega
  · simp only [List.length_append, List.length_cons, List.length_nil]
    have := h.plen
    omega
  · rcases mem_add K.P _ x p hp with e | e
    · rw [e]; simp
    · exact List.mem_append_left _ (h.keys p e)
theorem FullI.more {sd : Int} {N : Nat} {K : KS} (h : FullI sd N K) (hN : N ≤ 16) {m : Int} (h1 : 1000 ≤ m) (h2 : m < 2000) (x : ByteArray) (hx : x.size ≤ 40) :
    K.we N m x = 6 ∧ K.wr N m x = { K with loss := [m] } ∧ ({ K with loss := [m] } : KS).we N m x = 10 ∧ ({ K with loss := [m] } : KS).wr N m x = { K with loss := [m] } := by
  obtain ⟨q1, q2⟩ := h.fresh (t := m) (by omega)
  have hm : mayB m x = true := by unfold mayB; simp; omega
  have hr : noRoom N K.P m := ⟨by rw [q2]; rfl, h.used⟩
  have h0 : mayL K = [] := by
    unfold mayL
    rw [List.filter_eq_nil_iff]
    intro t ht
    obtain ⟨p, hp, rfl⟩ := List.mem_map.1 ht
    simpa using h.keys p hp
  have he : (mayL K).isEmpty = true := by rw [h0]; rfl
  have hm' : ¬ mayB m x = false := by rw [hm]; decide
  unfold KS.we KS.wr
  rw [if_neg hm', if_neg (by rw [h.loss]; simp), if_neg q1, if_pos hr, if_pos he, if_neg hm', if_neg (by rw [h.loss]; simp), if_neg q1, if_pos hr, if_pos he, if_neg hm', if_pos (by simp), if_neg hm', if_pos (by simp)]
  exact ⟨rfl, by rw [h.loss]; rfl, rfl, rfl⟩
set_option maxHeartbeats 4000000 in
set_option maxRecDepth 10000 in
theorem full_any (n sd more : Int) (w : World) (hn : (Lit.int .i64 n).wf = true) (hs : (Lit.int .u64 sd).wf = true) (hm : (Lit.int .i64 more).wf = true) : Calls Try.prog 7 #[.int .i64 n, .int .u64 sd, .int .i64 more] w fun e w' => e = .returned (.bool true) ∧ Fr noB w w' := by
  obtain ⟨a, ha, ha0, ha1⟩ := umod n 16 (by omega) (by omega)
  obtain ⟨b, hb, hb0, hb1⟩ := umod more 1000 (by omega) (by omega)
  have hsd : U64 sd := wf_u64 hs
  obtain ⟨N, hN⟩ : ∃ N : Nat, 1 + a = (N : Int) := ⟨(1 + a).toNat, by omega⟩
  obtain ⟨m, hmm⟩ : ∃ m : Int, 1000 + b = m := ⟨_, rfl⟩
  have hN1 : 1 ≤ N := by omega
  have hN16 : N ≤ 16 := by omega
  have hm1 : 1000 ≤ m ∧ m < 2000 := by omega
  have okm : okI m := okI_of (by omega) (by omega)
  have hnw := knew_any N sd w hN1 hN16 hsd
  have haw := fun w' => awake_any w'
  clear hn hs hm
  go_enter Try.func7, Try.ntmps7
  go_wp2_with fail
  clear hN hmm ha ha0 ha1 hb hb0 hb1
  refine hnw.mono ?_
  rintro e w1 ⟨k, g, bp, bl, B, rfl, h1, f1, hk, hg, hp, hl⟩
  clear hnw
  have hS1 : ∀ q, kpS k g bp bl none q → w.heap.size ≤ q := fun q hq => by
    rcases hq with e | e | e | e | ⟨o, e⟩
    · omega
    · omega
    · omega
    · omega
    · cases e
  replace h1 := Lib.hid h1
  go_wp2_with fail
  refine (haw _).mono ?_
  rintro e w2 ⟨rfl, f2⟩
  clear haw
  have h2 := h1.out.frN f2
  have g2 : Fr (fun q => w.heap.size ≤ q) w w2 := (f1.seqN f2).mono (fun _ _ q => False.elim q)
  have hfi := FullI.start sd
  replace hS1 := Lib.hid hS1
  replace hfi := Lib.hid hfi
  clear h1 f1 f2
  go_wp2_with fail
  go_loopg [9] (N + 1) (fun gk i wr => ∃ (q wc : Nat) (wa : Option Addr) (K : KS), q + gk = N + 1 ∧ q ≤ N ∧ i = .int .i64 ((q : Int) + 1) ∧ Kp wr k g bp bl B N wa wc K ∧ Hid (FullI sd q K) ∧ Hid (∀ z, kpS k g bp bl wa z → w.heap.size ≤ z) ∧ Fr (fun z => w.heap.size ≤ z) w wr)
  case atStart => exact ⟨0, 0, none, ⟨sd, [], [], [], []⟩, by omega, by omega, by simp, h2, hfi, hS1, g2⟩
  case round =>
    clear h2 hfi hS1 g2
    obtain ⟨q, wc, wa, K, hgk, hqN, rfl, h, hfi, hS, fr⟩ := hrel
    by_cases hq : q < N
    · obtain ⟨e1, e2⟩ := hfi.out.write hq hN16 (x := sx) (by decide)
      have okq : okI ((q : Int) + 1) := okI_of (by omega) (by omega)
      have hz1 := hfi.out.plen
      have hz2 := hfi.out.loss
      have hz3 := hfi.out.gone
      have hc := kwrite_any k g bp bl B N wc wa K ((q : Int) + 1) sx wr h (by rw [hz2]; decide) (by rw [hz3]; decide)
      have hstep := hfi.out.step h.po.ris h.po.ne sx
      have e3 : K.ws N ((q : Int) + 1) sx = ⟨(q : Int) + 1, ((txt K.P ((q : Int) + 1)).length : Int) + 1, sx⟩ := by unfold KS.ws; rw [if_pos e1]
      rw [e1, e2, e3, (hfi.out.fresh (t := (q : Int) + 1) (by omega)).2] at hc
      unfold spV sx at hc
      have hd1 : decide ((q : Int) + 1 ≤ N) = true := by simp; omega
      replace hstep := Lib.hid hstep
      clear e1 e2 e3 h hfi hz2 hz3
      go_wp2_with fail
      refine hc.mono ?_
      rintro e w3 ⟨rfl, kt⟩
      clear hc
      obtain ⟨wa3, wc3, h3, hS3, f3⟩ := kstep kt hS.out (fun z hz => by have := fr.size; omega)
      have fS := (Fr.refl noB w3).alloc (.cells #[.int .i64 ((q : Int) + 1), .int .i64 1, .string (ByteArray.mk #[120])] 35)
      have h3a := h3.frN fS
      have g3 : Fr (fun z => w.heap.size ≤ z) w _ := (fr.trans f3 (fun _ _ q => q) (fun _ _ q => q)).seqN fS
      have hc := kpin_any k g bp bl B N wc3 wa3 _ ((q : Int) + 1) _ h3a okq (by simp only; omega)
      clear kt h3 f3 fr fS
      replace h3a := Lib.hid h3a
      replace hS3 := Lib.hid hS3
      go_wp2_with fail
      refine hc.mono ?_
      rintro e w4 ⟨rfl, kt⟩
      obtain ⟨wa4, wc4, h4, hS4, f4⟩ := kstep kt hS3.out (fun z hz => by have := g3.size; omega)
      have g4 : Fr (fun z => w.heap.size ≤ z) w w4 := g3.trans f4 (fun _ _ q => q) (fun _ _ q => q)
      clear hc kt f4 g3 h3a hS3
      replace hS4 := Lib.hid hS4
      go_wp2_with fail
      go_roundg (N + 1 - q - 1)
      case rel => exact ⟨q + 1, wc4, wa4, _, by omega, by omega, by go_num, h4, hstep, hS4, g4⟩
      case measure => omega
    · obtain rfl : q = N := by omega
      have hd1 : decide ((q : Int) + 1 ≤ q) = false := by simp; omega
      obtain ⟨m1, m2, m3, m4⟩ := hfi.out.more hN16 hm1.1 hm1.2 sy (by decide)
      have hz1 := hfi.out.plen
      have hz2 := hfi.out.loss
      have hz3 := hfi.out.gone
      have hc := kwrite_any k g bp bl B q wc wa K m sy wr h (by rw [hz2]; decide) (by rw [hz3]; decide)
      have e3 : K.ws q m sy = sp0 := by unfold KS.ws; rw [if_neg (by rw [m1]; decide)]
      have e4 : ({ K with loss := [m] } : KS).ws q m sy = sp0 := by unfold KS.ws; rw [if_neg (by rw [m3]; decide)]
      rw [m1, m2, e3] at hc
      unfold spV sy at hc
      have hus := hfi.out.used
      have hln := hfi.out.len
      replace m3 := Lib.hid m3
      replace m4 := Lib.hid m4
      replace e4 := Lib.hid e4
      replace hus := Lib.hid hus
      replace hln := Lib.hid hln
      replace hz3 := Lib.hid hz3
      clear m1 m2 e3 h hfi hz1 hz2
      go_wp2_with fail
      refine hc.mono ?_
      rintro e w3 ⟨rfl, kt⟩
      clear hc
      obtain ⟨wa3, wc3, h3, hS3, f3⟩ := kstep kt hS.out (fun z hz => by have := fr.size; omega)
      have fS := (Fr.refl noB w3).alloc (.cells #[.int .i64 0, .int .i64 0, .string (ByteArray.mk #[])] 35)
      have h3a := h3.frN fS
      have g3 : Fr (fun z => w.heap.size ≤ z) w _ := (fr.trans f3 (fun _ _ q => q) (fun _ _ q => q)).seqN fS
      have hc := kwrite_any k g bp bl B q wc3 wa3 _ m sy _ h3a (by simp) (by simp only; rw [hz3.out]; decide)
      rw [m3.out, m4.out, e4.out] at hc
      unfold spV sy at hc
      clear kt h3 f3 fr fS m3 m4 e4
      replace h3a := Lib.hid h3a
      replace hS3 := Lib.hid hS3
      go_wp2_with fail
      refine hc.mono ?_
      rintro e w4 ⟨rfl, kt⟩
      obtain ⟨wa4, wc4, h4, hS4, f4⟩ := kstep kt hS3.out (fun z hz => by have := g3.size; omega)
      have fS := (Fr.refl noB w4).alloc (.cells #[.int .i64 0, .int .i64 0, .string (ByteArray.mk #[])] 35)
      have h4a := h4.frN fS
      have g4 : Fr (fun z => w.heap.size ≤ z) w _ := (g3.trans f4 (fun _ _ q => q) (fun _ _ q => q)).seqN fS
      have q1 := klost_any k g bp bl B q wc4 wa4 _ m _ h4a okm
      rw [decide_eq_true (show m ∈ ({ K with loss := [m] } : KS).loss by simp)] at q1
      clear hc kt h4 f4 g3 h3a hS3 fS
      replace h4a := Lib.hid h4a
      go_wp2_with fail
      refine q1.mono ?_
      rintro e w5 ⟨rfl, f5⟩
      have h5 := h4a.out.frN f5
      have g5 := g4.seqN f5
      have q1 := kevicted_any k g bp bl B q wc4 wa4 _ w5 h5 (by simp only; rw [hz3.out]; decide)
      clear q1 f5 g4 h4a
      have q1 := kevicted_any k g bp bl B q wc4 wa4 _ w5 h5 (by simp only; rw [hz3.out]; decide)
      replace h5 := Lib.hid h5
      go_wp2_with fail
      refine q1.mono ?_
      rintro e w6 ⟨u, rfl, o6, f6⟩
      obtain ⟨ua, uc, rfl⟩ := ownsRow_slice o6
      have h6 := h5.out.frN f6
      have g6 := g5.seqN f6
      simp only [hz3.out, List.length_nil]
      clear q1 h5 o6 f6 g5
      have q1 := kused_any k g bp bl B q wc4 wa4 _ w6 h6
      simp only [hus.out] at q1
      replace h6 := Lib.hid h6
      go_wp2_with fail
      refine q1.mono ?_
      rintro e w7 ⟨rfl, f7⟩
      have h7 := h6.out.frN f7
      have g7 := g6.seqN f7
      clear q1 h6 f7 g6
      have q1 := ktraces_any k g bp bl B q wc4 wa4 _ w7 h7
      simp only [List.length_map, hln.out] at q1
      clear h7
      go_wp2_with fail
      refine q1.mono ?_
      rintro e w8 ⟨u8, rfl, o8, f8⟩
      obtain ⟨ua8, uc8, rfl⟩ := ownsRow_slice o8
      have g8 := g7.seqN f8
      clear q1 f8 g7 o8
      go_wp2_with fail
      go_ret
      exact ⟨rfl, ⟨g8.os, g8.tape, g8.output, g8.size, fun z hz _ => g8.block z hz (by omega)⟩⟩
end Go.Proofs.Ytnecglghinpgmaa
