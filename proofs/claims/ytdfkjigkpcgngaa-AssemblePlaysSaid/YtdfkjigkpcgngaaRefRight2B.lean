/-
  The reference's Right of a Chunk.
-/
import Derived.Deep.DeepCutAuto
import Derived.BigQuiet
import Derived.Deep.QuietTactic
import Derived.Deep.LoopGhost
import Derived.Test.YtdfkjigkpcgngaaRefPart
import Derived.Test.YtdfkjigkpcgngaaLike
import Derived.Test.YtdfkjigkpcgngaaMsMayB
set_option linter.unusedVariables false
set_option linter.unusedSimpArgs false
set_option maxRecDepth 100000
namespace Go.Proofs.Ytdfkjigkpcgngaa
open Go.RowKit Go Go.Lib
theorem inB_lim {lo hi n : Int} (h : inB lo hi n = true) : lo ≤ n ∧ n ≤ hi := by
  unfold inB at h
  simpa using h

theorem chunkB_r (a t j i n : Int) (sp : List Sp) : chunkB a t j i n sp = (inB 1 65535 t && (inB 1 1073741824 j && (spsB t sp && (inB 0 3 a && (inB 1 500 n && (inB 0 (n - 1) i && decide (sp.length ≤ 2))))))) := by
  rw [Bool.eq_iff_iff]
  unfold chunkB
  simp only [Bool.and_eq_true, inB, decide_eq_true_eq]
  constructor
  · rintro ⟨h1, h2, h3, h4, h5, h6, h7, h8, h9⟩
    exact ⟨h2, h3, h9, h1, ⟨h4, h5⟩, ⟨h6, by omega⟩, h8⟩
  · rintro ⟨h2, h3, h9, h1, ⟨h4, h5⟩, ⟨h6, h7⟩, h8⟩
    exact ⟨h1, h2, h3, h4, h5, h6, by omega, h8, h9⟩

set_option maxHeartbeats 20000000 in
theorem rr_Chunk (a t j i n : Int) (sp : List Sp) (sa : Option Addr) (sn sc : Nat) (w : World) (hsp : RdSp w (.slice sa sn sc) sp) :
    Calls Try.prog 26 #[mrV { k := 6, a := a, t := t, j := j, i := i, n := n, sa := sa, sn := sn, sc := sc }] w fun e w' => e = .returned (.bool (chunkB a t j i n sp)) ∧ Fr noB w w' := by
  obtain ⟨b, hb⟩ : ∃ b, chunkB a t j i n sp = b := ⟨_, rfl⟩
  rw [hb]
  rw [chunkB_r] at hb
  have hget : ∀ k, k < sp.length → ∃ m, sp[k]? = some m := fun k hk => ⟨sp[k], List.getElem?_eq_getElem hk⟩
  have hdr := spsB_drop t sp
  have hd0 : spsB t (sp.drop 0) = spsB t sp := by rw [List.drop_zero]
  have hend : spsB t (sp.drop sp.length) = true := by rw [List.drop_length]; rfl
  obtain ⟨_, _, e1, hx1, hx2, _, hx3⟩ := hsp
  cases e1
  unfold maxLen at hx2
  obtain ⟨N, hN⟩ : ∃ N, sp.length = N := ⟨_, rfl⟩
  rw [hN] at hget hend hx1 hb ⊢
  have hNb : (N : Int) ≤ 9223372036854775807 := by omega
  clear hx2
  unfold mrV mrC
  have fX := (Fr.refl noB w).alloc (.cells #[.int .i64 6, .int .i64 a, .int .i64 t, .int .i64 j, .int .i64 0, .int .i64 i, .int .i64 n, .int .i64 0, .int .i64 0, .int .i64 0, .int .i64 0, .slice none 0 0, .bool false, .slice none 0 0, .slice sa N sc] 34)
  have bX := Blk.new w 34 [.int .i64 6, .int .i64 a, .int .i64 t, .int .i64 j, .int .i64 0, .int .i64 i, .int .i64 n, .int .i64 0, .int .i64 0, .int .i64 0, .int .i64 0, .slice none 0 0, .bool false, .slice none 0 0, .slice sa N sc]
  have k0 := within_any t 1 65535
  have k1 := within_any j 1 1073741824
  have k2 := within_any a 0 3
  have k3 := within_any n 1 500
  have k4 := within_any i 0
  obtain ⟨gx, hgx⟩ : ∃ g, w.heap.size = g := ⟨_, rfl⟩
  rw [hgx] at bX
  replace hx3 := Lib.hid hx3
  replace hget := Lib.hid hget
  replace hdr := Lib.hid hdr
  replace hend := Lib.hid hend
  replace hN := Lib.hid hN
  replace hb := Lib.hid hb
  replace hd0 := Lib.hid hd0
  replace k0 := Lib.hid k0
  replace k1 := Lib.hid k1
  replace k2 := Lib.hid k2
  replace k3 := Lib.hid k3
  replace k4 := Lib.hid k4
  have e2 : (w.alloc (.cells #[.int .i64 6, .int .i64 a, .int .i64 t, .int .i64 j, .int .i64 0, .int .i64 i, .int .i64 n, .int .i64 0, .int .i64 0, .int .i64 0, .int .i64 0, .slice none 0 0, .bool false, .slice none 0 0, .slice sa N sc] 34)).cell? ⟨gx, 2, none⟩ = some (.int .i64 t) := bX.cell 2
  have e0 : (w.alloc (.cells #[.int .i64 6, .int .i64 a, .int .i64 t, .int .i64 j, .int .i64 0, .int .i64 i, .int .i64 n, .int .i64 0, .int .i64 0, .int .i64 0, .int .i64 0, .slice none 0 0, .bool false, .slice none 0 0, .slice sa N sc] 34)).cell? ⟨gx, 0, none⟩ = some (.int .i64 6) := bX.cell 0
  have e3 : (w.alloc (.cells #[.int .i64 6, .int .i64 a, .int .i64 t, .int .i64 j, .int .i64 0, .int .i64 i, .int .i64 n, .int .i64 0, .int .i64 0, .int .i64 0, .int .i64 0, .slice none 0 0, .bool false, .slice none 0 0, .slice sa N sc] 34)).cell? ⟨gx, 3, none⟩ = some (.int .i64 j) := bX.cell 3
  go_enter Try.func26, Try.ntmps26
  go_wp2_with fail
  generalize (w.alloc (.cells #[.int .i64 6, .int .i64 a, .int .i64 t, .int .i64 j, .int .i64 0, .int .i64 i, .int .i64 n, .int .i64 0, .int .i64 0, .int .i64 0, .int .i64 0, .slice none 0 0, .bool false, .slice none 0 0, .slice sa N sc] 34)) = wx at *
  go_fit (k0.out _)
  rintro e w1 ⟨rfl, hw1⟩
  obtain rfl := hw1.symm
  cases hb1 : inB 1 65535 t with
  | false =>
    go_wp2_with fail
    go_ret
    exact ⟨ret_b (by rw [← hb.out, hb1]; rfl), fX⟩
  | true =>
  go_wp2_with fail
  go_fit (k1.out _)
  rintro e w1 ⟨rfl, hw1⟩
  obtain rfl := hw1.symm
  cases hb2 : inB 1 1073741824 j with
  | false =>
    go_wp2_with fail
    go_ret
    exact ⟨ret_b (by rw [← hb.out, hb1, hb2]; rfl), fX⟩
  | true =>
  have hbb := hb.out
  rw [hb1, hb2, Bool.true_and, Bool.true_and, ← hd0.out] at hbb
  replace hbb := Lib.hid hbb
  clear hb hb1 hb2 e0 e2 e3
  replace bX := Lib.hid bX
  have z0 : wx.cell? ⟨gx, 0, none⟩ = some (.int .i64 6) := bX.out.cell 0
  go_wp2_with fail
  clear z0
  go_loopw [3] (fun vi wr => ∃ k : Nat, k ≤ N ∧ vi = .int .i64 k ∧ Hid (spsB t (sp.drop 0) = spsB t (sp.drop k)) ∧ Fr noB wx wr) (fun vi _ => N - (RowKit.intOf vi).toNat)
  case atStart => exact ⟨0, by omega, rfl, Lib.hid rfl, Fr.refl _ _⟩
  case round =>
    obtain ⟨k, hk, rfl, hE, fr⟩ := hrel
    have bk := fr.blk bX.out (fun q => q)
    have d14 : wr.cell? ⟨gx, 14, none⟩ = some (.slice sa N sc) := bk.cell 14
    have frw := fX.seqN fr
    by_cases hlt : k < N
    · obtain ⟨s, hs⟩ := hget.out k hlt
      obtain ⟨g, o, rfl, c0, c1, c2⟩ := hx3.out k s hs
      have hS : ∀ w', Fr noB wr w' → ((w'.cell? ⟨gx, 14, none⟩ = some (.slice (some ⟨g, o, none⟩) N sc) ∧ w'.cell? ⟨gx, 2, none⟩ = some (.int .i64 t)) ∧ w'.cell? ⟨g, o + k * 3, none⟩ = some (.int .i64 s.t) ∧ w'.cell? ⟨g, o + k * 3 + 1, none⟩ = some (.int .i64 s.q) ∧ w'.cell? ⟨g, o + k * 3 + 2, none⟩ = some (.string s.x)) := fun w' f => by
        have b := f.blk bk (fun q => q)
        exact ⟨⟨b.cell 14, b.cell 2⟩, (frw.seqN f).cell c0 (fun q => q), (frw.seqN f).cell c1 (fun q => q), (frw.seqN f).cell c2 (fun q => q)⟩
      have hst := hdr.out k s hs
      rw [← hE.out] at hst
      have hb1 : (k : Int) < N := by omega
      have hrt := rright_any s
      generalize rightS s = rs at *
      replace hrt := Lib.hid hrt
      replace hs := Lib.hid hs
      obtain ⟨_, y0, y1, y2⟩ := hS wr (Fr.refl _ _)
      replace hS := Lib.hid hS
      clear c0 c1 c2 bk hE
      cases rs with
      | false =>
        rw [Bool.false_and, Bool.false_and] at hst
        replace hst := Lib.hid hst
        go_wp2_with fail
        clear y0 y1 y2
        refine wp_region_held_drew (S := fun w' => (w'.cell? ⟨gx, 14, none⟩ = some (.slice (some ⟨g, o, none⟩) N sc) ∧ w'.cell? ⟨gx, 2, none⟩ = some (.int .i64 t)) ∧ w'.cell? ⟨g, o + k * 3, none⟩ = some (.int .i64 s.t) ∧ w'.cell? ⟨g, o + k * 3 + 1, none⟩ = some (.int .i64 s.q) ∧ w'.cell? ⟨g, o + k * 3 + 2, none⟩ = some (.string s.x)) (by kernel_rfl) (hS.out _ ((Fr.refl noB wr).drewN 1)) (fun hHeld => ?_)
        (refine wpAnyH_take (i := 0) (oi := ?_) (v := ?_) ?_ (by kernel_rfl) (by kernel_rfl) (by kernel_rfl) ?_ ?_ (by assumption) ?_; rotate_left 2; (focus ((simp only [List.getElem?_toArray, List.getElem?_cons_succ, List.getElem?_cons_zero]); try rfl)); (focus (exact (fun _ _ _ h => h))); (focus (refine Or.inl ⟨by rfl, ?_⟩; intro w hSw; (try dsimp only at hSw); go_simp; try with_reducible rfl)); try simp only [Act.put, List.setIfInBounds_toArray, List.set_cons_zero, List.set_cons_succ])
        (refine wpAnyH_take (i := 1) (oi := ?_) (v := ?_) ?_ (by kernel_rfl) (by kernel_rfl) (by kernel_rfl) ?_ ?_ (by assumption) ?_; rotate_left 2; (focus ((simp only [List.getElem?_toArray, List.getElem?_cons_succ, List.getElem?_cons_zero]); try rfl)); (focus (exact (fun _ _ _ h => h))); (focus (refine Or.inl ⟨by rfl, ?_⟩; intro w hSw; (try dsimp only at hSw); go_simp; try with_reducible rfl)); try simp only [Act.put, List.setIfInBounds_toArray, List.set_cons_zero, List.set_cons_succ])
        (refine wpAnyH_take (i := 2) (oi := ?_) (v := ?_) ?_ (by kernel_rfl) (by kernel_rfl) (by kernel_rfl) ?_ ?_ (by assumption) ?_; rotate_left 2; (focus ((simp only [List.getElem?_toArray, List.getElem?_cons_succ, List.getElem?_cons_zero]); try rfl)); (focus (exact (fun _ _ _ h => h))); (focus (refine Or.inl ⟨by rfl, ?_⟩; intro w hSw; (try dsimp only at hSw); go_simp; try with_reducible rfl)); try simp only [Act.put, List.setIfInBounds_toArray, List.set_cons_zero, List.set_cons_succ])
        (refine wpAnyH_take (i := 3) (oi := ?_) (v := ?_) ?_ (by kernel_rfl) (by kernel_rfl) (by kernel_rfl) ?_ ?_ (by assumption) ?_; rotate_left 2; (focus ((simp only [List.getElem?_toArray, List.getElem?_cons_succ, List.getElem?_cons_zero]); try rfl)); (focus (exact (fun _ _ _ h => h))); (focus (refine Or.inl ⟨by rfl, ?_⟩; intro w hSw; (try dsimp only at hSw); go_simp; try with_reducible rfl)); try simp only [Act.put, List.setIfInBounds_toArray, List.set_cons_zero, List.set_cons_succ])
        (refine wpAnyH_take (i := 4) (oi := ?_) (v := ?_) ?_ (by kernel_rfl) (by kernel_rfl) (by kernel_rfl) ?_ ?_ (by assumption) ?_; rotate_left 2; (focus ((simp only [List.getElem?_toArray, List.getElem?_cons_succ, List.getElem?_cons_zero]); try rfl)); (focus (exact (fun _ _ _ h => h))); (focus (refine Or.inl ⟨by rfl, ?_⟩; intro w hSw; (try dsimp only at hSw); go_simp; try with_reducible rfl)); try simp only [Act.put, List.setIfInBounds_toArray, List.set_cons_zero, List.set_cons_succ])
        refine wpAnyH_ready (rs := [5]) (by kernel_rfl) (by simp) (AllReadyH.cons rfl (fun K hK => ?_) AllReadyH.nil)
        go_simp
        go_at_call 20; refine (hrt.out _).mono ?_; rintro e w5 ⟨rfl, f5⟩; have fq := ((Fr.refl noB wr).drewN 1).seqN f5
        go_wp2_with fail
        refine hK.out _ _ (hS.out _ fq) (fun hHeld => ?_)
        clear hK K
        try simp only [Act.put, List.setIfInBounds_toArray, List.set_cons_zero, List.set_cons_succ]
        (refine wpAnyH_take (i := 6) (oi := ?_) (v := ?_) ?_ (by kernel_rfl) (by kernel_rfl) (by kernel_rfl) ?_ ?_ (by assumption) ?_; rotate_left 2; (focus ((simp only [List.getElem?_toArray, List.getElem?_cons_succ, List.getElem?_cons_zero]); try rfl)); (focus (exact (fun _ _ _ h => h))); (focus (refine Or.inl ⟨by rfl, ?_⟩; intro w hSw; (try dsimp only at hSw); go_simp; try with_reducible rfl)); try simp only [Act.put, List.setIfInBounds_toArray, List.set_cons_zero, List.set_cons_succ])
        (refine wpAnyH_take (i := 7) (oi := ?_) (v := ?_) ?_ (by kernel_rfl) (by kernel_rfl) (by kernel_rfl) ?_ ?_ (by assumption) ?_; rotate_left 2; (focus ((simp only [List.getElem?_toArray, List.getElem?_cons_succ, List.getElem?_cons_zero]); try rfl)); (focus (exact (fun _ _ _ h => h))); (focus (refine Or.inl ⟨by rfl, ?_⟩; intro w hSw; (try dsimp only at hSw); go_simp; try with_reducible rfl)); try simp only [Act.put, List.setIfInBounds_toArray, List.set_cons_zero, List.set_cons_succ])
        (refine wpAnyH_take (i := 8) (oi := ?_) (v := undef) ?_ (by kernel_rfl) (by kernel_rfl) (by kernel_rfl) ?_ ?_ (by assumption) ?_; rotate_left 1; (focus ((simp only [List.getElem?_toArray, List.getElem?_cons_succ, List.getElem?_cons_zero]); try rfl)); (focus (exact (fun _ _ _ h => h))); (focus (exact Or.inr ⟨by rfl, rfl⟩)); try simp only [Act.put, List.setIfInBounds_toArray, List.set_cons_zero, List.set_cons_succ])
        (refine wpAnyH_take (i := 9) (oi := ?_) (v := undef) ?_ (by kernel_rfl) (by kernel_rfl) (by kernel_rfl) ?_ ?_ (by assumption) ?_; rotate_left 1; (focus ((simp only [List.getElem?_toArray, List.getElem?_cons_succ, List.getElem?_cons_zero]); try rfl)); (focus (exact (fun _ _ _ h => h))); (focus (exact Or.inr ⟨by rfl, rfl⟩)); try simp only [Act.put, List.setIfInBounds_toArray, List.set_cons_zero, List.set_cons_succ])
        (refine wpAnyH_take (i := 10) (oi := ?_) (v := undef) ?_ (by kernel_rfl) (by kernel_rfl) (by kernel_rfl) ?_ ?_ (by assumption) ?_; rotate_left 1; (focus ((simp only [List.getElem?_toArray, List.getElem?_cons_succ, List.getElem?_cons_zero]); try rfl)); (focus (exact (fun _ _ _ h => h))); (focus (exact Or.inr ⟨by rfl, rfl⟩)); try simp only [Act.put, List.setIfInBounds_toArray, List.set_cons_zero, List.set_cons_succ])
        (refine wpAnyH_take (i := 11) (oi := ?_) (v := undef) ?_ (by kernel_rfl) (by kernel_rfl) (by kernel_rfl) ?_ ?_ (by assumption) ?_; rotate_left 1; (focus ((simp only [List.getElem?_toArray, List.getElem?_cons_succ, List.getElem?_cons_zero]); try rfl)); (focus (exact (fun _ _ _ h => h))); (focus (exact Or.inr ⟨by rfl, rfl⟩)); try simp only [Act.put, List.setIfInBounds_toArray, List.set_cons_zero, List.set_cons_succ])
        (refine wpAnyH_take (i := 12) (oi := ?_) (v := undef) ?_ (by kernel_rfl) (by kernel_rfl) (by kernel_rfl) ?_ ?_ (by assumption) ?_; rotate_left 1; (focus ((simp only [List.getElem?_toArray, List.getElem?_cons_succ, List.getElem?_cons_zero]); try rfl)); (focus (exact (fun _ _ _ h => h))); (focus (exact Or.inr ⟨by rfl, rfl⟩)); try simp only [Act.put, List.setIfInBounds_toArray, List.set_cons_zero, List.set_cons_succ])
        (refine wpAnyH_take (i := 13) (oi := ?_) (v := undef) ?_ (by kernel_rfl) (by kernel_rfl) (by kernel_rfl) ?_ ?_ (by assumption) ?_; rotate_left 1; (focus ((simp only [List.getElem?_toArray, List.getElem?_cons_succ, List.getElem?_cons_zero]); try rfl)); (focus (exact (fun _ _ _ h => h))); (focus (exact Or.inr ⟨by rfl, rfl⟩)); try simp only [Act.put, List.setIfInBounds_toArray, List.set_cons_zero, List.set_cons_succ])
        (refine wpAnyH_take (i := 14) (oi := ?_) (v := undef) ?_ (by kernel_rfl) (by kernel_rfl) (by kernel_rfl) ?_ ?_ (by assumption) ?_; rotate_left 1; (focus ((simp only [List.getElem?_toArray, List.getElem?_cons_succ, List.getElem?_cons_zero]); try rfl)); (focus (exact (fun _ _ _ h => h))); (focus (exact Or.inr ⟨by rfl, rfl⟩)); try simp only [Act.put, List.setIfInBounds_toArray, List.set_cons_zero, List.set_cons_succ])
        (refine wpAnyH_take (i := 15) (oi := ?_) (v := undef) ?_ (by kernel_rfl) (by kernel_rfl) (by kernel_rfl) ?_ ?_ (by assumption) ?_; rotate_left 1; (focus ((simp only [List.getElem?_toArray, List.getElem?_cons_succ, List.getElem?_cons_zero]); try rfl)); (focus (exact (fun _ _ _ h => h))); (focus (exact Or.inr ⟨by rfl, rfl⟩)); try simp only [Act.put, List.setIfInBounds_toArray, List.set_cons_zero, List.set_cons_succ])
        (refine wpAnyH_take (i := 16) (oi := ?_) (v := undef) ?_ (by kernel_rfl) (by kernel_rfl) (by kernel_rfl) ?_ ?_ (by assumption) ?_; rotate_left 1; (focus ((simp only [List.getElem?_toArray, List.getElem?_cons_succ, List.getElem?_cons_zero]); try rfl)); (focus (exact (fun _ _ _ h => h))); (focus (exact Or.inr ⟨by rfl, rfl⟩)); try simp only [Act.put, List.setIfInBounds_toArray, List.set_cons_zero, List.set_cons_succ])
        (refine wpAnyH_take (i := 17) (oi := ?_) (v := ?_) ?_ (by kernel_rfl) (by kernel_rfl) (by kernel_rfl) ?_ ?_ (by assumption) ?_; rotate_left 2; (focus ((simp only [List.getElem?_toArray, List.getElem?_cons_succ, List.getElem?_cons_zero]); try rfl)); (focus (exact (fun _ _ _ h => h))); (focus (refine Or.inl ⟨by rfl, ?_⟩; intro w hSw; (try dsimp only at hSw); go_simp; try with_reducible rfl)); try simp only [Act.put, List.setIfInBounds_toArray, List.set_cons_zero, List.set_cons_succ])
        refine wpAnyH_done (by kernel_rfl) ?_ _
        go_wp2_with fail
        go_ret
        exact ⟨ret_b (by rw [← hbb.out, hst.out]; rfl), frw.seqN fq⟩
      | true =>
        clear y0 y1 y2
        have fq := (Fr.refl noB wr).drewN 1
        rw [Bool.true_and] at hst
        rcases Bool.eq_false_or_eq_true (s.t == t) with h1 | h1
        · have hbn : (s.t != t) = false := by simp [bne, h1]
          rw [h1, Bool.true_and] at hst
          replace hst := Lib.hid hst
          go_wp2_with fail
          go_region_held3 (fun w' => (w'.cell? ⟨gx, 14, none⟩ = some (.slice (some ⟨g, o, none⟩) N sc) ∧ w'.cell? ⟨gx, 2, none⟩ = some (.int .i64 t)) ∧ w'.cell? ⟨g, o + k * 3, none⟩ = some (.int .i64 s.t) ∧ w'.cell? ⟨g, o + k * 3 + 1, none⟩ = some (.int .i64 s.q) ∧ w'.cell? ⟨g, o + k * 3 + 2, none⟩ = some (.string s.x))
            (first | exact hS.out _ fq | exact hS.out _ ((Fr.refl noB _).drewN 1) | fail)
            (first | (go_at_call 20; refine (hrt.out _).mono ?_; rintro e w5 ⟨rfl, f5⟩; have fq := fq.seqN f5) | fail)
          all_goals (
            go_wp2_with fail
            go_roundw
            case rel => exact ⟨k + 1, by omega, by go_num, hst, fr.seqN fq⟩
            case measure => simp [RowKit.intOf]; omega)
        · have hbn : (s.t != t) = true := by simp [bne, h1]
          rw [h1, Bool.false_and] at hst
          replace hst := Lib.hid hst
          go_wp2_with fail
          go_region_held3 (fun w' => (w'.cell? ⟨gx, 14, none⟩ = some (.slice (some ⟨g, o, none⟩) N sc) ∧ w'.cell? ⟨gx, 2, none⟩ = some (.int .i64 t)) ∧ w'.cell? ⟨g, o + k * 3, none⟩ = some (.int .i64 s.t) ∧ w'.cell? ⟨g, o + k * 3 + 1, none⟩ = some (.int .i64 s.q) ∧ w'.cell? ⟨g, o + k * 3 + 2, none⟩ = some (.string s.x))
            (first | exact hS.out _ fq | exact hS.out _ ((Fr.refl noB _).drewN 1) | fail)
            (first | (go_at_call 20; refine (hrt.out _).mono ?_; rintro e w5 ⟨rfl, f5⟩; have fq := fq.seqN f5) | fail)
          all_goals (
            go_wp2_with fail
            go_ret
            exact ⟨ret_b (by rw [← hbb.out, hst.out]; rfl), frw.seqN fq⟩)
    · obtain rfl : k = N := by omega
      have hf : spsB t (sp.drop 0) = true := by rw [hE.out, hend.out]
      have hbc := hbb.out
      rw [hf, Bool.true_and] at hbc
      have d1 : wr.cell? ⟨gx, 1, none⟩ = some (.int .i64 a) := bk.cell 1
      have d5 : wr.cell? ⟨gx, 5, none⟩ = some (.int .i64 i) := bk.cell 5
      have d6 : wr.cell? ⟨gx, 6, none⟩ = some (.int .i64 n) := bk.cell 6
      replace bk := Lib.hid bk
      replace hbc := Lib.hid hbc
      go_wp2_with fail
      go_fit (k2.out _)
      rintro e w1 ⟨rfl, hw1⟩
      obtain rfl := hw1.symm
      cases hb1 : inB 0 3 a with
      | false =>
        go_wp2_with fail
        go_ret
        exact ⟨ret_b (by rw [← hbc.out, hb1]; rfl), frw⟩
      | true =>
      go_wp2_with fail
      go_fit (k3.out _)
      rintro e w1 ⟨rfl, hw1⟩
      obtain rfl := hw1.symm
      cases hb2 : inB 1 500 n with
      | false =>
        go_wp2_with fail
        go_ret
        exact ⟨ret_b (by rw [← hbc.out, hb1, hb2]; rfl), frw⟩
      | true =>
      have hn := inB_lim hb2
      have i9 : wrap64 (n - 1) = n - 1 := IntWalk.wrap64_in _ (by omega)
      go_wp2_with fail
      go_fit (k4.out (n - 1) _)
      rintro e w1 ⟨rfl, hw1⟩
      obtain rfl := hw1.symm
      cases hb3 : inB 0 (n - 1) i with
      | false =>
        go_wp2_with fail
        go_ret
        exact ⟨ret_b (by rw [← hbc.out, hb1, hb2, hb3]; rfl), frw⟩
      | true =>
      have hfin := hbc.out
      rw [hb1, hb2, hb3, Bool.true_and, Bool.true_and, Bool.true_and] at hfin
      replace hfin := Lib.hid hfin
      by_cases h9 : (k : Int) ≤ 2
      · go_wp2_with fail
        go_ret
        exact ⟨ret_b (by rw [← hfin.out]; simp; omega), frw⟩
      · go_wp2_with fail
        go_ret
        exact ⟨ret_b (by rw [← hfin.out]; simp; omega), frw⟩
end Go.Proofs.Ytdfkjigkpcgngaa
