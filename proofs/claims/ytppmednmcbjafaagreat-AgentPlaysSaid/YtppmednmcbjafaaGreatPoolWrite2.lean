/-
  The pool's Write where there is room.
-/
import Derived.Test.YtppmednmcbjafaaGreatPoolWrite
set_option linter.unusedVariables false
set_option linter.unusedSimpArgs false
set_option maxRecDepth 100000
namespace Go.Proofs.YtppmednmcbjafaaGreat
open Go.RowKit Go Go.Lib Go.Sort

theorem pspans_len (g N : Nat) (bs : List Bf) (t : Int) (w : World) (h : Pl w g N bs) (L : Nat) (hL : (allOf (bs.take N) t).length = L) :
    Calls Tryz.prog 101 #[.pointer (some ⟨g, 0, none⟩), .int .i64 t] w fun e w' => ∃ a c, e = .returned (.slice a L c) ∧ Fr noB w w' := by
  refine (pspans_any g N bs t w h).mono ?_
  rintro e w' ⟨u, d, rfl, hp, _, o, f⟩
  obtain ⟨a, c, rfl⟩ := ownsRow_slice o
  rw [hp.length_eq, hL]
  exact ⟨a, c, rfl, f⟩

set_option maxHeartbeats 4000000 in
set_option maxRecDepth 10000 in
theorem pwrite_any (g N : Nat) (bs : List Bf) (t : Int) (x : ByteArray) (w : World) (h : Pl w g N bs) (hb : mayB t x = true) (hroom : ∃ i c, i < N ∧ bs[i]? = some c ∧ ((c.of t = true ∧ c.n < 3) ∨ c.n = 0)) :
    Calls Tryz.prog 84 #[.pointer (some ⟨g, 0, none⟩), .int .i64 t, .string x] w fun e w' => e = .returned (.tuple #[.agg #[.int .i64 t, .int .i64 (((allOf (bs.take N) t).length : Int) + 1), .string x], .int .i64 0]) ∧
      (∃ k b, k < N ∧ bs[k]? = some b ∧ ((b.of t = true ∧ b.n < 3) ∨ (b.n = 0 ∧ fullTo bs t N)) ∧ Pl w' g N (bs.set k (b.put ⟨t, ((allOf (bs.take N) t).length : Int) + 1, x⟩))) ∧ Fr (onlyB g) w w' := by
  have hal := allOf_len h.n3 t N
  have hN := h.n16
  obtain ⟨L, hL⟩ : ∃ L, (allOf (bs.take N) t).length = L := ⟨_, rfl⟩
  rw [hL] at hal ⊢
  obtain ⟨M, hM, hMe⟩ : ∃ M : Int, IntKind.i64.wrap (1 + (L : Int)) = M ∧ (L : Int) + 1 = M := ⟨1 + (L : Int), by simp [IntKind.wrap, IntKind.bits, IntKind.signed]; omega, Int.add_comm ..⟩
  rw [hMe]
  have hsl := fun w' (hp : Pl w' g N bs) => pspans_len g N bs t w' hp L hL
  replace hsl := Lib.hid hsl
  replace hMe := Lib.hid hMe
  replace hL := Lib.hid hL
  have fX := ((Fr.refl noB w).alloc (.cells #[.int .i64 0, .int .i64 0, .string (ByteArray.mk #[])] 38)).alloc (.cells #[.int .i64 t, .int .i64 1, .string x] 38)
  have hr := fun w' => spanRight_any t x w'
  rw [hb] at hr
  have bX := Blk.new w 38 [.int .i64 0, .int .i64 0, .string (ByteArray.mk #[])]
  have bX1 := ((Fr.refl noB (w.alloc (.cells #[.int .i64 0, .int .i64 0, .string (ByteArray.mk #[])] 38))).alloc (.cells #[.int .i64 t, .int .i64 1, .string x] 38)).blk bX (fun q => q)
  have bS := Blk.new (w.alloc (.cells #[.int .i64 0, .int .i64 0, .string (ByteArray.mk #[])] 38)) 38 [.int .i64 t, .int .i64 1, .string x]
  have hsz : (w.alloc (.cells #[.int .i64 0, .int .i64 0, .string (ByteArray.mk #[])] 38)).heap.size = w.heap.size + 1 := by simp
  rw [hsz] at bS
  have hgw := h.lt
  go_enter Tryz.func84, Tryz.ntmps84
  go_wp2_with fail
  refine (hr _).mono ?_
  rintro e w1 ⟨rfl, f1⟩
  have g1 := fX.seqN f1
  have bR := f1.blk bX1 (fun q => q)
  have bS1 := f1.blk bS (fun q => q)
  have h1 := h.frN g1
  have hro := room_any g N bs t w1 h1
  clear hr fX f1 bX bX1 bS hsz h
  go_wp2_with fail
  refine hro.mono ?_
  rintro e w2 ⟨v, rfl, hv, hw2⟩
  obtain rfl := hw2.symm
  clear hro hw2
  obtain ⟨k, b, hk, hbk, rfl, hkb⟩ : ∃ k b, k < N ∧ bs[k]? = some b ∧ v = .pointer (some ⟨g, k * 10, none⟩) ∧ ((b.of t = true ∧ b.n < 3) ∨ (b.n = 0 ∧ fullTo bs t N)) := by
    rcases hv with q | ⟨_, q1, q2⟩
    · exact q
    · exfalso
      obtain ⟨i, c, hi, hc, q⟩ := hroom
      rcases q with ⟨q3, q4⟩ | q3
      · have := q1 i c hi hc q3; omega
      · have := q2 i c hi hc; omega
  clear hv hroom
  have hb3 : b.n < 3 := by rcases hkb with q | q <;> omega
  have hbi : (b.n : Int) < 3 := by omega
  have hbi0 : (0 : Int) ≤ b.n := by omega
  replace hkb := Lib.hid hkb
  replace hbk := Lib.hid hbk
  have c1 : ∀ w', Fr noB w1 w' → w'.cell? ⟨w.heap.size + 1, 1, none⟩ = some (.int .i64 1) := fun w' f => (f.blk bS1 (fun q => q)).cell 1
  replace c1 := Lib.hid c1
  have hsp := fun (w' : World) (f : Fr noB w1 w') => hsl.out w' (h1.frN f)
  replace hsp := Lib.hid hsp
  replace bS1 := Lib.hid bS1
  replace bR := Lib.hid bR
  replace h1 := Lib.hid h1
  go_wp2_with fail
  have d1 : w1.cell? ⟨w.heap.size + 1, 1, none⟩ = some (.int .i64 1) := c1.out _ (Fr.refl noB _)
  go_region_law (first | (go_simp; go_at_call 101; refine (hsp.out _ ((Fr.refl noB _).drewN 1)).mono ?_; rintro e w5 ⟨va, vc, rfl, f5⟩; have f5 := ((Fr.refl noB w1).drewN 1).seqN f5; have d5 : w5.cell? ⟨w.heap.size + 1, 1, none⟩ = some (.int .i64 1) := c1.out _ f5; have z5 : w5.frozen? ⟨w.heap.size + 1, 1, none⟩ = false := (f5.blk bS1.out (fun q => q)).frozen 1))
  all_goals (
    go_wp2_with fail
    (try rw [hM])
    have g5 := g1.seqN f5
    have bS6 : Blk (w5.setCell ⟨w.heap.size + 1, 1, none⟩ (.int .i64 M)) (w.heap.size + 1) 38 [.int .i64 t, .int .i64 M, .string x] := (f5.blk bS1.out (fun q => q)).set 1 _
    have f6 : Fr (onlyB (w.heap.size + 1)) w5 (w5.setCell ⟨w.heap.size + 1, 1, none⟩ (.int .i64 M)) := (Fr.refl _ w5).store rfl
    have bR6 := f6.blk (f5.blk bR.out (fun q => q)) (fun q => by unfold onlyB at q; omega)
    have h6 := (h1.out.frN f5).fr f6 (fun q => by unfold onlyB at q; omega)
    have g6 : Fr noB w (w5.setCell ⟨w.heap.size + 1, 1, none⟩ (.int .i64 M)) := g5.trans f6 (fun _ _ q => q) (fun _ hi q => by unfold onlyB at q; omega)
    generalize (w5.setCell ⟨w.heap.size + 1, 1, none⟩ (.int .i64 M)) = w6 at *
    clear f6 f5 g5 d5 z5 bS1 bR h1 d1 c1 hsp g1
    have e0 : w6.cell? ⟨w.heap.size + 1, 0, none⟩ = some (.int .i64 t) := bS6.cell 0
    have e1 : w6.cell? ⟨w.heap.size + 1, 1, none⟩ = some (.int .i64 M) := bS6.cell 1
    have e2 : w6.cell? ⟨w.heap.size + 1, 2, none⟩ = some (.string x) := bS6.cell 2
    have e9 := h6.c9 hbk.out
    go_wp2_with fail
    go_still_tail 9, (by kernel_rfl)
    change wpList _ _ _ _ _ w6.drew
    replace h6 : Pl w6.drew g N bs := h6.frN ((Fr.refl noB w6).drew)
    replace g6 : Fr noB w w6.drew := g6.drew
    replace bS6 : Blk w6.drew (w.heap.size + 1) 38 [.int .i64 t, .int .i64 M, .string x] := bS6
    replace bR6 : Blk w6.drew w.heap.size 38 [.int .i64 0, .int .i64 0, .string (ByteArray.mk #[])] := bR6
    clear e0 e1 e2 e9
    generalize w6.drew = w7 at *
    obtain ⟨w8, hw8, f8, p8⟩ := storeS (i := b.n) h6 hbk.out hb3 t M x
    have hth : Hid (w7.there g (k * 10 + b.n * 3) 3) := Lib.hid (thereS h6 (by omega) hb3)
    have hkl := (List.getElem?_eq_some_iff.1 hbk.out).1
    have hk8 : (bs.set k (b.at b.n ⟨t, M, x⟩))[k]? = some (b.at b.n ⟨t, M, x⟩) := List.getElem?_set_self hkl
    have hbn : (b.at b.n ⟨t, M, x⟩).n = b.n := by
      unfold Bf.at
      split <;> rfl
    have e9 : w8.cell? ⟨g, k * 10 + 9, none⟩ = some (.int .i64 b.n) := by have := p8.c9 hk8; rwa [hbn] at this
    have z9 : w8.frozen? ⟨g, k * 10 + 9, none⟩ = false := p8.blk.frozen _
    have p9 := storeN p8 hk8 (b.n + 1) (by omega)
    rw [List.set_set, show (((b.n + 1 : Nat)) : Int) = (b.n : Int) + 1 by omega] at p9
    have f9 : Fr (onlyB g) w8 (w8.setCell ⟨g, k * 10 + 9, none⟩ (.int .i64 ((b.n : Int) + 1))) := (Fr.refl _ w8).store rfl
    have bS8 := f9.blk (f8.blk bS6 (fun q => by unfold onlyB at q; omega)) (fun q => by unfold onlyB at q; omega)
    have bR8 := f9.blk (f8.blk bR6 (fun q => by unfold onlyB at q; omega)) (fun q => by unfold onlyB at q; omega)
    have f89 : Fr (onlyB g) w7 (w8.setCell ⟨g, k * 10 + 9, none⟩ (.int .i64 ((b.n : Int) + 1))) := f8.trans f9 (fun _ _ q => q) (fun _ _ q => q)
    have d0 : (w8.setCell ⟨g, k * 10 + 9, none⟩ (.int .i64 ((b.n : Int) + 1))).cell? ⟨w.heap.size + 1, 0, none⟩ = some (.int .i64 t) := bS8.cell 0
    have d1 : (w8.setCell ⟨g, k * 10 + 9, none⟩ (.int .i64 ((b.n : Int) + 1))).cell? ⟨w.heap.size + 1, 1, none⟩ = some (.int .i64 M) := bS8.cell 1
    have d2 : (w8.setCell ⟨g, k * 10 + 9, none⟩ (.int .i64 ((b.n : Int) + 1))).cell? ⟨w.heap.size + 1, 2, none⟩ = some (.string x) := bS8.cell 2
    have tR : Hid ((w8.setCell ⟨g, k * 10 + 9, none⟩ (.int .i64 ((b.n : Int) + 1))).there w.heap.size 0 3) := Lib.hid (thereN bR8 (by simp))
    replace f89 := Lib.hid f89
    replace bS8 := Lib.hid bS8
    replace bR8 := Lib.hid bR8
    replace p9 := Lib.hid p9
    replace hw8 := Lib.hid hw8
    clear f8 f9 p8 hk8 hbn hkl bS6 bR6
    go_upto_region 12 with (first
      | (refine wpList_store_mid rfl 38 (.tmp 42) (.tmp 39) rfl g (k * 10 + b.n * 3) #[.int .i64 t, .int .i64 M, .string x] rfl rfl hth.out size_span (one_span _ _ _) ?_; rw [← hw8.out]; clear hw8)
      | fail)
    generalize (w8.setCell ⟨g, k * 10 + 9, none⟩ (.int .i64 ((b.n : Int) + 1))) = w9 at *
    go_wp2_with (first
      | (refine wpList_store_mid rfl 38 (.tmp 6) (.tmp 50) rfl w.heap.size 0 #[.int .i64 t, .int .i64 M, .string x] rfl rfl tR.out size_span (one_span _ _ _) ?_; obtain ⟨w10, hw10, f10, h10⟩ := store3 w9 w.heap.size 0 (.int .i64 t) (.int .i64 M) (.string x); rw [← hw10]; clear hw10; have h10 := h10 _ _ bR8.out; have r0 : w10.cell? ⟨w.heap.size, 0, none⟩ = some (.int .i64 t) := h10.cell 0; have r1 : w10.cell? ⟨w.heap.size, 1, none⟩ = some (.int .i64 M) := h10.cell 1; have r2 : w10.cell? ⟨w.heap.size, 2, none⟩ = some (.string x) := h10.cell 2; clear h10; replace f10 := Lib.hid f10)
      | fail)
    try simp only [Exit.inBlock, Exit.then]
    refine bodyPost_ret (by simp [results, Tryz.results84, go_sem, r0, r1, r2]; try rfl) rfl ?_
    have p10 := p9.out.fr f10.out (fun q => by unfold onlyB at q; omega)
    have eput : ({ b.at b.n ⟨t, M, x⟩ with n := b.n + 1 } : Bf) = b.put ⟨t, M, x⟩ := rfl
    rw [eput] at p10
    refine ⟨rfl, ⟨k, b, hk, hbk.out, hkb.out, p10⟩, ?_⟩
    have fa : Fr (onlyB g) w _ := g6.trans f89.out (fun _ _ q => False.elim q) (fun _ _ q => q)
    exact fa.trans f10.out (fun _ _ q => q) (fun _ hi q => by unfold onlyB at q; omega))
end Go.Proofs.YtppmednmcbjafaaGreat
