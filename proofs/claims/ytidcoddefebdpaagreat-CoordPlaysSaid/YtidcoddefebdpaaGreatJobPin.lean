/-
  What a job does with a Pinned.
-/
import Derived.Test.YtidcoddefebdpaaGreatJobHear
import Derived.Test.YtidcoddefebdpaaGreatShelf
set_option linter.unusedVariables false
set_option linter.unusedSimpArgs false
set_option maxRecDepth 100000
namespace Go.Proofs.YtidcoddefebdpaaGreat
open Go.RowKit Go Go.Lib

def JS.mark (j : JS) (x : Int) : JS := if x < j.ag then j.upd x.toNat fun v => { v with v := true } else j
def JS.pin1 (j : JS) (a : Nat) (t : Told) (xs : List Int) : JS := xs.foldl JS.mark (j.upd a fun v => { v with p := true, t := t })
def JS.pin (j : JS) (a : Nat) (t : Told) (xs : List Int) : JS := if noneL (fun v => !v.p) (j.pin1 a t xs) then { j.pin1 a t xs with ph := 2 } else j.pin1 a t xs
theorem set6 {w : World} {g i : Nat} {t : TypeId} {cs : List Value} {a b c d e f : Value} (h : Blk w g t cs) :
    Blk (w.setCells g i [a, b, c, d, e, f]) g t ((((((cs.set i a).set (i + 1) b).set (i + 1 + 1) c).set (i + 1 + 1 + 1) d).set (i + 1 + 1 + 1 + 1) e).set (i + 1 + 1 + 1 + 1 + 1) f) := by
  simp only [World.setCells]
  exact ((((((h.set i a).set _ b).set _ c).set _ d).set _ e).set _ f)
theorem fr_set6 {w : World} {g i : Nat} {a b c d e f : Value} : Fr (onlyB g) w (w.setCells g i [a, b, c, d, e, f]) := by
  simp only [World.setCells]
  exact (((((((Fr.refl (onlyB g) w).store rfl).store rfl).store rfl).store rfl).store rfl).store rfl)
theorem store6 (w : World) (g i : Nat) (a b c d e f : Value) : ∃ w2, w2 = w.setCells g i (#[a, b, c, d, e, f] : Array Value).toList ∧ Fr (onlyB g) w w2 ∧
    ∀ t cs, Blk w g t cs → Blk w2 g t ((((((cs.set i a).set (i + 1) b).set (i + 1 + 1) c).set (i + 1 + 1 + 1) d).set (i + 1 + 1 + 1 + 1) e).set (i + 1 + 1 + 1 + 1 + 1) f) :=
  ⟨_, rfl, fr_set6, fun t cs h => set6 h⟩
theorem there6 {w : World} {g i n : Nat} {t : TypeId} {cs : List Value} (h : Blk w g t cs) (hn : i + n ≤ cs.length) : w.there g i n := fun j hj => by
  refine ⟨?_, Blk.frozen h _⟩
  rw [h.cell (i + j), List.getElem?_eq_getElem (by omega)]; rfl
theorem size_told : (Tryz.prog.info? 67).map (·.size) = some 6 := by kernel_rfl
theorem addr_own {w : World} {D e k n c : Nat} {a : Option Addr} {xs : List Value} (h : w.ownsRow D e k (.slice a n c) n xs) {q o : Nat} (ha : a = some ⟨q, o, none⟩) : D ≤ q := by
  rcases h.2 with ⟨h1, _⟩ | ⟨g, cap, cur, h1, h2, _⟩
  · subst ha; cases h1
  · subst ha; cases h1; exact h2
theorem told_one (a t j c : Int) (sa : Option Addr) (sn sc : Nat) (l : Bool) : (#[.int .i64 a, .int .i64 t, .int .i64 j, .int .i64 c, .slice sa sn sc, .bool l] : Array Value).all (·.oneCell') = true :=
  all_oneCell_toArray (cs := [.int .i64 a, .int .i64 t, .int .i64 j, .int .i64 c, .slice sa sn sc, .bool l]) (fun v hv => by
    simp only [List.mem_cons, List.not_mem_nil, or_false] at hv
    rcases hv with rfl | rfl | rfl | rfl | rfl | rfl <;> rfl)
theorem foldl_take {j : JS} {xs : List Int} {k : Nat} (hk : k < xs.length) : (xs.take (k + 1)).foldl JS.mark j = ((xs.take k).foldl JS.mark j).mark (xs.getD k 0) := by
  rw [List.take_succ_eq_append_getElem hk, List.foldl_append]; simp [List.getD, hk]
theorem RdI.fr1 {w w' : World} {v : Value} {xs : List Int} {S : Nat → Prop} (h : RdI w v xs) (hf : Fr S w w') (hS : xs ≠ [] → ∀ g o n c, v = .slice (some ⟨g, o, none⟩) n c → ¬ S g) : RdI w' v xs := by
  obtain ⟨a, c, rfl, h1, h2, h3⟩ := h
  refine ⟨a, c, rfl, h1, h2, fun i hi => ?_⟩
  obtain ⟨g, o, rfl, h4⟩ := h3 i hi
  exact ⟨g, o, rfl, hf.cell h4 (hS (fun e => by subst e; exact absurd hi (Nat.not_lt_zero _)) _ _ _ _ rfl)⟩
theorem clone_any (v : Value) (xs : List Int) (w : World) (hv : RdI w v xs) (hl : xs.length ≤ 1000000) :
    Calls Tryz.prog 62 #[v] w fun e w' => ∃ ta tc, e = .returned (.slice ta xs.length tc) ∧ RdI w' (.slice ta xs.length tc) xs ∧ (∀ g o, ta = some ⟨g, o, none⟩ → w.heap.size ≤ g) ∧ Fr noB w w' := by
  obtain ⟨a, c, rfl, h1, h2, h3⟩ := hv
  by_cases h0 : xs.length = 0
  · have hx : xs = [] := List.eq_nil_of_length_eq_zero h0
    subst hx
    cases a with
    | none =>
      refine (Tryz.slices_Clone_int_nil _ c w).mono ?_
      rintro e w' ⟨rfl, rfl⟩
      exact ⟨none, 0, rfl, ⟨none, 0, rfl, by simp, by simp, fun i hi => by simp at hi⟩, fun g o e => by (cases e), Fr.refl _ _⟩
    | some ad =>
      refine (Tryz.slices_Clone_int_zero ad c w).mono ?_
      rintro e w' ⟨v', rfl, ow, _, hb⟩
      obtain ⟨a', c', rfl⟩ := ownsRow_slice ow
      exact ⟨a', c', rfl, RdI.of_own (n := 0) (by simpa using ow), fun g o e => by (subst e; exact (addr_own ow rfl)), Fr.of_below hb⟩
  · obtain ⟨g, o, rfl, _⟩ := h3 0 (by omega)
    have hc : ∀ j, j < xs.length → w.cell? ⟨g, o + j, none⟩ = some (.int .i64 (xs.getD j 0)) := fun j hj => by
      obtain ⟨g2, o2, e2, h4⟩ := h3 j hj
      cases e2
      exact h4
    refine (Tryz.slices_Clone_int g o xs.length c xs w (Nat.le_refl _) (by omega) hc).mono ?_
    rintro e w' ⟨v', rfl, ow, _, hb⟩
    rw [List.take_length] at ow
    obtain ⟨a', c', rfl⟩ := ownsRow_slice ow
    exact ⟨a', c', rfl, RdI.of_own ow, fun g o e => by (subst e; exact (addr_own ow rfl)), Fr.of_below hb⟩
theorem JS.mark_ag (j : JS) (x : Int) : (j.mark x).ag = j.ag := by
  unfold JS.mark JS.upd
  split
  · split <;> rfl
  · rfl
theorem JS.marks_ag (xs : List Int) : ∀ (j : JS), (xs.foldl JS.mark j).ag = j.ag := by
  induction xs with
  | nil => intro j; rfl
  | cons x r ih => intro j; rw [List.foldl_cons, ih, JS.mark_ag]


set_option maxHeartbeats 2000000 in
set_option maxRecDepth 10000 in
theorem pin_0 (p : Nat) (j : JS) (t jb ct : Int) (sa : Option Addr) (sc : Nat) (lo : Bool) (xs : List Int) (w : World) (h : Jb w p j) (hx : RdI w (.slice sa xs.length sc) xs) (hr : ∀ x ∈ xs, 0 ≤ x ∧ x ≤ 3) (hl : xs.length ≤ 4) (hag : j.ag ≤ 4) (hxp : xs ≠ [] → ∀ g o, sa = some ⟨g, o, none⟩ → g ≠ p) :
    Calls Tryz.prog 87 #[.pointer (some ⟨p, 0, none⟩), .agg #[.int .i64 0, .int .i64 t, .int .i64 jb, .int .i64 ct, .slice sa xs.length sc, .bool lo]] w fun e w' => e = .returned (.tuple #[]) ∧ Fr (onlyB p) w w' ∧
      (((j.ph ≠ 1 ∨ j.v0.v = false ∨ j.v0.p = true) ∧ Jb w' p j) ∨ ((j.ph = 1 ∧ j.v0.v = true ∧ j.v0.p = false) ∧ ∃ ta tc, RdI w' (.slice ta xs.length tc) xs ∧ (∀ g o, ta = some ⟨g, o, none⟩ → w.heap.size ≤ g) ∧ Jb w' p (j.pin 0 ⟨0, t, jb, ct, ta, xs.length, tc, lo⟩ xs))) := by
  have hxl : xs.length ≤ 4 := hl
  obtain ⟨sn, hsn⟩ : ∃ sn, sn = xs.length := ⟨_, rfl⟩
  rw [← hsn] at hx hxl ⊢
  replace hsn := Lib.hid hsn
  have fX := (Fr.refl noB w).alloc (.cells #[.int .i64 0, .int .i64 t, .int .i64 jb, .int .i64 ct, .slice sa sn sc, .bool lo] 67)
  have hX := h.frN fX
  have bX := Blk.new w 67 [.int .i64 0, .int .i64 t, .int .i64 jb, .int .i64 ct, .slice sa sn sc, .bool lo]
  have hpw : p < w.heap.size := Blk.lt h
  obtain ⟨wx, hwx⟩ : ∃ wx, wx = w.alloc (.cells #[.int .i64 0, .int .i64 t, .int .i64 jb, .int .i64 ct, .slice sa sn sc, .bool lo] 67) := ⟨_, rfl⟩
  have e0 : (w.alloc (.cells #[.int .i64 0, .int .i64 t, .int .i64 jb, .int .i64 ct, .slice sa sn sc, .bool lo] 67)).cell? ⟨w.heap.size, 0, none⟩ = some (.int .i64 0) := bX.cell 0
  go_enter Tryz.func87, Tryz.ntmps87
  go_upto_region 1 with fail
  rw [← hwx] at fX hX e0 bX ⊢
  clear hwx
  obtain ⟨ob, hob⟩ : ∃ ob, ob = w.heap.size := ⟨_, rfl⟩
  rw [← hob] at e0 bX ⊢
  replace hob := Lib.hid hob
  go_quiet (fail)
  have hY := hX.frN ((Fr.refl noB wx).drewN nq)
  have bY := ((Fr.refl noB wx).drewN nq).blk bX (fun q => q)
  have fY := fX.drewN nq
  generalize wx.drewN nq = wy at *
  clear hX fX e0 bX
  have hopN : p ≠ ob := by rw [hob.out]; omega
  have c0 : wy.cell? ⟨p, 4, none⟩ = some (.bool j.v0.v) := hY.cell 4
  have c1 : wy.cell? ⟨p, 5, none⟩ = some (.bool j.v0.p) := hY.cell 5
  have cp : wy.cell? ⟨p, 40, none⟩ = some (.int .i64 j.ph) := hY.cell 40
  by_cases hp : j.ph = 1
  rotate_left
  · have hpd : (j.ph != 1) = true := by simpa using hp
    go_wp2_with fail
    first | go_end0 | ((try simp only [Exit.inBlock, Exit.then]); refine bodyPost_ret (results_none rfl _ _ _) rfl ?_)
    exact ⟨rfl, fY.mono (fun _ _ q => False.elim q), Or.inl ⟨Or.inl hp, hY⟩⟩
  have hpd : (j.ph != 1) = false := by simp [hp]
  cases hv : j.v0.v with
  | false =>
    rw [hv] at c0
    go_wp2_with fail
    first | go_end0 | ((try simp only [Exit.inBlock, Exit.then]); refine bodyPost_ret (results_none rfl _ _ _) rfl ?_)
    exact ⟨rfl, fY.mono (fun _ _ q => False.elim q), Or.inl ⟨Or.inr (Or.inl hv), hY⟩⟩
  | true =>
    rw [hv] at c0
    cases hvp : j.v0.p with
    | true =>
      rw [hvp] at c1
      go_wp2_with fail
      first | go_end0 | ((try simp only [Exit.inBlock, Exit.then]); refine bodyPost_ret (results_none rfl _ _ _) rfl ?_)
      exact ⟨rfl, fY.mono (fun _ _ q => False.elim q), Or.inl ⟨Or.inr (Or.inr hvp), hY⟩⟩
    | false =>
      rw [hvp] at c1
      have z1 : wy.frozen? ⟨p, 5, none⟩ = false := Blk.frozen hY 5
      -- the flag
      have h1 : Jb (wy.setCell ⟨p, 5, none⟩ (.bool true)) p (j.upd 0 fun v => { v with p := true }) := hY.set 5 (.bool true) rfl
      have f1 := (fY.mono (T := onlyB p) (fun _ _ q => False.elim q)).seqB (fr_set (w := wy) (p := p) 5 (.bool true)) (fun _ => rfl)
      have b1 := (fr_set (w := wy) (p := p) 5 (.bool true)).blk bY (fun q => hopN (by unfold onlyB at q; exact q.symm))
      have r1 : (wy.setCell ⟨p, 5, none⟩ (.bool true)).rangeAt ob 0 [.int .i64 0, .int .i64 t, .int .i64 jb, .int .i64 ct, .slice sa sn sc, .bool lo] := fun i u hu => by rw [Blk.cell b1 (0 + i), Nat.zero_add]; exact hu
      have t1 : (wy.setCell ⟨p, 5, none⟩ (.bool true)).there p 7 6 := there6 h1 (by simp [JS.cells, visC])
      have hph1 : (j.upd 0 fun v => { v with p := true }).ph = 1 := hp
      obtain ⟨w1, hw1⟩ : ∃ w1, w1 = wy.setCell ⟨p, 5, none⟩ (.bool true) := ⟨_, rfl⟩
      rw [← hw1] at h1 f1 b1 r1 t1
      replace r1 := Lib.hid r1
      replace t1 := Lib.hid t1
      replace h1 := Lib.hid h1
      replace b1 := Lib.hid b1
      replace f1 := Lib.hid f1
      replace hw1 := Lib.hid hw1
      have hsz6 : (Tryz.prog.info? 67).map (·.size) = some ([.int .i64 0, .int .i64 t, .int .i64 jb, .int .i64 ct, .slice sa sn sc, .bool lo] : List Value).length := size_told
      have hsz6a : (Tryz.prog.info? 67).map (·.size) = some (#[.int .i64 0, .int .i64 t, .int .i64 jb, .int .i64 ct, .slice sa sn sc, .bool lo] : Array Value).size := size_told
      have t1a : Hid (w1.there p 7 (#[.int .i64 0, .int .i64 t, .int .i64 jb, .int .i64 ct, .slice sa sn sc, .bool lo] : Array Value).size) := t1
      have hon6 := Lib.hid (told_one 0 t jb ct sa sn sc lo)
      replace hsz6 := Lib.hid hsz6
      replace hsz6a := Lib.hid hsz6a
      go_upto_region 4 with fail
      rw [← hw1.out]
      clear c0 c1 cp z1 hw1
      go_wp2_with (first
        | (refine wpList_load_mid rfl 67 (.tmp 3) rfl ob 0 rfl [.int .i64 0, .int .i64 t, .int .i64 jb, .int .i64 ct, .slice sa sn sc, .bool lo] _ r1.out Tryz.underlying67 rfl hsz6.out ?_)
        | (refine wpList_store_mid rfl 67 (.tmp 37) (.tmp 35) rfl p 7 #[.int .i64 0, .int .i64 t, .int .i64 jb, .int .i64 ct, .slice sa sn sc, .bool lo] rfl rfl t1a.out hsz6a.out hon6.out ?_; obtain ⟨w2, hw2, f2, h2⟩ := store6 w1 p 7 (.int .i64 0) (.int .i64 t) (.int .i64 jb) (.int .i64 ct) (.slice sa sn sc) (.bool lo); rw [← hw2]; clear hw2; have h2 := Lib.hid (h2 _ _ h1.out); have b2 := Lib.hid (f2.blk b1.out (fun q => hopN (by { unfold onlyB at q; exact q.symm }))); have k4 : w2.cell? ⟨ob, 4, none⟩ = some (.slice sa sn sc) := b2.out.cell 4; have f2 := Lib.hid f2)
        | fail)
      clear r1 t1 b1 t1a hsz6 hsz6a hon6 k4
      have g2 := Lib.hid (f1.out.seqB f2.out (fun _ => rfl))
      have hx2 := hx.fr1 g2.out (fun hne g o n c e => by
        simp only [Value.slice.injEq] at e
        have := hxp hne g o e.1
        unfold onlyB; exact this)
      have hcl := clone_any (.slice sa sn sc) xs w2 hx2 (by have := hsn.out; omega)
      rw [← hsn.out] at hcl
      clear f1 f2 h1
      refine hcl.mono ?_
      rintro e w3 ⟨ta, tc, rfl, rt, ht, f3⟩
      clear hcl
      have h3 := f3.blk h2.out (fun q => q)
      have b3 := f3.blk b2.out (fun q => q)
      have g3 := g2.out.seqN f3
      have c7 : w3.cell? ⟨p, 11, none⟩ = some (.slice sa sn sc) := Blk.cell h3 11
      have z7 : w3.frozen? ⟨p, 11, none⟩ = false := Blk.frozen h3 11
      have f4 := fr_set (w := w3) (p := p) 11 (.slice ta sn tc)
      have h4 : Jb (w3.setCell ⟨p, 11, none⟩ (.slice ta sn tc)) p (j.upd 0 fun v => { v with p := true, t := ⟨0, t, jb, ct, ta, sn, tc, lo⟩ }) := Blk.set h3 11 (.slice ta sn tc)
      have b4 := f4.blk b3 (fun q => hopN (by unfold onlyB at q; exact q.symm))
      have k4 : (w3.setCell ⟨p, 11, none⟩ (.slice ta sn tc)).cell? ⟨ob, 4, none⟩ = some (.slice sa sn sc) := b4.cell 4
      have hx4 := (hx2.fr f3 (fun _ _ _ _ _ q => q)).fr1 f4 (fun hne g o n c e => by
        simp only [Value.slice.injEq] at e
        have := hxp hne g o e.1
        unfold onlyB; exact this)
      have hpt : ∀ g o, ta = some ⟨g, o, none⟩ → g ≠ p := fun g o e => by
        have h9 := ht g o e
        have h8 := g2.out.size
        omega
      have rt4 := rt.fr f4 (fun g o n c e => by
        simp only [Value.slice.injEq] at e
        have := hpt g o e.1
        unfold onlyB; exact this)
      have g4 := g3.seqB f4 (fun _ => rfl)
      have hta : ∀ g o, ta = some ⟨g, o, none⟩ → w.heap.size ≤ g := fun g o e => by have := ht g o e; have := g2.out.size; omega
      obtain ⟨w4, hw4⟩ : ∃ w4, w4 = w3.setCell ⟨p, 11, none⟩ (.slice ta sn tc) := ⟨_, rfl⟩
      rw [← hw4] at h4 k4 hx4 rt4 g4 b4
      replace hw4 := Lib.hid hw4
      replace h4 := Lib.hid h4
      replace rt4 := Lib.hid rt4
      replace g4 := Lib.hid g4
      replace hta := Lib.hid hta
      replace hpt := Lib.hid hpt
      replace b4 := Lib.hid b4
      replace g2 := Lib.hid g2
      clear h3 b3 g3 f4 rt ht f3 h2 b2 hx2
      go_upto_region 6 with fail
      rw [← hw4.out]
      clear hw4 c7 z7
      have hs3 : ∀ i, i < sn → ∃ g o, sa = some ⟨g, o, none⟩ ∧ w4.cell? ⟨g, o + i, none⟩ = some (.int .i64 (xs.getD i 0)) := by
        obtain ⟨a', c', e, _, _, q3⟩ := hx4
        simp only [Value.slice.injEq] at e
        obtain ⟨e1, _, _⟩ := e
        subst e1
        exact fun i hi => q3 i (by rw [← hsn.out]; exact hi)
      replace hs3 := Lib.hid hs3
      replace hr := Lib.hid hr
      clear hx4 hx
      go_wp2_with fail
      go_loopw [48] (fun i wr => ∃ k : Nat, k ≤ sn ∧ i = .int .i64 k ∧ Hid (Jb wr p ((xs.take k).foldl JS.mark (j.upd 0 fun v => { v with p := true, t := ⟨0, t, jb, ct, ta, sn, tc, lo⟩ }))) ∧ Fr (onlyB p) w4 wr) (fun i _ => sn - (RowKit.intOf i).toNat)
      case atStart => exact ⟨0, by omega, rfl, by simpa using h4, Fr.refl _ _⟩
      case round =>
        clear h4
        obtain ⟨k, hk, rfl, hJ, fJ⟩ := hrel
        by_cases hlt : k < sn
        · obtain ⟨g5, o5, rfl, hc5⟩ := hs3.out k hlt
          have cx5 := fJ.cell hc5 (fun q => hxp (fun e0 => by have h0 := hsn.out; rw [e0] at h0; simp at h0; omega) _ _ rfl (by unfold onlyB at q; exact q))
          have hxm := hr.out _ (List.mem_of_getElem? (show xs[k]? = some (xs.getD k 0) by simp [List.getD, show k < xs.length by rw [← hsn.out]; exact hlt]))
          have hst := foldl_take (j := j.upd 0 fun v => { v with p := true, t := ⟨0, t, jb, ct, ta, sn, tc, lo⟩ }) (xs := xs) (k := k) (by rw [← hsn.out]; exact hlt)
          generalize xs.getD k 0 = x at *
          generalize ((xs.take k).foldl JS.mark (j.upd 0 fun v => { v with p := true, t := ⟨0, t, jb, ct, ta, sn, tc, lo⟩ })) = jk at *
          replace hst := Lib.hid hst
          have c3 : wr.cell? ⟨p, 3, none⟩ = some (.int .i64 jk.ag) := hJ.out.cell 3
          clear hc5
          rcases (show x = 0 ∨ x = 1 ∨ x = 2 ∨ x = 3 by omega) with rfl | rfl | rfl | rfl
          focus
            have cx : wr.cell? ⟨p, 4, none⟩ = some (.bool jk.v0.v) := hJ.out.cell 4
            have zx : wr.frozen? ⟨p, 4, none⟩ = false := Blk.frozen hJ.out 4
            by_cases hlx : (0 : Int) < jk.ag
            · have hlxd : decide ((0 : Int) < (jk.ag : Int)) = true := by simpa using hlx
              have hmk : jk.mark 0 = jk.upd 0 fun v => { v with v := true } := by unfold JS.mark; rw [if_pos hlx]; rfl
              have hJ1 : Hid (Jb (wr.setCell ⟨p, 4, none⟩ (.bool true)) p (jk.mark 0)) := Lib.hid (by rw [hmk]; exact hJ.out.set 4 (.bool true) rfl)
              have fJ1 := Lib.hid (fJ.seqB (fr_set (w := wr) (p := p) 4 (.bool true)) (fun _ => rfl))
              replace hmk := Lib.hid hmk
              go_wp2_with fail
              go_roundw
              case rel => exact ⟨k + 1, by omega, by go_num, by rw [hst.out]; exact hJ1, fJ1.out⟩
              case measure => simp [RowKit.intOf]; omega
            · have hlxd : decide ((0 : Int) < (jk.ag : Int)) = false := by simpa using hlx
              have hmk : jk.mark 0 = jk := by unfold JS.mark; rw [if_neg hlx]
              go_wp2_with fail
              go_roundw
              case rel => exact ⟨k + 1, by omega, by go_num, by rw [hst.out, hmk]; exact hJ, fJ⟩
              case measure => simp [RowKit.intOf]; omega
          focus
            have cx : wr.cell? ⟨p, 13, none⟩ = some (.bool jk.v1.v) := hJ.out.cell 13
            have zx : wr.frozen? ⟨p, 13, none⟩ = false := Blk.frozen hJ.out 13
            by_cases hlx : (1 : Int) < jk.ag
            · have hlxd : decide ((1 : Int) < (jk.ag : Int)) = true := by simpa using hlx
              have hmk : jk.mark 1 = jk.upd 1 fun v => { v with v := true } := by unfold JS.mark; rw [if_pos hlx]; rfl
              have hJ1 : Hid (Jb (wr.setCell ⟨p, 13, none⟩ (.bool true)) p (jk.mark 1)) := Lib.hid (by rw [hmk]; exact hJ.out.set 13 (.bool true) rfl)
              have fJ1 := Lib.hid (fJ.seqB (fr_set (w := wr) (p := p) 13 (.bool true)) (fun _ => rfl))
              replace hmk := Lib.hid hmk
              go_wp2_with fail
              go_roundw
              case rel => exact ⟨k + 1, by omega, by go_num, by rw [hst.out]; exact hJ1, fJ1.out⟩
              case measure => simp [RowKit.intOf]; omega
            · have hlxd : decide ((1 : Int) < (jk.ag : Int)) = false := by simpa using hlx
              have hmk : jk.mark 1 = jk := by unfold JS.mark; rw [if_neg hlx]
              go_wp2_with fail
              go_roundw
              case rel => exact ⟨k + 1, by omega, by go_num, by rw [hst.out, hmk]; exact hJ, fJ⟩
              case measure => simp [RowKit.intOf]; omega
          focus
            have cx : wr.cell? ⟨p, 22, none⟩ = some (.bool jk.v2.v) := hJ.out.cell 22
            have zx : wr.frozen? ⟨p, 22, none⟩ = false := Blk.frozen hJ.out 22
            by_cases hlx : (2 : Int) < jk.ag
            · have hlxd : decide ((2 : Int) < (jk.ag : Int)) = true := by simpa using hlx
              have hmk : jk.mark 2 = jk.upd 2 fun v => { v with v := true } := by unfold JS.mark; rw [if_pos hlx]; rfl
              have hJ1 : Hid (Jb (wr.setCell ⟨p, 22, none⟩ (.bool true)) p (jk.mark 2)) := Lib.hid (by rw [hmk]; exact hJ.out.set 22 (.bool true) rfl)
              have fJ1 := Lib.hid (fJ.seqB (fr_set (w := wr) (p := p) 22 (.bool true)) (fun _ => rfl))
              replace hmk := Lib.hid hmk
              go_wp2_with fail
              go_roundw
              case rel => exact ⟨k + 1, by omega, by go_num, by rw [hst.out]; exact hJ1, fJ1.out⟩
              case measure => simp [RowKit.intOf]; omega
            · have hlxd : decide ((2 : Int) < (jk.ag : Int)) = false := by simpa using hlx
              have hmk : jk.mark 2 = jk := by unfold JS.mark; rw [if_neg hlx]
              go_wp2_with fail
              go_roundw
              case rel => exact ⟨k + 1, by omega, by go_num, by rw [hst.out, hmk]; exact hJ, fJ⟩
              case measure => simp [RowKit.intOf]; omega
          focus
            have cx : wr.cell? ⟨p, 31, none⟩ = some (.bool jk.v3.v) := hJ.out.cell 31
            have zx : wr.frozen? ⟨p, 31, none⟩ = false := Blk.frozen hJ.out 31
            by_cases hlx : (3 : Int) < jk.ag
            · have hlxd : decide ((3 : Int) < (jk.ag : Int)) = true := by simpa using hlx
              have hmk : jk.mark 3 = jk.upd 3 fun v => { v with v := true } := by unfold JS.mark; rw [if_pos hlx]; rfl
              have hJ1 : Hid (Jb (wr.setCell ⟨p, 31, none⟩ (.bool true)) p (jk.mark 3)) := Lib.hid (by rw [hmk]; exact hJ.out.set 31 (.bool true) rfl)
              have fJ1 := Lib.hid (fJ.seqB (fr_set (w := wr) (p := p) 31 (.bool true)) (fun _ => rfl))
              replace hmk := Lib.hid hmk
              go_wp2_with fail
              go_roundw
              case rel => exact ⟨k + 1, by omega, by go_num, by rw [hst.out]; exact hJ1, fJ1.out⟩
              case measure => simp [RowKit.intOf]; omega
            · have hlxd : decide ((3 : Int) < (jk.ag : Int)) = false := by simpa using hlx
              have hmk : jk.mark 3 = jk := by unfold JS.mark; rw [if_neg hlx]
              go_wp2_with fail
              go_roundw
              case rel => exact ⟨k + 1, by omega, by go_num, by rw [hst.out, hmk]; exact hJ, fJ⟩
              case measure => simp [RowKit.intOf]; omega
        · obtain rfl : k = sn := by omega
          have hJ9 : Hid (Jb wr p (j.pin1 0 ⟨0, t, jb, ct, ta, k, tc, lo⟩ xs)) := Lib.hid (by
            have := hJ.out
            rw [List.take_of_length_le (by rw [← hsn.out]; exact Nat.le_refl _)] at this
            exact this)
          clear hJ
          have hpin : j.pin 0 ⟨0, t, jb, ct, ta, k, tc, lo⟩ xs = if noneL (fun v => !v.p) (j.pin1 0 ⟨0, t, jb, ct, ta, k, tc, lo⟩ xs) then { j.pin1 0 ⟨0, t, jb, ct, ta, k, tc, lo⟩ xs with ph := 2 } else j.pin1 0 ⟨0, t, jb, ct, ta, k, tc, lo⟩ xs := rfl
          generalize (j.pin1 0 ⟨0, t, jb, ct, ta, k, tc, lo⟩ xs) = j9 at *
          replace hpin := Lib.hid hpin
          have hal := allPinned_any p j9 wr hJ9.out
          go_wp2_with fail
          refine hal.mono ?_
          rintro e w6 ⟨rfl, f6⟩
          have h6 := hJ9.out.frN f6
          have g6 := Lib.hid ((g4.out.seqB fJ (fun _ => rfl)).seqN f6)
          have rt6 := Lib.hid ((rt4.out.fr fJ (fun g o n c e => by
            simp only [Value.slice.injEq] at e
            have := hpt.out g o e.1
            unfold onlyB; exact this)).fr f6 (fun _ _ _ _ _ q => q))
          clear hal hJ9 fJ f6
          cases hnl : noneL (fun v => !v.p) j9 with
          | false =>
            go_wp2_with fail
            first | go_end0 | ((try simp only [Exit.inBlock, Exit.then]); refine bodyPost_ret (results_none rfl _ _ _) rfl ?_)
            exact ⟨rfl, g6.out, Or.inr ⟨⟨hp, hv, hvp⟩, ta, tc, rt6.out, hta.out, by rw [hpin.out, hnl]; exact h6⟩⟩
          | true =>
            have c40 : w6.cell? ⟨p, 40, none⟩ = some (.int .i64 j9.ph) := h6.cell 40
            have z40 : w6.frozen? ⟨p, 40, none⟩ = false := Blk.frozen h6 40
            have h7 : Hid (Jb (w6.setCell ⟨p, 40, none⟩ (.int .i64 2)) p { j9 with ph := 2 }) := Lib.hid (h6.set 40 (.int .i64 2) rfl)
            have f7 := fr_set (w := w6) (p := p) 40 (.int .i64 2)
            have g7 := Lib.hid (g6.out.seqB f7 (fun _ => rfl))
            have rt7 := Lib.hid (rt6.out.fr f7 (fun g o n c e => by
              simp only [Value.slice.injEq] at e
              have := hpt.out g o e.1
              unfold onlyB; exact this))
            clear f7
            go_wp2_with fail
            first | go_end0 | ((try simp only [Exit.inBlock, Exit.then]); refine bodyPost_ret (results_none rfl _ _ _) rfl ?_)
            exact ⟨rfl, g7.out, Or.inr ⟨⟨hp, hv, hvp⟩, ta, tc, rt7.out, hta.out, by rw [hpin.out, hnl]; exact h7.out⟩⟩

set_option maxHeartbeats 2000000 in
set_option maxRecDepth 10000 in
theorem pin_1 (p : Nat) (j : JS) (t jb ct : Int) (sa : Option Addr) (sc : Nat) (lo : Bool) (xs : List Int) (w : World) (h : Jb w p j) (hx : RdI w (.slice sa xs.length sc) xs) (hr : ∀ x ∈ xs, 0 ≤ x ∧ x ≤ 3) (hl : xs.length ≤ 4) (hag : j.ag ≤ 4) (hxp : xs ≠ [] → ∀ g o, sa = some ⟨g, o, none⟩ → g ≠ p) :
    Calls Tryz.prog 87 #[.pointer (some ⟨p, 0, none⟩), .agg #[.int .i64 1, .int .i64 t, .int .i64 jb, .int .i64 ct, .slice sa xs.length sc, .bool lo]] w fun e w' => e = .returned (.tuple #[]) ∧ Fr (onlyB p) w w' ∧
      (((j.ph ≠ 1 ∨ j.v1.v = false ∨ j.v1.p = true) ∧ Jb w' p j) ∨ ((j.ph = 1 ∧ j.v1.v = true ∧ j.v1.p = false) ∧ ∃ ta tc, RdI w' (.slice ta xs.length tc) xs ∧ (∀ g o, ta = some ⟨g, o, none⟩ → w.heap.size ≤ g) ∧ Jb w' p (j.pin 1 ⟨1, t, jb, ct, ta, xs.length, tc, lo⟩ xs))) := by
  have hxl : xs.length ≤ 4 := hl
  obtain ⟨sn, hsn⟩ : ∃ sn, sn = xs.length := ⟨_, rfl⟩
  rw [← hsn] at hx hxl ⊢
  replace hsn := Lib.hid hsn
  have fX := (Fr.refl noB w).alloc (.cells #[.int .i64 1, .int .i64 t, .int .i64 jb, .int .i64 ct, .slice sa sn sc, .bool lo] 67)
  have hX := h.frN fX
  have bX := Blk.new w 67 [.int .i64 1, .int .i64 t, .int .i64 jb, .int .i64 ct, .slice sa sn sc, .bool lo]
  have hpw : p < w.heap.size := Blk.lt h
  obtain ⟨wx, hwx⟩ : ∃ wx, wx = w.alloc (.cells #[.int .i64 1, .int .i64 t, .int .i64 jb, .int .i64 ct, .slice sa sn sc, .bool lo] 67) := ⟨_, rfl⟩
  have e0 : (w.alloc (.cells #[.int .i64 1, .int .i64 t, .int .i64 jb, .int .i64 ct, .slice sa sn sc, .bool lo] 67)).cell? ⟨w.heap.size, 0, none⟩ = some (.int .i64 1) := bX.cell 0
  go_enter Tryz.func87, Tryz.ntmps87
  go_upto_region 1 with fail
  rw [← hwx] at fX hX e0 bX ⊢
  clear hwx
  obtain ⟨ob, hob⟩ : ∃ ob, ob = w.heap.size := ⟨_, rfl⟩
  rw [← hob] at e0 bX ⊢
  replace hob := Lib.hid hob
  go_quiet (fail)
  have hY := hX.frN ((Fr.refl noB wx).drewN nq)
  have bY := ((Fr.refl noB wx).drewN nq).blk bX (fun q => q)
  have fY := fX.drewN nq
  generalize wx.drewN nq = wy at *
  clear hX fX e0 bX
  have hopN : p ≠ ob := by rw [hob.out]; omega
  have c0 : wy.cell? ⟨p, 13, none⟩ = some (.bool j.v1.v) := hY.cell 13
  have c1 : wy.cell? ⟨p, 14, none⟩ = some (.bool j.v1.p) := hY.cell 14
  have cp : wy.cell? ⟨p, 40, none⟩ = some (.int .i64 j.ph) := hY.cell 40
  by_cases hp : j.ph = 1
  rotate_left
  · have hpd : (j.ph != 1) = true := by simpa using hp
    go_wp2_with fail
    first | go_end0 | ((try simp only [Exit.inBlock, Exit.then]); refine bodyPost_ret (results_none rfl _ _ _) rfl ?_)
    exact ⟨rfl, fY.mono (fun _ _ q => False.elim q), Or.inl ⟨Or.inl hp, hY⟩⟩
  have hpd : (j.ph != 1) = false := by simp [hp]
  cases hv : j.v1.v with
  | false =>
    rw [hv] at c0
    go_wp2_with fail
    first | go_end0 | ((try simp only [Exit.inBlock, Exit.then]); refine bodyPost_ret (results_none rfl _ _ _) rfl ?_)
    exact ⟨rfl, fY.mono (fun _ _ q => False.elim q), Or.inl ⟨Or.inr (Or.inl hv), hY⟩⟩
  | true =>
    rw [hv] at c0
    cases hvp : j.v1.p with
    | true =>
      rw [hvp] at c1
      go_wp2_with fail
      first | go_end0 | ((try simp only [Exit.inBlock, Exit.then]); refine bodyPost_ret (results_none rfl _ _ _) rfl ?_)
      exact ⟨rfl, fY.mono (fun _ _ q => False.elim q), Or.inl ⟨Or.inr (Or.inr hvp), hY⟩⟩
    | false =>
      rw [hvp] at c1
      have z1 : wy.frozen? ⟨p, 14, none⟩ = false := Blk.frozen hY 14
      -- the flag
      have h1 : Jb (wy.setCell ⟨p, 14, none⟩ (.bool true)) p (j.upd 1 fun v => { v with p := true }) := hY.set 14 (.bool true) rfl
      have f1 := (fY.mono (T := onlyB p) (fun _ _ q => False.elim q)).seqB (fr_set (w := wy) (p := p) 14 (.bool true)) (fun _ => rfl)
      have b1 := (fr_set (w := wy) (p := p) 14 (.bool true)).blk bY (fun q => hopN (by unfold onlyB at q; exact q.symm))
      have r1 : (wy.setCell ⟨p, 14, none⟩ (.bool true)).rangeAt ob 0 [.int .i64 1, .int .i64 t, .int .i64 jb, .int .i64 ct, .slice sa sn sc, .bool lo] := fun i u hu => by rw [Blk.cell b1 (0 + i), Nat.zero_add]; exact hu
      have t1 : (wy.setCell ⟨p, 14, none⟩ (.bool true)).there p 16 6 := there6 h1 (by simp [JS.cells, visC])
      have hph1 : (j.upd 1 fun v => { v with p := true }).ph = 1 := hp
      obtain ⟨w1, hw1⟩ : ∃ w1, w1 = wy.setCell ⟨p, 14, none⟩ (.bool true) := ⟨_, rfl⟩
      rw [← hw1] at h1 f1 b1 r1 t1
      replace r1 := Lib.hid r1
      replace t1 := Lib.hid t1
      replace h1 := Lib.hid h1
      replace b1 := Lib.hid b1
      replace f1 := Lib.hid f1
      replace hw1 := Lib.hid hw1
      have hsz6 : (Tryz.prog.info? 67).map (·.size) = some ([.int .i64 1, .int .i64 t, .int .i64 jb, .int .i64 ct, .slice sa sn sc, .bool lo] : List Value).length := size_told
      have hsz6a : (Tryz.prog.info? 67).map (·.size) = some (#[.int .i64 1, .int .i64 t, .int .i64 jb, .int .i64 ct, .slice sa sn sc, .bool lo] : Array Value).size := size_told
      have t1a : Hid (w1.there p 16 (#[.int .i64 1, .int .i64 t, .int .i64 jb, .int .i64 ct, .slice sa sn sc, .bool lo] : Array Value).size) := t1
      have hon6 := Lib.hid (told_one 1 t jb ct sa sn sc lo)
      replace hsz6 := Lib.hid hsz6
      replace hsz6a := Lib.hid hsz6a
      go_upto_region 4 with fail
      rw [← hw1.out]
      clear c0 c1 cp z1 hw1
      go_wp2_with (first
        | (refine wpList_load_mid rfl 67 (.tmp 3) rfl ob 0 rfl [.int .i64 1, .int .i64 t, .int .i64 jb, .int .i64 ct, .slice sa sn sc, .bool lo] _ r1.out Tryz.underlying67 rfl hsz6.out ?_)
        | (refine wpList_store_mid rfl 67 (.tmp 37) (.tmp 35) rfl p 16 #[.int .i64 1, .int .i64 t, .int .i64 jb, .int .i64 ct, .slice sa sn sc, .bool lo] rfl rfl t1a.out hsz6a.out hon6.out ?_; obtain ⟨w2, hw2, f2, h2⟩ := store6 w1 p 16 (.int .i64 1) (.int .i64 t) (.int .i64 jb) (.int .i64 ct) (.slice sa sn sc) (.bool lo); rw [← hw2]; clear hw2; have h2 := Lib.hid (h2 _ _ h1.out); have b2 := Lib.hid (f2.blk b1.out (fun q => hopN (by { unfold onlyB at q; exact q.symm }))); have k4 : w2.cell? ⟨ob, 4, none⟩ = some (.slice sa sn sc) := b2.out.cell 4; have f2 := Lib.hid f2)
        | fail)
      clear r1 t1 b1 t1a hsz6 hsz6a hon6 k4
      have g2 := Lib.hid (f1.out.seqB f2.out (fun _ => rfl))
      have hx2 := hx.fr1 g2.out (fun hne g o n c e => by
        simp only [Value.slice.injEq] at e
        have := hxp hne g o e.1
        unfold onlyB; exact this)
      have hcl := clone_any (.slice sa sn sc) xs w2 hx2 (by have := hsn.out; omega)
      rw [← hsn.out] at hcl
      clear f1 f2 h1
      refine hcl.mono ?_
      rintro e w3 ⟨ta, tc, rfl, rt, ht, f3⟩
      clear hcl
      have h3 := f3.blk h2.out (fun q => q)
      have b3 := f3.blk b2.out (fun q => q)
      have g3 := g2.out.seqN f3
      have c7 : w3.cell? ⟨p, 20, none⟩ = some (.slice sa sn sc) := Blk.cell h3 20
      have z7 : w3.frozen? ⟨p, 20, none⟩ = false := Blk.frozen h3 20
      have f4 := fr_set (w := w3) (p := p) 20 (.slice ta sn tc)
      have h4 : Jb (w3.setCell ⟨p, 20, none⟩ (.slice ta sn tc)) p (j.upd 1 fun v => { v with p := true, t := ⟨1, t, jb, ct, ta, sn, tc, lo⟩ }) := Blk.set h3 20 (.slice ta sn tc)
      have b4 := f4.blk b3 (fun q => hopN (by unfold onlyB at q; exact q.symm))
      have k4 : (w3.setCell ⟨p, 20, none⟩ (.slice ta sn tc)).cell? ⟨ob, 4, none⟩ = some (.slice sa sn sc) := b4.cell 4
      have hx4 := (hx2.fr f3 (fun _ _ _ _ _ q => q)).fr1 f4 (fun hne g o n c e => by
        simp only [Value.slice.injEq] at e
        have := hxp hne g o e.1
        unfold onlyB; exact this)
      have hpt : ∀ g o, ta = some ⟨g, o, none⟩ → g ≠ p := fun g o e => by
        have h9 := ht g o e
        have h8 := g2.out.size
        omega
      have rt4 := rt.fr f4 (fun g o n c e => by
        simp only [Value.slice.injEq] at e
        have := hpt g o e.1
        unfold onlyB; exact this)
      have g4 := g3.seqB f4 (fun _ => rfl)
      have hta : ∀ g o, ta = some ⟨g, o, none⟩ → w.heap.size ≤ g := fun g o e => by have := ht g o e; have := g2.out.size; omega
      obtain ⟨w4, hw4⟩ : ∃ w4, w4 = w3.setCell ⟨p, 20, none⟩ (.slice ta sn tc) := ⟨_, rfl⟩
      rw [← hw4] at h4 k4 hx4 rt4 g4 b4
      replace hw4 := Lib.hid hw4
      replace h4 := Lib.hid h4
      replace rt4 := Lib.hid rt4
      replace g4 := Lib.hid g4
      replace hta := Lib.hid hta
      replace hpt := Lib.hid hpt
      replace b4 := Lib.hid b4
      replace g2 := Lib.hid g2
      clear h3 b3 g3 f4 rt ht f3 h2 b2 hx2
      go_upto_region 6 with fail
      rw [← hw4.out]
      clear hw4 c7 z7
      have hs3 : ∀ i, i < sn → ∃ g o, sa = some ⟨g, o, none⟩ ∧ w4.cell? ⟨g, o + i, none⟩ = some (.int .i64 (xs.getD i 0)) := by
        obtain ⟨a', c', e, _, _, q3⟩ := hx4
        simp only [Value.slice.injEq] at e
        obtain ⟨e1, _, _⟩ := e
        subst e1
        exact fun i hi => q3 i (by rw [← hsn.out]; exact hi)
      replace hs3 := Lib.hid hs3
      replace hr := Lib.hid hr
      clear hx4 hx
      go_wp2_with fail
      go_loopw [48] (fun i wr => ∃ k : Nat, k ≤ sn ∧ i = .int .i64 k ∧ Hid (Jb wr p ((xs.take k).foldl JS.mark (j.upd 1 fun v => { v with p := true, t := ⟨1, t, jb, ct, ta, sn, tc, lo⟩ }))) ∧ Fr (onlyB p) w4 wr) (fun i _ => sn - (RowKit.intOf i).toNat)
      case atStart => exact ⟨0, by omega, rfl, by simpa using h4, Fr.refl _ _⟩
      case round =>
        clear h4
        obtain ⟨k, hk, rfl, hJ, fJ⟩ := hrel
        by_cases hlt : k < sn
        · obtain ⟨g5, o5, rfl, hc5⟩ := hs3.out k hlt
          have cx5 := fJ.cell hc5 (fun q => hxp (fun e0 => by have h0 := hsn.out; rw [e0] at h0; simp at h0; omega) _ _ rfl (by unfold onlyB at q; exact q))
          have hxm := hr.out _ (List.mem_of_getElem? (show xs[k]? = some (xs.getD k 0) by simp [List.getD, show k < xs.length by rw [← hsn.out]; exact hlt]))
          have hst := foldl_take (j := j.upd 1 fun v => { v with p := true, t := ⟨1, t, jb, ct, ta, sn, tc, lo⟩ }) (xs := xs) (k := k) (by rw [← hsn.out]; exact hlt)
          generalize xs.getD k 0 = x at *
          generalize ((xs.take k).foldl JS.mark (j.upd 1 fun v => { v with p := true, t := ⟨1, t, jb, ct, ta, sn, tc, lo⟩ })) = jk at *
          replace hst := Lib.hid hst
          have c3 : wr.cell? ⟨p, 3, none⟩ = some (.int .i64 jk.ag) := hJ.out.cell 3
          clear hc5
          rcases (show x = 0 ∨ x = 1 ∨ x = 2 ∨ x = 3 by omega) with rfl | rfl | rfl | rfl
          focus
            have cx : wr.cell? ⟨p, 4, none⟩ = some (.bool jk.v0.v) := hJ.out.cell 4
            have zx : wr.frozen? ⟨p, 4, none⟩ = false := Blk.frozen hJ.out 4
            by_cases hlx : (0 : Int) < jk.ag
            · have hlxd : decide ((0 : Int) < (jk.ag : Int)) = true := by simpa using hlx
              have hmk : jk.mark 0 = jk.upd 0 fun v => { v with v := true } := by unfold JS.mark; rw [if_pos hlx]; rfl
              have hJ1 : Hid (Jb (wr.setCell ⟨p, 4, none⟩ (.bool true)) p (jk.mark 0)) := Lib.hid (by rw [hmk]; exact hJ.out.set 4 (.bool true) rfl)
              have fJ1 := Lib.hid (fJ.seqB (fr_set (w := wr) (p := p) 4 (.bool true)) (fun _ => rfl))
              replace hmk := Lib.hid hmk
              go_wp2_with fail
              go_roundw
              case rel => exact ⟨k + 1, by omega, by go_num, by rw [hst.out]; exact hJ1, fJ1.out⟩
              case measure => simp [RowKit.intOf]; omega
            · have hlxd : decide ((0 : Int) < (jk.ag : Int)) = false := by simpa using hlx
              have hmk : jk.mark 0 = jk := by unfold JS.mark; rw [if_neg hlx]
              go_wp2_with fail
              go_roundw
              case rel => exact ⟨k + 1, by omega, by go_num, by rw [hst.out, hmk]; exact hJ, fJ⟩
              case measure => simp [RowKit.intOf]; omega
          focus
            have cx : wr.cell? ⟨p, 13, none⟩ = some (.bool jk.v1.v) := hJ.out.cell 13
            have zx : wr.frozen? ⟨p, 13, none⟩ = false := Blk.frozen hJ.out 13
            by_cases hlx : (1 : Int) < jk.ag
            · have hlxd : decide ((1 : Int) < (jk.ag : Int)) = true := by simpa using hlx
              have hmk : jk.mark 1 = jk.upd 1 fun v => { v with v := true } := by unfold JS.mark; rw [if_pos hlx]; rfl
              have hJ1 : Hid (Jb (wr.setCell ⟨p, 13, none⟩ (.bool true)) p (jk.mark 1)) := Lib.hid (by rw [hmk]; exact hJ.out.set 13 (.bool true) rfl)
              have fJ1 := Lib.hid (fJ.seqB (fr_set (w := wr) (p := p) 13 (.bool true)) (fun _ => rfl))
              replace hmk := Lib.hid hmk
              go_wp2_with fail
              go_roundw
              case rel => exact ⟨k + 1, by omega, by go_num, by rw [hst.out]; exact hJ1, fJ1.out⟩
              case measure => simp [RowKit.intOf]; omega
            · have hlxd : decide ((1 : Int) < (jk.ag : Int)) = false := by simpa using hlx
              have hmk : jk.mark 1 = jk := by unfold JS.mark; rw [if_neg hlx]
              go_wp2_with fail
              go_roundw
              case rel => exact ⟨k + 1, by omega, by go_num, by rw [hst.out, hmk]; exact hJ, fJ⟩
              case measure => simp [RowKit.intOf]; omega
          focus
            have cx : wr.cell? ⟨p, 22, none⟩ = some (.bool jk.v2.v) := hJ.out.cell 22
            have zx : wr.frozen? ⟨p, 22, none⟩ = false := Blk.frozen hJ.out 22
            by_cases hlx : (2 : Int) < jk.ag
            · have hlxd : decide ((2 : Int) < (jk.ag : Int)) = true := by simpa using hlx
              have hmk : jk.mark 2 = jk.upd 2 fun v => { v with v := true } := by unfold JS.mark; rw [if_pos hlx]; rfl
              have hJ1 : Hid (Jb (wr.setCell ⟨p, 22, none⟩ (.bool true)) p (jk.mark 2)) := Lib.hid (by rw [hmk]; exact hJ.out.set 22 (.bool true) rfl)
              have fJ1 := Lib.hid (fJ.seqB (fr_set (w := wr) (p := p) 22 (.bool true)) (fun _ => rfl))
              replace hmk := Lib.hid hmk
              go_wp2_with fail
              go_roundw
              case rel => exact ⟨k + 1, by omega, by go_num, by rw [hst.out]; exact hJ1, fJ1.out⟩
              case measure => simp [RowKit.intOf]; omega
            · have hlxd : decide ((2 : Int) < (jk.ag : Int)) = false := by simpa using hlx
              have hmk : jk.mark 2 = jk := by unfold JS.mark; rw [if_neg hlx]
              go_wp2_with fail
              go_roundw
              case rel => exact ⟨k + 1, by omega, by go_num, by rw [hst.out, hmk]; exact hJ, fJ⟩
              case measure => simp [RowKit.intOf]; omega
          focus
            have cx : wr.cell? ⟨p, 31, none⟩ = some (.bool jk.v3.v) := hJ.out.cell 31
            have zx : wr.frozen? ⟨p, 31, none⟩ = false := Blk.frozen hJ.out 31
            by_cases hlx : (3 : Int) < jk.ag
            · have hlxd : decide ((3 : Int) < (jk.ag : Int)) = true := by simpa using hlx
              have hmk : jk.mark 3 = jk.upd 3 fun v => { v with v := true } := by unfold JS.mark; rw [if_pos hlx]; rfl
              have hJ1 : Hid (Jb (wr.setCell ⟨p, 31, none⟩ (.bool true)) p (jk.mark 3)) := Lib.hid (by rw [hmk]; exact hJ.out.set 31 (.bool true) rfl)
              have fJ1 := Lib.hid (fJ.seqB (fr_set (w := wr) (p := p) 31 (.bool true)) (fun _ => rfl))
              replace hmk := Lib.hid hmk
              go_wp2_with fail
              go_roundw
              case rel => exact ⟨k + 1, by omega, by go_num, by rw [hst.out]; exact hJ1, fJ1.out⟩
              case measure => simp [RowKit.intOf]; omega
            · have hlxd : decide ((3 : Int) < (jk.ag : Int)) = false := by simpa using hlx
              have hmk : jk.mark 3 = jk := by unfold JS.mark; rw [if_neg hlx]
              go_wp2_with fail
              go_roundw
              case rel => exact ⟨k + 1, by omega, by go_num, by rw [hst.out, hmk]; exact hJ, fJ⟩
              case measure => simp [RowKit.intOf]; omega
        · obtain rfl : k = sn := by omega
          have hJ9 : Hid (Jb wr p (j.pin1 1 ⟨1, t, jb, ct, ta, k, tc, lo⟩ xs)) := Lib.hid (by
            have := hJ.out
            rw [List.take_of_length_le (by rw [← hsn.out]; exact Nat.le_refl _)] at this
            exact this)
          clear hJ
          have hpin : j.pin 1 ⟨1, t, jb, ct, ta, k, tc, lo⟩ xs = if noneL (fun v => !v.p) (j.pin1 1 ⟨1, t, jb, ct, ta, k, tc, lo⟩ xs) then { j.pin1 1 ⟨1, t, jb, ct, ta, k, tc, lo⟩ xs with ph := 2 } else j.pin1 1 ⟨1, t, jb, ct, ta, k, tc, lo⟩ xs := rfl
          generalize (j.pin1 1 ⟨1, t, jb, ct, ta, k, tc, lo⟩ xs) = j9 at *
          replace hpin := Lib.hid hpin
          have hal := allPinned_any p j9 wr hJ9.out
          go_wp2_with fail
          refine hal.mono ?_
          rintro e w6 ⟨rfl, f6⟩
          have h6 := hJ9.out.frN f6
          have g6 := Lib.hid ((g4.out.seqB fJ (fun _ => rfl)).seqN f6)
          have rt6 := Lib.hid ((rt4.out.fr fJ (fun g o n c e => by
            simp only [Value.slice.injEq] at e
            have := hpt.out g o e.1
            unfold onlyB; exact this)).fr f6 (fun _ _ _ _ _ q => q))
          clear hal hJ9 fJ f6
          cases hnl : noneL (fun v => !v.p) j9 with
          | false =>
            go_wp2_with fail
            first | go_end0 | ((try simp only [Exit.inBlock, Exit.then]); refine bodyPost_ret (results_none rfl _ _ _) rfl ?_)
            exact ⟨rfl, g6.out, Or.inr ⟨⟨hp, hv, hvp⟩, ta, tc, rt6.out, hta.out, by rw [hpin.out, hnl]; exact h6⟩⟩
          | true =>
            have c40 : w6.cell? ⟨p, 40, none⟩ = some (.int .i64 j9.ph) := h6.cell 40
            have z40 : w6.frozen? ⟨p, 40, none⟩ = false := Blk.frozen h6 40
            have h7 : Hid (Jb (w6.setCell ⟨p, 40, none⟩ (.int .i64 2)) p { j9 with ph := 2 }) := Lib.hid (h6.set 40 (.int .i64 2) rfl)
            have f7 := fr_set (w := w6) (p := p) 40 (.int .i64 2)
            have g7 := Lib.hid (g6.out.seqB f7 (fun _ => rfl))
            have rt7 := Lib.hid (rt6.out.fr f7 (fun g o n c e => by
              simp only [Value.slice.injEq] at e
              have := hpt.out g o e.1
              unfold onlyB; exact this))
            clear f7
            go_wp2_with fail
            first | go_end0 | ((try simp only [Exit.inBlock, Exit.then]); refine bodyPost_ret (results_none rfl _ _ _) rfl ?_)
            exact ⟨rfl, g7.out, Or.inr ⟨⟨hp, hv, hvp⟩, ta, tc, rt7.out, hta.out, by rw [hpin.out, hnl]; exact h7.out⟩⟩

set_option maxHeartbeats 2000000 in
set_option maxRecDepth 10000 in
theorem pin_2 (p : Nat) (j : JS) (t jb ct : Int) (sa : Option Addr) (sc : Nat) (lo : Bool) (xs : List Int) (w : World) (h : Jb w p j) (hx : RdI w (.slice sa xs.length sc) xs) (hr : ∀ x ∈ xs, 0 ≤ x ∧ x ≤ 3) (hl : xs.length ≤ 4) (hag : j.ag ≤ 4) (hxp : xs ≠ [] → ∀ g o, sa = some ⟨g, o, none⟩ → g ≠ p) :
    Calls Tryz.prog 87 #[.pointer (some ⟨p, 0, none⟩), .agg #[.int .i64 2, .int .i64 t, .int .i64 jb, .int .i64 ct, .slice sa xs.length sc, .bool lo]] w fun e w' => e = .returned (.tuple #[]) ∧ Fr (onlyB p) w w' ∧
      (((j.ph ≠ 1 ∨ j.v2.v = false ∨ j.v2.p = true) ∧ Jb w' p j) ∨ ((j.ph = 1 ∧ j.v2.v = true ∧ j.v2.p = false) ∧ ∃ ta tc, RdI w' (.slice ta xs.length tc) xs ∧ (∀ g o, ta = some ⟨g, o, none⟩ → w.heap.size ≤ g) ∧ Jb w' p (j.pin 2 ⟨2, t, jb, ct, ta, xs.length, tc, lo⟩ xs))) := by
  have hxl : xs.length ≤ 4 := hl
  obtain ⟨sn, hsn⟩ : ∃ sn, sn = xs.length := ⟨_, rfl⟩
  rw [← hsn] at hx hxl ⊢
  replace hsn := Lib.hid hsn
  have fX := (Fr.refl noB w).alloc (.cells #[.int .i64 2, .int .i64 t, .int .i64 jb, .int .i64 ct, .slice sa sn sc, .bool lo] 67)
  have hX := h.frN fX
  have bX := Blk.new w 67 [.int .i64 2, .int .i64 t, .int .i64 jb, .int .i64 ct, .slice sa sn sc, .bool lo]
  have hpw : p < w.heap.size := Blk.lt h
  obtain ⟨wx, hwx⟩ : ∃ wx, wx = w.alloc (.cells #[.int .i64 2, .int .i64 t, .int .i64 jb, .int .i64 ct, .slice sa sn sc, .bool lo] 67) := ⟨_, rfl⟩
  have e0 : (w.alloc (.cells #[.int .i64 2, .int .i64 t, .int .i64 jb, .int .i64 ct, .slice sa sn sc, .bool lo] 67)).cell? ⟨w.heap.size, 0, none⟩ = some (.int .i64 2) := bX.cell 0
  go_enter Tryz.func87, Tryz.ntmps87
  go_upto_region 1 with fail
  rw [← hwx] at fX hX e0 bX ⊢
  clear hwx
  obtain ⟨ob, hob⟩ : ∃ ob, ob = w.heap.size := ⟨_, rfl⟩
  rw [← hob] at e0 bX ⊢
  replace hob := Lib.hid hob
  go_quiet (fail)
  have hY := hX.frN ((Fr.refl noB wx).drewN nq)
  have bY := ((Fr.refl noB wx).drewN nq).blk bX (fun q => q)
  have fY := fX.drewN nq
  generalize wx.drewN nq = wy at *
  clear hX fX e0 bX
  have hopN : p ≠ ob := by rw [hob.out]; omega
  have c0 : wy.cell? ⟨p, 22, none⟩ = some (.bool j.v2.v) := hY.cell 22
  have c1 : wy.cell? ⟨p, 23, none⟩ = some (.bool j.v2.p) := hY.cell 23
  have cp : wy.cell? ⟨p, 40, none⟩ = some (.int .i64 j.ph) := hY.cell 40
  by_cases hp : j.ph = 1
  rotate_left
  · have hpd : (j.ph != 1) = true := by simpa using hp
    go_wp2_with fail
    first | go_end0 | ((try simp only [Exit.inBlock, Exit.then]); refine bodyPost_ret (results_none rfl _ _ _) rfl ?_)
    exact ⟨rfl, fY.mono (fun _ _ q => False.elim q), Or.inl ⟨Or.inl hp, hY⟩⟩
  have hpd : (j.ph != 1) = false := by simp [hp]
  cases hv : j.v2.v with
  | false =>
    rw [hv] at c0
    go_wp2_with fail
    first | go_end0 | ((try simp only [Exit.inBlock, Exit.then]); refine bodyPost_ret (results_none rfl _ _ _) rfl ?_)
    exact ⟨rfl, fY.mono (fun _ _ q => False.elim q), Or.inl ⟨Or.inr (Or.inl hv), hY⟩⟩
  | true =>
    rw [hv] at c0
    cases hvp : j.v2.p with
    | true =>
      rw [hvp] at c1
      go_wp2_with fail
      first | go_end0 | ((try simp only [Exit.inBlock, Exit.then]); refine bodyPost_ret (results_none rfl _ _ _) rfl ?_)
      exact ⟨rfl, fY.mono (fun _ _ q => False.elim q), Or.inl ⟨Or.inr (Or.inr hvp), hY⟩⟩
    | false =>
      rw [hvp] at c1
      have z1 : wy.frozen? ⟨p, 23, none⟩ = false := Blk.frozen hY 23
      -- the flag
      have h1 : Jb (wy.setCell ⟨p, 23, none⟩ (.bool true)) p (j.upd 2 fun v => { v with p := true }) := hY.set 23 (.bool true) rfl
      have f1 := (fY.mono (T := onlyB p) (fun _ _ q => False.elim q)).seqB (fr_set (w := wy) (p := p) 23 (.bool true)) (fun _ => rfl)
      have b1 := (fr_set (w := wy) (p := p) 23 (.bool true)).blk bY (fun q => hopN (by unfold onlyB at q; exact q.symm))
      have r1 : (wy.setCell ⟨p, 23, none⟩ (.bool true)).rangeAt ob 0 [.int .i64 2, .int .i64 t, .int .i64 jb, .int .i64 ct, .slice sa sn sc, .bool lo] := fun i u hu => by rw [Blk.cell b1 (0 + i), Nat.zero_add]; exact hu
      have t1 : (wy.setCell ⟨p, 23, none⟩ (.bool true)).there p 25 6 := there6 h1 (by simp [JS.cells, visC])
      have hph1 : (j.upd 2 fun v => { v with p := true }).ph = 1 := hp
      obtain ⟨w1, hw1⟩ : ∃ w1, w1 = wy.setCell ⟨p, 23, none⟩ (.bool true) := ⟨_, rfl⟩
      rw [← hw1] at h1 f1 b1 r1 t1
      replace r1 := Lib.hid r1
      replace t1 := Lib.hid t1
      replace h1 := Lib.hid h1
      replace b1 := Lib.hid b1
      replace f1 := Lib.hid f1
      replace hw1 := Lib.hid hw1
      have hsz6 : (Tryz.prog.info? 67).map (·.size) = some ([.int .i64 2, .int .i64 t, .int .i64 jb, .int .i64 ct, .slice sa sn sc, .bool lo] : List Value).length := size_told
      have hsz6a : (Tryz.prog.info? 67).map (·.size) = some (#[.int .i64 2, .int .i64 t, .int .i64 jb, .int .i64 ct, .slice sa sn sc, .bool lo] : Array Value).size := size_told
      have t1a : Hid (w1.there p 25 (#[.int .i64 2, .int .i64 t, .int .i64 jb, .int .i64 ct, .slice sa sn sc, .bool lo] : Array Value).size) := t1
      have hon6 := Lib.hid (told_one 2 t jb ct sa sn sc lo)
      replace hsz6 := Lib.hid hsz6
      replace hsz6a := Lib.hid hsz6a
      go_upto_region 4 with fail
      rw [← hw1.out]
      clear c0 c1 cp z1 hw1
      go_wp2_with (first
        | (refine wpList_load_mid rfl 67 (.tmp 3) rfl ob 0 rfl [.int .i64 2, .int .i64 t, .int .i64 jb, .int .i64 ct, .slice sa sn sc, .bool lo] _ r1.out Tryz.underlying67 rfl hsz6.out ?_)
        | (refine wpList_store_mid rfl 67 (.tmp 37) (.tmp 35) rfl p 25 #[.int .i64 2, .int .i64 t, .int .i64 jb, .int .i64 ct, .slice sa sn sc, .bool lo] rfl rfl t1a.out hsz6a.out hon6.out ?_; obtain ⟨w2, hw2, f2, h2⟩ := store6 w1 p 25 (.int .i64 2) (.int .i64 t) (.int .i64 jb) (.int .i64 ct) (.slice sa sn sc) (.bool lo); rw [← hw2]; clear hw2; have h2 := Lib.hid (h2 _ _ h1.out); have b2 := Lib.hid (f2.blk b1.out (fun q => hopN (by { unfold onlyB at q; exact q.symm }))); have k4 : w2.cell? ⟨ob, 4, none⟩ = some (.slice sa sn sc) := b2.out.cell 4; have f2 := Lib.hid f2)
        | fail)
      clear r1 t1 b1 t1a hsz6 hsz6a hon6 k4
      have g2 := Lib.hid (f1.out.seqB f2.out (fun _ => rfl))
      have hx2 := hx.fr1 g2.out (fun hne g o n c e => by
        simp only [Value.slice.injEq] at e
        have := hxp hne g o e.1
        unfold onlyB; exact this)
      have hcl := clone_any (.slice sa sn sc) xs w2 hx2 (by have := hsn.out; omega)
      rw [← hsn.out] at hcl
      clear f1 f2 h1
      refine hcl.mono ?_
      rintro e w3 ⟨ta, tc, rfl, rt, ht, f3⟩
      clear hcl
      have h3 := f3.blk h2.out (fun q => q)
      have b3 := f3.blk b2.out (fun q => q)
      have g3 := g2.out.seqN f3
      have c7 : w3.cell? ⟨p, 29, none⟩ = some (.slice sa sn sc) := Blk.cell h3 29
      have z7 : w3.frozen? ⟨p, 29, none⟩ = false := Blk.frozen h3 29
      have f4 := fr_set (w := w3) (p := p) 29 (.slice ta sn tc)
      have h4 : Jb (w3.setCell ⟨p, 29, none⟩ (.slice ta sn tc)) p (j.upd 2 fun v => { v with p := true, t := ⟨2, t, jb, ct, ta, sn, tc, lo⟩ }) := Blk.set h3 29 (.slice ta sn tc)
      have b4 := f4.blk b3 (fun q => hopN (by unfold onlyB at q; exact q.symm))
      have k4 : (w3.setCell ⟨p, 29, none⟩ (.slice ta sn tc)).cell? ⟨ob, 4, none⟩ = some (.slice sa sn sc) := b4.cell 4
      have hx4 := (hx2.fr f3 (fun _ _ _ _ _ q => q)).fr1 f4 (fun hne g o n c e => by
        simp only [Value.slice.injEq] at e
        have := hxp hne g o e.1
        unfold onlyB; exact this)
      have hpt : ∀ g o, ta = some ⟨g, o, none⟩ → g ≠ p := fun g o e => by
        have h9 := ht g o e
        have h8 := g2.out.size
        omega
      have rt4 := rt.fr f4 (fun g o n c e => by
        simp only [Value.slice.injEq] at e
        have := hpt g o e.1
        unfold onlyB; exact this)
      have g4 := g3.seqB f4 (fun _ => rfl)
      have hta : ∀ g o, ta = some ⟨g, o, none⟩ → w.heap.size ≤ g := fun g o e => by have := ht g o e; have := g2.out.size; omega
      obtain ⟨w4, hw4⟩ : ∃ w4, w4 = w3.setCell ⟨p, 29, none⟩ (.slice ta sn tc) := ⟨_, rfl⟩
      rw [← hw4] at h4 k4 hx4 rt4 g4 b4
      replace hw4 := Lib.hid hw4
      replace h4 := Lib.hid h4
      replace rt4 := Lib.hid rt4
      replace g4 := Lib.hid g4
      replace hta := Lib.hid hta
      replace hpt := Lib.hid hpt
      replace b4 := Lib.hid b4
      replace g2 := Lib.hid g2
      clear h3 b3 g3 f4 rt ht f3 h2 b2 hx2
      go_upto_region 6 with fail
      rw [← hw4.out]
      clear hw4 c7 z7
      have hs3 : ∀ i, i < sn → ∃ g o, sa = some ⟨g, o, none⟩ ∧ w4.cell? ⟨g, o + i, none⟩ = some (.int .i64 (xs.getD i 0)) := by
        obtain ⟨a', c', e, _, _, q3⟩ := hx4
        simp only [Value.slice.injEq] at e
        obtain ⟨e1, _, _⟩ := e
        subst e1
        exact fun i hi => q3 i (by rw [← hsn.out]; exact hi)
      replace hs3 := Lib.hid hs3
      replace hr := Lib.hid hr
      clear hx4 hx
      go_wp2_with fail
      go_loopw [48] (fun i wr => ∃ k : Nat, k ≤ sn ∧ i = .int .i64 k ∧ Hid (Jb wr p ((xs.take k).foldl JS.mark (j.upd 2 fun v => { v with p := true, t := ⟨2, t, jb, ct, ta, sn, tc, lo⟩ }))) ∧ Fr (onlyB p) w4 wr) (fun i _ => sn - (RowKit.intOf i).toNat)
      case atStart => exact ⟨0, by omega, rfl, by simpa using h4, Fr.refl _ _⟩
      case round =>
        clear h4
        obtain ⟨k, hk, rfl, hJ, fJ⟩ := hrel
        by_cases hlt : k < sn
        · obtain ⟨g5, o5, rfl, hc5⟩ := hs3.out k hlt
          have cx5 := fJ.cell hc5 (fun q => hxp (fun e0 => by have h0 := hsn.out; rw [e0] at h0; simp at h0; omega) _ _ rfl (by unfold onlyB at q; exact q))
          have hxm := hr.out _ (List.mem_of_getElem? (show xs[k]? = some (xs.getD k 0) by simp [List.getD, show k < xs.length by rw [← hsn.out]; exact hlt]))
          have hst := foldl_take (j := j.upd 2 fun v => { v with p := true, t := ⟨2, t, jb, ct, ta, sn, tc, lo⟩ }) (xs := xs) (k := k) (by rw [← hsn.out]; exact hlt)
          generalize xs.getD k 0 = x at *
          generalize ((xs.take k).foldl JS.mark (j.upd 2 fun v => { v with p := true, t := ⟨2, t, jb, ct, ta, sn, tc, lo⟩ })) = jk at *
          replace hst := Lib.hid hst
          have c3 : wr.cell? ⟨p, 3, none⟩ = some (.int .i64 jk.ag) := hJ.out.cell 3
          clear hc5
          rcases (show x = 0 ∨ x = 1 ∨ x = 2 ∨ x = 3 by omega) with rfl | rfl | rfl | rfl
          focus
            have cx : wr.cell? ⟨p, 4, none⟩ = some (.bool jk.v0.v) := hJ.out.cell 4
            have zx : wr.frozen? ⟨p, 4, none⟩ = false := Blk.frozen hJ.out 4
            by_cases hlx : (0 : Int) < jk.ag
            · have hlxd : decide ((0 : Int) < (jk.ag : Int)) = true := by simpa using hlx
              have hmk : jk.mark 0 = jk.upd 0 fun v => { v with v := true } := by unfold JS.mark; rw [if_pos hlx]; rfl
              have hJ1 : Hid (Jb (wr.setCell ⟨p, 4, none⟩ (.bool true)) p (jk.mark 0)) := Lib.hid (by rw [hmk]; exact hJ.out.set 4 (.bool true) rfl)
              have fJ1 := Lib.hid (fJ.seqB (fr_set (w := wr) (p := p) 4 (.bool true)) (fun _ => rfl))
              replace hmk := Lib.hid hmk
              go_wp2_with fail
              go_roundw
              case rel => exact ⟨k + 1, by omega, by go_num, by rw [hst.out]; exact hJ1, fJ1.out⟩
              case measure => simp [RowKit.intOf]; omega
            · have hlxd : decide ((0 : Int) < (jk.ag : Int)) = false := by simpa using hlx
              have hmk : jk.mark 0 = jk := by unfold JS.mark; rw [if_neg hlx]
              go_wp2_with fail
              go_roundw
              case rel => exact ⟨k + 1, by omega, by go_num, by rw [hst.out, hmk]; exact hJ, fJ⟩
              case measure => simp [RowKit.intOf]; omega
          focus
            have cx : wr.cell? ⟨p, 13, none⟩ = some (.bool jk.v1.v) := hJ.out.cell 13
            have zx : wr.frozen? ⟨p, 13, none⟩ = false := Blk.frozen hJ.out 13
            by_cases hlx : (1 : Int) < jk.ag
            · have hlxd : decide ((1 : Int) < (jk.ag : Int)) = true := by simpa using hlx
              have hmk : jk.mark 1 = jk.upd 1 fun v => { v with v := true } := by unfold JS.mark; rw [if_pos hlx]; rfl
              have hJ1 : Hid (Jb (wr.setCell ⟨p, 13, none⟩ (.bool true)) p (jk.mark 1)) := Lib.hid (by rw [hmk]; exact hJ.out.set 13 (.bool true) rfl)
              have fJ1 := Lib.hid (fJ.seqB (fr_set (w := wr) (p := p) 13 (.bool true)) (fun _ => rfl))
              replace hmk := Lib.hid hmk
              go_wp2_with fail
              go_roundw
              case rel => exact ⟨k + 1, by omega, by go_num, by rw [hst.out]; exact hJ1, fJ1.out⟩
              case measure => simp [RowKit.intOf]; omega
            · have hlxd : decide ((1 : Int) < (jk.ag : Int)) = false := by simpa using hlx
              have hmk : jk.mark 1 = jk := by unfold JS.mark; rw [if_neg hlx]
              go_wp2_with fail
              go_roundw
              case rel => exact ⟨k + 1, by omega, by go_num, by rw [hst.out, hmk]; exact hJ, fJ⟩
              case measure => simp [RowKit.intOf]; omega
          focus
            have cx : wr.cell? ⟨p, 22, none⟩ = some (.bool jk.v2.v) := hJ.out.cell 22
            have zx : wr.frozen? ⟨p, 22, none⟩ = false := Blk.frozen hJ.out 22
            by_cases hlx : (2 : Int) < jk.ag
            · have hlxd : decide ((2 : Int) < (jk.ag : Int)) = true := by simpa using hlx
              have hmk : jk.mark 2 = jk.upd 2 fun v => { v with v := true } := by unfold JS.mark; rw [if_pos hlx]; rfl
              have hJ1 : Hid (Jb (wr.setCell ⟨p, 22, none⟩ (.bool true)) p (jk.mark 2)) := Lib.hid (by rw [hmk]; exact hJ.out.set 22 (.bool true) rfl)
              have fJ1 := Lib.hid (fJ.seqB (fr_set (w := wr) (p := p) 22 (.bool true)) (fun _ => rfl))
              replace hmk := Lib.hid hmk
              go_wp2_with fail
              go_roundw
              case rel => exact ⟨k + 1, by omega, by go_num, by rw [hst.out]; exact hJ1, fJ1.out⟩
              case measure => simp [RowKit.intOf]; omega
            · have hlxd : decide ((2 : Int) < (jk.ag : Int)) = false := by simpa using hlx
              have hmk : jk.mark 2 = jk := by unfold JS.mark; rw [if_neg hlx]
              go_wp2_with fail
              go_roundw
              case rel => exact ⟨k + 1, by omega, by go_num, by rw [hst.out, hmk]; exact hJ, fJ⟩
              case measure => simp [RowKit.intOf]; omega
          focus
            have cx : wr.cell? ⟨p, 31, none⟩ = some (.bool jk.v3.v) := hJ.out.cell 31
            have zx : wr.frozen? ⟨p, 31, none⟩ = false := Blk.frozen hJ.out 31
            by_cases hlx : (3 : Int) < jk.ag
            · have hlxd : decide ((3 : Int) < (jk.ag : Int)) = true := by simpa using hlx
              have hmk : jk.mark 3 = jk.upd 3 fun v => { v with v := true } := by unfold JS.mark; rw [if_pos hlx]; rfl
              have hJ1 : Hid (Jb (wr.setCell ⟨p, 31, none⟩ (.bool true)) p (jk.mark 3)) := Lib.hid (by rw [hmk]; exact hJ.out.set 31 (.bool true) rfl)
              have fJ1 := Lib.hid (fJ.seqB (fr_set (w := wr) (p := p) 31 (.bool true)) (fun _ => rfl))
              replace hmk := Lib.hid hmk
              go_wp2_with fail
              go_roundw
              case rel => exact ⟨k + 1, by omega, by go_num, by rw [hst.out]; exact hJ1, fJ1.out⟩
              case measure => simp [RowKit.intOf]; omega
            · have hlxd : decide ((3 : Int) < (jk.ag : Int)) = false := by simpa using hlx
              have hmk : jk.mark 3 = jk := by unfold JS.mark; rw [if_neg hlx]
              go_wp2_with fail
              go_roundw
              case rel => exact ⟨k + 1, by omega, by go_num, by rw [hst.out, hmk]; exact hJ, fJ⟩
              case measure => simp [RowKit.intOf]; omega
        · obtain rfl : k = sn := by omega
          have hJ9 : Hid (Jb wr p (j.pin1 2 ⟨2, t, jb, ct, ta, k, tc, lo⟩ xs)) := Lib.hid (by
            have := hJ.out
            rw [List.take_of_length_le (by rw [← hsn.out]; exact Nat.le_refl _)] at this
            exact this)
          clear hJ
          have hpin : j.pin 2 ⟨2, t, jb, ct, ta, k, tc, lo⟩ xs = if noneL (fun v => !v.p) (j.pin1 2 ⟨2, t, jb, ct, ta, k, tc, lo⟩ xs) then { j.pin1 2 ⟨2, t, jb, ct, ta, k, tc, lo⟩ xs with ph := 2 } else j.pin1 2 ⟨2, t, jb, ct, ta, k, tc, lo⟩ xs := rfl
          generalize (j.pin1 2 ⟨2, t, jb, ct, ta, k, tc, lo⟩ xs) = j9 at *
          replace hpin := Lib.hid hpin
          have hal := allPinned_any p j9 wr hJ9.out
          go_wp2_with fail
          refine hal.mono ?_
          rintro e w6 ⟨rfl, f6⟩
          have h6 := hJ9.out.frN f6
          have g6 := Lib.hid ((g4.out.seqB fJ (fun _ => rfl)).seqN f6)
          have rt6 := Lib.hid ((rt4.out.fr fJ (fun g o n c e => by
            simp only [Value.slice.injEq] at e
            have := hpt.out g o e.1
            unfold onlyB; exact this)).fr f6 (fun _ _ _ _ _ q => q))
          clear hal hJ9 fJ f6
          cases hnl : noneL (fun v => !v.p) j9 with
          | false =>
            go_wp2_with fail
            first | go_end0 | ((try simp only [Exit.inBlock, Exit.then]); refine bodyPost_ret (results_none rfl _ _ _) rfl ?_)
            exact ⟨rfl, g6.out, Or.inr ⟨⟨hp, hv, hvp⟩, ta, tc, rt6.out, hta.out, by rw [hpin.out, hnl]; exact h6⟩⟩
          | true =>
            have c40 : w6.cell? ⟨p, 40, none⟩ = some (.int .i64 j9.ph) := h6.cell 40
            have z40 : w6.frozen? ⟨p, 40, none⟩ = false := Blk.frozen h6 40
            have h7 : Hid (Jb (w6.setCell ⟨p, 40, none⟩ (.int .i64 2)) p { j9 with ph := 2 }) := Lib.hid (h6.set 40 (.int .i64 2) rfl)
            have f7 := fr_set (w := w6) (p := p) 40 (.int .i64 2)
            have g7 := Lib.hid (g6.out.seqB f7 (fun _ => rfl))
            have rt7 := Lib.hid (rt6.out.fr f7 (fun g o n c e => by
              simp only [Value.slice.injEq] at e
              have := hpt.out g o e.1
              unfold onlyB; exact this))
            clear f7
            go_wp2_with fail
            first | go_end0 | ((try simp only [Exit.inBlock, Exit.then]); refine bodyPost_ret (results_none rfl _ _ _) rfl ?_)
            exact ⟨rfl, g7.out, Or.inr ⟨⟨hp, hv, hvp⟩, ta, tc, rt7.out, hta.out, by rw [hpin.out, hnl]; exact h7.out⟩⟩

set_option maxHeartbeats 2000000 in
set_option maxRecDepth 10000 in
theorem pin_3 (p : Nat) (j : JS) (t jb ct : Int) (sa : Option Addr) (sc : Nat) (lo : Bool) (xs : List Int) (w : World) (h : Jb w p j) (hx : RdI w (.slice sa xs.length sc) xs) (hr : ∀ x ∈ xs, 0 ≤ x ∧ x ≤ 3) (hl : xs.length ≤ 4) (hag : j.ag ≤ 4) (hxp : xs ≠ [] → ∀ g o, sa = some ⟨g, o, none⟩ → g ≠ p) :
    Calls Tryz.prog 87 #[.pointer (some ⟨p, 0, none⟩), .agg #[.int .i64 3, .int .i64 t, .int .i64 jb, .int .i64 ct, .slice sa xs.length sc, .bool lo]] w fun e w' => e = .returned (.tuple #[]) ∧ Fr (onlyB p) w w' ∧
      (((j.ph ≠ 1 ∨ j.v3.v = false ∨ j.v3.p = true) ∧ Jb w' p j) ∨ ((j.ph = 1 ∧ j.v3.v = true ∧ j.v3.p = false) ∧ ∃ ta tc, RdI w' (.slice ta xs.length tc) xs ∧ (∀ g o, ta = some ⟨g, o, none⟩ → w.heap.size ≤ g) ∧ Jb w' p (j.pin 3 ⟨3, t, jb, ct, ta, xs.length, tc, lo⟩ xs))) := by
  have hxl : xs.length ≤ 4 := hl
  obtain ⟨sn, hsn⟩ : ∃ sn, sn = xs.length := ⟨_, rfl⟩
  rw [← hsn] at hx hxl ⊢
  replace hsn := Lib.hid hsn
  have fX := (Fr.refl noB w).alloc (.cells #[.int .i64 3, .int .i64 t, .int .i64 jb, .int .i64 ct, .slice sa sn sc, .bool lo] 67)
  have hX := h.frN fX
  have bX := Blk.new w 67 [.int .i64 3, .int .i64 t, .int .i64 jb, .int .i64 ct, .slice sa sn sc, .bool lo]
  have hpw : p < w.heap.size := Blk.lt h
  obtain ⟨wx, hwx⟩ : ∃ wx, wx = w.alloc (.cells #[.int .i64 3, .int .i64 t, .int .i64 jb, .int .i64 ct, .slice sa sn sc, .bool lo] 67) := ⟨_, rfl⟩
  have e0 : (w.alloc (.cells #[.int .i64 3, .int .i64 t, .int .i64 jb, .int .i64 ct, .slice sa sn sc, .bool lo] 67)).cell? ⟨w.heap.size, 0, none⟩ = some (.int .i64 3) := bX.cell 0
  go_enter Tryz.func87, Tryz.ntmps87
  go_upto_region 1 with fail
  rw [← hwx] at fX hX e0 bX ⊢
  clear hwx
  obtain ⟨ob, hob⟩ : ∃ ob, ob = w.heap.size := ⟨_, rfl⟩
  rw [← hob] at e0 bX ⊢
  replace hob := Lib.hid hob
  go_quiet (fail)
  have hY := hX.frN ((Fr.refl noB wx).drewN nq)
  have bY := ((Fr.refl noB wx).drewN nq).blk bX (fun q => q)
  have fY := fX.drewN nq
  generalize wx.drewN nq = wy at *
  clear hX fX e0 bX
  have hopN : p ≠ ob := by rw [hob.out]; omega
  have c0 : wy.cell? ⟨p, 31, none⟩ = some (.bool j.v3.v) := hY.cell 31
  have c1 : wy.cell? ⟨p, 32, none⟩ = some (.bool j.v3.p) := hY.cell 32
  have cp : wy.cell? ⟨p, 40, none⟩ = some (.int .i64 j.ph) := hY.cell 40
  by_cases hp : j.ph = 1
  rotate_left
  · have hpd : (j.ph != 1) = true := by simpa using hp
    go_wp2_with fail
    first | go_end0 | ((try simp only [Exit.inBlock, Exit.then]); refine bodyPost_ret (results_none rfl _ _ _) rfl ?_)
    exact ⟨rfl, fY.mono (fun _ _ q => False.elim q), Or.inl ⟨Or.inl hp, hY⟩⟩
  have hpd : (j.ph != 1) = false := by simp [hp]
  cases hv : j.v3.v with
  | false =>
    rw [hv] at c0
    go_wp2_with fail
    first | go_end0 | ((try simp only [Exit.inBlock, Exit.then]); refine bodyPost_ret (results_none rfl _ _ _) rfl ?_)
    exact ⟨rfl, fY.mono (fun _ _ q => False.elim q), Or.inl ⟨Or.inr (Or.inl hv), hY⟩⟩
  | true =>
    rw [hv] at c0
    cases hvp : j.v3.p with
    | true =>
      rw [hvp] at c1
      go_wp2_with fail
      first | go_end0 | ((try simp only [Exit.inBlock, Exit.then]); refine bodyPost_ret (results_none rfl _ _ _) rfl ?_)
      exact ⟨rfl, fY.mono (fun _ _ q => False.elim q), Or.inl ⟨Or.inr (Or.inr hvp), hY⟩⟩
    | false =>
      rw [hvp] at c1
      have z1 : wy.frozen? ⟨p, 32, none⟩ = false := Blk.frozen hY 32
      -- the flag
      have h1 : Jb (wy.setCell ⟨p, 32, none⟩ (.bool true)) p (j.upd 3 fun v => { v with p := true }) := hY.set 32 (.bool true) rfl
      have f1 := (fY.mono (T := onlyB p) (fun _ _ q => False.elim q)).seqB (fr_set (w := wy) (p := p) 32 (.bool true)) (fun _ => rfl)
      have b1 := (fr_set (w := wy) (p := p) 32 (.bool true)).blk bY (fun q => hopN (by unfold onlyB at q; exact q.symm))
      have r1 : (wy.setCell ⟨p, 32, none⟩ (.bool true)).rangeAt ob 0 [.int .i64 3, .int .i64 t, .int .i64 jb, .int .i64 ct, .slice sa sn sc, .bool lo] := fun i u hu => by rw [Blk.cell b1 (0 + i), Nat.zero_add]; exact hu
      have t1 : (wy.setCell ⟨p, 32, none⟩ (.bool true)).there p 34 6 := there6 h1 (by simp [JS.cells, visC])
      have hph1 : (j.upd 3 fun v => { v with p := true }).ph = 1 := hp
      obtain ⟨w1, hw1⟩ : ∃ w1, w1 = wy.setCell ⟨p, 32, none⟩ (.bool true) := ⟨_, rfl⟩
      rw [← hw1] at h1 f1 b1 r1 t1
      replace r1 := Lib.hid r1
      replace t1 := Lib.hid t1
      replace h1 := Lib.hid h1
      replace b1 := Lib.hid b1
      replace f1 := Lib.hid f1
      replace hw1 := Lib.hid hw1
      have hsz6 : (Tryz.prog.info? 67).map (·.size) = some ([.int .i64 3, .int .i64 t, .int .i64 jb, .int .i64 ct, .slice sa sn sc, .bool lo] : List Value).length := size_told
      have hsz6a : (Tryz.prog.info? 67).map (·.size) = some (#[.int .i64 3, .int .i64 t, .int .i64 jb, .int .i64 ct, .slice sa sn sc, .bool lo] : Array Value).size := size_told
      have t1a : Hid (w1.there p 34 (#[.int .i64 3, .int .i64 t, .int .i64 jb, .int .i64 ct, .slice sa sn sc, .bool lo] : Array Value).size) := t1
      have hon6 := Lib.hid (told_one 3 t jb ct sa sn sc lo)
      replace hsz6 := Lib.hid hsz6
      replace hsz6a := Lib.hid hsz6a
      go_upto_region 4 with fail
      rw [← hw1.out]
      clear c0 c1 cp z1 hw1
      go_wp2_with (first
        | (refine wpList_load_mid rfl 67 (.tmp 3) rfl ob 0 rfl [.int .i64 3, .int .i64 t, .int .i64 jb, .int .i64 ct, .slice sa sn sc, .bool lo] _ r1.out Tryz.underlying67 rfl hsz6.out ?_)
        | (refine wpList_store_mid rfl 67 (.tmp 37) (.tmp 35) rfl p 34 #[.int .i64 3, .int .i64 t, .int .i64 jb, .int .i64 ct, .slice sa sn sc, .bool lo] rfl rfl t1a.out hsz6a.out hon6.out ?_; obtain ⟨w2, hw2, f2, h2⟩ := store6 w1 p 34 (.int .i64 3) (.int .i64 t) (.int .i64 jb) (.int .i64 ct) (.slice sa sn sc) (.bool lo); rw [← hw2]; clear hw2; have h2 := Lib.hid (h2 _ _ h1.out); have b2 := Lib.hid (f2.blk b1.out (fun q => hopN (by { unfold onlyB at q; exact q.symm }))); have k4 : w2.cell? ⟨ob, 4, none⟩ = some (.slice sa sn sc) := b2.out.cell 4; have f2 := Lib.hid f2)
        | fail)
      clear r1 t1 b1 t1a hsz6 hsz6a hon6 k4
      have g2 := Lib.hid (f1.out.seqB f2.out (fun _ => rfl))
      have hx2 := hx.fr1 g2.out (fun hne g o n c e => by
        simp only [Value.slice.injEq] at e
        have := hxp hne g o e.1
        unfold onlyB; exact this)
      have hcl := clone_any (.slice sa sn sc) xs w2 hx2 (by have := hsn.out; omega)
      rw [← hsn.out] at hcl
      clear f1 f2 h1
      refine hcl.mono ?_
      rintro e w3 ⟨ta, tc, rfl, rt, ht, f3⟩
      clear hcl
      have h3 := f3.blk h2.out (fun q => q)
      have b3 := f3.blk b2.out (fun q => q)
      have g3 := g2.out.seqN f3
      have c7 : w3.cell? ⟨p, 38, none⟩ = some (.slice sa sn sc) := Blk.cell h3 38
      have z7 : w3.frozen? ⟨p, 38, none⟩ = false := Blk.frozen h3 38
      have f4 := fr_set (w := w3) (p := p) 38 (.slice ta sn tc)
      have h4 : Jb (w3.setCell ⟨p, 38, none⟩ (.slice ta sn tc)) p (j.upd 3 fun v => { v with p := true, t := ⟨3, t, jb, ct, ta, sn, tc, lo⟩ }) := Blk.set h3 38 (.slice ta sn tc)
      have b4 := f4.blk b3 (fun q => hopN (by unfold onlyB at q; exact q.symm))
      have k4 : (w3.setCell ⟨p, 38, none⟩ (.slice ta sn tc)).cell? ⟨ob, 4, none⟩ = some (.slice sa sn sc) := b4.cell 4
      have hx4 := (hx2.fr f3 (fun _ _ _ _ _ q => q)).fr1 f4 (fun hne g o n c e => by
        simp only [Value.slice.injEq] at e
        have := hxp hne g o e.1
        unfold onlyB; exact this)
      have hpt : ∀ g o, ta = some ⟨g, o, none⟩ → g ≠ p := fun g o e => by
        have h9 := ht g o e
        have h8 := g2.out.size
        omega
      have rt4 := rt.fr f4 (fun g o n c e => by
        simp only [Value.slice.injEq] at e
        have := hpt g o e.1
        unfold onlyB; exact this)
      have g4 := g3.seqB f4 (fun _ => rfl)
      have hta : ∀ g o, ta = some ⟨g, o, none⟩ → w.heap.size ≤ g := fun g o e => by have := ht g o e; have := g2.out.size; omega
      obtain ⟨w4, hw4⟩ : ∃ w4, w4 = w3.setCell ⟨p, 38, none⟩ (.slice ta sn tc) := ⟨_, rfl⟩
      rw [← hw4] at h4 k4 hx4 rt4 g4 b4
      replace hw4 := Lib.hid hw4
      replace h4 := Lib.hid h4
      replace rt4 := Lib.hid rt4
      replace g4 := Lib.hid g4
      replace hta := Lib.hid hta
      replace hpt := Lib.hid hpt
      replace b4 := Lib.hid b4
      replace g2 := Lib.hid g2
      clear h3 b3 g3 f4 rt ht f3 h2 b2 hx2
      go_upto_region 6 with fail
      rw [← hw4.out]
      clear hw4 c7 z7
      have hs3 : ∀ i, i < sn → ∃ g o, sa = some ⟨g, o, none⟩ ∧ w4.cell? ⟨g, o + i, none⟩ = some (.int .i64 (xs.getD i 0)) := by
        obtain ⟨a', c', e, _, _, q3⟩ := hx4
        simp only [Value.slice.injEq] at e
        obtain ⟨e1, _, _⟩ := e
        subst e1
        exact fun i hi => q3 i (by rw [← hsn.out]; exact hi)
      replace hs3 := Lib.hid hs3
      replace hr := Lib.hid hr
      clear hx4 hx
      go_wp2_with fail
      go_loopw [48] (fun i wr => ∃ k : Nat, k ≤ sn ∧ i = .int .i64 k ∧ Hid (Jb wr p ((xs.take k).foldl JS.mark (j.upd 3 fun v => { v with p := true, t := ⟨3, t, jb, ct, ta, sn, tc, lo⟩ }))) ∧ Fr (onlyB p) w4 wr) (fun i _ => sn - (RowKit.intOf i).toNat)
      case atStart => exact ⟨0, by omega, rfl, by simpa using h4, Fr.refl _ _⟩
      case round =>
        clear h4
        obtain ⟨k, hk, rfl, hJ, fJ⟩ := hrel
        by_cases hlt : k < sn
        · obtain ⟨g5, o5, rfl, hc5⟩ := hs3.out k hlt
          have cx5 := fJ.cell hc5 (fun q => hxp (fun e0 => by have h0 := hsn.out; rw [e0] at h0; simp at h0; omega) _ _ rfl (by unfold onlyB at q; exact q))
          have hxm := hr.out _ (List.mem_of_getElem? (show xs[k]? = some (xs.getD k 0) by simp [List.getD, show k < xs.length by rw [← hsn.out]; exact hlt]))
          have hst := foldl_take (j := j.upd 3 fun v => { v with p := true, t := ⟨3, t, jb, ct, ta, sn, tc, lo⟩ }) (xs := xs) (k := k) (by rw [← hsn.out]; exact hlt)
          generalize xs.getD k 0 = x at *
          generalize ((xs.take k).foldl JS.mark (j.upd 3 fun v => { v with p := true, t := ⟨3, t, jb, ct, ta, sn, tc, lo⟩ })) = jk at *
          replace hst := Lib.hid hst
          have c3 : wr.cell? ⟨p, 3, none⟩ = some (.int .i64 jk.ag) := hJ.out.cell 3
          clear hc5
          rcases (show x = 0 ∨ x = 1 ∨ x = 2 ∨ x = 3 by omega) with rfl | rfl | rfl | rfl
          focus
            have cx : wr.cell? ⟨p, 4, none⟩ = some (.bool jk.v0.v) := hJ.out.cell 4
            have zx : wr.frozen? ⟨p, 4, none⟩ = false := Blk.frozen hJ.out 4
            by_cases hlx : (0 : Int) < jk.ag
            · have hlxd : decide ((0 : Int) < (jk.ag : Int)) = true := by simpa using hlx
              have hmk : jk.mark 0 = jk.upd 0 fun v => { v with v := true } := by unfold JS.mark; rw [if_pos hlx]; rfl
              have hJ1 : Hid (Jb (wr.setCell ⟨p, 4, none⟩ (.bool true)) p (jk.mark 0)) := Lib.hid (by rw [hmk]; exact hJ.out.set 4 (.bool true) rfl)
              have fJ1 := Lib.hid (fJ.seqB (fr_set (w := wr) (p := p) 4 (.bool true)) (fun _ => rfl))
              replace hmk := Lib.hid hmk
              go_wp2_with fail
              go_roundw
              case rel => exact ⟨k + 1, by omega, by go_num, by rw [hst.out]; exact hJ1, fJ1.out⟩
              case measure => simp [RowKit.intOf]; omega
            · have hlxd : decide ((0 : Int) < (jk.ag : Int)) = false := by simpa using hlx
              have hmk : jk.mark 0 = jk := by unfold JS.mark; rw [if_neg hlx]
              go_wp2_with fail
              go_roundw
              case rel => exact ⟨k + 1, by omega, by go_num, by rw [hst.out, hmk]; exact hJ, fJ⟩
              case measure => simp [RowKit.intOf]; omega
          focus
            have cx : wr.cell? ⟨p, 13, none⟩ = some (.bool jk.v1.v) := hJ.out.cell 13
            have zx : wr.frozen? ⟨p, 13, none⟩ = false := Blk.frozen hJ.out 13
            by_cases hlx : (1 : Int) < jk.ag
            · have hlxd : decide ((1 : Int) < (jk.ag : Int)) = true := by simpa using hlx
              have hmk : jk.mark 1 = jk.upd 1 fun v => { v with v := true } := by unfold JS.mark; rw [if_pos hlx]; rfl
              have hJ1 : Hid (Jb (wr.setCell ⟨p, 13, none⟩ (.bool true)) p (jk.mark 1)) := Lib.hid (by rw [hmk]; exact hJ.out.set 13 (.bool true) rfl)
              have fJ1 := Lib.hid (fJ.seqB (fr_set (w := wr) (p := p) 13 (.bool true)) (fun _ => rfl))
              replace hmk := Lib.hid hmk
              go_wp2_with fail
              go_roundw
              case rel => exact ⟨k + 1, by omega, by go_num, by rw [hst.out]; exact hJ1, fJ1.out⟩
              case measure => simp [RowKit.intOf]; omega
            · have hlxd : decide ((1 : Int) < (jk.ag : Int)) = false := by simpa using hlx
              have hmk : jk.mark 1 = jk := by unfold JS.mark; rw [if_neg hlx]
              go_wp2_with fail
              go_roundw
              case rel => exact ⟨k + 1, by omega, by go_num, by rw [hst.out, hmk]; exact hJ, fJ⟩
              case measure => simp [RowKit.intOf]; omega
          focus
            have cx : wr.cell? ⟨p, 22, none⟩ = some (.bool jk.v2.v) := hJ.out.cell 22
            have zx : wr.frozen? ⟨p, 22, none⟩ = false := Blk.frozen hJ.out 22
            by_cases hlx : (2 : Int) < jk.ag
            · have hlxd : decide ((2 : Int) < (jk.ag : Int)) = true := by simpa using hlx
              have hmk : jk.mark 2 = jk.upd 2 fun v => { v with v := true } := by unfold JS.mark; rw [if_pos hlx]; rfl
              have hJ1 : Hid (Jb (wr.setCell ⟨p, 22, none⟩ (.bool true)) p (jk.mark 2)) := Lib.hid (by rw [hmk]; exact hJ.out.set 22 (.bool true) rfl)
              have fJ1 := Lib.hid (fJ.seqB (fr_set (w := wr) (p := p) 22 (.bool true)) (fun _ => rfl))
              replace hmk := Lib.hid hmk
              go_wp2_with fail
              go_roundw
              case rel => exact ⟨k + 1, by omega, by go_num, by rw [hst.out]; exact hJ1, fJ1.out⟩
              case measure => simp [RowKit.intOf]; omega
            · have hlxd : decide ((2 : Int) < (jk.ag : Int)) = false := by simpa using hlx
              have hmk : jk.mark 2 = jk := by unfold JS.mark; rw [if_neg hlx]
              go_wp2_with fail
              go_roundw
              case rel => exact ⟨k + 1, by omega, by go_num, by rw [hst.out, hmk]; exact hJ, fJ⟩
              case measure => simp [RowKit.intOf]; omega
          focus
            have cx : wr.cell? ⟨p, 31, none⟩ = some (.bool jk.v3.v) := hJ.out.cell 31
            have zx : wr.frozen? ⟨p, 31, none⟩ = false := Blk.frozen hJ.out 31
            by_cases hlx : (3 : Int) < jk.ag
            · have hlxd : decide ((3 : Int) < (jk.ag : Int)) = true := by simpa using hlx
              have hmk : jk.mark 3 = jk.upd 3 fun v => { v with v := true } := by unfold JS.mark; rw [if_pos hlx]; rfl
              have hJ1 : Hid (Jb (wr.setCell ⟨p, 31, none⟩ (.bool true)) p (jk.mark 3)) := Lib.hid (by rw [hmk]; exact hJ.out.set 31 (.bool true) rfl)
              have fJ1 := Lib.hid (fJ.seqB (fr_set (w := wr) (p := p) 31 (.bool true)) (fun _ => rfl))
              replace hmk := Lib.hid hmk
              go_wp2_with fail
              go_roundw
              case rel => exact ⟨k + 1, by omega, by go_num, by rw [hst.out]; exact hJ1, fJ1.out⟩
              case measure => simp [RowKit.intOf]; omega
            · have hlxd : decide ((3 : Int) < (jk.ag : Int)) = false := by simpa using hlx
              have hmk : jk.mark 3 = jk := by unfold JS.mark; rw [if_neg hlx]
              go_wp2_with fail
              go_roundw
              case rel => exact ⟨k + 1, by omega, by go_num, by rw [hst.out, hmk]; exact hJ, fJ⟩
              case measure => simp [RowKit.intOf]; omega
        · obtain rfl : k = sn := by omega
          have hJ9 : Hid (Jb wr p (j.pin1 3 ⟨3, t, jb, ct, ta, k, tc, lo⟩ xs)) := Lib.hid (by
            have := hJ.out
            rw [List.take_of_length_le (by rw [← hsn.out]; exact Nat.le_refl _)] at this
            exact this)
          clear hJ
          have hpin : j.pin 3 ⟨3, t, jb, ct, ta, k, tc, lo⟩ xs = if noneL (fun v => !v.p) (j.pin1 3 ⟨3, t, jb, ct, ta, k, tc, lo⟩ xs) then { j.pin1 3 ⟨3, t, jb, ct, ta, k, tc, lo⟩ xs with ph := 2 } else j.pin1 3 ⟨3, t, jb, ct, ta, k, tc, lo⟩ xs := rfl
          generalize (j.pin1 3 ⟨3, t, jb, ct, ta, k, tc, lo⟩ xs) = j9 at *
          replace hpin := Lib.hid hpin
          have hal := allPinned_any p j9 wr hJ9.out
          go_wp2_with fail
          refine hal.mono ?_
          rintro e w6 ⟨rfl, f6⟩
          have h6 := hJ9.out.frN f6
          have g6 := Lib.hid ((g4.out.seqB fJ (fun _ => rfl)).seqN f6)
          have rt6 := Lib.hid ((rt4.out.fr fJ (fun g o n c e => by
            simp only [Value.slice.injEq] at e
            have := hpt.out g o e.1
            unfold onlyB; exact this)).fr f6 (fun _ _ _ _ _ q => q))
          clear hal hJ9 fJ f6
          cases hnl : noneL (fun v => !v.p) j9 with
          | false =>
            go_wp2_with fail
            first | go_end0 | ((try simp only [Exit.inBlock, Exit.then]); refine bodyPost_ret (results_none rfl _ _ _) rfl ?_)
            exact ⟨rfl, g6.out, Or.inr ⟨⟨hp, hv, hvp⟩, ta, tc, rt6.out, hta.out, by rw [hpin.out, hnl]; exact h6⟩⟩
          | true =>
            have c40 : w6.cell? ⟨p, 40, none⟩ = some (.int .i64 j9.ph) := h6.cell 40
            have z40 : w6.frozen? ⟨p, 40, none⟩ = false := Blk.frozen h6 40
            have h7 : Hid (Jb (w6.setCell ⟨p, 40, none⟩ (.int .i64 2)) p { j9 with ph := 2 }) := Lib.hid (h6.set 40 (.int .i64 2) rfl)
            have f7 := fr_set (w := w6) (p := p) 40 (.int .i64 2)
            have g7 := Lib.hid (g6.out.seqB f7 (fun _ => rfl))
            have rt7 := Lib.hid (rt6.out.fr f7 (fun g o n c e => by
              simp only [Value.slice.injEq] at e
              have := hpt.out g o e.1
              unfold onlyB; exact this))
            clear f7
            go_wp2_with fail
            first | go_end0 | ((try simp only [Exit.inBlock, Exit.then]); refine bodyPost_ret (results_none rfl _ _ _) rfl ?_)
            exact ⟨rfl, g7.out, Or.inr ⟨⟨hp, hv, hvp⟩, ta, tc, rt7.out, hta.out, by rw [hpin.out, hnl]; exact h7.out⟩⟩
end Go.Proofs.YtidcoddefebdpaaGreat
