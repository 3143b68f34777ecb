/-
  What the law JobPlays walks: both jobs hear the same messages and stay alike.
-/
import Derived.Test.YtppgachfobpgbaaJobSame
import Derived.Test.YtppgachfobpgbaaJobAwake2
import Derived.Deep.LoopGhost
import Derived.Deep.DeepCutAuto
set_option linter.unusedVariables false
set_option linter.unusedSimpArgs false
set_option maxRecDepth 100000
namespace Go.Proofs.Ytppgachfobpgbaa
open Go.RowKit Go Go.Lib

/-- a Trigger's cells -/
def IsTr (cs : List Value) (m : Int × Int × Int) : Prop := cs = [.int .i64 m.1, .int .i64 m.2.1, .int .i64 m.2.2] ∧ (Lit.int .i64 m.1).wf = true ∧ (Lit.int .i64 m.2.1).wf = true ∧ (Lit.int .i64 m.2.2).wf = true
theorem tr_open {H : Type} {enc : TypeId × Value → H} {w : World} {base : Nat} {held : Bool} (n : Nat) (cs : List Value) (y : DataW H × List MemPlace) (hl : cs.length = 3)
    (h : DataW.trod enc Try.prog w base (fun _ => true) held n 23 cs = some y) : ∃ m, IsTr cs m := by
  obtain ⟨a, ha, wa⟩ := fld_int (i := 0) (off := 0) Try.underlying23 h rfl (by kernel_rfl) (by omega) Try.underlying3
  obtain ⟨b, hb, wb⟩ := fld_int (i := 1) (off := 1) Try.underlying23 h rfl (by kernel_rfl) (by omega) Try.underlying3
  obtain ⟨c, hc, wc⟩ := fld_int (i := 2) (off := 2) Try.underlying23 h rfl (by kernel_rfl) (by omega) Try.underlying3
  exact ⟨(a, b, c), by rw [list3 hl, ha, hb, hc], wa, wb, wc⟩
theorem trace_jg (p L : Nat) (j : JS) (X : Nat → List Int) (w : World) (h : JG w p L j X) : Calls Try.prog 19 #[.pointer (some ⟨p, 0, none⟩)] w fun e w' => e = .returned (.int .i64 j.tr) ∧ w' = w := by
  obtain ⟨j', hJ, rfl, _⟩ := h
  exact trace_any p j' w hJ
theorem manifest_jg2 (p L : Nat) (j : JS) (X : Nat → List Int) (w : World) (h : JG w p L j X) (hph : 2 ≤ j.ph) (hall : noneL (fun v => !v.p) j = true) :
    Calls Try.prog 25 #[.pointer (some ⟨p, 0, none⟩)] w fun e w' => ∃ pa pc cs, e = .returned (.tuple #[.agg #[.int .i64 j.tr, .int .i64 j.id, .int .i64 j.cl, .slice pa (whichL (fun _ => true) j 4).length pc], .bool true]) ∧ w'.ownsRow w.heap.size 72 6 (.slice pa (whichL (fun _ => true) j 4).length pc) (whichL (fun _ => true) j 4).length cs ∧ PartsAt w' w.heap.size (Value.slice pa (whichL (fun _ => true) j 4).length pc).ownBlock j X (whichL (fun _ => true) j 4) (whichL (fun _ => true) j 4).length cs ∧ Fr noB w w' := by
  obtain ⟨j', hJ, rfl, hag, hT⟩ := h
  rw [none_nm _ (fun v => rfl)] at hall
  rw [which_nm (fun _ => true) (fun v => rfl) j']
  refine (manifest_full p j' X w hJ hph hall (fun a ha => ⟨(hT a ha).1, by have := (hT a ha).2.1; omega⟩)).mono ?_
  rintro e w' ⟨pa, pc, cs, rfl, o, hp, f⟩
  refine ⟨pa, pc, cs, rfl, o, fun i hi => ?_, f⟩
  obtain ⟨ta, tc, k1, k2, k3⟩ := hp i hi
  rw [at_nm]
  exact ⟨ta, tc, k1, k2, k3⟩
theorem rdi_old {w : World} {ua : Option Addr} {un uc : Nat} {xs : List Int} (h : RdI w (.slice ua un uc) xs) : xs ≠ [] → ∀ g o, ua = some ⟨g, o, none⟩ → g < w.heap.size := by
  intro hne g o e
  obtain ⟨a, c, e1, _, _, h3⟩ := h
  injection e1 with e1 _ _
  subst e1
  have hl : 0 < xs.length := List.length_pos_iff.2 hne
  obtain ⟨g', o', e2, hc⟩ := h3 0 hl
  rw [e] at e2
  injection e2 with e2
  injection e2 with e2 _ _
  subst e2
  exact lt_of_cell hc
theorem MsgV.frP {w w' : World} {m : OpJ} {v : Value} {p : Nat} {cs : List Value} (h : MsgV w m v) (hJ : Blk w p 87 cs) (f : Fr (onlyB p) w w') : MsgV w' m v := by
  cases h with
  | k1 h => exact .k1 h
  | k2 h => exact .k2 h
  | k3 h => exact .k3 h
  | k4 h => exact .k4 h
  | k5 h => exact .k5 h
  | k6 h => exact .k6 h
  | k7 g h hb =>
    refine .k7 g h (f.blk hb (fun e => ?_))
    unfold onlyB at e
    subst e
    unfold Blk at hb hJ
    rw [hJ] at hb
    simp only [Option.some.injEq, Obj.cells.injEq] at hb
    exact absurd hb.2.1 (by decide)
  | k8 h => exact .k8 h
  | k9 h => exact .k9 h
  | k10 h => exact .k10 h
  | k0 h => exact .k0 h
theorem mayNew_split {id ag a t c : Int} (h : mayNew id ag a t c = true) : bTrigger a t c = true ∧ 1 ≤ id ∧ id ≤ 1073741824 ∧ ∃ n q : Nat, ag = n ∧ a = q ∧ q < n ∧ n ≤ 4 := by
  unfold mayNew inB at h
  simp only [Bool.and_eq_true, decide_eq_true_eq] at h
  obtain ⟨hb, ⟨h1, h2⟩, ⟨h3, h4⟩, h5⟩ := h
  have ha : 0 ≤ a := by
    unfold bTrigger inB at hb
    simp only [Bool.and_eq_true, decide_eq_true_eq] at hb
    omega
  exact ⟨hb, h1, h2, ag.toNat, a.toNat, by omega, by omega, by omega, by omega⟩
theorem jrl_new (id t c : Int) (n a : Nat) (ha : a < n) (hn : n ≤ 4) : JRl (JS.new id t c n a) (RJ.new id t c n a) := by
  obtain ⟨u1, u2, u3, u4, u5, u6⟩ := upd_rest ({ id := id, tr := t, cl := c, ag := n, v0 := vis0, v1 := vis0, v2 := vis0, v3 := vis0, ph := 1, st := false } : JS) a (fun v => { v with v := true })
  have h0 : ∀ k, k < 4 → (JS.new id t c n a).at k = if k = a then { vis0 with v := true } else vis0 := fun k hk => by
    unfold JS.new
    rw [at_upd _ a k _ (by omega) hk]
    rcases (show k = 0 ∨ k = 1 ∨ k = 2 ∨ k = 3 by omega) with rfl | rfl | rfl | rfl <;> rfl
  have hv : ((JS.new id t c n a).at a).v = true := by rw [h0 a (by omega), if_pos rfl]
  have hp : ∀ k, k < 4 → ((JS.new id t c n a).at k).p = false := fun k hk => by rw [h0 k hk]; split <;> rfl
  have hno : noneL (fun v => !v.p) (JS.new id t c n a) = false := none_no (by omega) hv (by rw [hp a (by omega)]; rfl)
  have hph : (JS.new id t c n a).ph = 1 := u5
  refine ⟨⟨u1.symm, u2.symm, u3.symm, u5.symm, u6.symm, ?_, ?_, fun k hk => ?_, fun k hk => ?_, by rw [hph]; omega, fun k k1 k2 => ?_⟩, inv_new id t c n a, ?_, fun k hk e => ?_, fun _ => hno, ?_, ?_, fun k hk e => ?_⟩
  · show ((List.replicate n 0).set a 1).length = _
    rw [List.length_set, List.length_replicate]; exact u4.symm
  · show (List.replicate n false).length = _
    rw [List.length_replicate]; exact u4.symm
  · have hk' : k < n := by have : (JS.new id t c n a).ag = n := u4; omega
    rw [h0 k (by omega)]
    show ((List.replicate n 0).set a 1).getD k 0 = _
    by_cases hka : k = a
    · subst hka; rw [if_pos rfl]; simp [List.getD, hk', stN, vis0]
    · rw [if_neg hka]
      have h9 : ((List.replicate n (0 : Int)).set a 1)[k]? = some 0 := by rw [List.getElem?_set_ne (fun e => hka e.symm)]; simp [hk']
      rw [show ((List.replicate n (0 : Int)).set a 1).getD k 0 = 0 by unfold List.getD; rw [h9]; rfl]
      rfl
  · have hk' : k < n := by have : (JS.new id t c n a).ag = n := u4; omega
    rw [h0 k (by omega)]
    show (List.replicate n false).getD k false = _
    split <;> simp [List.getD, hk', vis0]
  · have : (JS.new id t c n a).ag = n := u4
    rw [h0 k k2, if_neg (by omega)]; rfl
  · have : (JS.new id t c n a).ag = n := u4
    omega
  · rw [hp k hk] at e; cases e
  · rw [hno, Bool.and_false]; rfl
  · show (List.replicate n pt0).length = _
    rw [List.length_replicate]; exact u4.symm
  · rw [hp k hk] at e; cases e
theorem rdx_new (w : World) (M0 : Nat) (id t c : Int) (n a : Nat) : RdX w M0 (RJ.new id t c n a) (fun _ => []) := fun k hk => by
  have : (RJ.new id t c n a).P.getD k pt0 = pt0 := by
    show (List.replicate n pt0).getD k pt0 = pt0
    by_cases h : k < n <;> simp [List.getD, h]
  rw [this]
  exact ⟨RdI.none _, fun h => absurd rfl h⟩
theorem zg_get {w : World} {B n : Nat} {gv : Value} {G : List (Int × Value)} (h : w.ownsRow B 58 2 gv n (zgC G)) {i : Nat} {x : Int} {m : Value} (hi : G[i]? = some (x, m)) : ∃ g, (∃ c, gv = .slice (some ⟨g, 0, none⟩) n c) ∧ w.cell? ⟨g, i * 2, none⟩ = some (.int .i64 x) ∧ w.cell? ⟨g, i * 2 + 1, none⟩ = some m := by
  have hil := (List.getElem?_eq_some_iff.1 hi).1
  have key : ∀ (G : List (Int × Value)) (i : Nat) x m, G[i]? = some (x, m) → (zgC G)[i * 2]? = some (.int .i64 x) ∧ (zgC G)[i * 2 + 1]? = some m := by
    intro G
    induction G with
    | nil => intro i x m h; simp at h
    | cons y r ih =>
      intro i x m h
      cases i with
      | zero => simp at h; subst h; exact ⟨rfl, rfl⟩
      | succ i =>
        obtain ⟨k1, k2⟩ := ih i x m (by simpa using h)
        have e : zgC (y :: r) = .int .i64 y.1 :: y.2 :: zgC r := rfl
        rw [e, show (i + 1) * 2 = i * 2 + 1 + 1 by omega]
        exact ⟨by simpa using k1, by simpa using k2⟩
  obtain ⟨k1, k2⟩ := key G i x m hi
  have hl : (zgC G).length = G.length * 2 := by
    clear key k1 k2 hi hil h
    induction G with
    | nil => rfl
    | cons y r ih => show (zgC r).length + 1 + 1 = _; rw [ih, List.length_cons]; omega
  have hnG : G.length = n := by have := h.1; omega
  obtain ⟨g, cap, rfl, _⟩ := ownsRow_some h (by omega)
  have c1 := h.cells (g := g) rfl _ _ k1
  have c2 := h.cells (g := g) rfl _ _ k2
  rw [add_none, Nat.zero_add] at c1 c2
  exact ⟨g, ⟨cap, rfl⟩, c1, c2⟩
theorem zt_get {w : World} {B n : Nat} {tv : Value} {Z : List (Int × MR)} (h : w.ownsRow B 3 1 tv n (zrT Z)) {i : Nat} {x : Int} {M : MR} (hi : Z[i]? = some (x, M)) : ∃ g, (∃ c, tv = .slice (some ⟨g, 0, none⟩) n c) ∧ w.cell? ⟨g, i, none⟩ = some (.int .i64 x) := by
  have hil := (List.getElem?_eq_some_iff.1 hi).1
  have k1 : (zrT Z)[i]? = some (.int .i64 x) := by unfold zrT; rw [List.getElem?_map, hi]; rfl
  have hnZ : Z.length = n := by have := h.1; unfold zrT at this; simp at this; omega
  obtain ⟨g, cap, rfl, _⟩ := ownsRow_some h (by omega)
  have c1 := h.cells (g := g) rfl _ _ k1
  rw [add_none, Nat.zero_add] at c1
  exact ⟨g, ⟨cap, rfl⟩, c1⟩
theorem zm_get {w : World} {B n : Nat} {rv : Value} {Z : List (Int × MR)} (h : w.ownsRow B 37 15 rv n (zrM Z)) {i : Nat} {x : Int} {M : MR} (hi : Z[i]? = some (x, M)) : ∃ g, (∃ c, rv = .slice (some ⟨g, 0, none⟩) n c) ∧ ∀ q v, (mrC M)[q]? = some v → w.cell? ⟨g, i * 15 + q, none⟩ = some v := by
  have hil := (List.getElem?_eq_some_iff.1 hi).1
  have key : ∀ (G : List (Int × MR)) (i : Nat) x M, G[i]? = some (x, M) → ∀ q v, (mrC M)[q]? = some v → (zrM G)[i * 15 + q]? = some v := by
    intro G
    induction G with
    | nil => intro i x m h; simp at h
    | cons y r ih =>
      intro i x m h q v hq
      have hq15 : q < 15 := (List.getElem?_eq_some_iff.1 hq).1
      have e : zrM (y :: r) = mrC y.2 ++ zrM r := rfl
      have hl : (mrC y.2).length = 15 := rfl
      cases i with
      | zero =>
        simp at h; subst h
        rw [e, List.getElem?_append_left (by rw [hl]; omega), Nat.zero_mul, Nat.zero_add]
        exact hq
      | succ i =>
        rw [e, List.getElem?_append_right (by rw [hl]; omega), hl, show (i + 1) * 15 + q - 15 = i * 15 + q by omega]
        exact ih i x m (by simpa using h) q v hq
  have hl : (zrM Z).length = Z.length * 15 := by
    clear key hi hil h
    induction Z with
    | nil => rfl
    | cons y r ih =>
      show (mrC y.2 ++ zrM r).length = _
      rw [List.length_append, ih, List.length_cons]
      show 15 + _ = _
      omega
  have hnZ : Z.length = n := by have := h.1; omega
  obtain ⟨g, cap, rfl, _⟩ := ownsRow_some h (by omega)
  refine ⟨g, ⟨cap, rfl⟩, fun q v hq => ?_⟩
  have c1 := h.cells (g := g) rfl _ _ (key Z i x M hi q v hq)
  rw [add_none, Nat.zero_add] at c1
  exact c1

set_option maxHeartbeats 16000000 in
theorem plays_any (id ag a t c : Int) (v : Value) (xs : List OpJ) (w : World) (hv : SlR w v 6 (IsOpJ w) xs) :
    Calls Try.prog 3 #[.int .i64 id, .int .i64 ag, .agg #[.int .i64 a, .int .i64 t, .int .i64 c], v] w fun e w' => e = .returned (.bool true) ∧ Fr noB w w' := by
  have hfew := fun w' (f : Fr noB w w') => few_any v xs w w' (hv.frame f (fun _ _ q => q))
  obtain ⟨va, vc, rfl, hx1, hx2, hx3⟩ := hv
  unfold maxLen at hx2
  obtain ⟨n, hn⟩ : ∃ n, xs.length = n := ⟨_, rfl⟩
  rw [hn] at hx1 ⊢
  simp only [hn] at hfew
  have hnb : n ≤ 9223372036854775807 := by have := hx1.1; omega
  have hget : ∀ k, k < n → ∃ m, xs[k]? = some m := fun k hk => ⟨xs[k]'(by rw [hn]; exact hk), List.getElem?_eq_getElem _⟩
  replace hn := Lib.hid hn
  replace hx3 := Lib.hid hx3
  replace hfew := Lib.hid hfew
  replace hget := Lib.hid hget
  have fX := (Fr.refl noB w).alloc (.cells #[.int .i64 a, .int .i64 t, .int .i64 c] 23)
  have bX := Blk.new w 23 [.int .i64 a, .int .i64 t, .int .i64 c]
  obtain ⟨bt, hbt⟩ : ∃ bt, w.heap.size = bt := ⟨_, rfl⟩
  rw [hbt] at bX
  replace hbt := Lib.hid hbt
  go_enter Try.func3, Try.ntmps3
  go_wp2_with fail
  try rw [hbt.out]
  generalize (w.alloc (.cells #[.int .i64 a, .int .i64 t, .int .i64 c] 23)) = w1 at *
  go_fit (awake_any w1)
  rintro e w2 ⟨rfl, f2⟩
  have g2 := fX.seqN f2
  have b2 := f2.blk bX (fun q => q)
  clear fX f2 bX
  have hf2 := hfew.out w2 g2
  generalize fewB xs = fw at *
  cases fw
  · go_wp2_with fail
    go_fit hf2
    rintro e w3 ⟨rfl, f3⟩
    have g3 := g2.seqN f3
    clear f3 hf2 b2
    go_wp2_with fail
    go_fit (awake_any w3)
    rintro e w4 ⟨rfl, f4⟩
    have g4 := g3.seqN f4
    clear f4 g3 g2
    go_wp2_with fail
    go_ret
    exact ⟨rfl, g4⟩
  go_wp2_with fail
  go_fit hf2
  rintro e w3 ⟨rfl, f3⟩
  have g3 := g2.seqN f3
  have b3 := f3.blk b2 (fun q => q)
  clear f3 hf2 b2 g2
  have t0 : w3.cell? ⟨bt, 0, none⟩ = some (.int .i64 a) := b3.cell 0
  have t1 : w3.cell? ⟨bt, 1, none⟩ = some (.int .i64 t) := b3.cell 1
  have t2 : w3.cell? ⟨bt, 2, none⟩ = some (.int .i64 c) := b3.cell 2
  have hlk := fun w' => like_Trigger a t c w'
  replace hlk := Lib.hid hlk
  cases hmn : mayNew id ag a t c with
  | false =>
    have hN := new_nil id ag a t c w3 hmn
    have hR := fun w' => rnew_no id ag a t c w' hmn
    replace hR := Lib.hid hR
    clear hmn hfew
    go_wp2_with fail
    go_fit hN
    rintro e w4 ⟨rfl, f4⟩
    have g4 := g3.seqN f4
    have b4 := f4.blk b3 (fun q => q)
    have s0 : w4.cell? ⟨bt, 0, none⟩ = some (.int .i64 a) := b4.cell 0
    have s1 : w4.cell? ⟨bt, 1, none⟩ = some (.int .i64 t) := b4.cell 1
    have s2 : w4.cell? ⟨bt, 2, none⟩ = some (.int .i64 c) := b4.cell 2
    clear hN f4 g3 b3 t0 t1 t2
    go_wp2_with fail
    go_fit (hlk.out w4)
    rintro e w5 ⟨rfl, f5⟩
    have g5 := g4.seqN f5
    clear f5 g4 s0 s1 s2 b4
    have hR5 := hR.out w5
    clear hR hlk
    go_wp2_with fail
    go_fit hR5
    rintro e w6 ⟨rfl, f6⟩
    have g6 := g5.seqN f6
    clear f6 g5 hR5
    go_wp2_with fail
    go_ret
    exact ⟨rfl, g6⟩
  | true =>
    obtain ⟨hbT, hid1, hid2, N, A, rfl, rfl, hAN, hN4⟩ := mayNew_split hmn
    have hN := new_any id t c N A w3 hbT hid1 hid2 hAN hN4
    have hR := fun w' => rnew_yes id t c N A w' hbT hid1 hid2 hAN hN4
    have hrl := jrl_new id t c N A hAN hN4
    have hrx := fun w' => rdx_new w' w.heap.size id t c N A
    replace hR := Lib.hid hR
    clear hmn hfew hbT hid1 hid2
    go_wp2_with fail
    go_fit hN
    rintro e w4 ⟨p, rfl, hp, jg, f4⟩
    have g4 := g3.seqN f4
    have b4 := f4.blk b3 (fun q => q)
    have s0 : w4.cell? ⟨bt, 0, none⟩ = some (.int .i64 (A : Int)) := b4.cell 0
    have s1 : w4.cell? ⟨bt, 1, none⟩ = some (.int .i64 t) := b4.cell 1
    have s2 : w4.cell? ⟨bt, 2, none⟩ = some (.int .i64 c) := b4.cell 2
    have hp4 : p < w4.heap.size := (jg 0).lt
    have hpw : w.heap.size ≤ p := Nat.le_trans g3.size hp
    clear hN f4 g3 b3 t0 t1 t2
    replace jg := Lib.hid jg
    go_wp2_with fail
    go_fit (hlk.out w4)
    rintro e w5 ⟨rfl, f5⟩
    have g5 := g4.seqN f5
    have jg5 : ∀ L, JG w5 p L (JS.new id t c N A) (fun _ => []) := fun L => (jg.out L).frN f5
    have hp5 : p < w5.heap.size := Nat.lt_of_lt_of_le hp4 f5.size
    clear f5 g4 s0 s1 s2 b4 jg
    have hR5 := hR.out w5
    clear hR hlk
    replace jg5 := Lib.hid jg5
    go_wp2_with fail
    go_fit hR5
    rintro e w6 ⟨r, gs, gp, gf, rfl, hge, R6, f6⟩
    have g6 := g5.seqN f6
    have jg6 : JG w6 p w6.heap.size (JS.new id t c N A) (fun _ => []) := (jg5.out _).frN f6
    have hrB : ∀ y, rjB r gs gp gf y → w.heap.size ≤ y ∧ p < y ∧ y < w6.heap.size := fun y hy => ⟨Nat.le_trans g5.size (hge y hy), by have := hge y hy; omega, by
      rcases hy with rfl | rfl | rfl | rfl
      · exact R6.blk.lt
      · exact R6.bs.lt
      · exact R6.bp.lt
      · exact R6.bf.lt⟩
    have hrx6 := hrx w6
    clear f6 g5 hR5 hge hp5 hp4 hp hrx jg5
    generalize JS.new id t c N A = j0 at *
    generalize RJ.new id t c N A = q0 at *
    obtain ⟨X0, hX0⟩ : ∃ X0 : Nat → List Int, X0 = (fun _ => []) := ⟨_, rfl⟩
    rw [← hX0] at jg6 hrx6
    clear hX0
    obtain ⟨L, hL⟩ : ∃ L, w6.heap.size = L := ⟨_, rfl⟩
    rw [hL] at jg6 hrB
    have hLw := Nat.le_of_eq hL.symm
    have hpL : p < L := by rw [← hL]; exact jg6.lt
    replace jg6 := Lib.hid jg6
    replace R6 := Lib.hid R6
    replace hrl := Lib.hid hrl
    replace hrx6 := Lib.hid hrx6
    replace hrB := Lib.hid hrB
    replace hpL := Lib.hid hpL
    replace hpw := Lib.hid hpw
    replace hLw := Lib.hid hLw
    replace g6 := Lib.hid g6
    clear hL hAN hN4
    go_wp2_with fail
    go_loopg [52] n (fun gk i wr => ∃ (k : Nat) (j : JS) (q : RJ) (X : Nat → List Int), k + gk = n ∧ i = .int .i64 k ∧ Hid (JG wr p L j X) ∧ Hid (Rj wr r gs gp gf q) ∧ Hid (JRl j q) ∧ Hid (RdX wr w.heap.size q X) ∧ Hid (Fr noB w wr) ∧ Hid (L ≤ wr.heap.size))
    case atStart => exact ⟨0, j0, q0, X0, Nat.zero_add _, rfl, jg6, R6, hrl, hrx6, g6, hLw⟩
    case round =>
      clear jg6 R6 hrl hrx6 g6 hLw
      obtain ⟨k, j, q, X, hk, rfl, hJ, hR, hrl, hrx, fr, hLr⟩ := hrel
      by_cases hlt : k < n
      · obtain ⟨x, hx⟩ := hget.out k hlt
        obtain ⟨g', o', cs', rfl, _, ⟨rfl, hr, _⟩, hc⟩ := hx3.out k x hx
        have c0 : wr.cell? ⟨g', o' + k * 6, none⟩ = some (.int .i64 x.k) := fr.out.cell (hc 0 _ rfl) (fun q => q)
        have c1 : wr.cell? ⟨g', o' + k * 6 + 1, none⟩ = some (.int .i64 x.a) := fr.out.cell (hc 1 _ rfl) (fun q => q)
        have c2 : wr.cell? ⟨g', o' + k * 6 + 2, none⟩ = some (.int .i64 x.t) := fr.out.cell (hc 2 _ rfl) (fun q => q)
        have c3 : wr.cell? ⟨g', o' + k * 6 + 3, none⟩ = some (.int .i64 x.j) := fr.out.cell (hc 3 _ rfl) (fun q => q)
        have c4 : wr.cell? ⟨g', o' + k * 6 + 4, none⟩ = some (.slice x.ua x.un x.uc) := fr.out.cell (hc 4 _ rfl) (fun q => q)
        have c5 : wr.cell? ⟨g', o' + k * 6 + 5, none⟩ = some (.bool x.lo) := fr.out.cell (hc 5 _ rfl) (fun q => q)
        have hmeas : n - (k + 1) < gk := by omega
        have hkn2 : k + 1 + (n - (k + 1)) = n := by omega
        have hrd : RdI w (.slice x.ua x.un x.uc) x.xs := hr
        have hun : x.un = x.xs.length := hrd.len
        have hold := rdi_old hrd
        have fA := (Fr.refl noB wr).alloc (.cells #[.int .i64 x.k, .int .i64 x.a, .int .i64 x.t, .int .i64 x.j, .slice x.ua x.un x.uc, .bool x.lo] 40)
        have bA := Blk.new wr 40 [.int .i64 x.k, .int .i64 x.a, .int .i64 x.t, .int .i64 x.j, .slice x.ua x.un x.uc, .bool x.lo]
        have d0 : (wr.alloc (.cells #[.int .i64 x.k, .int .i64 x.a, .int .i64 x.t, .int .i64 x.j, .slice x.ua x.un x.uc, .bool x.lo] 40)).cell? ⟨wr.heap.size, 0, none⟩ = some (.int .i64 x.k) := bA.cell 0
        have d1 : (wr.alloc (.cells #[.int .i64 x.k, .int .i64 x.a, .int .i64 x.t, .int .i64 x.j, .slice x.ua x.un x.uc, .bool x.lo] 40)).cell? ⟨wr.heap.size, 1, none⟩ = some (.int .i64 x.a) := bA.cell 1
        have d2 : (wr.alloc (.cells #[.int .i64 x.k, .int .i64 x.a, .int .i64 x.t, .int .i64 x.j, .slice x.ua x.un x.uc, .bool x.lo] 40)).cell? ⟨wr.heap.size, 2, none⟩ = some (.int .i64 x.t) := bA.cell 2
        have d3 : (wr.alloc (.cells #[.int .i64 x.k, .int .i64 x.a, .int .i64 x.t, .int .i64 x.j, .slice x.ua x.un x.uc, .bool x.lo] 40)).cell? ⟨wr.heap.size, 3, none⟩ = some (.int .i64 x.j) := bA.cell 3
        have d4 : (wr.alloc (.cells #[.int .i64 x.k, .int .i64 x.a, .int .i64 x.t, .int .i64 x.j, .slice x.ua x.un x.uc, .bool x.lo] 40)).cell? ⟨wr.heap.size, 4, none⟩ = some (.slice x.ua x.un x.uc) := bA.cell 4
        have d5 : (wr.alloc (.cells #[.int .i64 x.k, .int .i64 x.a, .int .i64 x.t, .int .i64 x.j, .slice x.ua x.un x.uc, .bool x.lo] 40)).cell? ⟨wr.heap.size, 5, none⟩ = some (.bool x.lo) := bA.cell 5
        have hmsg := fun w' => message_any x w'
        have hb1 : (k : Int) < n := by omega
        replace hmeas := Lib.hid hmeas
        replace hkn2 := Lib.hid hkn2
        replace hrd := Lib.hid hrd
        replace hun := Lib.hid hun
        replace hold := Lib.hid hold
        replace hmsg := Lib.hid hmsg
        clear hc hr bA hk
        go_wp2_with fail
        go_fit (hmsg.out _)
        rintro e w7 ⟨mv, rfl, hmv, f7⟩
        have f17 := fA.seqN f7
        have J7 := hJ.out.frN f17
        have hrd7 := hrd.out.frN (fr.out.seqN f17)
        have hL7 : L ≤ w7.heap.size := Nat.le_trans hLr.out f17.size
        have hne : x.xs ≠ [] → ∀ g o, x.ua = some ⟨g, o, none⟩ → g ≠ p := fun h1 g o e => by have := hold.out h1 g o e; have := hpw.out; omega
        have hh := hear_any p L j X x mv w7 J7 hL7 hpL.out hmv hrd7 hne
        replace hh := Lib.hid hh
        replace hmv := Lib.hid hmv
        replace J7 := Lib.hid J7
        clear d0 d1 d2 d3 d4 d5 c0 c1 c2 c3 c4 c5 hmsg fA f7 hrd7 hL7 hne
        replace f17 := Lib.hid f17
        go_wp2_with fail
        go_fit hh.out
        rintro e w8 ⟨rfl, J8, f8⟩
        have hpn : ∀ y, rjB r gs gp gf y → ¬ onlyB p y := fun y hy e => by have := (hrB.out y hy).2.1; unfold onlyB at e; omega
        have R8 := (hR.out.frN f17.out).fr f8 hpn
        have X8 := ((hrx.out.fr f17.out (fun _ _ q => q)).fr f8 (fun g hg e => by have := hpw.out; unfold onlyB at e; omega))
        have fr8 : Fr noB w w8 := (fr.out.seqN f17.out).trans f8 (fun _ _ q => q) (fun i hi e => by have := hpw.out; unfold onlyB at e; omega)
        have mv8 : MsgV w8 x mv := by
          obtain ⟨j', hJ', _⟩ := J7.out
          exact hmv.out.frP hJ' f8
        have hL8 : L ≤ w8.heap.size := Nat.le_trans (Nat.le_trans hLr.out f17.out.size) f8.size
        have hlk := like_any x mv w8 mv8 (hrd.out.frN fr8)
        replace hlk := Lib.hid hlk
        replace J8 := Lib.hid J8
        replace R8 := Lib.hid R8
        replace X8 := Lib.hid X8
        replace fr8 := Lib.hid fr8
        clear hh f8 hpn mv8 hmv J7 f17 hJ hR hrx fr hLr
        go_wp2_with fail
        go_fit hlk.out
        rintro e w9 ⟨u, rfl, hu, f9⟩
        have hapr : x.xs ≠ [] → ∀ g o, x.ua = some ⟨g, o, none⟩ → ¬ rjB r gs gp gf g := fun h1 g o e hy => by have h2 := hold.out h1 g o e; have h3 := (hrB.out g hy).1; omega
        have hrd9 := hrd.out.frN (fr8.out.seqN f9)
        have hrh := rhear_any r gs gp gf q x u w9 (R8.out.frN f9) hu hrd9 hapr
        have J9 := Lib.hid (J8.out.frN f9)
        have X9 := Lib.hid (X8.out.fr f9 (fun _ _ q => q))
        have fr9 := Lib.hid (fr8.out.seqN f9)
        have hL9 := Nat.le_trans hL8 f9.size
        replace hrh := Lib.hid hrh
        clear hlk hu f9 hapr hrd9 J8 R8 X8 fr8 hL8
        go_wp2_with fail
        go_fit hrh.out
        rintro e wA ⟨rfl, RA, fA⟩
        have JA : JG wA p L (j.hear x) (j.hearX x X) := J9.out.fr fA (fun e => by have := (hrB.out p e).2.1; omega) (fun g hg e => by have := (hrB.out g e).2.2; omega)
        have frA : Fr noB w wA := fr9.out.trans fA (fun _ _ q => q) (fun i hi e => by have := (hrB.out i e).1; omega)
        have XA : RdX wA w.heap.size (q.hear x) (j.hearX x X) := (X9.out.fr fA (fun g hg e => by have := (hrB.out g e).1; omega)).hear hrl.out x (hrd.out.frN frA) hold.out
        have rlA : JRl (j.hear x) (q.hear x) := hrl.out.hear x hun.out
        have hLA := Nat.le_trans hL9 fA.size
        have hout := routs_any r gs gp gf w.heap.size _ _ _ wA RA rlA XA
        clear hrh fA J9 X9 fr9 hL9 hrl hrd hun hold
        generalize j.hearX x X = X at *
        generalize j.hear x = j at *
        generalize q.hear x = q at *
        replace hout := Lib.hid hout
        replace JA := Lib.hid JA
        replace RA := Lib.hid RA
        replace XA := Lib.hid XA
        replace rlA := Lib.hid rlA
        replace frA := Lib.hid frA
        replace hLA := Lib.hid hLA
        go_wp2_with fail
        go_fit hout.out
        rintro e wB ⟨ut, uo, qa, qc, rfl, oT, oM, hq7, fB⟩
        have JB := JA.out.frN fB
        have hpo := pouts_any p L j X wB JB rlA.out.inv
        have hzl := fun pv => zlen j qa qc pv
        replace hpo := Lib.hid hpo
        replace hzl := Lib.hid hzl
        replace hq7 := Lib.hid hq7
        replace oT := Lib.hid oT
        replace oM := Lib.hid oM
        clear hout JB
        replace fB := Lib.hid fB
        go_wp2_with fail
        go_fit hpo.out
        rintro e wC ⟨gv, pv, rfl, oG, hp7, fC⟩
        have f12 := fB.out.seqN fC
        have JC := JA.out.frN f12
        have RC := RA.out.frN f12
        have XC := XA.out.fr f12 (fun _ _ q => q)
        have frC := frA.out.seqN f12
        have hLC := Nat.le_trans hLA.out f12.size
        have oT := ownsRow_fr oT.out fC (fun _ _ q => q)
        have oM := ownsRow_fr oM.out fC (fun _ _ q => q)
        obtain ⟨hz1, hz2⟩ := hzl.out pv
        rw [hz1] at oT oM
        have hsz := sameZ (w := wC) (qa := qa) (qc := qc) rlA.out.inv hp7 (fun e => (hq7.out e).frN fC)
        obtain ⟨ga, gc, rfl⟩ := ownsRow_slice oG
        obtain ⟨ta, tc, rfl⟩ := ownsRow_slice oT
        obtain ⟨ma, mc, rfl⟩ := ownsRow_slice oM
        have hgG := fun i x m h => zg_get oG (i := i) (x := x) (m := m) h
        have hgT := fun i x M h => zt_get oT (i := i) (x := x) (M := M) h
        have hgM := fun i x M h => zm_get oM (i := i) (x := x) (M := M) h
        clear hpo hzl hq7 hp7 fB fC f12 JA RA XA frA hLA oT oM oG hz1
        generalize j.zg pv = G at *
        generalize j.zr qa qc = Z at *
        obtain ⟨nz, hnz⟩ : ∃ nz, G.length = nz := ⟨_, rfl⟩
        rw [hnz] at hsz hgG hgT hgM hz2
        try rw [hnz]
        have hS : ∀ w', Fr noB wC w' → (w'.cell? ⟨r, 3, none⟩ = some (.int .i64 j.ph) ∧ w'.cell? ⟨r, 1, none⟩ = some (.int .i64 j.tr) ∧ w'.cell? ⟨r, 8, none⟩ = some (.bool j.st)) := fun w' f => ⟨by rw [← rlA.out.r.ph]; exact (RC.frN f).blk.cell 3, by rw [← rlA.out.r.tr]; exact (RC.frN f).blk.cell 1, by rw [← rlA.out.r.ke]; exact (RC.frN f).blk.cell 8⟩
        have hcP : ∀ w', Fr noB wC w' → Calls Try.prog 18 #[.pointer (some ⟨p, 0, none⟩)] w' fun e w'' => e = .returned (.int .i64 j.ph) ∧ Fr noB wC w'' := fun w' f => (phase_jg p L j X w' (JC.frN f)).mono fun e w'' ⟨h1, h2⟩ => ⟨h1, by rw [h2]; exact f⟩
        have hcT : ∀ w', Fr noB wC w' → Calls Try.prog 19 #[.pointer (some ⟨p, 0, none⟩)] w' fun e w'' => e = .returned (.int .i64 j.tr) ∧ Fr noB wC w'' := fun w' f => (trace_jg p L j X w' (JC.frN f)).mono fun e w'' ⟨h1, h2⟩ => ⟨h1, by rw [h2]; exact f⟩
        have hcS : ∀ w', Fr noB wC w' → Calls Try.prog 23 #[.pointer (some ⟨p, 0, none⟩)] w' fun e w'' => e = .returned (.bool j.st) ∧ Fr noB wC w'' := fun w' f => (stored_jg p L j X w' (JC.frN f)).mono fun e w'' ⟨h1, h2⟩ => ⟨h1, by rw [h2]; exact f⟩
        have hcV : ∀ w', Fr noB wC w' → Calls Try.prog 21 #[.pointer (some ⟨p, 0, none⟩)] w' fun e w'' => ∃ u, e = .returned u ∧ RdI w'' u j.all ∧ Fr noB w' w'' := fun w' f => (vis_any p L j X w' (JC.frN f)).mono fun e w'' ⟨u, h1, h2, h3⟩ => ⟨u, h1, RdI.of_own h2, h3⟩
        have hcR : ∀ w', Fr noB wC w' → Calls Try.prog 22 #[.pointer (some ⟨r, 0, none⟩)] w' fun e w'' => ∃ u, e = .returned u ∧ RdI w'' u j.all ∧ Fr noB w' w'' := fun w' f => (rvisited_any r gs gp gf q w' (RC.frN f)).mono fun e w'' ⟨u, h1, h2, h3⟩ => ⟨u, h1, by have := RdI.of_own (xs := visL q.S q.S.length) h2; rw [visL_which rlA.out] at this; exact this, h3⟩
        have hcI : ∀ (u1 u2 : Value) (w' : World), RdI w' u1 j.all → RdI w' u2 j.all → Calls Try.prog 20 #[u1, u2] w' fun e w'' => e = .returned (.bool true) ∧ Fr noB w' w'' := fun u1 u2 w' h1 h2 => (sameInts_any u1 u2 j.all j.all w' h1 h2).mono fun e w'' ⟨h3, qq, h4⟩ => ⟨by rw [h3]; simp, by rw [h4]; exact (Fr.refl _ _).drewN qq⟩
        have e1 : (j.ph != j.ph) = false := by simp
        have e2 : (j.tr != j.tr) = false := by simp
        have e3 : (j.st != j.st) = false := by simp
        have e4 : ((nz : Int) != nz) = false := by simp
        have hcst : wC.cell? ⟨r, 3, none⟩ = some (.int .i64 j.ph) := (hS wC (Fr.refl _ _)).1
        have hS := Lib.hid hS
        have hcP := Lib.hid hcP
        have hcT := Lib.hid hcT
        have hcS := Lib.hid hcS
        have hcV := Lib.hid hcV
        have hcR := Lib.hid hcR
        have hcI := Lib.hid hcI
        replace hsz := Lib.hid hsz
        replace hgG := Lib.hid hgG
        replace hgT := Lib.hid hgT
        replace hgM := Lib.hid hgM
        replace hnz := Lib.hid hnz
        replace JC := Lib.hid JC
        replace RC := Lib.hid RC
        replace XC := Lib.hid XC
        replace frC := Lib.hid frC
        replace hLC := Lib.hid hLC
        clear hcst
        go_upto_region 15 with fail
        go_cut [111] from 72 to 111 (fun b wx => b = .bool false ∧ Fr noB wC wx)
        case first =>
          go_region_held3 (fun w' => (w'.cell? ⟨r, 3, none⟩ = some (.int .i64 j.ph) ∧ w'.cell? ⟨r, 1, none⟩ = some (.int .i64 j.tr) ∧ w'.cell? ⟨r, 8, none⟩ = some (.bool j.st)))
            (first | exact hS.out _ y6 | exact hS.out _ y5b | exact hS.out _ y5 | exact hS.out _ y4b | exact hS.out _ y4 | exact hS.out _ y3b | exact hS.out _ y3 | exact hS.out _ y2 | exact hS.out _ y1 | exact hS.out _ ((Fr.refl noB _).drewN 1) | fail)
            (first
              | (go_at_call 23; refine (hcS.out _ y5).mono ?_; rintro e w6 ⟨rfl, y6⟩)
              | (go_at_call 23; refine (hcS.out _ y5b).mono ?_; rintro e w6 ⟨rfl, y6⟩)
              | (go_at_call 20; refine (hcI.out _ _ _ (r3.frN z4) r4).mono ?_; rintro e w5 ⟨rfl, z5⟩; have y5 := y4.seqN z5)
              | (go_at_call 20; refine (hcI.out _ _ _ r4b (r3b.frN z4b)).mono ?_; rintro e w5 ⟨rfl, z5⟩; have y5b := y4b.seqN z5)
              | (go_at_call 22; refine (hcR.out _ y3).mono ?_; rintro e w4 ⟨u4, rfl, r4, z4⟩; have y4 := y3.seqN z4)
              | (go_at_call 21; refine (hcV.out _ y3b).mono ?_; rintro e w4 ⟨u4, rfl, r4b, z4b⟩; have y4b := y3b.seqN z4b)
              | (go_at_call 22; refine (hcR.out _ y2).mono ?_; rintro e w3 ⟨u3, rfl, r3b, z3⟩; have y3b := y2.seqN z3)
              | (go_at_call 21; refine (hcV.out _ y2).mono ?_; rintro e w3 ⟨u3, rfl, r3, z3⟩; have y3 := y2.seqN z3)
              | (go_at_call 19; refine (hcT.out _ y1).mono ?_; rintro e w2 ⟨rfl, y2⟩)
              | (go_at_call 18; refine (hcP.out _ ((Fr.refl noB _).drewN 1)).mono ?_; rintro e w1 ⟨rfl, y1⟩)
              | fail)
          all_goals (
            go_wp2_with fail
            go_meet
            exact ⟨rfl, y6⟩)
        case rest =>
          obtain ⟨rfl, fD⟩ := hcut
          have JD := JC.out.frN fD
          have RD := RC.out.frN fD
          have XD := XC.out.fr fD (fun _ _ q => q)
          have frD := frC.out.seqN fD
          have hLD := Nat.le_trans hLC.out fD.size
          replace JD := Lib.hid JD
          replace RD := Lib.hid RD
          replace XD := Lib.hid XD
          replace frD := Lib.hid frD
          replace hLD := Lib.hid hLD
          have fD' := Lib.hid fD
          clear fD JC RC XC frC hLC hS hcP hcT hcS hcV hcR hcI e1 e2 e3 e4
          go_wp2_with fail
          go_loopg [114] nz (fun gk2 i wr2 => ∃ k2 : Nat, k2 + gk2 = nz ∧ i = .int .i64 k2 ∧ Hid (Fr noB wc wr2))
          case atStart => exact ⟨0, Nat.zero_add _, rfl, Lib.hid (Fr.refl _ _)⟩
          case round =>
            obtain ⟨k2, hk2, rfl, fI⟩ := hrel
            obtain ⟨wr2, rfl⟩ : ∃ wr2 : World, wr2 = wr := ⟨_, rfl⟩
            obtain ⟨gk2, rfl⟩ : ∃ gk2 : Nat, gk2 = gk := ⟨_, rfl⟩
            by_cases hlt2 : k2 < nz
            · obtain ⟨x2, m2, M2, hG2, hZ2, hsm⟩ := hsz.out k2 hlt2
              obtain ⟨gg, ⟨gc', hgv⟩, a0, a1⟩ := hgG.out k2 x2 m2 hG2
              obtain ⟨tg, ⟨tc', htv⟩, a2⟩ := hgT.out k2 x2 M2 hZ2
              obtain ⟨mg, ⟨mc', hmv⟩, a3⟩ := hgM.out k2 x2 M2 hZ2
              injection hgv with hgv _ hgc
              injection htv with htv _ htc
              injection hmv with hmv _ hmc
              subst hgv htv hmv hgc htc hmc
              have hA : ∀ w', Fr noB wC w' → (w'.cell? ⟨gg, k2 * 2, none⟩ = some (.int .i64 x2) ∧ w'.cell? ⟨gg, k2 * 2 + 1, none⟩ = some m2 ∧ w'.cell? ⟨tg, k2, none⟩ = some (.int .i64 x2) ∧ w'.cell? ⟨mg, k2 * 15, none⟩ = some (.int .i64 M2.k) ∧ w'.cell? ⟨mg, k2 * 15 + 1, none⟩ = some (.int .i64 M2.a) ∧ w'.cell? ⟨mg, k2 * 15 + 2, none⟩ = some (.int .i64 M2.t) ∧ w'.cell? ⟨mg, k2 * 15 + 3, none⟩ = some (.int .i64 M2.j) ∧ w'.cell? ⟨mg, k2 * 15 + 4, none⟩ = some (.int .i64 M2.c) ∧ w'.cell? ⟨mg, k2 * 15 + 5, none⟩ = some (.int .i64 M2.i) ∧ w'.cell? ⟨mg, k2 * 15 + 6, none⟩ = some (.int .i64 M2.n) ∧ w'.cell? ⟨mg, k2 * 15 + 7, none⟩ = some (.int .i64 M2.pa) ∧ w'.cell? ⟨mg, k2 * 15 + 8, none⟩ = some (.int .i64 M2.pt) ∧ w'.cell? ⟨mg, k2 * 15 + 9, none⟩ = some (.int .i64 M2.pj) ∧ w'.cell? ⟨mg, k2 * 15 + 10, none⟩ = some (.int .i64 M2.pc) ∧ w'.cell? ⟨mg, k2 * 15 + 11, none⟩ = some (.slice M2.ua M2.un M2.uc) ∧ w'.cell? ⟨mg, k2 * 15 + 12, none⟩ = some (.bool M2.lo) ∧ w'.cell? ⟨mg, k2 * 15 + 13, none⟩ = some (.slice M2.qa M2.qn M2.qc) ∧ w'.cell? ⟨mg, k2 * 15 + 14, none⟩ = some (.slice M2.sa M2.sn M2.sc)) := fun w' f => ⟨f.cell a0 (fun q => q), f.cell a1 (fun q => q), f.cell a2 (fun q => q), f.cell (a3 0 _ rfl) (fun q => q), f.cell (a3 1 _ rfl) (fun q => q), f.cell (a3 2 _ rfl) (fun q => q), f.cell (a3 3 _ rfl) (fun q => q), f.cell (a3 4 _ rfl) (fun q => q), f.cell (a3 5 _ rfl) (fun q => q), f.cell (a3 6 _ rfl) (fun q => q), f.cell (a3 7 _ rfl) (fun q => q), f.cell (a3 8 _ rfl) (fun q => q), f.cell (a3 9 _ rfl) (fun q => q), f.cell (a3 10 _ rfl) (fun q => q), f.cell (a3 11 _ rfl) (fun q => q), f.cell (a3 12 _ rfl) (fun q => q), f.cell (a3 13 _ rfl) (fun q => q), f.cell (a3 14 _ rfl) (fun q => q)⟩
              have hsm2 : ∀ w1, Fr noB wC w1 → Calls Try.prog 12 #[m2] w1 fun e w2 => ∃ u, e = .returned u ∧ Fr noB w1 w2 ∧ ∀ w3, Fr noB w2 w3 → Calls Try.prog 24 #[u, .agg #[.int .i64 M2.k, .int .i64 M2.a, .int .i64 M2.t, .int .i64 M2.j, .int .i64 M2.c, .int .i64 M2.i, .int .i64 M2.n, .int .i64 M2.pa, .int .i64 M2.pt, .int .i64 M2.pj, .int .i64 M2.pc, .slice M2.ua M2.un M2.uc, .bool M2.lo, .slice M2.qa M2.qn M2.qc, .slice M2.sa M2.sn M2.sc]] w3 fun e w4 => e = .returned (.bool true) ∧ Fr noB w3 w4 := hsm
              have fCI : Fr noB wC wr2 := fD'.out.seqN fI.out
              have hm2 : nz - (k2 + 1) < gk2 := by omega
              have hk22 : k2 + 1 + (nz - (k2 + 1)) = nz := by omega
              have hb2 : (k2 : Int) < nz := by omega
              have ex : (x2 != x2) = false := by simp
              replace hA := Lib.hid hA
              replace hsm2 := Lib.hid hsm2
              replace hm2 := Lib.hid hm2
              replace hk22 := Lib.hid hk22
              clear a0 a1 a2 a3 hsm hG2 hZ2
              go_upto_region 20 with fail
              go_cut [140] from 117 to 140 (fun b wy => b = .bool false ∧ Fr noB wr2 wy)
              case first =>
                go_region_held3 (fun w' => w'.cell? ⟨gg, k2 * 2, none⟩ = some (.int .i64 x2) ∧ w'.cell? ⟨gg, k2 * 2 + 1, none⟩ = some m2 ∧ w'.cell? ⟨tg, k2, none⟩ = some (.int .i64 x2) ∧ w'.cell? ⟨mg, k2 * 15, none⟩ = some (.int .i64 M2.k) ∧ w'.cell? ⟨mg, k2 * 15 + 1, none⟩ = some (.int .i64 M2.a) ∧ w'.cell? ⟨mg, k2 * 15 + 2, none⟩ = some (.int .i64 M2.t) ∧ w'.cell? ⟨mg, k2 * 15 + 3, none⟩ = some (.int .i64 M2.j) ∧ w'.cell? ⟨mg, k2 * 15 + 4, none⟩ = some (.int .i64 M2.c) ∧ w'.cell? ⟨mg, k2 * 15 + 5, none⟩ = some (.int .i64 M2.i) ∧ w'.cell? ⟨mg, k2 * 15 + 6, none⟩ = some (.int .i64 M2.n) ∧ w'.cell? ⟨mg, k2 * 15 + 7, none⟩ = some (.int .i64 M2.pa) ∧ w'.cell? ⟨mg, k2 * 15 + 8, none⟩ = some (.int .i64 M2.pt) ∧ w'.cell? ⟨mg, k2 * 15 + 9, none⟩ = some (.int .i64 M2.pj) ∧ w'.cell? ⟨mg, k2 * 15 + 10, none⟩ = some (.int .i64 M2.pc) ∧ w'.cell? ⟨mg, k2 * 15 + 11, none⟩ = some (.slice M2.ua M2.un M2.uc) ∧ w'.cell? ⟨mg, k2 * 15 + 12, none⟩ = some (.bool M2.lo) ∧ w'.cell? ⟨mg, k2 * 15 + 13, none⟩ = some (.slice M2.qa M2.qn M2.qc) ∧ w'.cell? ⟨mg, k2 * 15 + 14, none⟩ = some (.slice M2.sa M2.sn M2.sc))
                  (first | exact hA.out _ (fCI.seqN z8) | exact hA.out _ (fCI.seqN z7) | exact hA.out _ (fCI.seqN ((Fr.refl noB _).drewN 1)) | fail)
                  (first
                    | (go_at_call 24; refine (hsame.out _ (Fr.refl _ _)).mono ?_; rintro e w8 ⟨rfl, z80⟩; have z8 := z7.seqN z80)
                    | (go_at_call 12; refine (hsm2.out _ (fCI.seqN ((Fr.refl noB _).drewN 1))).mono ?_; rintro e w7 ⟨u7, rfl, z70, hsame⟩; replace hsame := Lib.hid hsame; have z7 := ((Fr.refl noB wr2).drewN 1).seqN z70)
                    | fail)
                all_goals (
                  go_wp2_with fail
                  go_meet
                  exact ⟨rfl, z8⟩)
              case rest =>
                obtain ⟨rfl, fY⟩ := hcut
                have fI2 := Lib.hid (fI.out.seqN fY)
                clear fY
                go_wp2_with fail
                go_roundg (nz - (k2 + 1))
                case rel => exact ⟨k2 + 1, hk22.out, by go_num, fI2⟩
                case measure => exact hm2.out
            · obtain rfl : k2 = nz := by omega
              have JE := JD.out.frN fI.out
              have RE := RD.out.frN fI.out
              have XE := XD.out.fr fI.out (fun _ _ q => q)
              have frE := frD.out.seqN fI.out
              have hLE := Nat.le_trans hLD.out fI.out.size
              have hfu := rlA.out.fu
              have hmeas' := hmeas.out
              have hkn2' := hkn2.out
              have JE' := Lib.hid JE
              have RE' := Lib.hid RE
              have XE' := Lib.hid XE
              replace frE := Lib.hid frE
              replace hLE := Lib.hid hLE
              replace hmeas' := Lib.hid hmeas'
              clear JD RD XD frD hLD fI fD' hsz hgG hgT hgM hnz hmeas
              by_cases hF : 2 ≤ j.ph ∧ noneL (fun v => !v.p) j = true
              · have hfu2 : q.fu = true := by rw [hfu, hF.2, decide_eq_true hF.1]; rfl
                have hm := manifest_jg2 p L j X wr2 JE hF.1 hF.2
                have hcs : ∀ w', Fr noB wr2 w' → w'.cell? ⟨r, 7, none⟩ = some (.bool true) := fun w' f => by rw [← hfu2]; exact (RE.frN f).blk.cell 7
                have hpin := all_pinned rlA.out hF.2
                have hal4 : j.all.length ≤ 4 := whichL_len (fun _ => true) j 4
                replace hm := Lib.hid hm
                replace hcs := Lib.hid hcs
                replace hpin := Lib.hid hpin
                clear JE RE XE hfu hfu2 hF
                go_wp2_with fail
                go_fit hm.out
                rintro e w7 ⟨pa, pc, cs7, rfl, o7, pt7, f7⟩
                have hps := PartsAt.rd o7 pt7 (by show j.all.length ≤ _; omega)
                have hal : whichL (fun _ => true) j 4 = j.all := rfl
                rw [hal] at hps ⊢
                have f8 : Fr noB w7 (w7.alloc (.cells #[.int .i64 j.tr, .int .i64 j.id, .int .i64 j.cl, .slice pa j.all.length pc] 62)) := (Fr.refl _ _).alloc _
                have b8 := Blk.new w7 62 [.int .i64 j.tr, .int .i64 j.id, .int .i64 j.cl, .slice pa j.all.length pc]
                have f78 := f7.seqN f8
                have u0 : (w7.alloc (.cells #[.int .i64 j.tr, .int .i64 j.id, .int .i64 j.cl, .slice pa j.all.length pc] 62)).cell? ⟨w7.heap.size, 0, none⟩ = some (.int .i64 j.tr) := b8.cell 0
                have u1 : (w7.alloc (.cells #[.int .i64 j.tr, .int .i64 j.id, .int .i64 j.cl, .slice pa j.all.length pc] 62)).cell? ⟨w7.heap.size, 1, none⟩ = some (.int .i64 j.id) := b8.cell 1
                have u2 : (w7.alloc (.cells #[.int .i64 j.tr, .int .i64 j.id, .int .i64 j.cl, .slice pa j.all.length pc] 62)).cell? ⟨w7.heap.size, 2, none⟩ = some (.int .i64 j.cl) := b8.cell 2
                have u3 : (w7.alloc (.cells #[.int .i64 j.tr, .int .i64 j.id, .int .i64 j.cl, .slice pa j.all.length pc] 62)).cell? ⟨w7.heap.size, 3, none⟩ = some (.slice pa j.all.length pc) := b8.cell 3
                have u7 := hcs.out _ f78
                have hlk := like_Manifest j.tr j.id j.cl (.slice pa j.all.length pc) (j.psl X j.all) _ (hps.frN f8) (by rw [psl_len]; omega)
                unfold mManifest at hlk
                replace hlk := Lib.hid hlk
                replace f78 := Lib.hid f78
                clear hm o7 pt7 f7 f8 b8 hps hcs
                go_wp2_with fail
                go_fit hlk.out
                rintro e w9 ⟨qa9, qc9, rfl, hr9, f9⟩
                have f79 := f78.out.seqN f9
                have R9 := RE'.out.frN f79
                have X9 := XE'.out.fr f79 (fun _ _ q => q)
                have hrm := rmanifest_any r gs gp gf q w9 R9
                rw [parts_which rlA.out] at hrm
                simp only [List.length_map, rlA.out.r.tr, rlA.out.r.id, rlA.out.r.cl] at hrm
                replace hrm := Lib.hid hrm
                replace hr9 := Lib.hid hr9
                replace f79 := Lib.hid f79
                clear hlk f9 f78 u0 u1 u2 u3 u7 R9
                replace X9 := Lib.hid X9
                unfold mrV mrC
                simp only
                go_wp2_with fail
                go_fit hrm.out
                rintro e w10 ⟨qa10, qc10, rfl, oP, f10⟩
                have hr10 := parts_rd rlA.out (X9.out.fr f10 (fun _ _ q => q)) hpin.out oP (by omega)
                have hsg := same_gen _ _ 7 0 j.tr j.id j.cl 0 0 zP (j.psl X j.all) [] w10 (rfg_m w10 j.tr j.id j.cl qa9 qc9 _ (hr9.out.frN f10)) (rfg_m w10 j.tr j.id j.cl qa10 qc10 _ (by rw [psl_len]; exact hr10))
                rw [psl_len] at hsg ⊢
                unfold mrV mrC at hsg
                simp only at hsg
                unfold mrV mrC
                simp only
                have f710 := f79.out.seqN f10
                replace hsg := Lib.hid hsg
                clear hrm oP hr10 f10 X9 hr9 f79
                go_wp2_with fail
                go_fit hsg.out
                rintro e w11 ⟨rfl, f11⟩
                have f711 := f710.seqN f11
                have JF := Lib.hid (JE'.out.frN f711)
                have RF := Lib.hid (RE'.out.frN f711)
                have XF := Lib.hid (XE'.out.fr f711 (fun _ _ q => q))
                have frF := Lib.hid (frE.out.seqN f711)
                have hLF := Lib.hid (Nat.le_trans hLE.out f711.size)
                clear hsg f11 f710 f711 JE' RE' XE' frE hLE
                go_wp2_with fail
                go_roundg (n - (k + 1))
                case rel => exact ⟨k + 1, j, q, X, hkn2', by go_num, JF, RF, rlA, XF, frF, hLF⟩
                case measure => exact hmeas'.out
              · have hfu2 : q.fu = false := by
                  rw [hfu]
                  by_cases h2 : 2 ≤ j.ph
                  · have : noneL (fun v => !v.p) j = false := by simpa using fun e => hF ⟨h2, e⟩
                    rw [this, Bool.and_false]
                  · rw [decide_eq_false h2, Bool.false_and]
                have hm : Calls Try.prog 25 #[.pointer (some ⟨p, 0, none⟩)] wr2 fun e w' => e = .returned (.tuple #[.agg #[.int .i64 0, .int .i64 0, .int .i64 0, .slice none 0 0], .bool false]) ∧ Fr noB wr2 w' := by
                  obtain ⟨j', hJ', rfl, _⟩ := JE
                  by_cases h2 : 2 ≤ j'.ph
                  · refine manifest_no2 p j' wr2 hJ' h2 ?_
                    rw [← none_nm (fun v => !v.p) (fun v => rfl)]
                    simpa using fun e => hF ⟨h2, e⟩
                  · exact manifest_no p j' wr2 hJ' (by omega)
                have hcs : ∀ w', Fr noB wr2 w' → w'.cell? ⟨r, 7, none⟩ = some (.bool false) := fun w' f => by rw [← hfu2]; exact (RE.frN f).blk.cell 7
                replace hm := Lib.hid hm
                replace hcs := Lib.hid hcs
                clear JE RE XE hfu hfu2 hF
                go_wp2_with fail
                go_fit hm.out
                rintro e w7 ⟨rfl, f7⟩
                have f8 : Fr noB w7 (w7.alloc (.cells #[.int .i64 0, .int .i64 0, .int .i64 0, .slice none 0 0] 62)) := (Fr.refl _ _).alloc _
                have f78 := f7.seqN f8
                have u7 := hcs.out _ f78
                have JF := Lib.hid (JE'.out.frN f78)
                have RF := Lib.hid (RE'.out.frN f78)
                have XF := Lib.hid (XE'.out.fr f78 (fun _ _ q => q))
                have frF := Lib.hid (frE.out.seqN f78)
                have hLF := Lib.hid (Nat.le_trans hLE.out f78.size)
                clear hm f7 f8 f78 hcs JE' RE' XE' frE hLE
                go_wp2_with fail
                go_roundg (n - (k + 1))
                case rel => exact ⟨k + 1, j, q, X, hkn2', by go_num, JF, RF, rlA, XF, frF, hLF⟩
                case measure => exact hmeas'.out
      · obtain rfl : k = n := by omega
        go_wp2_with fail
        go_ret
        exact ⟨rfl, fr.out⟩
theorem plays_cs (id ag : Int) (ct : Array Value) (mt : Int × Int × Int) (v : Value) (xs : List OpJ) (w : World) (_ : (Lit.int .i64 id).wf = true) (_ : (Lit.int .i64 ag).wf = true) (ht : IsTr ct.toList mt) (hv : SlR w v 6 (IsOpJ w) xs) :
    Calls Try.prog 3 #[.int .i64 id, .int .i64 ag, .agg ct, v] w fun e w' => e = .returned (.bool true) ∧ Fr noB w w' := by
  have hc2 : ct = #[.int .i64 mt.1, .int .i64 mt.2.1, .int .i64 mt.2.2] := by rw [← Array.toList_inj]; exact ht.1
  rw [hc2]
  exact plays_any id ag mt.1 mt.2.1 mt.2.2 v xs w hv
end Go.Proofs.Ytppgachfobpgbaa
