/-
  What the law CrumbReach walks: whom one comes to is the document's; each of them comes to no more; with a name more there are no fewer.
-/
import Derived.Test.YtbepkhldgfmmbaaCrumbRefReach
import Derived.Test.YtbepkhldgfmmbaaCrumbKept
import Derived.Laws.AppendOwnNone
set_option linter.unusedVariables false
set_option linter.unusedSimpArgs false
namespace Go.Proofs.Ytbepkhldgfmmbaa
open Go.RowKit Go Go.Maps Go.Lib Go.ChangeAt

/-- one row of names that came in -/
def IsNm (w : World) (cs : List Value) (xs : List Int) : Prop := ∃ u, cs = [u] ∧ RdI w u xs ∧ (∀ x ∈ xs, okI x) ∧ (∀ l c, u = .slice none l c → u = .slice none 0 0)
theorem names_open {H : Type} {enc : TypeId × Value → H} {w : World} {base : Nat} {held : Bool} (n : Nat) (cs : List Value) (y : DataW H × List MemPlace) (hl : cs.length = 1)
    (h : DataW.trod enc Try.prog w base (fun _ => true) held n 27 cs = some y) : ∃ xs, IsNm w cs xs := by
  have hv : ∃ a l c, cs = [Value.slice a l c] := by
    rcases DataW.trod_slice Try.underlying27 h with ⟨h1, _⟩ | ⟨a, len, cap, _, _, _, _, h1, _⟩
    · exact ⟨_, _, _, h1⟩
    · exact ⟨_, _, _, h1⟩
  obtain ⟨a, l, c, rfl⟩ := hv
  obtain ⟨xs, a', c', e, h1, h2, h3⟩   := slr_of_trod (k := 1) (IsI .i64) Try.underlying27 (by kernel_rfl) (by omega) ⟨a, l, c, rfl⟩ h (fun n cs y hl h => by
    obtain ⟨q, hq, _, hw⟩ := DataW.trod_int Try.underlying3 h
    exact ⟨q, hq, hw⟩)
  simp only [Value.slice.injEq] at e
  obtain ⟨rfl, rfl, rfl⟩ := e
  unfold maxLen at h2
  refine ⟨xs, _, rfl, ⟨a, c, rfl, by omega, h1.1, fun i hi => ?_⟩, fun x hx => ?_, fun l' c' e => ?_⟩
  · obtain ⟨g, o, cs, e1, _, ⟨e2, _⟩, e3⟩ := h3 i (xs.getD i 0) (get_getD hi)
    subst e2
    have := e3 0 _ rfl
    simp only [Nat.mul_one, Nat.add_zero] at this
    exact ⟨g, o, e1, this⟩
  · obtain ⟨i, hi, hxi⟩ := List.getElem_of_mem hx
    obtain ⟨g, o, cs, _, _, ⟨_, e2⟩, _⟩ := h3 i x (by rw [List.getElem?_eq_getElem hi, hxi])
    exact e2
  · simp only [Value.slice.injEq] at e
    obtain ⟨rfl, rfl, rfl⟩ := e
    have h0 : xs.length = 0 := by
      rcases Nat.eq_zero_or_pos xs.length with q | q
      · exact q
      · obtain ⟨g, o, cs, e1, _⟩ := h3 0 (xs.getD 0 0) (get_getD q)
        cases e1
    rw [h0, h1.2 rfl]

theorem Rch.more {G : List (List Int)} {f i b : Int} {k : Nat} (h : Rch G f i) : Rch (G.set k (G.getD k [] ++ [b])) f i := by
  induction h with
  | base a c => exact Rch.base a (by simpa using c)
  | @step j x hj hx h0 h1 ih =>
    refine Rch.step ih ?_ h0 (by simpa using h1)
    simp only [List.getD, List.getElem?_set] at hx ⊢
    by_cases e : k = j.toNat
    · subst e
      by_cases hl : j.toNat < G.length
      · simp [hl] at hx ⊢; exact Or.inl hx
      · simp [List.getElem?_eq_none (Nat.le_of_not_lt hl)] at hx
    · simp only [e, if_false]; exact hx
theorem Rch.trans {G : List (List Int)} {f i k : Int} (h1 : Rch G f i) (h2 : Rch G i k) : Rch G f k := by
  induction h2 with
  | base _ _ => exact h1
  | step _ hx h0 hn ih => exact Rch.step ih hx h0 hn

/-- a map that holds just these numbers, all true -/
def Mt (w : World) (b m : Nat) (S : List Int) : Prop := ∃ L : List (Int × Bool), Mp Try.prog 3 klI mkT w b m L ∧ ∀ a, look L a = if a ∈ S then some true else none
theorem Mt.frN {w w' : World} {b m : Nat} {S : List Int} (h : Mt w b m S) (hf : Fr noB w w') : Mt w' b m S := by
  obtain ⟨L, h1, h2⟩ := h
  exact ⟨L, h1.fr hf (fun q => q), h2⟩
theorem Mt.put {w : World} {b m : Nat} {S : List Int} (h : Mt w b m S) (hm : m < 1000000) (x : Int) (hx : okI x) : ∃ w', (Instr.mapUpdate 42 (.map (some b)) (.int .i64 x) (.bool true)).run Try.prog w = .ok () w' ∧ Mt w' b (m + 1) (S ++ [x]) ∧ Fr (onlyB b) w w' := by
  obtain ⟨L, h1, h2⟩ := h
  obtain ⟨w', q1, q2, q3⟩ := h1.run_put KI Try.underlying42 mkT_inj (by unfold maxLen; omega) x true hx
  refine ⟨w', q1, ⟨_, q2, fun a => ?_⟩, q3⟩
  by_cases ha : a = x
  · subst ha; rw [look_withKey_same]; simp
  · rw [look_withKey_other _ _ ha, h2 a]; simp [ha]
theorem Mt.run_look {w : World} {b m : Nat} {S : List Int} (h : Mt w b m S) (a : Int) (ha : okI a) : (Instr.lookup 42 (.map (some b)) (.int .i64 a) false).run Try.prog w = .ok (.bool (decide (a ∈ S))) w := by
  obtain ⟨L, h1, h3⟩ := h
  have := h1.run_look KI Try.underlying42 (zeroB w) mkT_inj a ha
  unfold kvI at this
  rw [this, h3 a]
  by_cases hx : a ∈ S <;> simp [hx, mkT]

theorem wpList_append_rd {P : Program} (w : World) {ops : Array Oper} {rest : List Oper} {o : Oper} {a : Act} {Q : Exit → Act → World → Prop} (hgd : o.guard = none) (s x : Operand) (t : TypeId)
    (ho : o.op = .call { callee := .builtin .append, args := #[s, x], argTypes := #[t, t] })
    (base : Nat) (e : TypeId) (i : TypeInfo) (z : Value) (size bytes : Nat) (ht : P.underlying t = some (.slice e)) (hi : P.info? e = some i) (hz : i.zero = some z)
    (hsize : i.size = size) (hby : i.bytes = bytes) (hzs : z.cells.size = size) (hsz : 0 < size)
    (v : Value) (n : Nat) (xs : List Value) (hs : a.eval s = v) (hown : w.ownsRow base e size v n xs)
    (m : Nat) (u : Value) (news : List Value) (hx : a.eval x = u) (hu : (u = .slice none 0 0 ∧ m = 0 ∧ news = []) ∨ ∃ ad c, u = .slice (some ad) m c ∧ ∀ j q, news[j]? = some q → w.cell? (ad.add j) = some q) (hl : news.length = m * size) (h1 : ∀ u ∈ news, u.oneCell' = true)
    (h63 : n + m ≤ maxLen) (hbytes : (n + m) * bytes ≤ 140737488355328) (hbase : base ≤ w.heap.size)
    (h : ∀ v' w', w'.ownsRow base e size v' (n + m) (xs ++ news) → Fr (fun k => v.ownBlock = some k) w w' → wpList P ops Q rest (a.put o.dst v') w') : wpList P ops Q (o :: rest) a w := by
  rcases hu with ⟨rfl, rfl, rfl⟩ | ⟨ad, c, rfl, hnews⟩
  · exact wpList_append_own_none hgd s x t ho base e i size ht hi v n xs hs hown hx (h v w (by simpa using hown) (Fr.refl _ _))
  · refine wpList_append_at w (by simp [Region.wanted, hgd]) s x t ho base e i z size bytes ht hi hz hsize hby hzs hsz v n xs hs hown ad m c news hx hl hnews h1 h63 hbytes hbase fun v' w' q1 q2 _ => h v' w' q1 ((Fr.refl _ w).grown q2 (fun k hk _ => hk))

theorem addr_of9 {w : World} {D e k n c : Nat} {a : Option Addr} {xs : List Value} (h : w.ownsRow D e k (.slice a n c) n xs) {q o : Nat} (ha : a = some ⟨q, o, none⟩) : D ≤ q := by
  rcases h.2 with ⟨h1, _⟩ | ⟨g, cap, cur, h1, h2, _⟩
  · subst ha; cases h1
  · subst ha; cases h1; exact h2
set_option maxHeartbeats 4000000 in
set_option maxRecDepth 10000 in
theorem reach_any (f : Int) (v : Value) (G : List (List Int)) (pa pb : Int) (w : World) (hf : (Lit.int .i64 f).wf = true) (hxs : SlR w v 1 (IsNm w) G) (hpa : (Lit.int .i64 pa).wf = true) (hpb : (Lit.int .i64 pb).wf = true) :
    Calls Try.prog 4 #[.int .i64 f, v, .int .i64 pa, .int .i64 pb] w fun e w' => e = .returned (.bool true) ∧ Fr noB w w' := by
  obtain ⟨na, nc, rfl, hx1, hx2, hx3⟩ := hxs
  unfold maxLen at hx2
  obtain ⟨hx1, _⟩ := hx1
  have hrow : ∀ i, i < G.length → ∃ g o vi, na = some ⟨g, o, none⟩ ∧ w.cell? ⟨g, o + i, none⟩ = some vi ∧ RdI w vi (G.getD i []) ∧ (∀ l c, vi = .slice none l c → vi = .slice none 0 0) := fun i hi => by
    obtain ⟨g, o, cs, e1, _, ⟨u, e2, e3, _, e5⟩, e6⟩ := hx3 i (G.getD i []) (by simp [List.getD, hi])
    subst e2
    have := e6 0 _ rfl
    simp only [Nat.mul_one, Nat.add_zero] at this
    exact ⟨g, o, u, e1, this, e3, e5⟩
  have hnm : Nm w (.slice na G.length nc) G := ⟨na, nc, rfl, hx1, fun i hi => by
    obtain ⟨g, o, u, a, b, c, _⟩ := hrow i hi
    exact ⟨g, o, u, a, b, c⟩⟩
  have hokG : ∀ l ∈ G, ∀ x ∈ l, okI x := fun l hl x hx => by
    obtain ⟨i, hi, hli⟩ := List.getElem_of_mem hl
    obtain ⟨g, o, cs, _, _, ⟨u, _, _, e4, _⟩, _⟩ := hx3 i l (by rw [List.getElem?_eq_getElem hi, hli])
    exact e4 x hx
  generalize hn : G.length = n at *
  clear hx3
  have hnb : n ≤ 9223372036854775807 := by omega
  replace hn := Lib.hid hn
  replace hrow := Lib.hid hrow
  replace hnm := Lib.hid hnm
  replace hokG := Lib.hid hokG
  have hmm := @run_makeMap Try.prog
  go_enter Try.func4, Try.ntmps4
  go_wp2_with fail
  refine (awake_any w).mono ?_
  rintro e w1 ⟨rfl, f1⟩
  by_cases hl : 20 < n
  · go_wp2_with fail
    refine (awake_any w1).mono ?_
    rintro e w2 ⟨rfl, f2⟩
    go_wp2
    go_ret
    exact ⟨rfl, f1.seqN f2⟩
  have hdl : decide (20 < (n : Int)) = false := by simp; omega
  have hdl2 : decide (20 < n) = false := by simp; omega
  go_wp2_with fail
  go_loopw [31] (fun i wr => ∃ k : Nat, k ≤ n ∧ i = .int .i64 k ∧ wr = w1 ∧ Hid (∀ i, i < k → (G.getD i []).length ≤ 30)) (fun i _ => n - (RowKit.intOf i).toNat)
  case atStart => exact ⟨0, by omega, rfl, rfl, Lib.hid (fun i hi => absurd hi (Nat.not_lt_zero _))⟩
  case round =>
    obtain ⟨k, hk, rfl, hwr, hsm⟩ := hrel
    obtain rfl := hwr.symm
    by_cases hlt : k < n
    · obtain ⟨g0, o0, u, rfl, hc0, hr0, _⟩ := hrow.out k hlt
      have e0 := f1.cell hc0 (fun q => q)
      obtain ⟨a0, c0, rfl, _⟩ := hr0
      generalize hgl : (G.getD k []).length = ln at *
      by_cases hln : 30 < ln
      · have hd : decide (30 < ln) = true := by simpa using hln
        clear hc0
        go_wp2_with fail
        go_ret
        exact ⟨rfl, f1⟩
      · have hd : decide (30 < ln) = false := by simpa using hln
        have hsm1 : Hid (∀ i, i < k + 1 → (G.getD i []).length ≤ 30) := Lib.hid (fun i hi => by
          by_cases e : i = k
          · subst e; omega
          · exact hsm.out i (by omega))
        clear hc0 hsm hgl
        go_wp2_with fail
        go_roundw
        case rel => exact ⟨k + 1, by omega, by go_num, by first | trivial | rfl, hsm1⟩
        case measure => simp [RowKit.intOf]; omega
    · obtain rfl : k = n := by omega
      have hR : ∀ l ∈ G, l.length ≤ 1000 ∧ ∀ x ∈ l, okI x := fun l hl => by
        obtain ⟨i, hi, hli⟩ := List.getElem_of_mem hl
        have := hsm.out i (by have := hn.out; omega)
        simp only [List.getD, List.getElem?_eq_getElem hi, hli, Option.getD_some] at this
        exact ⟨by omega, hokG.out l hl⟩
      replace hR := Lib.hid hR
      have hG1000 : Hid (G.length ≤ 1000) := Lib.hid (by rw [hn.out]; omega)
      go_wp2_with fail
      refine (creach_any f _ G w1 (hnm.out.frB f1 (fun _ _ q => q)) hf hG1000.out hR.out).mono ?_
      rintro e w2 ⟨v2, A, rfl, o2, p2, m2, f2⟩
      have g2 := f1.seqN f2
      go_wp2_with fail
      refine (rreach_any f _ G w2 (hnm.out.frB g2 (fun _ _ q => q)) hf hG1000.out hR.out).mono ?_
      rintro e w3 ⟨v3, A3, rfl, o3, p3, m3, f3⟩
      obtain rfl : A = A3 := up_eq p2 p3 (fun i => (m2 i).trans (m3 i).symm)
      have r2 : RdI w3 v2 A := (RdI.of_own o2).fr f3 (fun _ _ _ _ _ q => q)
      have r3 : RdI w3 v3 A := RdI.of_own o3
      have o2' := ownsRow_fr o2 f3 (fun _ _ q => q)
      have g3 := g2.seqN f3
      clear o3 p3 m3 f3 g2 f2 o2
      go_wp2_with fail
      refine (sameInts_any v2 v3 A A w3 r2 r3).mono ?_
      rintro e w4 ⟨rfl, q4, hw4⟩
      rw [show decide (A = A) = true by simp]
      have f4 : Fr noB w3 w4 := by rw [hw4]; exact (Fr.refl noB w3).drewN q4
      have g4 := g3.seqN f4
      have r4 := r2.fr f4 (fun _ _ _ _ _ q => q)
      have o4 := ownsRow_fr o2' f4 (fun _ _ q => q)
      have hAk : A.length ≤ 20 := by
        have := nodup_le (l := A) (G := (List.range G.length).map Int.ofNat) (p2.imp (fun q => by omega)) (fun a ha => by
          have hr := ((m2 a).1 ha).range
          refine List.mem_map.2 ⟨a.toNat, List.mem_range.2 (by omega), ?_⟩
          simp only [Int.ofNat_eq_natCast]; omega)
        simp at this
        have := hn.out
        omega
      have hAok : ∀ x ∈ A, okI x := fun x hx => by
        have hr := ((m2 x).1 hx).range
        have := hn.out
        exact okI_of (by omega) (by omega)
      clear hw4 r2 r3 o2' f4 g3
      have fA := (Fr.refl noB w4).alloc (.map #[] 0)
      have mt0 : Mt (w4.alloc (.map #[] 0)) w4.heap.size 0 [] := ⟨[], Mp.made w4, fun a => by simp [look]⟩
      have hb2 : ∀ g o n c, v2 = .slice (some ⟨g, o, none⟩) n c → g < w4.heap.size := fun g o n c e => by
        subst e
        exact (o4.lt g rfl).2
      obtain ⟨a2, c2, rfl⟩ := ownsRow_slice o4
      have r5 := r4.fr fA (fun _ _ _ _ _ q => q)
      have g5 := g4.seqN fA
      have im0 : w.heap.size ≤ w4.heap.size := g4.size
      obtain ⟨im, him⟩ : ∃ im, im = w4.heap.size := ⟨_, rfl⟩
      replace r5 := Lib.hid r5
      replace mt0 := Lib.hid mt0
      replace g5 := Lib.hid g5
      clear o4 r4 g4 fA
      generalize hal : A.length = al at *
      go_wp2_with fail
      generalize w4.alloc (.map #[] 0) = w5 at *
      rw [← him] at mt0 hb2 im0 ⊢
      clear him
      replace hal := Lib.hid hal
      replace hb2 := Lib.hid hb2
      replace hAok := Lib.hid hAok
      replace p2 := Lib.hid p2
      replace m2 := Lib.hid m2
      go_loopw [51] (fun i wr => ∃ q : Nat, q ≤ al ∧ i = .int .i64 q ∧ Hid (Mt wr im q (A.take q)) ∧ Hid (RdI wr (.slice a2 al c2) A) ∧ Fr noB w wr) (fun i _ => al - (RowKit.intOf i).toNat)
      case atStart => exact ⟨0, by omega, rfl, by simpa using mt0, r5, g5.out⟩
      case round =>
        clear mt0 r5 g5
        obtain ⟨q, hq, rfl, mt, r5, g5⟩ := hrel
        by_cases hql : q < al
        · obtain ⟨a9, c9, e9, _, _, h9⟩ := r5.out
          simp only [Value.slice.injEq] at e9
          obtain ⟨rfl, _, _⟩ := e9
          obtain ⟨gb, ob, rfl, hc9⟩ := h9 q (by rw [hal.out]; exact hql)
          have hgb := hb2.out gb ob al c2 rfl
          have hx := hAok.out _ (List.mem_of_getElem? (get_getD (xs := A) (q := q) (by rw [hal.out]; exact hql)))
          have htk := take_getD (xs := A) (q := q) (by rw [hal.out]; exact hql)
          generalize A.getD q 0 = x at *
          obtain ⟨w6, hput, mt6, f6⟩ := mt.out.put (by omega) x hx
          rw [← htk] at mt6
          have r6 := Lib.hid (r5.out.fr f6 (fun g o n c e q => by
            simp only [Value.slice.injEq, Option.some.injEq, Addr.mk.injEq] at e
            unfold onlyB at q
            omega))
          have g6 : Fr noB w w6 := g5.trans f6 (fun _ _ q => q) (fun i hi q => by unfold onlyB at q; omega)
          replace mt6 := Lib.hid mt6
          replace f6 := Lib.hid f6
          clear mt r5 h9 htk hx g5
          go_wp2_with fail
          go_roundw
          case rel => exact ⟨q + 1, by omega, by go_num, mt6, r6, g6⟩
          case measure => simp [RowKit.intOf]; omega
        · obtain rfl : q = al := by omega
          have hmt : Hid (Mt wr im q A) := Lib.hid (by
            have := mt.out
            rwa [List.take_of_length_le (by rw [hal.out]; exact Nat.le_refl _)] at this)
          clear mt
          obtain ⟨wM, rfl⟩ : ∃ wM : World, wM = wr := ⟨_, rfl⟩
          replace g5 := Lib.hid g5
          go_wp2_with fail
          go_loopw [60] (fun i wr => ∃ p : Nat, p ≤ q ∧ i = .int .i64 p ∧ Fr noB wM wr) (fun i _ => q - (RowKit.intOf i).toNat)
          case atStart => exact ⟨0, by omega, rfl, Fr.refl _ _⟩
          case round =>
            obtain ⟨p, hp, rfl, fM⟩ := hrel
            have r6 := Lib.hid (r5.out.fr fM (fun _ _ _ _ _ q => q))
            have mt6 := Lib.hid (hmt.out.frN fM)
            have g6 := Lib.hid (g5.out.seqN fM)
            by_cases hpl : p < q
            · obtain ⟨a9, c9, e9, _, _, h9⟩ := r6.out
              simp only [Value.slice.injEq] at e9
              obtain ⟨rfl, _, _⟩ := e9
              obtain ⟨gb, ob, rfl, hc9⟩ := h9 p (by rw [hal.out]; exact hpl)
              have hxm := List.mem_of_getElem? (get_getD (xs := A) (q := p) (by rw [hal.out]; exact hpl))
              have hx := hAok.out _ hxm
              have hxr := (m2.out _).1 hxm
              generalize A.getD p 0 = x at *
              clear h9 hxm
              replace hxr := Lib.hid hxr
              go_wp2_with fail
              refine (creach_any x _ G wr (hnm.out.frB g6.out (fun _ _ q => q)) hx hG1000.out hR.out).mono ?_
              rintro e w7 ⟨v7, A7, rfl, o7, p7, m7, f7⟩
              have r7 : RdI w7 v7 A7 := RdI.of_own o7
              obtain ⟨a7, c7, rfl⟩ := ownsRow_slice o7
              have mt7 := Lib.hid (mt6.out.frN f7)
              have fM7 := fM.seqN f7
              have hA7 : ∀ z ∈ A7, okI z ∧ decide (z ∈ A) = true := fun z hz => by
                have hr := (m7 z).1 hz
                have hrr := hr.range
                exact ⟨okI_of (by have := hn.out; omega) (by have := hn.out; omega), decide_eq_true ((m2.out z).2 (hxr.out.trans hr))⟩
              generalize hal7 : A7.length = al7 at *
              have hal7b : al7 ≤ 9223372036854775807 := by
                obtain ⟨_, _, _, q1, _⟩ := r7
                omega
              replace hal7 := Lib.hid hal7
              replace r7 := Lib.hid r7
              replace hA7 := Lib.hid hA7
              replace fM7 := Lib.hid fM7
              clear o7 p7 m7 f7 fM r6 mt6 g6 hc9
              go_wp2_with fail
              go_loopw [68] (fun i wr => ∃ j : Nat, j ≤ al7 ∧ i = .int .i64 j ∧ wr = w7) (fun i _ => al7 - (RowKit.intOf i).toNat)
              case atStart => exact ⟨0, by omega, rfl, rfl⟩
              case round =>
                obtain ⟨j, hj, rfl, hwr⟩ := hrel
                obtain rfl := hwr.symm
                by_cases hjl : j < al7
                · obtain ⟨a9, c9, e9, _, _, h9⟩ := r7.out
                  simp only [Value.slice.injEq] at e9
                  obtain ⟨rfl, _, _⟩ := e9
                  obtain ⟨gc, oc, rfl, hc8⟩ := h9 j (by rw [hal7.out]; exact hjl)
                  obtain ⟨hzo, hzd⟩ := hA7.out _ (List.mem_of_getElem? (get_getD (xs := A7) (q := j) (by rw [hal7.out]; exact hjl)))
                  have hlk := mt7.out.run_look _ hzo
                  rw [hzd] at hlk
                  generalize A7.getD j 0 = z at *
                  clear h9 hzd hzo
                  go_wp2_with fail
                  go_roundw
                  case rel => exact ⟨j + 1, by omega, by go_num, by first | trivial | rfl⟩
                  case measure => simp [RowKit.intOf]; omega
                · obtain rfl : j = al7 := by omega
                  go_wp2_with fail
                  go_roundw
                  case rel => exact ⟨_, _, _, .int .i64 (↑p + 1), ⟨p + 1, by omega, by go_num, fM7.out⟩, rfl, rfl, rfl, rfl⟩
                  case measure => simp [RowKit.intOf]; omega
            · obtain rfl : p = q := by omega
              clear r6 mt6 r5 hmt
              by_cases hn0 : k = 0
              · have hA0 : p = 0 := by
                  have := hal.out
                  rcases A with _ | ⟨z, r⟩
                  · simpa using this.symm
                  · have hz := ((m2.out z).1 List.mem_cons_self).range
                    have := hn.out; omega
                subst hn0 hA0
                go_wp2_with fail
                go_ret
                exact ⟨rfl, g6.out⟩
              · have hn0d : ((k : Int) == 0) = false := by simpa using hn0
                have hn0d2 : decide (k = 0) = false := by simpa using hn0
                have hn0d3 : ((k : Int) = 0) = False := by simpa using hn0
                obtain ⟨gN, oN, _, rfl, _⟩ := hrow.out 0 (by omega)
                -- the names' words
                obtain ⟨U, hUl, hU⟩ := list_of_fun (n := k) (p := fun i vi => w.cell? ⟨gN, oN + i, none⟩ = some vi ∧ RdI w vi (G.getD i []) ∧ (∀ l c, vi = .slice none l c → vi = .slice none 0 0)) (fun i hi => by
                  obtain ⟨g, o, vi, e, h1, h2, h3⟩ := hrow.out i hi
                  cases e
                  exact ⟨vi, h1, h2, h3⟩)
                have hnews : ∀ j u, U[j]? = some u → wr.cell? ((⟨gN, oN, none⟩ : Addr).add j) = some u := fun j u hj => by
                  rw [add_none]; exact g6.out.cell (hU j u hj).1 (fun q => q)
                have hone : ∀ u ∈ U, u.oneCell' = true := fun u hu => by
                  obtain ⟨i, hi, hui⟩ := List.getElem_of_mem hu
                  obtain ⟨_, ⟨a, c, h, _⟩, _⟩ := hU i u (by rw [List.getElem?_eq_getElem hi, hui])
                  subst h; rfl
                obtain ⟨i0, hi0, hz0, hz1, hz2⟩ : ∃ i0, Try.prog.info? 3 = some i0 ∧ i0.zero = some (.int .i64 0) ∧ i0.size = 1 ∧ i0.bytes = 8 := by
                  have hI := infoIntR
                  cases hq : Try.prog.info? 3 with
                  | none => rw [hq] at hI; cases hI
                  | some k => rw [hq] at hI; simp at hI; exact ⟨k, rfl, hI⟩
                obtain ⟨j0, hj0, hy0, hy1, hy2⟩ : ∃ i0, Try.prog.info? 27 = some i0 ∧ i0.zero = some (.slice none 0 0) ∧ i0.size = 1 ∧ i0.bytes = 24 := by
                  have hI : (Try.prog.info? 27).map (fun i => (i.zero, i.size, i.bytes)) = some (some (.slice none 0 0), 1, 24) := by kernel_rfl
                  cases hq : Try.prog.info? 27 with
                  | none => rw [hq] at hI; cases hI
                  | some k => rw [hq] at hI; simp at hI; exact ⟨k, rfl, hI⟩
                obtain ⟨kk, hkk, hk0, hk1⟩ := umod pa (k : Int) (by omega) (by omega)
                obtain ⟨kq, rfl⟩ : ∃ kq : Nat, kk = kq := ⟨kk.toNat, by omega⟩
                have hkq : kq < k := by omega
                have hun : IntKind.u64.wrap (k : Int) = k := by rw [IntKind.wrap_u64]; omega
                have hA : (wr.alloc (.cells #[] 27)).ownsRow wr.heap.size 27 1 (.slice (some ⟨wr.heap.size, 0, none⟩) 0 0) 0 [] := own_new wr 27 [] 1 0 rfl (by unfold maxLen; omega)
                have hnews1 : ∀ j u, U[j]? = some u → (wr.alloc (.cells #[] 27)).cell? ((⟨gN, oN, none⟩ : Addr).add j) = some u := fun j u hj => by
                  have := hnews j u hj
                  rw [add_none] at this ⊢
                  exact ((Fr.refl noB wr).alloc _).cell this (fun q => q)
                have hsz := ((Fr.refl noB wr).alloc (.cells #[] 27)).size
                replace hn := Lib.hid hn
                clear hnews
                go_wp2_with (first
                  | (at_builtin; go_must (refine wpList_append_at _ rfl (.tmp 84) (.tmp 85) 28 rfl wr.heap.size 27 j0 _ 1 24 Try.underlying28 hj0 hy0 hy1 hy2 rfl (by omega) _ 0 _ rfl hA ⟨gN, oN, none⟩ k nc U rfl (by rw [hUl]; omega) hnews1 hone ?_ ?_ ?_ ?_))
                  | fail)
                · unfold maxLen; omega
                · omega
                · exact hsz
                intro vM w7 oM grM _
                simp only [List.nil_append, Nat.zero_add] at oM
                have f7 : Fr noB wr w7 := ((Fr.refl noB wr).alloc _).grown grM (fun q hq hlt => by have := (hA.lt q hq).1; omega)
                obtain ⟨mb, cM, rfl, hmbB⟩ := ownsRow_some oM (by omega)
                have hmb7 := (oM.lt mb rfl).2
                have hUk : U[kq]? = some (U.getD kq (.slice none 0 0)) := by simp [List.getD, show kq < U.length by omega]
                obtain ⟨_, hrk, hnk⟩ := hU kq _ hUk
                have ckM : w7.cell? ⟨mb, kq, none⟩ = some (U.getD kq (.slice none 0 0)) := by
                  have := oM.cells (g := mb) rfl kq _ hUk
                  rwa [add_none, Nat.zero_add] at this
                have g7 : Fr noB w w7 := g6.out.seqN f7
                obtain ⟨curM, bM⟩ : ∃ cs, Blk w7 mb 27 cs ∧ ∀ i, i < k → cs[i]? = U[i]? := by
                  rcases oM.2 with ⟨h1, _⟩ | ⟨g', cap', cur', h1, h2, h3, h4, h5, h6, h7⟩
                  · cases h1
                  · cases h1
                    refine ⟨cur'.toList, by unfold Blk; simpa using h3, fun i hi => ?_⟩
                    have := congrArg (fun l => l[i]?) h7
                    simp only [Nat.mul_one] at this
                    rw [List.getElem?_take, if_pos hi] at this
                    exact this
                obtain ⟨bM, hcM⟩ := bM
                have hX30 := (hR.out _ (List.mem_of_getElem? (show G[kq]? = some (G.getD kq []) by simp [List.getD, show kq < G.length by rw [hn.out.out]; omega]))).1
                have hXok := (hR.out _ (List.mem_of_getElem? (show G[kq]? = some (G.getD kq []) by simp [List.getD, show kq < G.length by rw [hn.out.out]; omega]))).2
                obtain ⟨X, hX⟩ : ∃ X, X = G.getD kq [] := ⟨_, rfl⟩
                rw [← hX] at hrk hX30 hXok
                generalize U.getD kq (.slice none 0 0) = uk at *
                obtain ⟨ak, ck, rfl, hk1, hk2, hk3⟩ := hrk
                have c8 : (w7.alloc (.cells #[] 3)).cell? ⟨mb, kq, none⟩ = some (.slice ak X.length ck) := ((Fr.refl noB w7).alloc _).cell ckM (fun q => q)
                have hA8 : (w7.alloc (.cells #[] 3)).ownsRow w7.heap.size 3 1 (.slice (some ⟨w7.heap.size, 0, none⟩) 0 0) 0 [] := own_new w7 3 [] 1 0 rfl (by unfold maxLen; omega)
                have hu8 : (Value.slice ak X.length ck = .slice none 0 0 ∧ X.length = 0 ∧ rowV X = []) ∨ ∃ ad c, Value.slice ak X.length ck = .slice (some ad) X.length c ∧ ∀ j q, (rowV X)[j]? = some q → (w7.alloc (.cells #[] 3)).cell? (ad.add j) = some q := by
                  cases ak with
                  | none =>
                    have := hnk _ _ rfl
                    simp only [Value.slice.injEq, true_and] at this
                    exact Or.inl ⟨by rw [this.1, this.2], this.1, by unfold rowV; rw [List.eq_nil_of_length_eq_zero this.1]; rfl⟩
                  | some ad =>
                    refine Or.inr ⟨ad, ck, rfl, fun j q hj => ?_⟩
                    have hjl : j < X.length := by
                      have := (List.getElem?_eq_some_iff.1 hj).1
                      simpa [rowV] using this
                    obtain ⟨g9, o9, e9, h9⟩ := hk3 j hjl
                    cases e9
                    rw [add_none]
                    have hq : q = .int .i64 (X.getD j 0) := by
                      simp only [rowV, List.getElem?_map, List.getElem?_eq_getElem hjl, Option.map_some, Option.some.injEq] at hj
                      rw [← hj]; simp [List.getD, hjl]
                    rw [hq]
                    exact ((Fr.refl noB w7).alloc _).cell (g7.cell h9 (fun q => q)) (fun q => q)
                have hone8 : ∀ u ∈ rowV X, u.oneCell' = true := fun u hu => by
                  obtain ⟨z, _, rfl⟩ := List.mem_map.1 hu; rfl
                have hrl : (rowV X).length = X.length * 1 := by simp [rowV]
                have hsz8 := ((Fr.refl noB w7).alloc (.cells #[] 3)).size
                replace hU := Lib.hid hU
                replace hone := Lib.hid hone
                replace oM := Lib.hid oM
                replace hcM := Lib.hid hcM
                replace hXok := Lib.hid hXok
                replace hX := Lib.hid hX
                replace g7 := Lib.hid g7
                clear hnews1 hA grM f7 ckM hk3 hnk hUk
                obtain ⟨lk, hlk⟩ : ∃ lk, lk = X.length := ⟨_, rfl⟩
                rw [← hlk] at hX30 c8 hu8 hrl hk1 hk2
                replace hlk := Lib.hid hlk
                go_wp2_with (first
                  | (at_builtin; go_must (refine wpList_append_rd _ rfl (.tmp 96) (.tmp 100) 27 rfl w7.heap.size 3 i0 _ 1 8 Try.underlying27 hi0 hz0 hz1 hz2 rfl (by omega) _ 0 _ rfl hA8 lk _ (rowV X) rfl hu8 hrl hone8 ?_ ?_ ?_ ?_))
                  | fail)
                · unfold maxLen; omega
                · omega
                · exact hsz8
                intro v8 w8 o8 fr8
                try simp only [List.nil_append, Nat.zero_add] at o8
                have f8 : Fr noB w7 w8 := (((Fr.refl noB w7).alloc (.cells #[] 3)).mono (fun _ _ q => q)).trans fr8 (fun _ _ q => q) (fun i hi q => by have := (hA8.lt i q).1; omega)
                obtain ⟨a8, c8', rfl⟩ := ownsRow_slice o8
                have hA9 : (w8.alloc (.cells #[.int .i64 pb] 3)).ownsRow w7.heap.size 3 1 (.slice a8 lk c8') lk (rowV X) := ownsRow_fr o8 ((Fr.refl noB w8).alloc _) (fun _ _ q => q)
                have hN9 := cell_new w8 (.int .i64 pb) 3
                have hsz9 : w7.heap.size ≤ (w8.alloc (.cells #[.int .i64 pb] 3)).heap.size := Nat.le_trans f8.size ((Fr.refl noB w8).alloc (.cells #[.int .i64 pb] 3)).size
                clear hu8 hA8 fr8 o8 c8
                go_wp2_with (first
                  | (at_builtin; go_must (refine wpList_append_at _ rfl (.tmp 101) (.tmp 103) 27 rfl w7.heap.size 3 i0 _ 1 8 Try.underlying27 hi0 hz0 hz1 hz2 rfl (by omega) _ lk _ rfl hA9 ⟨w8.heap.size, 0, none⟩ 1 1 [.int .i64 pb] rfl rfl hN9 (one_int _ _) ?_ ?_ ?_ ?_))
                  | fail)
                · unfold maxLen; omega
                · omega
                · exact hsz9
                intro v9 w9 o9 gr9 _
                have f9 : Fr noB w7 w9 := (f8.alloc (.cells #[.int .i64 pb] 3)).grown gr9 (fun q hq hlt => by have := (hA9.lt q hq).1; omega)
                obtain ⟨a9, c9, rfl⟩ := ownsRow_slice o9
                have b9 := f9.blk bM (fun q => q)
                have hcu : curM[kq]? = U[kq]? := hcM.out kq hkq
                obtain ⟨uq, huq⟩ : ∃ uq, U[kq]? = some uq := ⟨_, List.getElem?_eq_getElem (by omega)⟩
                have c9' : w9.cell? ⟨mb, kq, none⟩ = some uq := by rw [b9.cell kq, hcu, huq]
                have z9 := b9.frozen kq
                have b10 := b9.set kq (.slice a9 (lk + 1) c9)
                have f10 : Fr (onlyB mb) w9 (w9.setCell ⟨mb, kq, none⟩ (.slice a9 (lk + 1) c9)) := (Fr.refl _ _).store rfl
                have g10 : Fr noB w (w9.setCell ⟨mb, kq, none⟩ (.slice a9 (lk + 1) c9)) := (g7.out.seqN f9).storeNew (by have := g6.out.size; omega)
                have r9 : RdI w9 (.slice a9 (lk + 1) c9) (X ++ [pb]) := RdI.of_own (n := lk + 1) (by simpa [rowV] using o9)
                have r10 := r9.fr f10 (fun g o n c e q => by
                  have : w7.heap.size ≤ g := by
                    simp only [Value.slice.injEq] at e
                    obtain ⟨rfl, _, _⟩ := e
                    exact addr_of9 o9 rfl
                  unfold onlyB at q; omega)
                have hnm10 : Nm (w9.setCell ⟨mb, kq, none⟩ (.slice a9 (lk + 1) c9)) (.slice (some ⟨mb, 0, none⟩) k cM) (G.set kq (X ++ [pb])) := by
                  refine ⟨some ⟨mb, 0, none⟩, cM, by rw [List.length_set, hn.out.out], ?_, fun i hi => ?_⟩
                  · rw [List.length_set, hn.out.out]
                    rcases oM.out.2 with ⟨h1, _⟩ | ⟨g', cap', cur', h1, h2, h3, h4, h5, h6, h7⟩
                    · cases h1
                    · cases h1; exact h4
                  · rw [List.length_set, hn.out.out] at hi
                    by_cases e : i = kq
                    · subst e
                      refine ⟨mb, 0, .slice a9 (lk + 1) c9, rfl, ?_, ?_⟩
                      · rw [Nat.zero_add, b10.cell i, List.getElem?_set]
                        have hil : i < curM.length := by
                          rcases Nat.lt_or_ge i curM.length with q | q
                          · exact q
                          · rw [List.getElem?_eq_none q, huq] at hcu; cases hcu
                        simp only [if_true, hil]
                      · have : (G.set i (X ++ [pb])).getD i [] = X ++ [pb] := by simp [List.getD, show i < G.length by rw [hn.out.out]; omega]
                        rw [this]; exact r10
                    · obtain ⟨ui, hui⟩ : ∃ ui, U[i]? = some ui := ⟨_, List.getElem?_eq_getElem (by omega)⟩
                      refine ⟨mb, 0, ui, rfl, ?_, ?_⟩
                      · rw [Nat.zero_add, b10.cell i, List.getElem?_set, if_neg (fun q => e q.symm), hcM.out i hi, hui]
                      · have : (G.set kq (X ++ [pb])).getD i [] = G.getD i [] := by simp [List.getD, List.getElem?_set, show kq ≠ i from fun q => e q.symm]
                        rw [this]
                        exact (hU.out i ui hui).2.1.fr g10 (fun _ _ _ _ _ q => q)
                have hR10 : ∀ l ∈ G.set kq (X ++ [pb]), l.length ≤ 1000 ∧ ∀ x ∈ l, okI x := fun l hl => by
                  rcases List.mem_or_eq_of_mem_set hl with q | rfl
                  · exact hR.out l q
                  · have := hsm.out kq hkq
                    rw [← hX.out] at this
                    refine ⟨by simp; omega, fun x hx => ?_⟩
                    rcases List.mem_append.1 hx with q | q
                    · exact hXok.out x q
                    · rw [List.mem_singleton.1 q]; exact hpb
                have hmore : ∀ i, Rch G f i → Rch (G.set kq (X ++ [pb])) f i := fun i hr => by
                  have := hr.more (b := pb) (k := kq)
                  rwa [← hX.out] at this
                replace hmore := Lib.hid hmore
                clear hA9 hN9 gr9 o9 b10 r9 r10 hcu
                go_wp2_with fail
                refine (creach_any f _ (G.set kq (X ++ [pb])) _ hnm10 hf (by rw [List.length_set]; exact hG1000.out) hR10).mono ?_
                rintro e w11 ⟨v11, A11, rfl, o11, p11, m11, f11⟩
                have hle : A.length ≤ A11.length := nodup_le (p2.out.imp (fun q => by omega)) (fun a ha => (m11 a).2 (hmore.out a ((m2.out a).1 ha)))
                rw [hal.out] at hle
                obtain ⟨a11, c11, rfl⟩ := ownsRow_slice o11
                have hled : decide (p ≤ A11.length) = true := by simpa using hle
                clear m11 p11 o11 hnm10 hR10
                generalize A11.length = l11 at *
                go_wp2_with fail
                go_ret
                exact ⟨rfl, g10.seqN f11⟩
end Go.Proofs.Ytbepkhldgfmmbaa
