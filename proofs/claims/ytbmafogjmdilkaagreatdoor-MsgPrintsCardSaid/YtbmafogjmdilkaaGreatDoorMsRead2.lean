/-
  msg: a Manifest read.
-/
import Derived.Test.YtbmafogjmdilkaaGreatDoorMsRead
set_option linter.unusedVariables false
set_option linter.unusedSimpArgs false
set_option maxRecDepth 100000
set_option maxRecDepth 100000
namespace Go.Proofs.YtbmafogjmdilkaaGreatDoor
open Go.RowKit Go Go.Lib

theorem own_apartm {w : World} {B B' e e' k k' n m : Nat} {v u : Value} {xs ys : List Value} (h : w.ownsRow B e k v n xs) (h' : w.ownsRow B' e' k' u m ys) (he : e ≠ e') : ∀ g, v.ownBlock = some g → ¬ rowB u g := by
  intro g hg q
  unfold rowB at q
  rcases h.2 with ⟨rfl, _⟩ | ⟨g1, cap, cur, rfl, _, hh, _⟩
  · simp [Value.ownBlock] at hg
  rcases h'.2 with ⟨rfl, _⟩ | ⟨g2, cap2, cur2, rfl, _, hh2, _⟩
  · simp [Value.ownBlock] at q
  simp [Value.ownBlock] at hg q
  subst hg
  subst q
  rw [hh] at hh2
  simp only [Option.some.injEq, Obj.cells.injEq] at hh2
  exact he hh2.2.1
def psL : Nat → Option (List UInt8) → List Pn × Option (List UInt8)
  | 0, st => ([], st)
  | k + 1, st => ((psL k st).1 ++ [(pinR (psL k st).2).1], (pinR (psL k st).2).2)
theorem psL_len : ∀ (k : Nat) (st : Option (List UInt8)), (psL k st).1.length = k
  | 0, _ => rfl
  | k + 1, st => by simp [psL, psL_len k st]
/-- a part, and where its crumbs lie -/
structure PU where
  p : Pn
  a : Option Addr
  c : Nat
def PU.v (q : PU) : Value := .slice q.a q.p.cr.length q.c
def PU.cs (q : PU) : List Value := pnC q.p q.v
theorem PU.len (P : List PU) : (P.flatMap PU.cs).length = P.length * 6 := by
  induction P with
  | nil => rfl
  | cons s L ih =>
    rw [List.flatMap_cons, List.length_append, ih, List.length_cons]
    simp [PU.cs, pnC]
    omega
theorem PU.get : ∀ (L : List PU) (i q : Nat) (m : PU), L[i]? = some m → q < 6 → (L.flatMap PU.cs)[i * 6 + q]? = m.cs[q]?
  | [], i, q, m, h, _ => by simp at h
  | x :: r, 0, q, m, h, hq => by
    simp at h; subst h
    rw [List.flatMap_cons, List.getElem?_append_left (by simp [PU.cs, pnC]; omega)]
    congr 1; omega
  | x :: r, i + 1, q, m, h, hq => by
    have hl : x.cs.length = 6 := rfl
    rw [List.flatMap_cons, List.getElem?_append_right (by rw [hl]; omega), hl, show (i + 1) * 6 + q - 6 = i * 6 + q by omega]
    exact PU.get r i q m (by simpa using h) hq
def OwnPU (w : World) (B : Nat) (P : List PU) : Prop := ∀ q ∈ P, w.ownsRow B 3 1 q.v q.p.cr.length (q.p.cr.map (Value.int .i64))
theorem OwnPU.fr {w w' : World} {B : Nat} {S : Nat → Prop} {P : List PU} (h : OwnPU w B P) (f : Fr S w w') (hS : ∀ q ∈ P, ∀ g, q.v.ownBlock = some g → ¬ S g) : OwnPU w' B P := fun p hp => ownsRow_fr (h p hp) f (hS p hp)
theorem RdPs.of_own {w : World} {B n : Nat} {v : Value} {P : List PU} {ps : List Pn} (h : w.ownsRow B 63 6 v n (P.flatMap PU.cs)) (ho : OwnPU w B P) (hp : P.map PU.p = ps) (hn : P.length = n) (hb : n ≤ 1000000) : RdPs w v ps := by
  have hl : ps.length = n := by rw [← hp, List.length_map]; exact hn
  rcases h.2 with ⟨rfl, h1⟩ | ⟨g, cap, cur, rfl, hb, hg, hnc, hcm, hcs, htake⟩
  · refine ⟨none, 0, by rw [hl, h1], by omega, by omega, fun i p hi => ?_⟩
    rw [List.eq_nil_of_length_eq_zero (by omega : ps.length = 0)] at hi
    simp at hi
  · refine ⟨_, cap, by rw [hl], by omega, by omega, fun i p hi => ?_⟩
    rw [← hp, List.getElem?_map] at hi
    cases hq : P[i]? with
    | none => rw [hq] at hi; cases hi
    | some u =>
      rw [hq] at hi
      simp at hi
      subst hi
      refine ⟨g, 0, u.a, u.c, rfl, fun q x hx => ?_, RdI.of_own (ho u (List.mem_of_getElem? hq))⟩
      have hq6 : q < 6 := (List.getElem?_eq_some_iff.1 hx).1
      have h2 := PU.get P i q u hq hq6
      have h3 := h.cells (g := g) rfl (i * 6 + q) x (by rw [h2]; exact hx)
      rw [add_none] at h3
      exact h3
def manR (st : Option (List UInt8)) : (Int × Int × Int × List Pn) × Option (List UInt8) :=
  ((nV st, nV (nS st), nV (nS (nS st)), (psL (cV (nS (nS (nS st)))).toNat (cS (nS (nS (nS st))))).1), (psL (cV (nS (nS (nS st)))).toNat (cS (nS (nS (nS st))))).2)

theorem set4m {w : World} {g i : Nat} {t : TypeId} {cs : List Value} {a b c d : Value} (h : Blk w g t cs) :
    Blk (w.setCells g i [a, b, c, d]) g t ((((cs.set i a).set (i + 1) b).set (i + 1 + 1) c).set (i + 1 + 1 + 1) d) := by
  simp only [World.setCells]
  exact ((((h.set i a).set _ b).set _ c).set _ d)
theorem fr_set4m {w : World} {g i : Nat} {a b c d : Value} : Fr (onlyB g) w (w.setCells g i [a, b, c, d]) := by
  simp only [World.setCells]
  exact (((((Fr.refl (onlyB g) w).store rfl).store rfl).store rfl).store rfl)
theorem store4m (w : World) (g i : Nat) (a b c d : Value) : ∃ w2, w2 = w.setCells g i (#[a, b, c, d] : Array Value).toList ∧ Fr (onlyB g) w w2 ∧
    ∀ t cs, Blk w g t cs → Blk w2 g t ((((cs.set i a).set (i + 1) b).set (i + 1 + 1) c).set (i + 1 + 1 + 1) d) :=
  ⟨_, rfl, fr_set4m, fun t cs h => set4m h⟩
theorem size_man : (Tryz.prog.info? 69).map (·.size) = some 4 := by kernel_rfl
theorem man_one (a t j : Int) (sa : Option Addr) (sn sc : Nat) : (#[.int .i64 a, .int .i64 t, .int .i64 j, .slice sa sn sc] : Array Value).all (·.oneCell') = true :=
  all_oneCell_toArray (cs := [.int .i64 a, .int .i64 t, .int .i64 j, .slice sa sn sc]) (fun v hv => by
    simp only [List.mem_cons, List.not_mem_nil, or_false] at hv
    rcases hv with rfl | rfl | rfl | rfl <;> rfl)
theorem Tryz.infoPinned : (Tryz.prog.info? 63).map (fun i => (i.zero, i.size, i.bytes)) = some (some (.agg #[.int .i64 0, .int .i64 0, .int .i64 0, .int .i64 0, .slice none 0 0, .bool false]), 6, 64) := by kernel_rfl
theorem pu_one (q : PU) : ∀ u ∈ q.cs, u.oneCell' = true := by
  intro u hu
  unfold PU.cs pnC PU.v at hu
  simp only [List.mem_cons, List.not_mem_nil, or_false] at hu
  rcases hu with rfl | rfl | rfl | rfl | rfl | rfl <;> rfl

set_option maxHeartbeats 4000000 in
theorem readManifest_any (p : Nat) (st : Option (List UInt8)) (w : World) (h : Rd w p st) (hp : p < w.heap.size) :
    Calls Tryz.prog 58 #[.pointer (some ⟨p, 0, none⟩)] w fun e w' => ∃ a n c, e = .returned (.agg #[.int .i64 (manR st).1.1, .int .i64 (manR st).1.2.1, .int .i64 (manR st).1.2.2.1, .slice a n c]) ∧ RdPs w' (.slice a n c) (manR st).1.2.2.2 ∧ Rd w' p (manR st).2 ∧ Fr (onlyB p) w w' := by
  obtain ⟨i0, hi, hz0, hz1, hz2⟩ := info_parts Tryz.infoPinned
  obtain ⟨W0, hW0⟩ : ∃ B, w.heap.size = B := ⟨_, rfl⟩
  simp only [manR]
  have f0 : Fr (onlyB p) w (w.alloc (.cells #[.int .i64 0, .int .i64 0, .int .i64 0, .slice none 0 0] 69)) := (Fr.refl _ w).alloc _
  have rd1 : Rd (w.alloc (.cells #[.int .i64 0, .int .i64 0, .int .i64 0, .slice none 0 0] 69)) p st := h.fr ((Fr.refl noB w).alloc _) (fun q => q)
  have b2 := Blk.new w 69 [.int .i64 0, .int .i64 0, .int .i64 0, .slice none 0 0]
  have hs1 : (w.alloc (.cells #[.int .i64 0, .int .i64 0, .int .i64 0, .slice none 0 0] 69)).heap.size = W0 + 1 := by rw [size_alloc, hW0]
  rw [hW0] at b2 hp
  have hpW : p ≠ W0 := by omega
  clear h
  go_enter Tryz.func58, Tryz.ntmps58
  go_wp2_with fail
  generalize (w.alloc (.cells #[.int .i64 0, .int .i64 0, .int .i64 0, .slice none 0 0] 69)) = w1 at *
  go_fit (num_any p _ _ rd1)
  generalize hx1 : nV st = x1 at *
  replace hx1 := Lib.hid hx1
  generalize hs1q : nS st = s1 at *
  replace hs1q := Lib.hid hs1q
  rintro e w2 ⟨rfl, rd2, f2⟩
  go_wp2_with fail
  go_fit (num_any p _ _ rd2)
  generalize hx2 : nV s1 = x2 at *
  replace hx2 := Lib.hid hx2
  generalize hs2q : nS s1 = s2 at *
  replace hs2q := Lib.hid hs2q
  rintro e w3 ⟨rfl, rd3, f3⟩
  go_wp2_with fail
  go_fit (num_any p _ _ rd3)
  generalize hx3 : nV s2 = x3 at *
  replace hx3 := Lib.hid hx3
  generalize hs3q : nS s2 = s4 at *
  replace hs3q := Lib.hid hs3q
  rintro e w5 ⟨rfl, rd5, f5⟩
  have f15 := (f2.onl f3).onl f5
  have fr5 := f0.onl f15
  have b5 := f15.blk b2 (fun q => hpW (by unfold onlyB at q; exact q.symm))
  have f6 : Fr noB w5 (w5.alloc (.cells #[.int .i64 x1, .int .i64 x2, .int .i64 x3, .slice none 0 0] 69)) := (Fr.refl _ _).alloc _
  have b6 := f6.blk b5 (fun q => q)
  have bm := Blk.new w5 69 [.int .i64 x1, .int .i64 x2, .int .i64 x3, .slice none 0 0]
  have rd6 := rd5.fr f6 (fun q => q)
  have fr6 := fr5.seqN f6
  have hs5 : W0 + 1 ≤ w5.heap.size := by have := f15.size; omega
  obtain ⟨gm, hgm⟩ : ∃ g, w5.heap.size = g := ⟨_, rfl⟩
  rw [hgm] at bm hs5
  have hs6 : (w5.alloc (.cells #[.int .i64 x1, .int .i64 x2, .int .i64 x3, .slice none 0 0] 69)).heap.size = gm + 1 := by rw [size_alloc, hgm]
  clear rd1 rd2 rd3 rd5 f0 f2 f3 f5 f15 fr5 b2 b5 f6 hs1
  have hgmp : gm ≠ p := by omega
  have hgmW : gm ≠ W0 := by omega
  go_wp2_with fail
  generalize (w5.alloc (.cells #[.int .i64 x1, .int .i64 x2, .int .i64 x3, .slice none 0 0] 69)) = w6 at *
  go_fit (rint_any p _ 0 4 _ rd6)
  rintro e w7 ⟨rfl, rd7, f7⟩
  have hlim := vI_lim 0 4 (by omega) (by omega) s4
  rw [show vI (s4.bind (intS 0 4)) = cV s4 from rfl] at hlim ⊢
  rw [show sI (s4.bind (intS 0 4)) = cS s4 from rfl] at rd7
  obtain ⟨n, hn⟩ : ∃ n : Nat, cV s4 = n := ⟨(cV s4).toNat, by omega⟩
  rw [hn] at hlim ⊢
  have hnn : (cV s4).toNat = n := by omega
  have hn4 : n ≤ 4 := by omega
  generalize hscq : cS s4 = sc at *
  replace hscq := Lib.hid hscq
  have fr7 := fr6.onl f7
  have b7 := f7.blk b6 (fun q => by unfold onlyB at q; omega)
  have bm7 := f7.blk bm (fun q => by unfold onlyB at q; omega)
  clear rd6 f7 fr6 b6 bm hlim
  replace hn := Lib.hid hn
  replace hnn := Lib.hid hnn
  go_wp2_with fail
  go_loopg [13] n (fun gk vi wr => ∃ (k : Nat) (a : Option Addr) (c : Nat) (P : List PU), k + gk = n ∧ vi = .int .i64 k ∧ Hid (P.map PU.p = (psL k sc).1) ∧ Hid (P.length = k) ∧ Hid (OwnPU wr W0 P) ∧ Hid (Blk wr gm 69 [.int .i64 x1, .int .i64 x2, .int .i64 x3, .slice a k c]) ∧ Hid (Blk wr W0 69 [.int .i64 0, .int .i64 0, .int .i64 0, .slice none 0 0]) ∧ Hid (wr.ownsRow W0 63 6 (.slice a k c) k (P.flatMap PU.cs)) ∧ Hid (Rd wr p (psL k sc).2) ∧ Fr (onlyB p) w wr)
  case atStart => exact ⟨0, none, 0, [], by omega, rfl, Lib.hid rfl, Lib.hid rfl, Lib.hid (fun q hq => by simp at hq), Lib.hid bm7, Lib.hid b7, Lib.hid (World.ownsRow_nil _ _ _ _), Lib.hid rd7, fr7⟩
  case round =>
    clear rd7 fr7 b7 bm7 hs6
    obtain ⟨k, a, c, P, hkn, rfl, hPf, hPl, hPo, hbm, hb2, hown, hrd, fr⟩ := hrel
    by_cases hlt : k < n
    · have hb1 : (k : Int) < n := by omega
      have hmeas : n - (k + 1) < gk := by omega
      have hkn2 : k + 1 + (n - (k + 1)) = n := by omega
      have hcr : psL (k + 1) sc = ((psL k sc).1 ++ [(pinR (psL k sc).2).1], (pinR (psL k sc).2).2) := rfl
      have hW : W0 ≤ wr.heap.size := by have := fr.size; omega
      have hpw : p < wr.heap.size := by omega
      have hnum := fun w' h h2 => readPinned_any p (psL k sc).2 w' h h2
      generalize (pinR (psL k sc).2).1 = pn at *
      generalize (pinR (psL k sc).2).2 = sy at *
      have c4 : wr.cell? ⟨gm, 3, none⟩ = some (.slice a k c) := hbm.out.cell 3
      have hk4 : k ≤ 4 := by omega
      generalize hcl : pn.cr.length = cl at *
      replace hcl := Lib.hid hcl
      replace hmeas := Lib.hid hmeas
      replace hkn2 := Lib.hid hkn2
      replace hcr := Lib.hid hcr
      replace hnum := Lib.hid hnum
      clear hlt hkn
      go_wp2_with fail
      go_region_law (first
        | (go_simp; go_at_call 56; refine (hnum.out _ (hrd.out.fr ((Fr.refl noB _).drewN 1) (fun q => q)) hpw).mono ?_; rintro e w8 ⟨ua, uc, rfl, ou8, rd8, f8⟩; simp only [pnC]; have f8 := ((Fr.refl (onlyB p) wr).drewN 1).onl f8; have bm8 := f8.blk hbm.out (fun q => by unfold onlyB at q; omega); have ow8 := ownsRow_fr hown.out f8 (fun g hg q => by have := (hown.out.lt g hg).1; unfold onlyB at q; omega); have c8 : w8.cell? ⟨gm, 3, none⟩ = some (.slice a k c) := bm8.cell 3; have z8 := bm8.frozen 3; have c8b : (w8.alloc (.cells #[.int .i64 pn.a, .int .i64 pn.t, .int .i64 pn.j, .int .i64 pn.n, .slice ua cl uc, .bool pn.lo] 63)).cell? ⟨gm, 3, none⟩ = some (.slice a k c) := (((Fr.refl noB w8).alloc _).blk bm8 (fun q => q)).cell 3; have hW8 : W0 ≤ (w8.alloc (.cells #[.int .i64 pn.a, .int .i64 pn.t, .int .i64 pn.j, .int .i64 pn.n, .slice ua cl uc, .bool pn.lo] 63)).heap.size := by { rw [size_alloc]; have := f8.size; omega })
        | (refine step_append_at rfl (.tmp 16) (.tmp 19) 67 rfl W0 63 i0 _ 6 64 Tryz.underlying67 hi hz0 hz1 hz2 rfl (by decide) (.slice a k c) k _ (by simp [Act.eval, Act.put]) (ow8.alloc _) ⟨w8.heap.size, 0, none⟩ 1 1 [.int .i64 pn.a, .int .i64 pn.t, .int .i64 pn.j, .int .i64 pn.n, .slice ua cl uc, .bool pn.lo] (by simp [Act.eval, Act.put]) rfl (news_at w8 _ _) (by intro u hu; simp only [List.mem_cons, List.not_mem_nil, or_false] at hu; rcases hu with rfl | rfl | rfl | rfl | rfl | rfl <;> rfl) (by unfold maxLen; omega) (by omega) hW8 ?_; intro v9 w9 o9 gr9 _; obtain ⟨a9, c9, rfl⟩ := ownsRow_slice o9; have f9 : Fr (rowB (.slice a k c)) (w8.alloc (.cells #[.int .i64 pn.a, .int .i64 pn.t, .int .i64 pn.j, .int .i64 pn.n, .slice ua cl uc, .bool pn.lo] 63)) w9 := (Fr.refl _ _).grown gr9 (fun k hk _ => hk); have nr9 : ¬ rowB (.slice a k c) gm := row_not ow8 bm8 (by decide); have bm9 := f9.blk (((Fr.refl noB w8).alloc _).blk bm8 (fun q => q)) nr9; have z9 := bm9.frozen 3; have k9 : w9.cell? ⟨gm, 3, none⟩ = some (.slice a k c) := bm9.cell 3)
        | fail)
      all_goals (
        have fA : Fr noB w8 (w8.alloc (.cells #[.int .i64 pn.a, .int .i64 pn.t, .int .i64 pn.j, .int .i64 pn.n, .slice ua cl uc, .bool pn.lo] 63)) := (Fr.refl _ _).alloc _
        have frA := (fr.onl f8).seqN fA
        have fr9 : Fr (onlyB p) w w9 := frA.trans f9 (fun _ _ q => q) (fun i hi q => by have := (hown.out.lt i q).1; omega)
        have b28 := f9.blk (fA.blk (f8.blk hb2.out (fun q => by unfold onlyB at q; omega)) (fun q => q)) (row_not ow8 (f8.blk hb2.out (fun q => by unfold onlyB at q; omega)) (by decide))
        have rd9 := (rd8.fr fA (fun q => q)).fr f9 (fun q => by have := (hown.out.lt p q).1; omega)
        have nrm : ∀ g, (Value.slice a9 (k + 1) c9).ownBlock = some g → ¬ onlyB gm g := fun g hg q => by
          unfold onlyB at q
          subst q
          exact row_not o9 bm9 (by decide) hg
        have fs : Fr (onlyB gm) w9 (w9.setCell ⟨gm, 3, none⟩ (.slice a9 (k + 1) c9)) := (Fr.refl _ _).store (onlyB_self gm)
        have ouB := ownsRow_mono ou8 hW
        have hP8 : OwnPU w8 W0 P := hPo.out.fr f8 (fun q hq g hg qq => by have := ((hPo.out q hq).lt g hg).1; unfold onlyB at qq; omega)
        have hP9a : OwnPU w8 W0 (P ++ [PU.mk pn ua uc]) := fun q hq => by
          rcases List.mem_append.1 hq with hq | hq
          · exact hP8 q hq
          · simp at hq; subst hq; simp only [PU.v]; rw [hcl.out]; exact ouB
        have hP9 : OwnPU w9 W0 (P ++ [PU.mk pn ua uc]) := (hP9a.fr fA (fun _ _ _ _ q => q)).fr f9 (fun q hq g hg => own_apartm (hP9a q hq) ow8 (by decide) g hg)
        have hP10 := hP9.fr fs (fun q hq g hg qq => by
          unfold onlyB at qq
          subst qq
          exact row_not (hP9 q hq) bm9 (by decide) hg)
        have bm10 := bm9.set 3 (.slice a9 (k + 1) c9)
        have b210 := fs.blk b28 (fun q => by unfold onlyB at q; omega)
        have rd10 := rd9.fr fs (fun q => by unfold onlyB at q; omega)
        have ow10 := ownsRow_fr o9 fs nrm
        have fr10 : Fr (onlyB p) w (w9.setCell ⟨gm, 3, none⟩ (.slice a9 (k + 1) c9)) := fr9.trans fs (fun _ _ q => q) (fun i hi q => by unfold onlyB at q; omega)
        rw [show P.flatMap PU.cs ++ [.int .i64 pn.a, .int .i64 pn.t, .int .i64 pn.j, .int .i64 pn.n, .slice ua cl uc, .bool pn.lo] = (P ++ [PU.mk pn ua uc]).flatMap PU.cs by rw [List.flatMap_append]; simp [PU.cs, PU.v, pnC, hcl.out]] at ow10
        rw [show sy = (psL (k + 1) sc).2 by rw [hcr.out]] at rd10
        have hPf2 : (P ++ [PU.mk pn ua uc]).map PU.p = (psL (k + 1) sc).1 := by rw [hcr.out, List.map_append, hPf.out]; rfl
        have hPl2 : (P ++ [PU.mk pn ua uc]).length = k + 1 := by rw [List.length_append, hPl.out]; rfl
        generalize (w9.setCell ⟨gm, 3, none⟩ (.slice a9 (k + 1) c9)) = w10 at *
        generalize P ++ [PU.mk pn ua uc] = P2 at *
        replace bm10 := Lib.hid bm10
        replace b210 := Lib.hid b210
        replace rd10 := Lib.hid rd10
        replace ow10 := Lib.hid ow10
        replace hP10 := Lib.hid hP10
        replace hPf2 := Lib.hid hPf2
        replace hPl2 := Lib.hid hPl2
        clear f8 fA frA f9 fr9 bm8 bm9 b28 rd8 rd9 nrm fs ow8 o9 z9 c8 c8b k9 ou8 ouB hP8 hP9a hP9
        go_wp2_with fail
        go_roundg (n - (k + 1))
        case rel => exact ⟨k + 1, a9, c9, P2, hkn2.out, by go_num, hPf2, hPl2, hP10, bm10, b210, ow10, rd10, fr10⟩
        case measure => exact hmeas.out)
    · obtain rfl : k = n := by omega
      have bm9 := hbm.out
      have b29 := hb2.out
      have r1 : wr.rangeAt gm 0 [.int .i64 x1, .int .i64 x2, .int .i64 x3, .slice a k c] := fun i u hu => by rw [Blk.cell bm9 (0 + i), Nat.zero_add]; exact hu
      have t1 : wr.there W0 0 4 := there6m b29 (by simp)
      have hsz6 : (Tryz.prog.info? 69).map (·.size) = some ([.int .i64 x1, .int .i64 x2, .int .i64 x3, .slice a k c] : List Value).length := size_man
      have hsz6a : (Tryz.prog.info? 69).map (·.size) = some (#[.int .i64 x1, .int .i64 x2, .int .i64 x3, .slice a k c] : Array Value).size := size_man
      have t1a : Hid (wr.there W0 0 (#[.int .i64 x1, .int .i64 x2, .int .i64 x3, .slice a k c] : Array Value).size) := Lib.hid t1
      have hon6 := Lib.hid (man_one x1 x2 x3 a k c)
      have hrps : RdPs wr (.slice a k c) (psL k sc).1 := RdPs.of_own hown.out hPo.out hPf.out hPl.out (by omega)
      have hP9 := hPo.out
      generalize hsl : (psL k sc).2 = sl at *
      generalize hxs : (psL k sc).1 = xs at *
      replace hsl := Lib.hid hsl
      replace hxs := Lib.hid hxs
      replace r1 := Lib.hid r1
      replace t1 := Lib.hid t1
      replace hsz6 := Lib.hid hsz6
      replace hsz6a := Lib.hid hsz6a
      replace b29 := Lib.hid b29
      replace hrps := Lib.hid hrps
      replace hP9 := Lib.hid hP9
      clear bm9
      go_wp2_with (first
        | (refine wpList_load_mid rfl 69 (.tmp 3) rfl gm 0 rfl [.int .i64 x1, .int .i64 x2, .int .i64 x3, .slice a k c] _ r1.out Tryz.underlying69 rfl hsz6.out ?_)
        | (refine wpList_store_mid rfl 69 (.tmp 2) (.tmp 23) rfl W0 0 #[.int .i64 x1, .int .i64 x2, .int .i64 x3, .slice a k c] rfl rfl t1a.out hsz6a.out hon6.out ?_; obtain ⟨w10, hw10, f10, h10⟩ := store4m wr W0 0 (.int .i64 x1) (.int .i64 x2) (.int .i64 x3) (.slice a k c); rw [← hw10]; clear hw10; have h10 := h10 _ _ b29.out; have f10 := Lib.hid f10)
        | fail)
      have q0 : w10.cell? ⟨W0, 0, none⟩ = some (.int .i64 x1) := h10.cell 0
      have q1 : w10.cell? ⟨W0, 1, none⟩ = some (.int .i64 x2) := h10.cell 1
      have q2 : w10.cell? ⟨W0, 2, none⟩ = some (.int .i64 x3) := h10.cell 2
      have q3 : w10.cell? ⟨W0, 3, none⟩ = some (.slice a k c) := h10.cell 3
      have frA : Fr (onlyB p) w w10 := fr.trans f10.out (fun _ _ q => q) (fun i hi q => by unfold onlyB at q; omega)
      have rdA := hrd.out.fr f10.out (fun q => by unfold onlyB at q; omega)
      have owA := ownsRow_fr hown.out f10.out (fun g hg q => by
        unfold onlyB at q
        subst q
        exact row_not hown.out b29.out (by decide) hg)
      have hPA := hP9.out.fr f10.out (fun q hq g hg qq => by
        unfold onlyB at qq
        subst qq
        exact row_not (hP9.out q hq) b29.out (by decide) hg)
      have hrpA : RdPs w10 (.slice a k c) xs := RdPs.of_own owA hPA hPf.out hPl.out (by omega)
      clear h10 f10 r1 t1 t1a hsz6 hsz6a hon6 b29
      try go_wp2_with fail
      refine bodyPost_ret (by simp [results, Tryz.results58, go_sem, q0, q1, q2, q3]; try rfl) rfl ?_
      simp only [hx1.out, hs1q.out, hx2.out, hs2q.out, hx3.out, hs3q.out, hscq.out, hnn.out, hsl.out, hxs.out]
      exact ⟨a, k, c, rfl, hrpA, rdA, frA⟩
end Go.Proofs.YtbmafogjmdilkaaGreatDoor
