/-
  msg: numbers, Pinned read.
-/
import Derived.Test.YtbmafogjmdilkaaGreatDoorMsPrint
import Derived.Deep.MidRow
set_option linter.unusedVariables false
set_option linter.unusedSimpArgs false
set_option maxRecDepth 100000
set_option maxRecDepth 100000
namespace Go.Proofs.YtbmafogjmdilkaaGreatDoor
open Go.RowKit Go Go.Lib

def nV (st : Option (List UInt8)) : Int := vI (st.bind (intS 0 1073741824))
def nS (st : Option (List UInt8)) : Option (List UInt8) := sI (st.bind (intS 0 1073741824))
def cV (st : Option (List UInt8)) : Int := vI (st.bind (intS 0 4))
def cS (st : Option (List UInt8)) : Option (List UInt8) := sI (st.bind (intS 0 4))
def bV (st : Option (List UInt8)) : Int := vI (st.bind (intS 0 1))
def bS (st : Option (List UInt8)) : Option (List UInt8) := sI (st.bind (intS 0 1))
theorem vI_lim (lo hi : Int) (h0 : lo ≤ 0) (h1 : 0 ≤ hi) (st : Option (List UInt8)) : 0 ≤ vI (st.bind (intS lo hi)) ∧ vI (st.bind (intS lo hi)) ≤ hi := by
  cases st with
  | none => exact ⟨by simp [vI], by simpa [vI] using h1⟩
  | some l =>
    simp only [Option.bind_some]
    unfold intS
    cases hn : numS 0 l with
    | none => exact ⟨by simp [vI], by simpa [vI] using h1⟩
    | some q =>
      obtain ⟨n, t⟩ := q
      simp only
      split
      · exact ⟨by simp [vI], by simpa [vI] using h1⟩
      · split
        · exact ⟨by simp [vI], by simpa [vI] using h1⟩
        · rename_i q1 q2
          simp [vI]
          omega
def crL : Nat → Option (List UInt8) → List Int × Option (List UInt8)
  | 0, st => ([], st)
  | k + 1, st => ((crL k st).1 ++ [nV (crL k st).2], nS (crL k st).2)
theorem crL_len : ∀ (k : Nat) (st : Option (List UInt8)), (crL k st).1.length = k
  | 0, _ => rfl
  | k + 1, st => by simp [crL, crL_len k st]
def pinR (st : Option (List UInt8)) : Pn × Option (List UInt8) :=
  (⟨nV st, nV (nS st), nV (nS (nS st)), nV (nS (nS (nS st))), (crL (cV (nS (nS (nS (nS st))))).toNat (cS (nS (nS (nS (nS st)))))).1, bV (crL (cV (nS (nS (nS (nS st))))).toNat (cS (nS (nS (nS (nS st)))))).2 == 1⟩,
   bS (crL (cV (nS (nS (nS (nS st))))).toNat (cS (nS (nS (nS (nS st)))))).2)

theorem num_any (p : Nat) (st : Option (List UInt8)) (w : World) (h : Rd w p st) :
    Calls Tryz.prog 55 #[.pointer (some ⟨p, 0, none⟩)] w fun e w' => e = .returned (.int .i64 (nV st)) ∧ Rd w' p (nS st) ∧ Fr (onlyB p) w w' := by
  have h1 := rint_any p st 0 1073741824 w h
  replace h1 := Lib.hid h1
  go_enter Tryz.func55, Tryz.ntmps55
  go_wp2_with fail
  refine h1.out.mono ?_
  rintro e w1 ⟨rfl, h2, h3⟩
  go_wp2_with fail
  go_ret
  exact ⟨rfl, h2, h3⟩
theorem Fr.onl {p : Nat} {a b c : World} (h : Fr (onlyB p) a b) (k : Fr (onlyB p) b c) : Fr (onlyB p) a c := h.trans k (fun _ _ q => q) (fun _ _ q => q)
theorem Tryz.infoInt : (Tryz.prog.info? 3).map (fun i => (i.zero, i.size, i.bytes)) = some (some (.int .i64 0), 1, 8) := by kernel_rfl
theorem set6m {w : World} {g i : Nat} {t : TypeId} {cs : List Value} {a b c d e f : Value} (h : Blk w g t cs) :
    Blk (w.setCells g i [a, b, c, d, e, f]) g t ((((((cs.set i a).set (i + 1) b).set (i + 1 + 1) c).set (i + 1 + 1 + 1) d).set (i + 1 + 1 + 1 + 1) e).set (i + 1 + 1 + 1 + 1 + 1) f) := by
  simp only [World.setCells]
  exact ((((((h.set i a).set _ b).set _ c).set _ d).set _ e).set _ f)
theorem fr_set6m {w : World} {g i : Nat} {a b c d e f : Value} : Fr (onlyB g) w (w.setCells g i [a, b, c, d, e, f]) := by
  simp only [World.setCells]
  exact (((((((Fr.refl (onlyB g) w).store rfl).store rfl).store rfl).store rfl).store rfl).store rfl)
theorem store6m (w : World) (g i : Nat) (a b c d e f : Value) : ∃ w2, w2 = w.setCells g i (#[a, b, c, d, e, f] : Array Value).toList ∧ Fr (onlyB g) w w2 ∧
    ∀ t cs, Blk w g t cs → Blk w2 g t ((((((cs.set i a).set (i + 1) b).set (i + 1 + 1) c).set (i + 1 + 1 + 1) d).set (i + 1 + 1 + 1 + 1) e).set (i + 1 + 1 + 1 + 1 + 1) f) :=
  ⟨_, rfl, fr_set6m, fun t cs h => set6m h⟩
theorem there6m {w : World} {g i n : Nat} {t : TypeId} {cs : List Value} (h : Blk w g t cs) (hn : i + n ≤ cs.length) : w.there g i n := fun j hj => by
  refine ⟨?_, Blk.frozen h _⟩
  rw [h.cell (i + j), List.getElem?_eq_getElem (by omega)]; rfl
theorem size_toldm : (Tryz.prog.info? 63).map (·.size) = some 6 := by kernel_rfl
theorem told_onem (a t j c : Int) (sa : Option Addr) (sn sc : Nat) (l : Bool) : (#[.int .i64 a, .int .i64 t, .int .i64 j, .int .i64 c, .slice sa sn sc, .bool l] : Array Value).all (·.oneCell') = true :=
  all_oneCell_toArray (cs := [.int .i64 a, .int .i64 t, .int .i64 j, .int .i64 c, .slice sa sn sc, .bool l]) (fun v hv => by
    simp only [List.mem_cons, List.not_mem_nil, or_false] at hv
    rcases hv with rfl | rfl | rfl | rfl | rfl | rfl <;> rfl)
theorem frz {w : World} {g i : Nat} {t : TypeId} {cs : List Value} (h : Blk w g t cs) : w.frozen? ⟨g, i, none⟩ = false := h.frozen i

set_option maxHeartbeats 4000000 in
theorem readPinned_any (p : Nat) (st : Option (List UInt8)) (w : World) (h : Rd w p st) (hp : p < w.heap.size) :
    Calls Tryz.prog 56 #[.pointer (some ⟨p, 0, none⟩)] w fun e w' => ∃ ua uc, e = .returned (.agg (pnC (pinR st).1 (.slice ua (pinR st).1.cr.length uc)).toArray) ∧ w'.ownsRow w.heap.size 3 1 (.slice ua (pinR st).1.cr.length uc) (pinR st).1.cr.length ((pinR st).1.cr.map (Value.int .i64)) ∧ Rd w' p (pinR st).2 ∧ Fr (onlyB p) w w' := by
  obtain ⟨i0, hi, hz0, hz1, hz2⟩ := info_parts Tryz.infoInt
  obtain ⟨W0, hW0⟩ : ∃ B, w.heap.size = B := ⟨_, rfl⟩
  have hpR : (pinR st).1 = ⟨nV st, nV (nS st), nV (nS (nS st)), nV (nS (nS (nS st))), (crL (cV (nS (nS (nS (nS st))))).toNat (cS (nS (nS (nS (nS st)))))).1, bV (crL (cV (nS (nS (nS (nS st))))).toNat (cS (nS (nS (nS (nS st)))))).2 == 1⟩ := rfl
  have hpS : (pinR st).2 = bS (crL (cV (nS (nS (nS (nS st))))).toNat (cS (nS (nS (nS (nS st)))))).2 := rfl
  rw [hpR, hpS]
  clear hpR hpS
  simp only [pnC]
  have hrd0 := h
  have f0 : Fr (onlyB p) w (w.alloc (.cells #[.int .i64 0, .int .i64 0, .int .i64 0, .int .i64 0, .slice none 0 0, .bool false] 63)) := (Fr.refl _ w).alloc _
  have rd1 : Rd (w.alloc (.cells #[.int .i64 0, .int .i64 0, .int .i64 0, .int .i64 0, .slice none 0 0, .bool false] 63)) p st := h.fr ((Fr.refl noB w).alloc _) (fun q => q)
  have b2 := Blk.new w 63 [.int .i64 0, .int .i64 0, .int .i64 0, .int .i64 0, .slice none 0 0, .bool false]
  have hs1 : (w.alloc (.cells #[.int .i64 0, .int .i64 0, .int .i64 0, .int .i64 0, .slice none 0 0, .bool false] 63)).heap.size = W0 + 1 := by rw [size_alloc, hW0]
  rw [hW0] at b2 hp
  have hpW : p ≠ W0 := by omega
  rw [hW0]
  go_enter Tryz.func56, Tryz.ntmps56
  go_wp2_with fail
  generalize (w.alloc (.cells #[.int .i64 0, .int .i64 0, .int .i64 0, .int .i64 0, .slice none 0 0, .bool false] 63)) = w1 at *
  go_fit (num_any p _ _ rd1)
  generalize hx1 : nV st = x1 at *
  replace hx1 := Lib.hid hx1
  generalize hs1q : nS st = s1 at *
  replace hs1q := Lib.hid hs1q
  rintro e w2 ⟨rfl, rd2, f2⟩
  go_wp2_with fail
  go_fit (num_any p _ _ rd2)
  generalize hx2 : nV s1 = x2 at *
  replace hx2 := Lib.hid hx2
  generalize hs2q : nS s1 = s2 at *
  replace hs2q := Lib.hid hs2q
  rintro e w3 ⟨rfl, rd3, f3⟩
  go_wp2_with fail
  go_fit (num_any p _ _ rd3)
  generalize hx3 : nV s2 = x3 at *
  replace hx3 := Lib.hid hx3
  generalize hs3q : nS s2 = s3 at *
  replace hs3q := Lib.hid hs3q
  rintro e w4 ⟨rfl, rd4, f4⟩
  go_wp2_with fail
  go_fit (num_any p _ _ rd4)
  generalize hx4 : nV s3 = x4 at *
  replace hx4 := Lib.hid hx4
  generalize hs4q : nS s3 = s4 at *
  replace hs4q := Lib.hid hs4q
  rintro e w5 ⟨rfl, rd5, f5⟩
  have f15 := ((f2.onl f3).onl f4).onl f5
  have fr5 := f0.onl f15
  have b5 := f15.blk b2 (fun q => hpW (by unfold onlyB at q; exact q.symm))
  have f6 : Fr noB w5 (w5.alloc (.cells #[.int .i64 x1, .int .i64 x2, .int .i64 x3, .int .i64 x4, .slice none 0 0, .bool false] 63)) := (Fr.refl _ _).alloc _
  have b6 := f6.blk b5 (fun q => q)
  have bm := Blk.new w5 63 [.int .i64 x1, .int .i64 x2, .int .i64 x3, .int .i64 x4, .slice none 0 0, .bool false]
  have rd6 := rd5.fr f6 (fun q => q)
  have fr6 := fr5.seqN f6
  have hs5 : W0 + 1 ≤ w5.heap.size := by have := f15.size; omega
  obtain ⟨gm, hgm⟩ : ∃ g, w5.heap.size = g := ⟨_, rfl⟩
  rw [hgm] at bm hs5
  have hs6 : (w5.alloc (.cells #[.int .i64 x1, .int .i64 x2, .int .i64 x3, .int .i64 x4, .slice none 0 0, .bool false] 63)).heap.size = gm + 1 := by rw [size_alloc, hgm]
  clear rd1 rd2 rd3 rd4 rd5 f0 f2 f3 f4 f5 f15 fr5 b2 b5 f6 h hrd0 hs1
  have hgmp : gm ≠ p := by omega
  have hgmW : gm ≠ W0 := by omega
  go_wp2_with fail
  generalize (w5.alloc (.cells #[.int .i64 x1, .int .i64 x2, .int .i64 x3, .int .i64 x4, .slice none 0 0, .bool false] 63)) = w6 at *
  go_fit (rint_any p _ 0 4 _ rd6)
  rintro e w7 ⟨rfl, rd7, f7⟩
  have hlim := vI_lim 0 4 (by omega) (by omega) s4
  rw [show vI (s4.bind (intS 0 4)) = cV s4 from rfl] at hlim ⊢
  rw [show sI (s4.bind (intS 0 4)) = cS s4 from rfl] at rd7
  obtain ⟨n, hn⟩ : ∃ n : Nat, cV s4 = n := ⟨(cV s4).toNat, by omega⟩
  rw [hn] at hlim ⊢
  have hnn : (cV s4).toNat = n := by omega
  have hn4 : n ≤ 4 := by omega
  generalize hscq : cS s4 = sc at *
  replace hscq := Lib.hid hscq
  have fr7 := fr6.onl f7
  have b7 := f7.blk b6 (fun q => by unfold onlyB at q; omega)
  have bm7 := f7.blk bm (fun q => by unfold onlyB at q; omega)
  have hs7 : gm + 1 ≤ w7.heap.size := by have := f7.size; omega
  clear rd6 f7 fr6 b6 bm hlim
  replace hn := Lib.hid hn
  replace hnn := Lib.hid hnn
  go_wp2_with fail
  go_loopg [15] n (fun gk vi wr => ∃ (k : Nat) (a : Option Addr) (c : Nat), k + gk = n ∧ vi = .int .i64 k ∧ Hid (Blk wr gm 63 [.int .i64 x1, .int .i64 x2, .int .i64 x3, .int .i64 x4, .slice a k c, .bool false]) ∧ Hid (Blk wr W0 63 [.int .i64 0, .int .i64 0, .int .i64 0, .int .i64 0, .slice none 0 0, .bool false]) ∧ Hid (wr.ownsRow W0 3 1 (.slice a k c) k ((crL k sc).1.map (Value.int .i64))) ∧ Hid (Rd wr p (crL k sc).2) ∧ Fr (onlyB p) w wr)
  case atStart => exact ⟨0, none, 0, by omega, rfl, Lib.hid bm7, Lib.hid b7, Lib.hid (World.ownsRow_nil _ _ _ _), Lib.hid rd7, fr7⟩
  case round =>
    clear rd7 fr7 b7 bm7 hs7 hs6
    obtain ⟨k, a, c, hkn, rfl, hbm, hb2, hown, hrd, fr⟩ := hrel
    by_cases hlt : k < n
    · have hb1 : (k : Int) < n := by omega
      have hmeas : n - (k + 1) < gk := by omega
      have hkn2 : k + 1 + (n - (k + 1)) = n := by omega
      have hcr : crL (k + 1) sc = ((crL k sc).1 ++ [nV (crL k sc).2], nS (crL k sc).2) := rfl
      have hnum := fun w' h => num_any p (crL k sc).2 w' h
      generalize nV (crL k sc).2 = y at *
      generalize nS (crL k sc).2 = sy at *
      have c4 : wr.cell? ⟨gm, 4, none⟩ = some (.slice a k c) := hbm.out.cell 4
      have hk4 : k ≤ 4 := by omega
      have hW : W0 ≤ wr.heap.size := by have := fr.size; omega
      replace hmeas := Lib.hid hmeas
      replace hkn2 := Lib.hid hkn2
      replace hcr := Lib.hid hcr
      replace hnum := Lib.hid hnum
      clear hlt hkn
      go_wp2_with fail
      go_region_law (first
        | (go_simp; go_at_call 55; refine (hnum.out _ (hrd.out.fr ((Fr.refl noB _).drewN 1) (fun q => q))).mono ?_; rintro e w8 ⟨rfl, rd8, f8⟩; have f8 := ((Fr.refl (onlyB p) wr).drewN 1).onl f8; have bm8 := f8.blk hbm.out (fun q => by unfold onlyB at q; omega); have ow8 := ownsRow_fr hown.out f8 (fun g hg q => by have := (hown.out.lt g hg).1; unfold onlyB at q; omega); have c8 : w8.cell? ⟨gm, 4, none⟩ = some (.slice a k c) := bm8.cell 4; have c8b : (w8.alloc (.cells #[.int .i64 y] 3)).cell? ⟨gm, 4, none⟩ = some (.slice a k c) := (((Fr.refl noB w8).alloc _).blk bm8 (fun q => q)).cell 4; have hW8 : W0 ≤ (w8.alloc (.cells #[.int .i64 y] 3)).heap.size := by { rw [size_alloc]; have := f8.size; omega })
        | (refine step_append_at rfl (.tmp 18) (.tmp 21) 22 rfl W0 3 i0 _ 1 8 Tryz.underlying22 hi hz0 hz1 hz2 rfl (by decide) (.slice a k c) k _ (by simp [Act.eval, Act.put]) (ow8.alloc _) ⟨w8.heap.size, 0, none⟩ 1 1 [.int .i64 y] (by simp [Act.eval, Act.put]) rfl (cell_new w8 _ _) (one_int _ _) (by unfold maxLen; omega) (by omega) hW8 ?_; intro v9 w9 o9 gr9 _; obtain ⟨a9, c9, rfl⟩ := ownsRow_slice o9; have f9 : Fr (rowB (.slice a k c)) (w8.alloc (.cells #[.int .i64 y] 3)) w9 := (Fr.refl _ _).grown gr9 (fun k hk _ => hk); have nr9 : ¬ rowB (.slice a k c) gm := row_not ow8 bm8 (by decide); have bm9 := f9.blk (((Fr.refl noB w8).alloc _).blk bm8 (fun q => q)) nr9; have z9 := bm9.frozen 4; have k9 : w9.cell? ⟨gm, 4, none⟩ = some (.slice a k c) := bm9.cell 4)
        | fail)
      all_goals (
        have fA : Fr noB w8 (w8.alloc (.cells #[.int .i64 y] 3)) := (Fr.refl _ _).alloc _
        have frA := (fr.onl f8).seqN fA
        have fr9 : Fr (onlyB p) w w9 := frA.trans f9 (fun _ _ q => q) (fun i hi q => by have := (hown.out.lt i q).1; omega)
        have hs9 : W0 ≤ w9.heap.size := by have := fr9.size; omega
        have b28 := f9.blk (fA.blk (f8.blk hb2.out (fun q => by unfold onlyB at q; omega)) (fun q => q)) (row_not ow8 (f8.blk hb2.out (fun q => by unfold onlyB at q; omega)) (by decide))
        have rd9 := (rd8.fr fA (fun q => q)).fr f9 (fun q => by have := (hown.out.lt p q).1; omega)
        have nrm : ∀ g, (Value.slice a9 (k + 1) c9).ownBlock = some g → ¬ onlyB gm g := fun g hg q => by
          unfold onlyB at q
          subst q
          exact row_not o9 bm9 (by decide) hg
        have fs : Fr (onlyB gm) w9 (w9.setCell ⟨gm, 4, none⟩ (.slice a9 (k + 1) c9)) := (Fr.refl _ _).store (onlyB_self gm)
        have bm10 := bm9.set 4 (.slice a9 (k + 1) c9)
        have b210 := fs.blk b28 (fun q => by unfold onlyB at q; omega)
        have rd10 := rd9.fr fs (fun q => by unfold onlyB at q; omega)
        have ow10 := ownsRow_fr o9 fs nrm
        have fr10 : Fr (onlyB p) w (w9.setCell ⟨gm, 4, none⟩ (.slice a9 (k + 1) c9)) := fr9.trans fs (fun _ _ q => q) (fun i hi q => by unfold onlyB at q; omega)
        rw [show (crL k sc).1.map (Value.int .i64) ++ [Value.int .i64 y] = ((crL (k + 1) sc).1.map (Value.int .i64)) by rw [hcr.out]; simp] at ow10
        rw [show sy = (crL (k + 1) sc).2 by rw [hcr.out]] at rd10
        generalize (w9.setCell ⟨gm, 4, none⟩ (.slice a9 (k + 1) c9)) = w10 at *
        replace bm10 := Lib.hid bm10
        replace b210 := Lib.hid b210
        replace rd10 := Lib.hid rd10
        replace ow10 := Lib.hid ow10
        clear f8 fA frA f9 fr9 bm8 bm9 b28 rd8 rd9 nrm fs ow8 o9 z9 c8 c8b k9
        go_wp2_with fail
        go_roundg (n - (k + 1))
        case rel => exact ⟨k + 1, a9, c9, hkn2.out, by go_num, bm10, b210, ow10, rd10, fr10⟩
        case measure => exact hmeas.out)
    · obtain rfl : k = n := by omega
      go_wp2_with fail
      go_fit (rint_any p _ 0 1 _ hrd.out)
      rintro e w8 ⟨rfl, rd8, f8⟩
      rw [show vI ((crL k sc).2.bind (intS 0 1)) = bV (crL k sc).2 from rfl]
      rw [show sI ((crL k sc).2.bind (intS 0 1)) = bS (crL k sc).2 from rfl] at rd8
      have fr8 := fr.onl f8
      have bm8 := f8.blk hbm.out (fun q => by unfold onlyB at q; omega)
      have b28 := f8.blk hb2.out (fun q => by unfold onlyB at q; omega)
      have ow8 := ownsRow_fr hown.out f8 (fun g hg q => by have := (hown.out.lt g hg).1; unfold onlyB at q; omega)
      have z8 := bm8.frozen 5
      have c8 : w8.cell? ⟨gm, 5, none⟩ = some (.bool false) := bm8.cell 5
      generalize hsl : (crL k sc).2 = sl at *
      generalize hxs : (crL k sc).1 = xs at *
      generalize hy : bV sl = y at *
      have hxl : xs.length = k := by rw [← hxs, crL_len]
      replace hsl := Lib.hid hsl
      replace hxs := Lib.hid hxs
      replace hy := Lib.hid hy
      replace hxl := Lib.hid hxl
      clear hbm hb2 hown hrd fr f8
      replace bm8 := Lib.hid bm8
      replace b28 := Lib.hid b28
      go_upto_region 7 with fail
      have fs : Fr (onlyB gm) w8 (w8.setCell ⟨gm, 5, none⟩ (.bool (y == 1))) := (Fr.refl _ _).store (onlyB_self gm)
      have bm9 := bm8.out.set 5 (.bool (y == 1))
      have b29 := fs.blk b28.out (fun q => by unfold onlyB at q; omega)
      have rd9 := rd8.fr fs (fun q => by unfold onlyB at q; omega)
      have ow9 := ownsRow_fr ow8 fs (fun g hg q => by
        unfold onlyB at q
        subst q
        exact row_not ow8 bm8.out (by decide) hg)
      have fr9 : Fr (onlyB p) w (w8.setCell ⟨gm, 5, none⟩ (.bool (y == 1))) := fr8.trans fs (fun _ _ q => q) (fun i hi q => by unfold onlyB at q; omega)
      generalize (w8.setCell ⟨gm, 5, none⟩ (.bool (y == 1))) = w9 at *
      have r1 : w9.rangeAt gm 0 [.int .i64 x1, .int .i64 x2, .int .i64 x3, .int .i64 x4, .slice a k c, .bool (y == 1)] := fun i u hu => by rw [Blk.cell bm9 (0 + i), Nat.zero_add]; exact hu
      have t1 : w9.there W0 0 6 := there6m b29 (by simp)
      have hsz6 : (Tryz.prog.info? 63).map (·.size) = some ([.int .i64 x1, .int .i64 x2, .int .i64 x3, .int .i64 x4, .slice a k c, .bool (y == 1)] : List Value).length := size_toldm
      have hsz6a : (Tryz.prog.info? 63).map (·.size) = some (#[.int .i64 x1, .int .i64 x2, .int .i64 x3, .int .i64 x4, .slice a k c, .bool (y == 1)] : Array Value).size := size_toldm
      have t1a : Hid (w9.there W0 0 (#[.int .i64 x1, .int .i64 x2, .int .i64 x3, .int .i64 x4, .slice a k c, .bool (y == 1)] : Array Value).size) := Lib.hid t1
      have hon6 := Lib.hid (told_onem x1 x2 x3 x4 a k c (y == 1))
      replace r1 := Lib.hid r1
      replace t1 := Lib.hid t1
      replace hsz6 := Lib.hid hsz6
      replace hsz6a := Lib.hid hsz6a
      replace b29 := Lib.hid b29
      replace rd9 := Lib.hid rd9
      replace ow9 := Lib.hid ow9
      replace fr9 := Lib.hid fr9
      clear bm8 b28 rd8 ow8 fr8 z8 c8 fs bm9
      go_wp2_with (first
        | (refine wpList_load_mid rfl 63 (.tmp 3) rfl gm 0 rfl [.int .i64 x1, .int .i64 x2, .int .i64 x3, .int .i64 x4, .slice a k c, .bool (y == 1)] _ r1.out Tryz.underlying63 rfl hsz6.out ?_)
        | (refine wpList_store_mid rfl 63 (.tmp 2) (.tmp 29) rfl W0 0 #[.int .i64 x1, .int .i64 x2, .int .i64 x3, .int .i64 x4, .slice a k c, .bool (y == 1)] rfl rfl t1a.out hsz6a.out hon6.out ?_; obtain ⟨w10, hw10, f10, h10⟩ := store6m w9 W0 0 (.int .i64 x1) (.int .i64 x2) (.int .i64 x3) (.int .i64 x4) (.slice a k c) (.bool (y == 1)); rw [← hw10]; clear hw10; have h10 := h10 _ _ b29.out; have f10 := Lib.hid f10)
        | fail)
      have q0 : w10.cell? ⟨W0, 0, none⟩ = some (.int .i64 x1) := h10.cell 0
      have q1 : w10.cell? ⟨W0, 1, none⟩ = some (.int .i64 x2) := h10.cell 1
      have q2 : w10.cell? ⟨W0, 2, none⟩ = some (.int .i64 x3) := h10.cell 2
      have q3 : w10.cell? ⟨W0, 3, none⟩ = some (.int .i64 x4) := h10.cell 3
      have q4 : w10.cell? ⟨W0, 4, none⟩ = some (.slice a k c) := h10.cell 4
      have q5 : w10.cell? ⟨W0, 5, none⟩ = some (.bool (y == 1)) := h10.cell 5
      have frA : Fr (onlyB p) w w10 := fr9.out.trans f10.out (fun _ _ q => q) (fun i hi q => by unfold onlyB at q; omega)
      have rdA := rd9.out.fr f10.out (fun q => by unfold onlyB at q; omega)
      have owA := ownsRow_fr ow9.out f10.out (fun g hg q => by
        unfold onlyB at q
        subst q
        exact row_not ow9.out b29.out (by decide) hg)
      clear h10 f10 rd9 ow9 fr9 r1 t1 t1a hsz6 hsz6a hon6 b29
      try go_wp2_with fail
      refine bodyPost_ret (by simp [results, Tryz.results56, go_sem, q0, q1, q2, q3, q4, q5]; try rfl) rfl ?_
      simp only [hx1.out, hs1q.out, hx2.out, hs2q.out, hx3.out, hs3q.out, hx4.out, hs4q.out, hscq.out, hnn.out, hsl.out, hxs.out, hy.out, hxl.out]
      exact ⟨a, c, rfl, owA, rdA, frA⟩
end Go.Proofs.YtbmafogjmdilkaaGreatDoor
