/-
  seglog: a record's text is read.
-/
import Derived.Test.YtdmhnoffejjpnaaGreatDoorZAP
import Derived.Test.YtdmhnoffejjpnaaGreatDoorZAT
import Derived.Test.YtdmhnoffejjpnaaGreatDoorZAE
import Derived.Deep.LoopGhost
import Derived.Deep.MidRow
import Derived.Deep.DeepMust
section
set_option linter.unusedVariables false
set_option linter.unusedSimpArgs false
set_option maxRecDepth 100000
set_option maxRecDepth 100000
namespace Go.Proofs.YtdmhnoffejjpnaaGreatDoor
open Go.RowKit Go Go.Lib

/-- what is made so far -/
structure RdO (w : World) (W0 p gm : Nat) (tr jb cl : Int) (L : List Pt) (k : Nat) (a : Option Addr) (c : Nat) (U : List SU) : Prop where
  bm : Blk w gm 63 [.int .i64 tr, .int .i64 jb, .int .i64 cl, .bool false, .slice a k c]
  b0 : Blk w W0 63 [.int .i64 0, .int .i64 0, .int .i64 0, .bool false, .slice none 0 0]
  row : w.ownsRow (gm + 1) 112 4 (.slice a k c) k (U.flatMap SU.cs)
  own : OwnSU w (gm + 1) U
  map : U.map SU.x = L.take k
  ne : W0 < p ∧ p < gm
theorem RdO.fr {S : Nat → Prop} {w w' : World} {W0 p gm : Nat} {tr jb cl : Int} {L : List Pt} {k : Nat} {a : Option Addr} {c : Nat} {U : List SU} (h : RdO w W0 p gm tr jb cl L k a c U) (f : Fr S w w') (hS : ∀ q, S q → q = p ∨ w.heap.size ≤ q) : RdO w' W0 p gm tr jb cl L k a c U := by
  obtain ⟨n1, n2⟩ := h.ne
  have l1 := h.bm.lt
  have l2 := h.b0.lt
  refine ⟨f.blk h.bm (fun q => ?_), f.blk h.b0 (fun q => ?_), ownsRow_fr h.row f (fun g hg q => ?_), h.own.low f (fun g h1 h2 q => ?_), h.map, h.ne⟩
  · rcases hS _ q with e | e <;> omega
  · rcases hS _ q with e | e <;> omega
  · have := h.row.lt g hg
    rcases hS _ q with e | e <;> omega
  · rcases hS _ q with e | e <;> omega
theorem RdO.frB {w w' : World} {W0 p gm : Nat} {tr jb cl : Int} {L : List Pt} {k : Nat} {a : Option Addr} {c : Nat} {U : List SU} (h : RdO w W0 p gm tr jb cl L k a c U) (f : Fr (onlyB p) w w') : RdO w' W0 p gm tr jb cl L k a c U := h.fr f (fun q e => Or.inl e)
theorem Rd.len {w : World} {p : Nat} {l : List UInt8} (h : Rd w p (some l)) : l.length ≤ 200000 := by
  obtain ⟨s, b, h1, h2, h3⟩ := h
  rcases h3 with ⟨h3, _⟩ | ⟨_, h3⟩
  · cases h3
  · injection h3 with h3
    rw [h3, size_len]
    exact h2
theorem onl_toN {w0 w w' : World} {p : Nat} (f0 : Fr noB w0 w) (f : Fr (onlyB p) w w') (hp : w0.heap.size ≤ p) : Fr noB w0 w' := f0.trans f (fun _ _ q => q) (fun i hi q => by unfold onlyB at q; omega)
set_option maxHeartbeats 20000000 in
theorem sgread_any (s : ByteArray) (r : RC) (w : World) (hg : Gl w) (hs : s.data.toList = recT r) (hl : s.size ≤ 60000) (hok : RcOk r) :
    Calls Tryz.prog 75 #[.string s] w fun e w' => ∃ v U, e = .returned (.tuple #[rcV r v, .bool true]) ∧ w'.ownsRow w.heap.size 112 4 v r.ps.length (U.flatMap SU.cs) ∧ OwnSU w' w.heap.size U ∧ U.map SU.x = r.ps ∧ Fr noB w w' := by
  obtain ⟨i0, hi, hz0, hz1, hz2⟩ := info_parts infoIntX
  obtain ⟨j0, hj, hy0, hy1, hy2⟩ := info_parts Tryz.infoPart
  have happ := recT_app r
  obtain ⟨tr, jb, cl, wh, L⟩ := r
  unfold rcV
  obtain ⟨l1, l2, l3, l4, _, l5, l6⟩ := hok
  simp only at happ l1 l2 l3 l4 l5 l6 ⊢
  have hget : ∀ k, k < L.length → ∃ m, L[k]? = some m := fun k hk => ⟨L[k], List.getElem?_eq_getElem hk⟩
  have hstep := fun k (x : Pt) (h : L[k]? = some x) => ptsR_step h
  have hend := ptsR_end L
  have hTk : L.take L.length = L := List.take_length
  obtain ⟨n, hn⟩ : ∃ n, L.length = n := ⟨_, rfl⟩
  rw [hn] at happ hget hend hTk l5 ⊢
  rw [happ] at hs
  obtain ⟨W0, hW0⟩ : ∃ B, w.heap.size = B := ⟨_, rfl⟩
  have gb := hg.low
  rw [hW0] at gb ⊢
  have f0 : Fr noB w (w.alloc (.cells #[.int .i64 0, .int .i64 0, .int .i64 0, .bool false, .slice none 0 0] 63)) := (Fr.refl _ w).alloc _
  have b0 := Blk.new w 63 [.int .i64 0, .int .i64 0, .int .i64 0, .bool false, .slice none 0 0]
  rw [hW0] at b0
  have s0 : (w.alloc (.cells #[.int .i64 0, .int .i64 0, .int .i64 0, .bool false, .slice none 0 0] 63)).heap.size = W0 + 1 := by rw [size_alloc, hW0]
  replace hget := Lib.hid hget
  replace hstep := Lib.hid hstep
  replace hend := Lib.hid hend
  replace hTk := Lib.hid hTk
  replace l4 := Lib.hid l4
  replace l6 := Lib.hid l6
  replace happ := Lib.hid happ
  replace hn := Lib.hid hn
  replace gb := Lib.hid gb
  clear hg
  go_enter Tryz.func75, Tryz.ntmps75
  go_upto_region 1 with fail
  try rw [hW0]
  generalize (w.alloc (.cells #[.int .i64 0, .int .i64 0, .int .i64 0, .bool false, .slice none 0 0] 63)) = w1 at *
  have hnr := newr_any s w1
  have hrn := rd_new s w1 (by omega)
  rw [s0] at hnr hrn
  replace hnr := Lib.hid hnr
  go_wp2_with fail
  go_fit hnr.out
  rintro e w2 ⟨rfl, hw2⟩
  rw [← hw2] at hrn
  have f1 : Fr noB w1 w2 := by rw [hw2]; exact (Fr.refl _ _).alloc _
  have s2 : w2.heap.size = W0 + 1 + 1 := by rw [hw2, size_alloc, s0]
  obtain ⟨p, hp⟩ : ∃ p, W0 + 1 = p := ⟨_, rfl⟩
  rw [hp] at hrn s2
  try rw [hp]
  rw [hs] at hrn
  have b2 := f1.blk b0 (fun q => q)
  have f2 := f0.seqN f1
  have hpp : W0 < p := by omega
  have hq1 := fun w' h => rdI_any p tr 1 65535 (numL jb.toNat ++ (numL cl.toNat ++ (numL n ++ ptsR L 0))) w' h (by omega) (by omega) (by omega) (by omega)
  have hq2 := fun w' h => rdI_any p jb 1 1073741824 (numL cl.toNat ++ (numL n ++ ptsR L 0)) w' h (by omega) (by omega) (by omega) (by omega)
  have hq3 := fun w' h => rdI_any p cl 0 3 (numL n ++ ptsR L 0) w' h (by omega) (by omega) (by omega) (by omega)
  have hq4 := fun w' h => rdI_any p (n : Int) 1 4 (ptsR L 0) w' h (by omega) (by omega) (by omega) (by omega)
  replace hq1 := Lib.hid hq1
  replace hq2 := Lib.hid hq2
  replace hq3 := Lib.hid hq3
  replace hq4 := Lib.hid hq4
  replace hrn := Lib.hid hrn
  replace hp := Lib.hid hp
  replace hs := Lib.hid hs
  clear hnr hw2 b0 f0 f1 s0
  go_wp2_with fail
  go_fit (hq1.out w2 hrn.out)
  rintro e w3 ⟨rfl, rd3, f3⟩
  replace rd3 := Lib.hid rd3
  go_wp2_with fail
  go_fit (hq2.out w3 rd3.out)
  rintro e w4 ⟨rfl, rd4, f4⟩
  replace rd4 := Lib.hid rd4
  go_wp2_with fail
  go_fit (hq3.out w4 rd4.out)
  rintro e w5 ⟨rfl, rd5, f5⟩
  have f25 := (f3.onl f4).onl f5
  have b5 := f25.blk b2 (fun q => by unfold onlyB at q; omega)
  have fr5 := onl_toN f2 f25 (by omega)
  have s5 : p < w5.heap.size := by have := f25.size; omega
  have f6 : Fr noB w5 (w5.alloc (.cells #[.int .i64 tr, .int .i64 jb, .int .i64 cl, .bool false, .slice none 0 0] 63)) := (Fr.refl _ _).alloc _
  have b6 := f6.blk b5 (fun q => q)
  have bm := Blk.new w5 63 [.int .i64 tr, .int .i64 jb, .int .i64 cl, .bool false, .slice none 0 0]
  have rd6 := rd5.fr f6 (fun q => q)
  have fr6 := fr5.seqN f6
  clear hrn rd3 rd4 rd5 f3 f4 f5 f25 b2 b5 f2 fr5 f6 hq1 hq2 hq3 s2
  replace rd6 := Lib.hid rd6
  go_upto_region 3 with fail
  obtain ⟨gm, hgm⟩ : ∃ g, w5.heap.size = g := ⟨_, rfl⟩
  rw [hgm] at bm s5
  try rw [hgm]
  generalize (w5.alloc (.cells #[.int .i64 tr, .int .i64 jb, .int .i64 cl, .bool false, .slice none 0 0] 63)) = w6 at *
  replace hgm := Lib.hid hgm
  go_wp2_with fail
  go_fit (hq4.out w6 rd6.out)
  rintro e w7 ⟨rfl, rd7, f7⟩
  have hO6 : RdO w6 W0 p gm tr jb cl L 0 none 0 [] := ⟨bm, b6, World.ownsRow_nil _ _ _ _, ⟨fun q hq => by simp at hq, fun q hq => by simp at hq⟩, by simp, hpp, s5⟩
  have hO7 := Lib.hid (hO6.frB f7)
  have fr7 := Lib.hid (onl_toN fr6 f7 (by omega))
  replace rd7 := Lib.hid rd7
  clear hO6 f7 rd6 hq4 bm b6 fr6
  go_wp2_with fail
  go_loopg [20] n (fun gk vi wr => ∃ (k : Nat) (a : Option Addr) (c : Nat) (U : List SU), k + gk = n ∧ vi = .int .i64 k ∧ Hid (RdO wr W0 p gm tr jb cl L k a c U) ∧ Hid (Rd wr p (some (ptsR L k))) ∧ Hid (Fr noB w wr))
  case atStart => exact ⟨0, none, 0, [], by omega, rfl, hO7, rd7, fr7⟩
  case round =>
    clear rd7 fr7 hO7
    obtain ⟨k, a, c, U, hkn, rfl, hO, hrd, fr⟩ := hrel
    obtain ⟨wO, rfl⟩ : ∃ q : World, q = wr := ⟨_, rfl⟩
    obtain ⟨gO, rfl⟩ : ∃ q : Nat, q = gk := ⟨_, rfl⟩
    by_cases hlt : k < n
    · have hb1 : (k : Int) < n := by omega
      have hmeas : n - (k + 1) < gO := by omega
      have hkn2 : k + 1 + (n - (k + 1)) = n := by omega
      obtain ⟨x, hx⟩ := hget.out k hlt
      have hst := hstep.out k x hx
      have hR := hrd.out
      rw [hst] at hR
      obtain ⟨R, hRe⟩ : ∃ R, ptsR L (k + 1) = R := ⟨_, rfl⟩
      rw [hRe] at hR
      have hpo := l4.out x (List.mem_of_getElem? hx)
      have hT1 : U.map SU.x ++ [x] = L.take (k + 1) := by rw [hO.out.map, List.take_add_one, hx]; rfl
      have hpS : strB (printL x.S) = strB (printL x.S) := rfl
      have hpr : printL x.S = pre x.S x.S.length := print_yes x.S hpo.l (fun i m _ hm => hpo.r m (List.mem_of_getElem? hm))
      have hpl : (printL x.S).length ≤ 200000 := by
        have h1 := hR.len
        have h2 := (quote_valid (printL x.S)).2
        unfold pt1 textL at h1
        simp only [List.length_append] at h1
        omega
      have hql := quote_len (printL x.S)
      have gbr := gb.out.frN fr.out
      have hq1 := rdI_any p x.a 0 3 (pt1 x R) wO hR (by have := hpo.a; omega) (by have := hpo.a; omega) (by have := hpo.a; omega) (by omega)
      have hq2 := fun w' (hgl : Gl w') h => rdT_any p (printL x.S) (pt2 x R) 1048576 w' hgl ⟨by have := gb.out.b1; omega, by have := gb.out.b2; omega, by have := gb.out.b3; omega⟩ h (by omega) (by omega)
      have hq3 := fun w' (hgl : Gl w') => read_any (strB (printL x.S)) x.S w' hgl (by rw [strB_size]; have := hpl; omega) (by rw [strB_list]; exact hpr) (fun i m hm => hpo.r m (List.mem_of_getElem? hm)) hpo.l
      have hq4 := fun w' h => rdI_any p (x.cr.length : Int) 0 4 (pt3 x 0 R) w' h (by omega) (by have := hpo.n; omega) (by omega) (by omega)
      have hq5 := fun w' h => rdI_any p (boolI x.lo) 0 1 R w' h (by unfold boolI; split <;> omega) (by unfold boolI; split <;> omega) (by unfold boolI; split <;> omega) (by omega)
      have hcg : ∀ j, j < x.cr.length → ∃ y, x.cr[j]? = some y ∧ 0 ≤ y ∧ y ≤ 3 := fun j hj => ⟨x.cr[j], List.getElem?_eq_getElem hj, hpo.c _ (List.getElem_mem hj)⟩
      have hcs := fun j y (h : x.cr[j]? = some y) => pt3_step x j R y h
      have hce := pt3_end x R
      have hc0 := pt3_zero x R
      have hct : x.cr.take x.cr.length = x.cr := List.take_length
      have hcn := hpo.n
      obtain ⟨xa, hxa⟩ : ∃ q, x.a = q := ⟨_, rfl⟩
      obtain ⟨m, hm⟩ : ∃ q, x.cr.length = q := ⟨_, rfl⟩
      obtain ⟨ls, hls⟩ : ∃ q, x.S.length = q := ⟨_, rfl⟩
      obtain ⟨lo, hlo⟩ : ∃ q, x.lo = q := ⟨_, rfl⟩
      rw [hxa] at hq1
      rw [hm] at hq4 hcg hce hc0 hct hcn
      simp only [hls] at hq3
      simp only [hlo] at hq5 hce
      generalize hPP : strB (printL x.S) = PP at *
      clear hR hst hpr hpl hql hpo hpS hx
      replace hq1 := Lib.hid hq1
      replace hq2 := Lib.hid hq2
      replace hq3 := Lib.hid hq3
      replace hq4 := Lib.hid hq4
      replace hq5 := Lib.hid hq5
      replace hcg := Lib.hid hcg
      replace hcs := Lib.hid hcs
      replace hce := Lib.hid hce
      replace hc0 := Lib.hid hc0
      replace hct := Lib.hid hct
      replace hPP := Lib.hid hPP
      replace hRe := Lib.hid hRe
      replace hT1 := Lib.hid hT1
      replace gbr := Lib.hid gbr
      replace hxa := Lib.hid hxa
      replace hm := Lib.hid hm
      replace hls := Lib.hid hls
      replace hlo := Lib.hid hlo
      have hk4 : k ≤ 4 := by omega
      have hWp : w.heap.size ≤ p := by omega
      replace hmeas := Lib.hid hmeas
      replace hkn2 := Lib.hid hkn2
      clear hlt hkn hrd
      have hpw : p < wO.heap.size := by have := hO.out.bm.lt; have := hO.out.ne; omega
      go_wp2_with fail
      go_fit hq1.out
      rintro e w2 ⟨rfl, rd2, f2⟩
      have fY : Fr noB w2 (w2.alloc (.cells #[.int .i64 xa, .slice none 0 0, .slice none 0 0, .bool false] 112)) := (Fr.refl _ _).alloc _
      have bY := Blk.new w2 112 [.int .i64 xa, .slice none 0 0, .slice none 0 0, .bool false]
      have rd3 := rd2.fr fY (fun q => q)
      have f3 := f2.seqN fY
      have s2 : wO.heap.size ≤ w2.heap.size := f2.size
      have gb3 := gbr.out.fr f3 (fun q hq e => by unfold onlyB at e; omega)
      clear rd2 f2 fY hq1
      replace rd3 := Lib.hid rd3
      replace gb3 := Lib.hid gb3
      go_upto_region 6 with fail
      obtain ⟨gY, hgY⟩ : ∃ q, w2.heap.size = q := ⟨_, rfl⟩
      rw [hgY] at bY s2
      try rw [hgY]
      generalize (w2.alloc (.cells #[.int .i64 xa, .slice none 0 0, .slice none 0 0, .bool false] 112)) = w3 at *
      replace hgY := Lib.hid hgY
      have hpY : p ≠ gY := by omega
      have hgmY : gm < gY := by have := hO.out.bm.lt; omega
      go_wp2_with fail
      go_fit (hq2.out w3 gb3.out.gl rd3.out)
      rintro e w4 ⟨rfl, rd4, f4⟩
      have bY4 := f4.blk bY (fun q => by unfold onlyB at q; omega)
      have f34 := f3.onl f4
      have gb4 := gb3.out.fr f4 (fun q hq e => by unfold onlyB at e; omega)
      have hrd4 := hq3.out w4 gb4.gl
      clear f4 rd3 gb3 bY f3 hq2 hq3
      replace gb4 := Lib.hid gb4
      replace hrd4 := Lib.hid hrd4
      replace rd4 := Lib.hid rd4
      go_wp2_with fail
      go_fit hrd4.out
      rintro e w5 ⟨v, rfl, o5, f5⟩
      obtain ⟨sa, sc, rfl⟩ := ownsRow_slice o5
      have hY4 := bY4.lt
      have o5' := ownsRow_mono o5 (show gY + 1 ≤ w4.heap.size by omega)
      have bY5 := f5.blk bY4 (fun q => q)
      have rd5 := rd4.out.fr f5 (fun q => q)
      have f35 := f34.seqN f5
      have fs : Fr (onlyB gY) w5 (w5.setCell ⟨gY, 1, none⟩ (.slice sa ls sc)) := (Fr.refl _ _).store (onlyB_self gY)
      have bY6 := bY5.set 1 (.slice sa ls sc)
      have rd6 := rd5.fr fs (fun q => by unfold onlyB at q; omega)
      have o6 := ownsRow_fr o5' fs (fun g hg q => by have := (o5'.lt g hg).1; unfold onlyB at q; omega)
      have f36 : Fr (onlyB p) wO (w5.setCell ⟨gY, 1, none⟩ (.slice sa ls sc)) := f35.trans fs (fun _ _ q => q) (fun i hi q => by unfold onlyB at q; omega)
      have k5 : w5.cell? ⟨gY, 1, none⟩ = some (.slice none 0 0) := bY5.cell 1
      have z5 := bY5.frozen 1
      clear bY4 rd4 f34 o5 o5' rd5 f35 fs f5 hrd4 bY5
      replace bY6 := Lib.hid bY6
      replace rd6 := Lib.hid rd6
      replace o6 := Lib.hid o6
      replace f36 := Lib.hid f36
      go_upto_region 10 with fail
      generalize (w5.setCell ⟨gY, 1, none⟩ (.slice sa ls sc)) = w6 at *
      clear k5 z5
      have rd6b := rd6.out
      rw [hc0.out] at rd6b
      replace rd6b := Lib.hid rd6b
      go_wp2_with fail
      go_fit (hq4.out w6 rd6b.out)
      rintro e w7 ⟨rfl, rd7, f7⟩
      have bY7 := f7.blk bY6.out (fun q => by unfold onlyB at q; omega)
      have o7 := ownsRow_fr o6.out f7 (fun g hg q => by have := (o6.out.lt g hg).1; unfold onlyB at q; omega)
      have f37 := f36.out.onl f7
      clear f7 rd6 rd6b bY6 o6 f36 hq4
      replace bY7 := Lib.hid bY7
      replace o7 := Lib.hid o7
      replace f37 := Lib.hid f37
      replace rd7 := Lib.hid rd7
      go_wp2_with fail
      go_loopg [38] m (fun gj vj wr => ∃ (j : Nat) (ca : Option Addr) (cc : Nat), j + gj = m ∧ vj = .int .i64 j ∧ Hid (Blk wr gY 112 [.int .i64 xa, .slice sa ls sc, .slice ca j cc, .bool false]) ∧ Hid (wr.ownsRow (gY + 1) 3 1 (.slice ca j cc) j ((x.cr.take j).map (Value.int .i64))) ∧ Hid (wr.ownsRow (gY + 1) 118 3 (.slice sa ls sc) ls (x.S.flatMap spC)) ∧ Hid (Rd wr p (some (pt3 x j R))) ∧ Hid (Fr (onlyB p) wO wr))
      case atStart => exact ⟨0, none, 0, by omega, rfl, bY7, Lib.hid (World.ownsRow_nil _ _ _ _), o7, rd7, f37⟩
      case round =>
        clear bY7 o7 rd7 f37
        obtain ⟨j, ca, cc, hjm, rfl, hbY, hoc, hos, hrq, fq⟩ := hrel
        by_cases hjl : j < m
        · have hb2 : (j : Int) < m := by omega
          have hmeas2 : m - (j + 1) < gk := by omega
          have hjm2 : j + 1 + (m - (j + 1)) = m := by omega
          obtain ⟨y, hy, hy3, hy4⟩ := hcg.out j hjl
          have hrq2 := hrq.out
          rw [hcs.out j y hy] at hrq2
          have hct1 : (x.cr.take j).map (Value.int .i64) ++ [Value.int .i64 y] = (x.cr.take (j + 1)).map (Value.int .i64) := by rw [List.take_add_one, hy]; simp
          have hnum := fun w' h => rdI_any p y 0 3 (pt3 x (j + 1) R) w' h (by omega) (by omega) (by omega) (by omega)
          have c4 : wr.cell? ⟨gY, 2, none⟩ = some (.slice ca j cc) := hbY.out.cell 2
          have hj4 : j ≤ 4 := by omega
          have hW : gY + 1 ≤ wr.heap.size := hbY.out.lt
          replace hmeas2 := Lib.hid hmeas2
          replace hjm2 := Lib.hid hjm2
          replace hct1 := Lib.hid hct1
          replace hnum := Lib.hid hnum
          replace hrq2 := Lib.hid hrq2
          replace hy := Lib.hid hy
          clear hjl hjm hrq
          go_wp2_with fail
          go_region_law (first
            | (go_simp; go_at_call 98; refine (hnum.out _ (hrq2.out.fr ((Fr.refl noB _).drewN 1) (fun q => q))).mono ?_; rintro e w8 ⟨rfl, rd8, f8⟩; have f8 := ((Fr.refl (onlyB p) wr).drewN 1).onl f8; have bm8 := f8.blk hbY.out (fun q => by unfold onlyB at q; omega); have ow8 := ownsRow_fr hoc.out f8 (fun g hg q => by have := (hoc.out.lt g hg).1; unfold onlyB at q; omega); have c8 : w8.cell? ⟨gY, 2, none⟩ = some (.slice ca j cc) := bm8.cell 2; have c8b : (w8.alloc (.cells #[.int .i64 y] 3)).cell? ⟨gY, 2, none⟩ = some (.slice ca j cc) := (((Fr.refl noB w8).alloc _).blk bm8 (fun q => q)).cell 2; have hW8 : gY + 1 ≤ (w8.alloc (.cells #[.int .i64 y] 3)).heap.size := by { rw [size_alloc]; have := f8.size; omega })
            | (refine step_append_at rfl (.tmp 41) (.tmp 44) 30 rfl (gY + 1) 3 i0 _ 1 8 Tryz.underlying30 hi hz0 hz1 hz2 rfl (by decide) (.slice ca j cc) j _ (by simp [Act.eval, Act.put]) (ow8.alloc _) ⟨w8.heap.size, 0, none⟩ 1 1 [.int .i64 y] (by simp [Act.eval, Act.put]) rfl (cell_new w8 _ _) (one_int _ _) (by unfold maxLen; omega) (by omega) hW8 ?_; intro v9 w9 o9 gr9 _; obtain ⟨a9, c9, rfl⟩ := ownsRow_slice o9; have f9 : Fr (rowB (.slice ca j cc)) (w8.alloc (.cells #[.int .i64 y] 3)) w9 := (Fr.refl _ _).grown gr9 (fun k hk _ => hk); have nr9 : ¬ rowB (.slice ca j cc) gY := row_not ow8 bm8 (by decide); have bm9 := f9.blk (((Fr.refl noB w8).alloc _).blk bm8 (fun q => q)) nr9; have z9 := bm9.frozen 2; have k9 : w9.cell? ⟨gY, 2, none⟩ = some (.slice ca j cc) := bm9.cell 2)
            | fail)
          all_goals (
            have fA : Fr noB w8 (w8.alloc (.cells #[.int .i64 y] 3)) := (Fr.refl _ _).alloc _
            have frA := (fq.out.onl f8).seqN fA
            have fr9 : Fr (onlyB p) wO w9 := frA.trans f9 (fun _ _ q => q) (fun i hi q => by have := (hoc.out.lt i q).1; omega)
            have rd9 := (rd8.fr fA (fun q => q)).fr f9 (fun q => by have := (hoc.out.lt p q).1; omega)
            have os8 := ownsRow_fr hos.out f8 (fun g hg q => by have := (hos.out.lt g hg).1; unfold onlyB at q; omega)
            have os9 := ownsRow_fr (os8.alloc _) f9 (fun g hg q => own_apart os8 ow8 (by decide) g hg q)
            have fs : Fr (onlyB gY) w9 (w9.setCell ⟨gY, 2, none⟩ (.slice a9 (j + 1) c9)) := (Fr.refl _ _).store (onlyB_self gY)
            have bm10 := bm9.set 2 (.slice a9 (j + 1) c9)
            have rd10 := rd9.fr fs (fun q => by unfold onlyB at q; omega)
            have ow10 := ownsRow_fr o9 fs (fun g hg q => by have := (o9.lt g hg).1; unfold onlyB at q; omega)
            have os10 := ownsRow_fr os9 fs (fun g hg q => by have := (os9.lt g hg).1; unfold onlyB at q; omega)
            have fr10 : Fr (onlyB p) wO (w9.setCell ⟨gY, 2, none⟩ (.slice a9 (j + 1) c9)) := fr9.trans fs (fun _ _ q => q) (fun i hi q => by unfold onlyB at q; omega)
            rw [hct1.out] at ow10
            generalize (w9.setCell ⟨gY, 2, none⟩ (.slice a9 (j + 1) c9)) = w10 at *
            replace bm10 := Lib.hid bm10
            replace rd10 := Lib.hid rd10
            replace ow10 := Lib.hid ow10
            replace os10 := Lib.hid os10
            replace fr10 := Lib.hid fr10
            clear f8 fA frA f9 fr9 bm8 bm9 rd8 rd9 fs ow8 o9 z9 c8 c8b k9 os8 os9
            go_wp2_with fail
            go_roundg (m - (j + 1))
            case rel => exact ⟨j + 1, a9, c9, hjm2.out, by go_num, bm10, ow10, os10, rd10, fr10⟩
            case measure => exact hmeas2.out)
        · obtain rfl : j = m := by omega
          have rdE := hrq.out
          rw [hce.out] at rdE
          cases lo with
          | true =>
            rw [show boolI true = 1 from rfl] at rdE
            have hq5b := hq5.out wr rdE
            rw [show boolI true = 1 from rfl] at hq5b
            replace hq5b := Lib.hid hq5b
            clear rdE hrq
            go_wp2_with fail
            go_fit hq5b.out
            rintro e w8 ⟨rfl, rd8, f8⟩
            have bY8 := f8.blk hbY.out (fun q => by unfold onlyB at q; omega)
            have oc8 := ownsRow_fr hoc.out f8 (fun g hg q => by have := (hoc.out.lt g hg).1; unfold onlyB at q; omega)
            have os8 := ownsRow_fr hos.out f8 (fun g hg q => by have := (hos.out.lt g hg).1; unfold onlyB at q; omega)
            have fq8 := fq.out.onl f8
            have k8 : w8.cell? ⟨gY, 3, none⟩ = some (.bool false) := bY8.cell 3
            have z8 := bY8.frozen 3
            have fs : Fr (onlyB gY) w8 (w8.setCell ⟨gY, 3, none⟩ (.bool true)) := (Fr.refl _ _).store (onlyB_self gY)
            have bY9 := bY8.set 3 (.bool true)
            have rd9 := rd8.fr fs (fun q => by unfold onlyB at q; omega)
            have oc9 := ownsRow_fr oc8 fs (fun g hg q => by have := (oc8.lt g hg).1; unfold onlyB at q; omega)
            have os9 := ownsRow_fr os8 fs (fun g hg q => by have := (os8.lt g hg).1; unfold onlyB at q; omega)
            have fq9 : Fr (onlyB p) wO (w8.setCell ⟨gY, 3, none⟩ (.bool true)) := fq8.trans fs (fun _ _ q => q) (fun i hi q => by unfold onlyB at q; omega)
            clear hq5b f8 bY8 oc8 os8 fq8 fs rd8 hbY hoc hos fq
            replace bY9 := Lib.hid bY9
            replace rd9 := Lib.hid rd9
            replace oc9 := Lib.hid oc9
            replace os9 := Lib.hid os9
            replace fq9 := Lib.hid fq9
            go_upto_region 15 with fail
            generalize (w8.setCell ⟨gY, 3, none⟩ (.bool true)) = w9 at *
            clear k8 z8
            have hO9 := hO.out.frB fq9.out
            have y0 : w9.cell? ⟨gY, 0, none⟩ = some (.int .i64 xa) := bY9.out.cell 0
            have y1 : w9.cell? ⟨gY, 1, none⟩ = some (.slice sa ls sc) := bY9.out.cell 1
            have y2 : w9.cell? ⟨gY, 2, none⟩ = some (.slice ca j cc) := bY9.out.cell 2
            have y3 : w9.cell? ⟨gY, 3, none⟩ = some (.bool true) := bY9.out.cell 3
            have cm : w9.cell? ⟨gm, 4, none⟩ = some (.slice a k c) := hO9.bm.cell 4
            have hgm9 : gm + 1 ≤ (w9.alloc (.cells #[.int .i64 xa, .slice sa ls sc, .slice ca j cc, .bool true] 112)).heap.size := by rw [size_alloc]; have := hO9.bm.lt; omega
            have hq : SU.cs ⟨x, sa, sc, ca, cc⟩ = [.int .i64 xa, .slice sa ls sc, .slice ca j cc, .bool true] := by unfold SU.cs ptC SU.s SU.c; simp only; rw [hxa.out, hls.out, hm.out, hlo.out]
            have hone : ∀ u ∈ [Value.int .i64 xa, .slice sa ls sc, .slice ca j cc, .bool true], u.oneCell' = true := by rw [← hq]; exact su_one _
            replace hO9 := Lib.hid hO9
            replace hq := Lib.hid hq
            replace hone := Lib.hid hone
            go_wp2_with (first
              | (at_builtin; go_must (refine wpList_append_at _ rfl (.tmp 53) (.tmp 55) 61 rfl (gm + 1) 112 j0 _ 4 64 Tryz.underlying61 hj hy0 hy1 hy2 rfl (by decide) (.slice a k c) k _ rfl (hO9.out.row.alloc _) ⟨w9.heap.size, 0, none⟩ 1 1 [.int .i64 xa, .slice sa ls sc, .slice ca j cc, .bool true] rfl rfl (news_at w9 _ _) hone.out (by unfold maxLen; omega) (by omega) hgm9 ?_); intro v9 w10 o10 gr10 _; obtain ⟨a9, c9, rfl⟩ := ownsRow_slice o10; have f10 : Fr (rowB (.slice a k c)) (w9.alloc (.cells #[.int .i64 xa, .slice sa ls sc, .slice ca j cc, .bool true] 112)) w10 := (Fr.refl _ _).grown gr10 (fun k hk _ => hk); have fA : Fr noB w9 (w9.alloc (.cells #[.int .i64 xa, .slice sa ls sc, .slice ca j cc, .bool true] 112)) := (Fr.refl _ _).alloc _; have hrl := hO9.out.row.lt; have bm10 := f10.blk (fA.blk hO9.out.bm (fun q => q)) (fun q => by have := hrl _ q; omega); have k10 : w10.cell? ⟨gm, 4, none⟩ = some (.slice a k c) := bm10.cell 4; have z10 := bm10.frozen 4)
              | fail)
            have b10 := f10.blk (fA.blk hO9.out.b0 (fun q => q)) (fun q => by have := hrl _ q; have := hO9.out.ne; omega)
            have rd10 := (rd9.out.fr fA (fun q => q)).fr f10 (fun q => by have := hrl _ q; have := hO9.out.ne; omega)
            have ow10 : OwnSU w10 (gm + 1) U := (hO9.out.own.frN fA).fr f10 (fun q hq g hg e => by
              rcases hg with hg | hg
              · exact own_apart (hO9.out.own.s q hq) hO9.out.row (by decide) g hg e
              · exact own_apart (hO9.out.own.c q hq) hO9.out.row (by decide) g hg e)
            have oc10 := ownsRow_fr (oc9.out.alloc _) f10 (fun g hg e => own_apart oc9.out hO9.out.row (by decide) g hg e)
            have os10 := ownsRow_fr (os9.out.alloc _) f10 (fun g hg e => own_apart os9.out hO9.out.row (by decide) g hg e)
            have fr10 : Fr noB w w10 := ((onl_toN fr.out fq9.out (by omega)).seqN fA).trans f10 (fun _ _ q => q) (fun i hi q => by have := hrl _ q; omega)
            have fs : Fr (onlyB gm) w10 (w10.setCell ⟨gm, 4, none⟩ (.slice a9 (k + 1) c9)) := (Fr.refl _ _).store (onlyB_self gm)
            have bm11 := bm10.set 4 (.slice a9 (k + 1) c9)
            have b11 := fs.blk b10 (fun q => by unfold onlyB at q; have := hO9.out.ne; omega)
            have rd11 := rd10.fr fs (fun q => by unfold onlyB at q; have := hO9.out.ne; omega)
            have ow11 := ow10.low fs (fun g h1 h2 q => by unfold onlyB at q; omega)
            have oc11 := ownsRow_mono (ownsRow_fr oc10 fs (fun g hg q => by have := (oc10.lt g hg).1; unfold onlyB at q; omega)) (show gm + 1 ≤ gY + 1 by omega)
            have os11 := ownsRow_mono (ownsRow_fr os10 fs (fun g hg q => by have := (os10.lt g hg).1; unfold onlyB at q; omega)) (show gm + 1 ≤ gY + 1 by omega)
            have o11 := ownsRow_fr o10 fs (fun g hg q => by have := (o10.lt g hg).1; unfold onlyB at q; omega)
            have fr11 : Fr noB w (w10.setCell ⟨gm, 4, none⟩ (.slice a9 (k + 1) c9)) := fr10.trans fs (fun _ _ q => q) (fun i hi q => by unfold onlyB at q; omega)
            generalize (w10.setCell ⟨gm, 4, none⟩ (.slice a9 (k + 1) c9)) = w11 at *
            have hO11 : RdO w11 W0 p gm tr jb cl L (k + 1) a9 c9 (U ++ [⟨x, sa, sc, ca, cc⟩]) := ⟨bm11, b11, by rw [List.flatMap_append]; simp only [List.flatMap_cons, List.flatMap_nil, List.append_nil]; rw [hq.out]; exact o11,
              ⟨fun q hq => by
                rcases List.mem_append.1 hq with hq | hq
                · exact ow11.s q hq
                · simp only [List.mem_cons, List.not_mem_nil, or_false] at hq
                  subst hq
                  unfold SU.s
                  simp only
                  rw [hls.out]
                  exact os11, fun q hq => by
                rcases List.mem_append.1 hq with hq | hq
                · exact ow11.c q hq
                · simp only [List.mem_cons, List.not_mem_nil, or_false] at hq
                  subst hq
                  unfold SU.c
                  simp only
                  rw [hm.out]
                  rw [hct.out] at oc11
                  exact oc11⟩, by rw [List.map_append]; exact hT1.out, hO9.out.ne⟩
            have rd12 : Hid (Rd w11 p (some (ptsR L (k + 1)))) := Lib.hid (by rw [hRe.out]; exact rd11)
            replace hO11 := Lib.hid hO11
            replace fr11 := Lib.hid fr11
            clear f10 fA hrl bm10 b10 rd10 ow10 oc10 os10 fr10 fs bm11 b11 rd11 ow11 oc11 os11 o11 o10 gr10 k10 z10 y0 y1 y2 y3 cm hgm9
            go_wp2_with fail
            go_roundg (n - (k + 1))
            case rel => exact ⟨k + 1, a9, c9, U ++ [⟨x, sa, sc, ca, cc⟩], hkn2.out, by go_num, hO11, rd12, fr11⟩
            case measure => exact hmeas.out
          | false =>
            rw [show boolI false = 0 from rfl] at rdE
            have hq5b := hq5.out wr rdE
            rw [show boolI false = 0 from rfl] at hq5b
            replace hq5b := Lib.hid hq5b
            clear rdE hrq
            go_wp2_with fail
            go_fit hq5b.out
            rintro e w8 ⟨rfl, rd8, f8⟩
            have bY8 := f8.blk hbY.out (fun q => by unfold onlyB at q; omega)
            have oc8 := ownsRow_fr hoc.out f8 (fun g hg q => by have := (hoc.out.lt g hg).1; unfold onlyB at q; omega)
            have os8 := ownsRow_fr hos.out f8 (fun g hg q => by have := (hos.out.lt g hg).1; unfold onlyB at q; omega)
            have fq8 := fq.out.onl f8
            have k8 : w8.cell? ⟨gY, 3, none⟩ = some (.bool false) := bY8.cell 3
            have z8 := bY8.frozen 3
            have fs : Fr (onlyB gY) w8 (w8.setCell ⟨gY, 3, none⟩ (.bool false)) := (Fr.refl _ _).store (onlyB_self gY)
            have bY9 := bY8.set 3 (.bool false)
            have rd9 := rd8.fr fs (fun q => by unfold onlyB at q; omega)
            have oc9 := ownsRow_fr oc8 fs (fun g hg q => by have := (oc8.lt g hg).1; unfold onlyB at q; omega)
            have os9 := ownsRow_fr os8 fs (fun g hg q => by have := (os8.lt g hg).1; unfold onlyB at q; omega)
            have fq9 : Fr (onlyB p) wO (w8.setCell ⟨gY, 3, none⟩ (.bool false)) := fq8.trans fs (fun _ _ q => q) (fun i hi q => by unfold onlyB at q; omega)
            clear hq5b f8 bY8 oc8 os8 fq8 fs rd8 hbY hoc hos fq
            replace bY9 := Lib.hid bY9
            replace rd9 := Lib.hid rd9
            replace oc9 := Lib.hid oc9
            replace os9 := Lib.hid os9
            replace fq9 := Lib.hid fq9
            go_upto_region 15 with fail
            generalize (w8.setCell ⟨gY, 3, none⟩ (.bool false)) = w9 at *
            clear k8 z8
            have hO9 := hO.out.frB fq9.out
            have y0 : w9.cell? ⟨gY, 0, none⟩ = some (.int .i64 xa) := bY9.out.cell 0
            have y1 : w9.cell? ⟨gY, 1, none⟩ = some (.slice sa ls sc) := bY9.out.cell 1
            have y2 : w9.cell? ⟨gY, 2, none⟩ = some (.slice ca j cc) := bY9.out.cell 2
            have y3 : w9.cell? ⟨gY, 3, none⟩ = some (.bool false) := bY9.out.cell 3
            have cm : w9.cell? ⟨gm, 4, none⟩ = some (.slice a k c) := hO9.bm.cell 4
            have hgm9 : gm + 1 ≤ (w9.alloc (.cells #[.int .i64 xa, .slice sa ls sc, .slice ca j cc, .bool false] 112)).heap.size := by rw [size_alloc]; have := hO9.bm.lt; omega
            have hq : SU.cs ⟨x, sa, sc, ca, cc⟩ = [.int .i64 xa, .slice sa ls sc, .slice ca j cc, .bool false] := by unfold SU.cs ptC SU.s SU.c; simp only; rw [hxa.out, hls.out, hm.out, hlo.out]
            have hone : ∀ u ∈ [Value.int .i64 xa, .slice sa ls sc, .slice ca j cc, .bool false], u.oneCell' = true := by rw [← hq]; exact su_one _
            replace hO9 := Lib.hid hO9
            replace hq := Lib.hid hq
            replace hone := Lib.hid hone
            go_wp2_with (first
              | (at_builtin; go_must (refine wpList_append_at _ rfl (.tmp 53) (.tmp 55) 61 rfl (gm + 1) 112 j0 _ 4 64 Tryz.underlying61 hj hy0 hy1 hy2 rfl (by decide) (.slice a k c) k _ rfl (hO9.out.row.alloc _) ⟨w9.heap.size, 0, none⟩ 1 1 [.int .i64 xa, .slice sa ls sc, .slice ca j cc, .bool false] rfl rfl (news_at w9 _ _) hone.out (by unfold maxLen; omega) (by omega) hgm9 ?_); intro v9 w10 o10 gr10 _; obtain ⟨a9, c9, rfl⟩ := ownsRow_slice o10; have f10 : Fr (rowB (.slice a k c)) (w9.alloc (.cells #[.int .i64 xa, .slice sa ls sc, .slice ca j cc, .bool false] 112)) w10 := (Fr.refl _ _).grown gr10 (fun k hk _ => hk); have fA : Fr noB w9 (w9.alloc (.cells #[.int .i64 xa, .slice sa ls sc, .slice ca j cc, .bool false] 112)) := (Fr.refl _ _).alloc _; have hrl := hO9.out.row.lt; have bm10 := f10.blk (fA.blk hO9.out.bm (fun q => q)) (fun q => by have := hrl _ q; omega); have k10 : w10.cell? ⟨gm, 4, none⟩ = some (.slice a k c) := bm10.cell 4; have z10 := bm10.frozen 4)
              | fail)
            have b10 := f10.blk (fA.blk hO9.out.b0 (fun q => q)) (fun q => by have := hrl _ q; have := hO9.out.ne; omega)
            have rd10 := (rd9.out.fr fA (fun q => q)).fr f10 (fun q => by have := hrl _ q; have := hO9.out.ne; omega)
            have ow10 : OwnSU w10 (gm + 1) U := (hO9.out.own.frN fA).fr f10 (fun q hq g hg e => by
              rcases hg with hg | hg
              · exact own_apart (hO9.out.own.s q hq) hO9.out.row (by decide) g hg e
              · exact own_apart (hO9.out.own.c q hq) hO9.out.row (by decide) g hg e)
            have oc10 := ownsRow_fr (oc9.out.alloc _) f10 (fun g hg e => own_apart oc9.out hO9.out.row (by decide) g hg e)
            have os10 := ownsRow_fr (os9.out.alloc _) f10 (fun g hg e => own_apart os9.out hO9.out.row (by decide) g hg e)
            have fr10 : Fr noB w w10 := ((onl_toN fr.out fq9.out (by omega)).seqN fA).trans f10 (fun _ _ q => q) (fun i hi q => by have := hrl _ q; omega)
            have fs : Fr (onlyB gm) w10 (w10.setCell ⟨gm, 4, none⟩ (.slice a9 (k + 1) c9)) := (Fr.refl _ _).store (onlyB_self gm)
            have bm11 := bm10.set 4 (.slice a9 (k + 1) c9)
            have b11 := fs.blk b10 (fun q => by unfold onlyB at q; have := hO9.out.ne; omega)
            have rd11 := rd10.fr fs (fun q => by unfold onlyB at q; have := hO9.out.ne; omega)
            have ow11 := ow10.low fs (fun g h1 h2 q => by unfold onlyB at q; omega)
            have oc11 := ownsRow_mono (ownsRow_fr oc10 fs (fun g hg q => by have := (oc10.lt g hg).1; unfold onlyB at q; omega)) (show gm + 1 ≤ gY + 1 by omega)
            have os11 := ownsRow_mono (ownsRow_fr os10 fs (fun g hg q => by have := (os10.lt g hg).1; unfold onlyB at q; omega)) (show gm + 1 ≤ gY + 1 by omega)
            have o11 := ownsRow_fr o10 fs (fun g hg q => by have := (o10.lt g hg).1; unfold onlyB at q; omega)
            have fr11 : Fr noB w (w10.setCell ⟨gm, 4, none⟩ (.slice a9 (k + 1) c9)) := fr10.trans fs (fun _ _ q => q) (fun i hi q => by unfold onlyB at q; omega)
            generalize (w10.setCell ⟨gm, 4, none⟩ (.slice a9 (k + 1) c9)) = w11 at *
            have hO11 : RdO w11 W0 p gm tr jb cl L (k + 1) a9 c9 (U ++ [⟨x, sa, sc, ca, cc⟩]) := ⟨bm11, b11, by rw [List.flatMap_append]; simp only [List.flatMap_cons, List.flatMap_nil, List.append_nil]; rw [hq.out]; exact o11,
              ⟨fun q hq => by
                rcases List.mem_append.1 hq with hq | hq
                · exact ow11.s q hq
                · simp only [List.mem_cons, List.not_mem_nil, or_false] at hq
                  subst hq
                  unfold SU.s
                  simp only
                  rw [hls.out]
                  exact os11, fun q hq => by
                rcases List.mem_append.1 hq with hq | hq
                · exact ow11.c q hq
                · simp only [List.mem_cons, List.not_mem_nil, or_false] at hq
                  subst hq
                  unfold SU.c
                  simp only
                  rw [hm.out]
                  rw [hct.out] at oc11
                  exact oc11⟩, by rw [List.map_append]; exact hT1.out, hO9.out.ne⟩
            have rd12 : Hid (Rd w11 p (some (ptsR L (k + 1)))) := Lib.hid (by rw [hRe.out]; exact rd11)
            replace hO11 := Lib.hid hO11
            replace fr11 := Lib.hid fr11
            clear f10 fA hrl bm10 b10 rd10 ow10 oc10 os10 fr10 fs bm11 b11 rd11 ow11 oc11 os11 o11 o10 gr10 k10 z10 y0 y1 y2 y3 cm hgm9
            go_wp2_with fail
            go_roundg (n - (k + 1))
            case rel => exact ⟨k + 1, a9, c9, U ++ [⟨x, sa, sc, ca, cc⟩], hkn2.out, by go_num, hO11, rd12, fr11⟩
            case measure => exact hmeas.out
    · obtain rfl : k = n := by omega
      obtain ⟨n1, n2⟩ := hO.out.ne
      have hO9 := hO.out
      have hL : U.map SU.x = L := by rw [hO9.map, hTk.out]
      have hUl : U.length = k := by rw [← List.length_map (f := SU.x), hL]; exact hn.out
      have hrp := RdPt.of_own hO9.row hO9.own hL hUl (by omega)
      have hwh := sgWhole_any _ L wO hrp
      rw [← l6.out] at hwh
      have cm : wO.cell? ⟨gm, 4, none⟩ = some (.slice a k c) := hO9.bm.cell 4
      replace hwh := Lib.hid hwh
      replace hL := Lib.hid hL
      replace hO9 := Lib.hid hO9
      clear hrp
      go_wp2_with fail
      go_fit hwh.out
      rintro e w8 ⟨rfl, f8⟩
      have hO8 := hO9.out.fr f8 (fun q e => False.elim e)
      have rd8 := hrd.out.fr f8 (fun q => q)
      have fr8 := fr.out.seqN f8
      have k8 : w8.cell? ⟨gm, 3, none⟩ = some (.bool false) := hO8.bm.cell 3
      have z8 := hO8.bm.frozen 3
      have fs : Fr (onlyB gm) w8 (w8.setCell ⟨gm, 3, none⟩ (.bool wh)) := (Fr.refl _ _).store (onlyB_self gm)
      have bm9 := hO8.bm.set 3 (.bool wh)
      have b9 := fs.blk hO8.b0 (fun q => by unfold onlyB at q; omega)
      have o9 := ownsRow_fr hO8.row fs (fun g hg q => by have := (hO8.row.lt g hg).1; unfold onlyB at q; omega)
      have ow9 := hO8.own.low fs (fun g h1 h2 q => by unfold onlyB at q; omega)
      have rd9 := rd8.fr fs (fun q => by unfold onlyB at q; omega)
      have fr9 : Fr noB w (w8.setCell ⟨gm, 3, none⟩ (.bool wh)) := fr8.trans fs (fun _ _ q => q) (fun i hi q => by unfold onlyB at q; omega)
      clear hO8 rd8 fr8 fs f8 hO9 hO hrd fr hwh
      replace bm9 := Lib.hid bm9
      replace b9 := Lib.hid b9
      replace o9 := Lib.hid o9
      replace ow9 := Lib.hid ow9
      replace rd9 := Lib.hid rd9
      replace fr9 := Lib.hid fr9
      go_upto_region 18 with fail
      generalize (w8.setCell ⟨gm, 3, none⟩ (.bool wh)) = w9 at *
      clear k8 z8 cm
      rw [hend.out] at rd9
      have hdn := rdone_any p (some []) w9.drew (rd9.out.fr (Fr.refl noB w9).drew (fun q => q))
      rw [show decide (some ([] : List UInt8) = some []) = true from rfl] at hdn
      replace hdn := Lib.hid hdn
      have S9 : (fun w' => w'.cell? ⟨gm, 0, none⟩ = some (.int .i64 tr) ∧ w'.cell? ⟨gm, 1, none⟩ = some (.int .i64 jb) ∧ w'.cell? ⟨gm, 2, none⟩ = some (.int .i64 cl) ∧ w'.cell? ⟨gm, 3, none⟩ = some (.bool wh) ∧ w'.cell? ⟨gm, 4, none⟩ = some (.slice a k c)) w9.drew := ⟨bm9.out.cell 0, bm9.out.cell 1, bm9.out.cell 2, bm9.out.cell 3, bm9.out.cell 4⟩
      have b9d : Blk w9.drew W0 63 [.int .i64 0, .int .i64 0, .int .i64 0, .bool false, .slice none 0 0] := b9.out
      refine wp_region_held_drew (S := (fun w' => w'.cell? ⟨gm, 0, none⟩ = some (.int .i64 tr) ∧ w'.cell? ⟨gm, 1, none⟩ = some (.int .i64 jb) ∧ w'.cell? ⟨gm, 2, none⟩ = some (.int .i64 cl) ∧ w'.cell? ⟨gm, 3, none⟩ = some (.bool wh) ∧ w'.cell? ⟨gm, 4, none⟩ = some (.slice a k c))) (by kernel_rfl) S9 (fun hHeld => ?_)
      (refine wpAnyH_take (i := 0) (oi := ?_) (v := ?_) ?_ (by kernel_rfl) (by kernel_rfl) (by kernel_rfl) ?_ ?_ (by assumption) ?_; rotate_left 2; (focus ((simp only [List.getElem?_toArray, List.getElem?_cons_succ, List.getElem?_cons_zero]); try rfl)); (focus (exact (fun _ _ _ h => h))); (focus (refine Or.inl ⟨by rfl, ?_⟩; intro w hSw; (try dsimp only at hSw); go_simp; try with_reducible rfl)); try simp only [Act.put, List.setIfInBounds_toArray, List.set_cons_zero, List.set_cons_succ])
      (refine wpAnyH_take (i := 1) (oi := ?_) (v := ?_) ?_ (by kernel_rfl) (by kernel_rfl) (by kernel_rfl) ?_ ?_ (by assumption) ?_; rotate_left 2; (focus ((simp only [List.getElem?_toArray, List.getElem?_cons_succ, List.getElem?_cons_zero]); try rfl)); (focus (exact (fun _ _ _ h => h))); (focus (refine Or.inl ⟨by rfl, ?_⟩; intro w hSw; (try dsimp only at hSw); go_simp; try with_reducible rfl)); try simp only [Act.put, List.setIfInBounds_toArray, List.set_cons_zero, List.set_cons_succ])
      (refine wpAnyH_ready (rs := [2]) (by kernel_rfl) (by simp) (AllReadyH.cons (o := ?_) ?_ (fun K hK => ?_) AllReadyH.nil); rotate_left 1; (focus ((simp only [List.getElem?_toArray, List.getElem?_cons_succ, List.getElem?_cons_zero]); try rfl)))
      go_simp
      refine hdn.out.mono ?_
      rintro e wq ⟨rfl, hw⟩
      obtain rfl := hw.symm
      clear hw
      go_wp2_with fail
      refine hK.out _ _ (S9) (fun hHeld => ?_)
      clear hK K
      try simp only [Act.put, List.setIfInBounds_toArray, List.set_cons_zero, List.set_cons_succ]
      (refine wpAnyH_ready (rs := [3]) (by kernel_rfl) (by simp) (AllReadyH.cons (o := ?_) ?_ (fun K hK => ?_) AllReadyH.nil); rotate_left 1; (focus ((simp only [List.getElem?_toArray, List.getElem?_cons_succ, List.getElem?_cons_zero]); try rfl)))
      rw [if_pos (by rfl)]
      refine wp_store_mid 63 (.tmp 2) (.tmp 63) rfl W0 0 #[.int .i64 tr, .int .i64 jb, .int .i64 cl, .bool wh, .slice a k c] (by simp [Act.eval, Act.put]) (by simp [Act.eval, Act.put]) (there6m (i := 0) (n := 5) b9d (by simp)) size_rec5 (rec5_one _ _ _ _ _ _ _) ?_
      obtain ⟨w10, hw10, f10, h10⟩ := store5m w9.drew W0 0 (.int .i64 tr) (.int .i64 jb) (.int .i64 cl) (.bool wh) (.slice a k c)
      rw [← hw10]
      clear hw10
      have b10 : Blk w10 W0 63 [.int .i64 tr, .int .i64 jb, .int .i64 cl, .bool wh, .slice a k c] := h10 _ _ b9d
      have hgm0 : W0 < gm := by omega
      have bm10 := f10.blk (bm9.out : Blk w9.drew _ _ _) (fun q => by unfold onlyB at q; omega)
      have S10 : (fun w' => w'.cell? ⟨gm, 0, none⟩ = some (.int .i64 tr) ∧ w'.cell? ⟨gm, 1, none⟩ = some (.int .i64 jb) ∧ w'.cell? ⟨gm, 2, none⟩ = some (.int .i64 cl) ∧ w'.cell? ⟨gm, 3, none⟩ = some (.bool wh) ∧ w'.cell? ⟨gm, 4, none⟩ = some (.slice a k c)) w10 := ⟨bm10.cell 0, bm10.cell 1, bm10.cell 2, bm10.cell 3, bm10.cell 4⟩
      have o9d : w9.drew.ownsRow (gm + 1) 112 4 (.slice a k c) k (U.flatMap SU.cs) := o9.out
      have o10 := ownsRow_fr o9d f10 (fun g hg q => by have := (o9d.lt g hg).1; unfold onlyB at q; omega)
      have ow10 := (ow9.out.frN ((Fr.refl noB w9).drew)).low f10 (fun g h1 h2 q => by unfold onlyB at q; omega)
      have fr10 : Fr noB w w10 := (fr9.out.drew).trans f10 (fun _ _ q => q) (fun i hi q => by unfold onlyB at q; omega)
      replace b10 := Lib.hid b10
      replace o10 := Lib.hid o10
      replace ow10 := Lib.hid ow10
      replace fr10 := Lib.hid fr10
      clear f10 h10 bm10
      refine hK.out _ _ (S10) (fun hHeld => ?_)
      clear hK K
      try simp only [Act.put, List.setIfInBounds_toArray, List.set_cons_zero, List.set_cons_succ]
      (refine wpAnyH_take (i := 4) (oi := ?_) (v := ?_) ?_ (by kernel_rfl) (by kernel_rfl) (by kernel_rfl) ?_ ?_ (by assumption) ?_; rotate_left 2; (focus ((simp only [List.getElem?_toArray, List.getElem?_cons_succ, List.getElem?_cons_zero]); try rfl)); (focus (exact (fun _ _ _ h => h))); (focus (refine Or.inl ⟨by rfl, ?_⟩; intro w hSw; (try dsimp only at hSw); go_simp; try with_reducible rfl)); try simp only [Act.put, List.setIfInBounds_toArray, List.set_cons_zero, List.set_cons_succ])
      refine wpAnyH_done (by kernel_rfl) ?_ _
      clear hHeld S9 S10
      go_wp2_with fail
      refine bodyPost_ret (rec_ret rfl _ _ (g := W0) (by rfl) b10.out rfl) rfl ?_
      exact ⟨.slice a k c, U, rfl, ownsRow_mono o10.out (by omega), ⟨fun q hq => ownsRow_mono (ow10.out.s q hq) (by omega), fun q hq => ownsRow_mono (ow10.out.c q hq) (by omega)⟩, hL.out, fr10.out⟩
end Go.Proofs.YtdmhnoffejjpnaaGreatDoor
end
