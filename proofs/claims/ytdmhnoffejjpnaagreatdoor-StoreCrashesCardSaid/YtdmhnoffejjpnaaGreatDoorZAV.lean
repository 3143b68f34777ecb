/-
  seglog: Read, of what was printed; Scan.
  seglog: Scan, of printed records and what is torn off.
  seglog: a beginning of printed records: whole ones, and one that is torn.
  Records that are let go out of a row: plain mathematics, and the row's cells.
-/
import Derived.Test.YtdmhnoffejjpnaaGreatDoorZAU
import Derived.Lib.SliceRun
section
set_option linter.unusedVariables false
set_option linter.unusedSimpArgs false
set_option maxRecDepth 100000
set_option maxRecDepth 100000
namespace Go.Proofs.YtdmhnoffejjpnaaGreatDoor
open Go.RowKit Go Go.Lib

theorem num4_four (n : Nat) (hn : n < 4294967296) (t : List UInt8) : num4 (four n ++ t) = n := by
  unfold num4 four
  simp only [List.cons_append, List.nil_append, List.getD_cons_zero, List.getD_cons_succ, u8_nat]
  omega
theorem four_len (n : Nat) : (four n).length = 4 := rfl
theorem frame_len (t : List UInt8) : (frameL t).length = 8 + t.length := by unfold frameL; rw [List.length_append, List.length_append, four_len, four_len]; omega
theorem size_frame (t r : List UInt8) (h : t.length ≤ 60000) : sizeS (frameL t ++ r) = some (8 + t.length) := by
  have h1 : num4 (frameL t ++ r) = t.length := by
    unfold frameL
    rw [List.append_assoc]
    exact num4_four _ (by omega) _
  unfold sizeS
  rw [h1, List.length_append, frame_len, if_neg (by omega), if_neg (by omega)]
theorem slice_str (s : ByteArray) (a b : Nat) (A B : Int) (hA : A = (a : Int)) (hB : B = (b : Int)) (h1 : a ≤ b) (h2 : b ≤ s.size) (w : World) : (Instr.slice 9 (.string s) (some (.int .i64 A)) (some (.int .i64 B)) none).run Tryz.prog w = .ok (.string (strB ((s.data.toList.take b).drop a))) w := by
  subst hA hB
  rw [run_slice_string_if w 9 s .i64 .i64 (a : Int) (b : Int) Tryz.underlying9, if_pos (by omega), if_pos (by omega), ← ext_eq s a b]
  simp
theorem slice_strL (s : ByteArray) (a : Nat) (A : Int) (hA : A = (a : Int)) (h1 : a ≤ s.size) (w : World) : (Instr.slice 9 (.string s) (some (.int .i64 A)) none none).run Tryz.prog w = .ok (.string (strB (s.data.toList.drop a))) w := by
  subst hA
  rw [run_slice_string_l w 9 s Tryz.underlying9 .i64 (a : Int) (by omega) (by omega), Int.toNat_natCast, ext_eq, List.take_of_length_le (by rw [size_len]; exact Nat.le_refl _)]
theorem frame_drop8 (t : List UInt8) : (frameL t).drop 8 = t := by unfold frameL four; simp
theorem frame_drop4 (t : List UInt8) : (frameL t).drop 4 = four (checkL t).toNat ++ t := by unfold frameL four; simp
set_option maxHeartbeats 8000000 in
theorem sgRead_any (s : ByteArray) (r : RC) (w : World) (hg : Gl w) (hs : s.data.toList = frameL (recT r)) (hl : (recT r).length ≤ 60000) (ho : okRc r = true) :
    Calls Tryz.prog 59 #[.string s] w fun e w' => ∃ v U, e = .returned (.tuple #[rcV r v, .int .i64 0]) ∧ w'.ownsRow w.heap.size 112 4 v r.ps.length (U.flatMap SU.cs) ∧ OwnSU w' w.heap.size U ∧ U.map SU.x = r.ps ∧ Fr noB w w' := by
  have hok := rc_ok ho
  have hsz : s.size = 8 + (recT r).length := by rw [← size_len, hs, frame_len]
  have hsiz := fun w' => size_any s w' (by omega)
  have hse : sizeS s.data.toList = some (8 + (recT r).length) := by
    have := size_frame (recT r) [] hl
    rw [List.append_nil] at this
    rw [hs]; exact this
  simp only [hse, sizeV] at hsiz
  have e1 := slice_str s 8 (8 + (recT r).length) 8 ((8 + (recT r).length : Nat) : Int) rfl rfl (by omega) (by omega)
  have e2 := slice_strL s 4 4 rfl (by omega)
  rw [List.take_of_length_le (by rw [size_len]; omega), hs, frame_drop8] at e1
  rw [hs, frame_drop4] at e2
  have hbd := checkL_bd (recT r)
  obtain ⟨ck, hck⟩ : ∃ c : Nat, checkL (recT r) = c := ⟨(checkL (recT r)).toNat, by omega⟩
  have hnum := fun w' => num4_any (strB (four ck ++ recT r)) w' (by rw [strB_size, List.length_append, four_len]; omega)
  rw [strB_list, num4_four ck (by omega)] at hnum
  have hchk := fun w' => check_any (strB (recT r)) w' (by rw [strB_size]; unfold maxLen; omega)
  rw [strB_list, hck] at hchk
  rw [hck, Int.toNat_natCast] at e2
  have hrd := fun w' (f : Fr noB w w') => sgread_any (strB (recT r)) r w' (hg.fr f) (strB_list _) (by rw [strB_size]; exact hl) hok
  have hri := fun v w' h => sgRight_any r v w' h
  simp only [ho] at hri
  have hps := hok.n
  generalize strB (four ck ++ recT r) = Q at *
  generalize hT : strB (recT r) = T at *
  obtain ⟨N, hN⟩ : ∃ N, 8 + (recT r).length = N := ⟨_, rfl⟩
  rw [hN] at hsz hsiz e1
  have hNb : N ≤ 60008 := by omega
  obtain ⟨tr, jb, cl, wh, L⟩ := r
  unfold rcV at *
  simp only at hrd hri hps ⊢
  have d1 : decide ((N : Int) < (s.size : Int)) = false := by simp; omega
  have d2 : decide (N < s.size) = false := by simp; omega
  have d4 : ((ck : Int) != (ck : Int)) = false := by simp
  have f0 := (Fr.refl noB w).alloc (.cells #[.int .i64 0, .int .i64 0, .int .i64 0, .bool false, .slice none 0 0] 63)
  have b0 := Blk.new w 63 [.int .i64 0, .int .i64 0, .int .i64 0, .bool false, .slice none 0 0]
  obtain ⟨W0, hW0⟩ : ∃ B, w.heap.size = B := ⟨_, rfl⟩
  rw [hW0] at b0 ⊢
  replace hsiz := Lib.hid hsiz
  replace hnum := Lib.hid hnum
  replace hchk := Lib.hid hchk
  replace hrd := Lib.hid hrd
  replace hri := Lib.hid hri
  replace hT := Lib.hid hT
  replace hN := Lib.hid hN
  replace hck := Lib.hid hck
  replace hsz := Lib.hid hsz
  clear hs hl ho hok hse hbd hg
  go_enter Tryz.func59, Tryz.ntmps59
  go_upto_region 1 with fail
  try rw [hW0]
  generalize (w.alloc (.cells #[.int .i64 0, .int .i64 0, .int .i64 0, .bool false, .slice none 0 0] 63)) = w1 at *
  replace hW0 := Lib.hid hW0
  go_wp2_with fail
  go_fit (hsiz.out w1)
  rintro e w2 ⟨rfl, f2⟩
  go_wp2_with fail
  go_fit (hnum.out w2)
  rintro e w3 ⟨rfl, f3⟩
  go_wp2_with fail
  go_fit (hchk.out w3)
  rintro e w4 ⟨rfl, hw⟩
  obtain rfl := hw.symm
  clear hw
  have fr3 := (f0.seqN f2).seqN f3
  have b3 := (f2.seqN f3).blk b0 (fun q => q)
  have hrd3 := hrd.out w3 fr3
  replace hrd3 := Lib.hid hrd3
  replace b3 := Lib.hid b3
  replace fr3 := Lib.hid fr3
  clear f0 f2 f3 b0 hsiz hnum hchk hrd
  go_wp2_with fail
  go_fit hrd3.out
  rintro e w5 ⟨v, U, rfl, o5, ow5, hU, f5⟩
  obtain ⟨sa, sc, rfl⟩ := ownsRow_slice o5
  have b5 := f5.blk b3.out (fun q => q)
  have fr5 := fr3.out.seqN f5
  have hW5 : W0 ≤ w3.heap.size := by have := fr3.out.size; have := hW0.out; omega
  have fY : Fr noB w5 (w5.alloc (.cells #[.int .i64 tr, .int .i64 jb, .int .i64 cl, .bool wh, .slice sa L.length sc] 63)) := (Fr.refl _ _).alloc _
  have bY := Blk.new w5 63 [.int .i64 tr, .int .i64 jb, .int .i64 cl, .bool wh, .slice sa L.length sc]
  have hUl : U.length = L.length := by rw [← List.length_map (f := SU.x), hU]
  have hrp := (RdPt.of_own o5 ow5 hU hUl (by omega)).frN fY
  have b6 := fY.blk b5 (fun q => q)
  have fr6 := fr5.seqN fY
  have o6 := ownsRow_mono (ownsRow_fr o5 fY (fun _ _ q => q)) hW5
  have ow6 : OwnSU _ W0 U := ⟨fun q hq => ownsRow_mono ((ow5.frN fY).s q hq) hW5, fun q hq => ownsRow_mono ((ow5.frN fY).c q hq) hW5⟩
  generalize hLl : L.length = n at *
  have hW05 : W0 < w5.heap.size := b5.lt
  go_upto_region 8 with fail
  obtain ⟨gY, hgY⟩ : ∃ g, w5.heap.size = g := ⟨_, rfl⟩
  rw [hgY] at bY hW05
  try rw [hgY]
  generalize (w5.alloc (.cells #[.int .i64 tr, .int .i64 jb, .int .i64 cl, .bool wh, .slice sa n sc] 63)) = w6 at *
  have hri6 := hri.out _ w6 hrp
  have y0 : w6.cell? ⟨gY, 0, none⟩ = some (.int .i64 tr) := bY.cell 0
  have y1 : w6.cell? ⟨gY, 1, none⟩ = some (.int .i64 jb) := bY.cell 1
  have y2 : w6.cell? ⟨gY, 2, none⟩ = some (.int .i64 cl) := bY.cell 2
  have y3 : w6.cell? ⟨gY, 3, none⟩ = some (.bool wh) := bY.cell 3
  have y4 : w6.cell? ⟨gY, 4, none⟩ = some (.slice sa n sc) := bY.cell 4
  replace hri6 := Lib.hid hri6
  replace hgY := Lib.hid hgY
  replace hLl := Lib.hid hLl
  replace bY := Lib.hid bY
  replace b6 := Lib.hid b6
  replace o6 := Lib.hid o6
  replace ow6 := Lib.hid ow6
  replace fr6 := Lib.hid fr6
  replace hU := Lib.hid hU
  clear fY b5 fr5 o5 ow5 hrp hrd3 b3 fr3 f5 hUl hri
  go_wp2_with fail
  go_fit hri6.out
  rintro e w7 ⟨rfl, f7⟩
  have b7 := f7.blk b6.out (fun q => q)
  have bY7 := f7.blk bY.out (fun q => q)
  have o7 := ownsRow_fr o6.out f7 (fun _ _ q => q)
  have ow7 := ow6.out.frN f7
  have fr7 := fr6.out.seqN f7
  clear y0 y1 y2 y3 y4 f7 hri6 bY b6 o6 ow6 fr6
  have y0 : w7.cell? ⟨gY, 0, none⟩ = some (.int .i64 tr) := bY7.cell 0
  have y1 : w7.cell? ⟨gY, 1, none⟩ = some (.int .i64 jb) := bY7.cell 1
  have y2 : w7.cell? ⟨gY, 2, none⟩ = some (.int .i64 cl) := bY7.cell 2
  have y3 : w7.cell? ⟨gY, 3, none⟩ = some (.bool wh) := bY7.cell 3
  have y4 : w7.cell? ⟨gY, 4, none⟩ = some (.slice sa n sc) := bY7.cell 4
  have t7 := there6m (i := 0) (n := 5) b7 (by simp)
  replace t7 := Lib.hid t7
  replace b7 := Lib.hid b7
  replace o7 := Lib.hid o7
  replace ow7 := Lib.hid ow7
  replace fr7 := Lib.hid fr7
  replace bY7 := Lib.hid bY7
  go_wp2_with (first
    | (refine wpList_store_mid rfl 63 (.tmp 2) (.tmp 45) rfl W0 0 #[.int .i64 tr, .int .i64 jb, .int .i64 cl, .bool wh, .slice sa n sc] rfl rfl t7.out size_rec5 (rec5_one _ _ _ _ _ _ _) ?_; obtain ⟨w8, hw8, f8, h8⟩ := store5m w7 W0 0 (.int .i64 tr) (.int .i64 jb) (.int .i64 cl) (.bool wh) (.slice sa n sc); rw [← hw8]; clear hw8; have b8 : Blk w8 W0 63 [.int .i64 tr, .int .i64 jb, .int .i64 cl, .bool wh, .slice sa n sc] := h8 _ _ b7.out; replace f8 := Lib.hid f8; replace b8 := Lib.hid b8; clear h8)
    | fail)
  try go_wp2_with fail
  refine bodyPost_ret (rec_ret rfl _ _ (g := W0) (by rfl) b8.out rfl) rfl ?_
  have fr8 : Fr noB w w8 := fr7.out.trans f8.out (fun _ _ q => q) (fun i hi q => by have := hW0.out; unfold onlyB at q; omega)
  rw [hLl.out]
  refine ⟨.slice sa n sc, U, rfl, ownsRow_fr o7.out f8.out (fun g hg q => by unfold onlyB at q; subst q; exact row_not o7.out b7.out (by decide) hg), ow7.out.fr f8.out (fun q hq g hg e => ?_), hU.out, fr8⟩
  unfold onlyB at e
  subst e
  rcases hg with hg | hg
  · exact row_not (ow7.out.s q hq) b7.out (by decide) hg
  · exact row_not (ow7.out.c q hq) b7.out (by decide) hg
end Go.Proofs.YtdmhnoffejjpnaaGreatDoor
end

section
set_option linter.unusedVariables false
set_option linter.unusedSimpArgs false
set_option maxRecDepth 100000
set_option maxRecDepth 100000
namespace Go.Proofs.YtdmhnoffejjpnaaGreatDoor
open Go.RowKit Go Go.Lib

/-- a record of a list, and where its parts lie -/
structure QU where
  x : RC
  pa : Option Addr
  pc : Nat
  U : List SU
def QU.v (q : QU) : Value := .slice q.pa q.x.ps.length q.pc
def rcC (x : RC) (v : Value) : List Value := [.int .i64 x.tr, .int .i64 x.jb, .int .i64 x.cl, .bool x.wh, v]
def QU.cs (q : QU) : List Value := rcC q.x q.v
theorem QU.len (P : List QU) : (P.flatMap QU.cs).length = P.length * 5 := by
  induction P with
  | nil => rfl
  | cons s L ih =>
    rw [List.flatMap_cons, List.length_append, ih, List.length_cons]
    simp [QU.cs, rcC]
    omega
theorem QU.get : ∀ (L : List QU) (i q : Nat) (m : QU), L[i]? = some m → q < 5 → (L.flatMap QU.cs)[i * 5 + q]? = m.cs[q]?
  | [], i, q, m, h, _ => by simp at h
  | x :: r, 0, q, m, h, hq => by
    simp at h; subst h
    rw [List.flatMap_cons, List.getElem?_append_left (by simp [QU.cs, rcC]; omega)]
    congr 1; omega
  | x :: r, i + 1, q, m, h, hq => by
    have hl : x.cs.length = 5 := rfl
    rw [List.flatMap_cons, List.getElem?_append_right (by rw [hl]; omega), hl, show (i + 1) * 5 + q - 5 = i * 5 + q by omega]
    exact QU.get r i q m (by simpa using h) hq
theorem qu_one (q : QU) : ∀ u ∈ q.cs, u.oneCell' = true := by
  intro u hu
  unfold QU.cs rcC QU.v at hu
  simp only [List.mem_cons, List.not_mem_nil, or_false] at hu
  rcases hu with rfl | rfl | rfl | rfl | rfl <;> rfl
structure OwnQ1 (w : World) (B : Nat) (q : QU) : Prop where
  r : w.ownsRow B 112 4 q.v q.x.ps.length (q.U.flatMap SU.cs)
  s : OwnSU w B q.U
  m : q.U.map SU.x = q.x.ps
def OwnQ (w : World) (B : Nat) (Q : List QU) : Prop := ∀ q ∈ Q, OwnQ1 w B q
theorem OwnQ1.fr {w w' : World} {B : Nat} {S : Nat → Prop} {q : QU} (h : OwnQ1 w B q) (f : Fr S w w') (hr : ∀ g, q.v.ownBlock = some g → ¬ S g) (hs : ∀ u ∈ q.U, ∀ g, (u.s.ownBlock = some g ∨ u.c.ownBlock = some g) → ¬ S g) : OwnQ1 w' B q :=
  ⟨ownsRow_fr h.r f hr, h.s.fr f hs, h.m⟩
theorem OwnQ1.frN {w w' : World} {B : Nat} {q : QU} (h : OwnQ1 w B q) (f : Fr noB w w') : OwnQ1 w' B q := h.fr f (fun _ _ q => q) (fun _ _ _ _ q => q)
theorem OwnQ1.mono {w : World} {B C : Nat} {q : QU} (h : OwnQ1 w C q) (hb : B ≤ C) : OwnQ1 w B q := ⟨ownsRow_mono h.r hb, ⟨fun u hu => ownsRow_mono (h.s.s u hu) hb, fun u hu => ownsRow_mono (h.s.c u hu) hb⟩, h.m⟩
/-- a row of records is appended to: their parts stay -/
theorem OwnQ1.row {w w' : World} {B C n : Nat} {q : QU} {v : Value} {xs : List Value} (h : OwnQ1 w B q) (ho : w.ownsRow C 63 5 v n xs) (f : Fr (rowB v) w w') : OwnQ1 w' B q :=
  h.fr f (fun g hg e => own_apart h.r ho (by decide) g hg e) (fun u hu g hg e => by
    rcases hg with hg | hg
    · exact own_apart (h.s.s u hu) ho (by decide) g hg e
    · exact own_apart (h.s.c u hu) ho (by decide) g hg e)
theorem OwnQ.frN {w w' : World} {B : Nat} {Q : List QU} (h : OwnQ w B Q) (f : Fr noB w w') : OwnQ w' B Q := fun q hq => (h q hq).frN f
theorem OwnQ1.rd {w : World} {B : Nat} {q : QU} (h : OwnQ1 w B q) (hb : q.x.ps.length ≤ 1000000) : RdPt w q.v q.x.ps :=
  RdPt.of_own h.r h.s h.m (by rw [← h.m, List.length_map]) hb
theorem Tryz.infoRecQ : (Tryz.prog.info? 63).map (fun i => (i.zero, i.size, i.bytes)) = some (some (.agg #[.int .i64 0, .int .i64 0, .int .i64 0, .bool false, .slice none 0 0]), 5, 56) := by kernel_rfl
/-- a record that may stand on the disk -/
def okW (r : RC) : Prop := okRc r = true ∧ (recT r).length ≤ 60000
def frR (r : RC) : List UInt8 := frameL (recT r)
def bytesR (L : List RC) : List UInt8 := L.flatMap frR
theorem bytes_drop (L : List RC) (t : List UInt8) (k : Nat) (r : RC) (h : L[k]? = some r) : (bytesR L ++ t).drop (bytesR (L.take k)).length = frR r ++ (bytesR (L.drop (k + 1)) ++ t) := by
  obtain ⟨hk, rfl⟩ := List.getElem?_eq_some_iff.1 h
  have h1 : bytesR L = bytesR (L.take k) ++ (frR L[k] ++ bytesR (L.drop (k + 1))) := by
    unfold bytesR
    conv => lhs; rw [← List.take_append_drop k L]
    rw [List.flatMap_append, List.drop_eq_getElem_cons hk, List.flatMap_cons]
  rw [h1, List.append_assoc, List.drop_left, List.append_assoc]
theorem bytes_end (L : List RC) (t : List UInt8) : (bytesR L ++ t).drop (bytesR (L.take L.length)).length = t := by rw [List.take_length, List.drop_left]
theorem bytes_take (L : List RC) (k : Nat) (r : RC) (h : L[k]? = some r) : (bytesR (L.take (k + 1))).length = (bytesR (L.take k)).length + (8 + (recT r).length) := by
  unfold bytesR
  rw [List.take_add_one, h]
  simp only [Option.toList_some, List.flatMap_append, List.flatMap_cons, List.flatMap_nil, List.append_nil, List.length_append]
  unfold frR
  rw [frame_len]
theorem bytes_le (L : List RC) (t : List UInt8) (k : Nat) : (bytesR (L.take k)).length ≤ (bytesR L ++ t).length := by
  have h1 : bytesR L = bytesR (L.take k) ++ bytesR (L.drop k) := by
    unfold bytesR
    conv => lhs; rw [← List.take_append_drop k L]
    rw [List.flatMap_append]
  rw [h1, List.length_append, List.length_append]
  omega
theorem size_frR (r : RC) (X : List UInt8) (h : okW r) : sizeS (frR r ++ X) = some (8 + (recT r).length) := by
  unfold frR
  exact size_frame (recT r) X h.2
theorem sizeR_any (r : RC) (X : List UInt8) (h : okW r) (w : World) (hl : (frR r ++ X).length ≤ 1000000) :
    Calls Tryz.prog 58 #[.string (strB (frR r ++ X))] w fun e w' => e = .returned (.tuple #[.int .i64 ((8 + (recT r).length : Nat) : Int), .bool true]) ∧ Fr noB w w' := by
  have h1 := size_any (strB (frR r ++ X)) w (by rw [strB_size]; exact hl)
  rw [strB_list, size_frR r X h] at h1
  exact h1
theorem sizeE_any (t : List UInt8) (h : sizeS t = none) (w : World) (hl : t.length ≤ 1000000) :
    Calls Tryz.prog 58 #[.string (strB t)] w fun e w' => e = .returned (.tuple #[.int .i64 0, .bool false]) ∧ Fr noB w w' := by
  have h1 := size_any (strB t) w (by rw [strB_size]; exact hl)
  rw [strB_list, h] at h1
  exact h1
theorem readR_any (r : RC) (h : okW r) (w : World) (hg : Gl w) :
    Calls Tryz.prog 59 #[.string (strB (frR r))] w fun e w' => ∃ v U, e = .returned (.tuple #[rcV r v, .int .i64 0]) ∧ w'.ownsRow w.heap.size 112 4 v r.ps.length (U.flatMap SU.cs) ∧ OwnSU w' w.heap.size U ∧ U.map SU.x = r.ps ∧ Fr noB w w' :=
  sgRead_any (strB (frR r)) r w hg (by rw [strB_list]; rfl) h.2 h.1
theorem take_frR (s : List UInt8) (P : Nat) (r : RC) (X : List UInt8) (h : s.drop P = frR r ++ X) : (s.take (P + (8 + (recT r).length))).drop P = frR r := by
  rw [List.drop_take, Nat.add_sub_cancel_left, h, show 8 + (recT r).length = (frR r).length by unfold frR; rw [frame_len], List.take_left]
theorem app_bd (k : Nat) (h : k ≤ 1000000) : k + 1 ≤ maxLen ∧ (k + 1) * 56 ≤ 140737488355328 := by unfold maxLen; omega
set_option maxHeartbeats 20000000 in
theorem sgScan_any (s : ByteArray) (L : List RC) (t : List UInt8) (w : World) (hg : Gl w) (hs : s.data.toList = bytesR L ++ t) (ht : sizeS t = none) (hL : ∀ r ∈ L, okW r) (hl : s.size ≤ 1000000) :
    Calls Tryz.prog 33 #[.string s] w fun e w' => ∃ a c Q, e = .returned (.tuple #[.slice a L.length c, .int .i64 ((bytesR L).length : Int)]) ∧ w'.ownsRow w.heap.size 63 5 (.slice a L.length c) L.length (Q.flatMap QU.cs) ∧ OwnQ w' w.heap.size Q ∧ Q.map QU.x = L ∧ Fr noB w w' := by
  obtain ⟨j0, hj, hy0, hy1, hy2⟩ := info_parts Tryz.infoRecQ
  have hget : ∀ k, k < L.length → ∃ m, L[k]? = some m := fun k hk => ⟨L[k], List.getElem?_eq_getElem hk⟩
  have hpos : ∀ k, (bytesR (L.take k)).length ≤ s.size := fun k => by rw [← size_len, hs]; exact bytes_le L t k
  have hdr := fun k r (h : L[k]? = some r) => bytes_drop L t k r h
  have htk := fun k r (h : L[k]? = some r) => bytes_take L k r h
  have hen := bytes_end L t
  have hTk : L.take L.length = L := List.take_length
  have hgl := fun w' (f : Fr noB w w') => hg.fr f
  have hlen : L.length ≤ 1000000 := by
    have h1 : ∀ (M : List RC), M.length ≤ (bytesR M).length := by
      intro M
      induction M with
      | nil => simp
      | cons x M ih =>
        unfold bytesR at *
        rw [List.flatMap_cons, List.length_append, List.length_cons]
        have : 1 ≤ (frR x).length := by unfold frR; rw [frame_len]; omega
        omega
    have h2 := h1 L
    have h3 := hpos L.length
    rw [hTk] at h3
    omega
  rw [← hs] at hdr hen
  obtain ⟨n, hn⟩ : ∃ n, L.length = n := ⟨_, rfl⟩
  rw [hn] at hget hen hTk hlen ⊢
  obtain ⟨W0, hW0⟩ : ∃ B, w.heap.size = B := ⟨_, rfl⟩
  rw [hW0]
  replace hget := Lib.hid hget
  replace hpos := Lib.hid hpos
  replace hdr := Lib.hid hdr
  replace htk := Lib.hid htk
  replace hen := Lib.hid hen
  replace hTk := Lib.hid hTk
  replace hgl := Lib.hid hgl
  replace hn := Lib.hid hn
  replace hL := Lib.hid hL
  replace hs := Lib.hid hs
  replace ht := Lib.hid ht
  replace hW0 := Lib.hid hW0
  clear hg
  go_enter Tryz.func33, Tryz.ntmps33
  go_wp2_with fail
  go_loopg [2, 3] n (fun gk v2 v3 wr => ∃ (k : Nat) (a : Option Addr) (c : Nat) (Q : List QU), k + gk = n ∧ v2 = .slice a k c ∧ v3 = .int .i64 ((bytesR (L.take k)).length : Int) ∧ Hid (wr.ownsRow W0 63 5 (.slice a k c) k (Q.flatMap QU.cs)) ∧ Hid (OwnQ wr W0 Q) ∧ Hid (Q.map QU.x = L.take k) ∧ Hid (Fr noB w wr))
  case atStart => exact ⟨0, none, 0, [], by omega, rfl, by simp [bytesR], Lib.hid (World.ownsRow_nil _ _ _ _), Lib.hid (fun q hq => by simp at hq), Lib.hid (by simp), Lib.hid (Fr.refl _ _)⟩
  case round =>
    obtain ⟨k, a, c, Q, hkn, rfl, rfl, ho, hq, hm, fr⟩ := hrel
    have hp := hpos.out k
    obtain ⟨P, hP⟩ : ∃ q, (bytesR (L.take k)).length = q := ⟨_, rfl⟩
    rw [hP] at hp
    have e1 := slice_strL s P (P : Int) rfl hp
    by_cases hlt : k < n
    · obtain ⟨r, hr⟩ := hget.out k hlt
      obtain ⟨ok1, ok2⟩ := hL.out r (List.mem_of_getElem? hr)
      have hd := hdr.out k r hr
      rw [hP] at hd
      rw [hd] at e1
      have hsb : (frR r ++ (bytesR (L.drop (k + 1)) ++ t)).length ≤ 1000000 := by rw [← hd, List.length_drop, size_len]; omega
      have hsz := fun w' => sizeR_any r (bytesR (L.drop (k + 1)) ++ t) (hL.out r (List.mem_of_getElem? hr)) w' hsb
      have htk1 := htk.out k r hr
      have hp1 := hpos.out (k + 1)
      rw [hP] at htk1
      rw [htk1] at hp1
      have e2 := slice_str s P (P + (8 + (recT r).length)) (P : Int) ((P : Int) + ((8 + (recT r).length : Nat) : Int)) rfl (by omega) (by omega) hp1
      rw [take_frR s.data.toList P r _ hd] at e2
      have hrd := fun w' (f : Fr noB w w') => readR_any r (hL.out r (List.mem_of_getElem? hr)) w' (hgl.out w' f)
      have hmeas : n - (k + 1) < gk := by omega
      have hkn2 : k + 1 + (n - (k + 1)) = n := by omega
      have hk6 : k ≤ 1000000 := by omega
      have hbd := Lib.hid (app_bd k hk6)
      have hm1 : Q.map QU.x ++ [r] = L.take (k + 1) := by rw [hm.out, List.take_add_one, hr]; rfl
      have hps := (rc_ok ok1).n
      generalize strB (frR r ++ (bytesR (L.drop (k + 1)) ++ t)) = S1 at *
      generalize strB (frR r) = S2 at *
      obtain ⟨M, hM⟩ : ∃ q, 8 + (recT r).length = q := ⟨_, rfl⟩
      rw [hM] at hp1 e2 htk1
      simp only [hM] at hsz
      have hM6 : M ≤ 60008 := by omega
      obtain ⟨x, hx⟩ : ∃ q, r = q := ⟨_, rfl⟩
      have hv3 : (P : Int) + (M : Int) = ((bytesR (L.take (k + 1))).length : Int) := by rw [htk1]; exact (Int.natCast_add P M).symm
      have hW : W0 ≤ wr.heap.size := by have := fr.out.size; have := hW0.out; omega
      replace hsz := Lib.hid hsz
      replace hrd := Lib.hid hrd
      replace hmeas := Lib.hid hmeas
      replace hkn2 := Lib.hid hkn2
      replace hm1 := Lib.hid hm1
      replace hM := Lib.hid hM
      replace hP := Lib.hid hP
      replace htk1 := Lib.hid htk1
      replace hv3 := Lib.hid hv3
      replace hr := Lib.hid hr
      replace hk6 := Lib.hid hk6
      clear hd ok1 ok2 hkn hm hx hsb
      rw [hP.out]
      go_wp2_with fail
      go_fit (hsz.out wr)
      rintro e w2 ⟨rfl, f2⟩
      have fr2 := fr.out.seqN f2
      have hrd2 := hrd.out w2 fr2
      have ho2 := ownsRow_fr ho.out f2 (fun _ _ q => q)
      have hq2 := hq.out.frN f2
      have hW2 : W0 ≤ w2.heap.size := by have := f2.size; omega
      replace hrd2 := Lib.hid hrd2
      replace fr2 := Lib.hid fr2
      replace ho2 := Lib.hid ho2
      replace hq2 := Lib.hid hq2
      clear f2 hsz hrd fr ho hq
      go_wp2_with fail
      go_fit hrd2.out
      rintro e w3 ⟨v, U, rfl, o3, ow3, hU, f3⟩
      have hwr : wrap64 ((P : Int) + (M : Int)) = ((bytesR (L.take (k + 1))).length : Int) := by rw [← hv3.out]; exact IntWalk.wrap64_in _ (by omega)
      replace hwr := Lib.hid hwr
      replace hM6 := Lib.hid hM6
      replace hp1 := Lib.hid hp1
      replace hp := Lib.hid hp
      clear e1 e2
      obtain ⟨sa, sc, rfl⟩ := ownsRow_slice o3
      have ho3 := ownsRow_fr ho2.out f3 (fun _ _ q => q)
      have hq3 := hq2.out.frN f3
      have fr3 := fr2.out.seqN f3
      have hnew : OwnQ1 w3 W0 (QU.mk r sa sc U) := (OwnQ1.mk (q := QU.mk r sa sc U) o3 ow3 hU).mono hW2
      have hW3 : W0 ≤ w3.heap.size := by have := f3.size; omega
      have hcs : QU.cs (QU.mk r sa sc U) = [.int .i64 r.tr, .int .i64 r.jb, .int .i64 r.cl, .bool r.wh, .slice sa r.ps.length sc] := rfl
      have hone : ∀ u ∈ [Value.int .i64 r.tr, .int .i64 r.jb, .int .i64 r.cl, .bool r.wh, .slice sa r.ps.length sc], u.oneCell' = true := by rw [← hcs]; exact qu_one _
      unfold rcV
      have fY : Fr noB w3 (w3.alloc (.cells #[.int .i64 r.tr, .int .i64 r.jb, .int .i64 r.cl, .bool r.wh, .slice sa r.ps.length sc] 63)) := (Fr.refl _ _).alloc _
      have bY := Blk.new w3 63 [.int .i64 r.tr, .int .i64 r.jb, .int .i64 r.cl, .bool r.wh, .slice sa r.ps.length sc]
      have ho4 := ho3.alloc (.cells #[.int .i64 r.tr, .int .i64 r.jb, .int .i64 r.cl, .bool r.wh, .slice sa r.ps.length sc] 63)
      have hq4 := hq3.frN fY
      have hnew4 := hnew.frN fY
      have fr4 := fr3.seqN fY
      have hW4 : W0 ≤ (w3.alloc (.cells #[.int .i64 r.tr, .int .i64 r.jb, .int .i64 r.cl, .bool r.wh, .slice sa r.ps.length sc] 63)).heap.size := by have := fY.size; omega
      clear o3 ow3 hU f3 hrd2 fr2 ho2 hq2 ho3 hq3 fr3 hnew fY
      replace hcs := Lib.hid hcs
      replace hone := Lib.hid hone
      go_upto_region 5 with fail
      obtain ⟨gY, hgY⟩ : ∃ g, w3.heap.size = g := ⟨_, rfl⟩
      rw [hgY] at bY
      try rw [hgY]
      generalize (w3.alloc (.cells #[.int .i64 r.tr, .int .i64 r.jb, .int .i64 r.cl, .bool r.wh, .slice sa r.ps.length sc] 63)) = w4 at *
      have y0 : w4.cell? ⟨gY, 0, none⟩ = some (.int .i64 r.tr) := bY.cell 0
      have y1 : w4.cell? ⟨gY, 1, none⟩ = some (.int .i64 r.jb) := bY.cell 1
      have y2 : w4.cell? ⟨gY, 2, none⟩ = some (.int .i64 r.cl) := bY.cell 2
      have y3 : w4.cell? ⟨gY, 3, none⟩ = some (.bool r.wh) := bY.cell 3
      have y4 : w4.cell? ⟨gY, 4, none⟩ = some (.slice sa r.ps.length sc) := bY.cell 4
      have hW5 : W0 ≤ (w4.alloc (.cells #[.int .i64 r.tr, .int .i64 r.jb, .int .i64 r.cl, .bool r.wh, .slice sa r.ps.length sc] 63)).heap.size := by rw [size_alloc]; omega
      replace ho4 := Lib.hid ho4
      replace hq4 := Lib.hid hq4
      replace hnew4 := Lib.hid hnew4
      replace fr4 := Lib.hid fr4
      replace hgY := Lib.hid hgY
      replace bY := Lib.hid bY
      go_wp2_with (first
        | (at_builtin; go_must (refine wpList_append_at _ rfl (.tmp 33) (.tmp 35) 51 rfl W0 63 j0 _ 5 56 Tryz.underlying51 hj hy0 hy1 hy2 rfl (by decide) (.slice a k c) k _ rfl (ho4.out.alloc _) ⟨w4.heap.size, 0, none⟩ 1 1 [.int .i64 r.tr, .int .i64 r.jb, .int .i64 r.cl, .bool r.wh, .slice sa r.ps.length sc] rfl rfl (news_at w4 _ _) hone.out hbd.out.1 hbd.out.2 hW5 ?_); intro v9 w9 o9 gr9 _; obtain ⟨a9, c9, rfl⟩ := ownsRow_slice o9; have f9 : Fr (rowB (.slice a k c)) (w4.alloc (.cells #[.int .i64 r.tr, .int .i64 r.jb, .int .i64 r.cl, .bool r.wh, .slice sa r.ps.length sc] 63)) w9 := (Fr.refl _ _).grown gr9 (fun k hk _ => hk); have fA : Fr noB w4 (w4.alloc (.cells #[.int .i64 r.tr, .int .i64 r.jb, .int .i64 r.cl, .bool r.wh, .slice sa r.ps.length sc] 63)) := (Fr.refl _ _).alloc _)
        | fail)
      have fr9 : Hid (Fr noB w w9) := Lib.hid ((fr4.out.seqN fA).trans f9 (fun _ _ q => q) (fun i hi q => by have := (ho4.out.lt i q).1; have := hW0.out; omega))
      have hq9 : Hid (OwnQ w9 W0 (Q ++ [(QU.mk r sa sc U)])) := Lib.hid (fun q hq => by
        rcases List.mem_append.1 hq with hq | hq
        · exact ((hq4.out q hq).frN fA).row (ho4.out.alloc _) f9
        · simp only [List.mem_cons, List.not_mem_nil, or_false] at hq
          subst hq
          exact (hnew4.out.frN fA).row (ho4.out.alloc _) f9)
      have ho9 : Hid (w9.ownsRow W0 63 5 (.slice a9 (k + 1) c9) (k + 1) ((Q ++ [(QU.mk r sa sc U)]).flatMap QU.cs)) := Lib.hid (by rw [List.flatMap_append]; simp only [List.flatMap_cons, List.flatMap_nil, List.append_nil]; rw [hcs.out]; exact o9)
      have hm9 : Hid ((Q ++ [(QU.mk r sa sc U)]).map QU.x = L.take (k + 1)) := Lib.hid (by rw [List.map_append]; exact hm1.out)
      clear f9 fA o9 gr9 y0 y1 y2 y3 y4 hW5 hW4 hW3 hW2 ho4 hq4 hnew4 fr4 bY
      go_roundg (n - (k + 1))
      case rel => exact ⟨k + 1, a9, c9, Q ++ [(QU.mk r sa sc U)], hkn2.out, rfl, by rw [hwr.out], ho9, hq9, hm9, fr9⟩
      case measure => exact hmeas.out
    · obtain rfl : k = n := by omega
      have hd := hen.out
      rw [hP] at hd
      rw [hd] at e1
      have hsz := fun w' => sizeE_any t ht.out w' (by rw [← hd, List.length_drop, size_len]; omega)
      have hPL : P = (bytesR L).length := by rw [← hP, hTk.out]
      have hmL : Q.map QU.x = L := by rw [hm.out, hTk.out]
      replace hsz := Lib.hid hsz
      replace hPL := Lib.hid hPL
      replace hmL := Lib.hid hmL
      rw [hP]
      replace hP := Lib.hid hP
      clear hd
      generalize strB t = S1 at *
      go_wp2_with fail
      go_fit (hsz.out wr)
      rintro e w2 ⟨rfl, f2⟩
      have ho2 := ownsRow_fr ho.out f2 (fun _ _ q => q)
      have hq2 := hq.out.frN f2
      have fr2 := fr.out.seqN f2
      go_wp2_with fail
      go_ret2
      exact ⟨a, c, Q, by rw [hPL.out]; rfl, ho2, hq2, hmL.out, fr2⟩
end Go.Proofs.YtdmhnoffejjpnaaGreatDoor
end

section
set_option linter.unusedVariables false
set_option linter.unusedSimpArgs false
set_option maxRecDepth 100000
set_option maxRecDepth 100000
namespace Go.Proofs.YtdmhnoffejjpnaaGreatDoor
open Go.RowKit Go Go.Lib

theorem sizeS_nil : sizeS [] = none := rfl
theorem num4_take (l : List UInt8) (n : Nat) (h : 4 ≤ n) : num4 (l.take n) = num4 l := by
  have key : ∀ i, i < 4 → (l.take n).getD i 0 = l.getD i 0 := fun i hi => by
    simp only [List.getD_eq_getElem?_getD, List.getElem?_take]
    rw [if_pos (by omega)]
  unfold num4
  rw [key 0 (by omega), key 1 (by omega), key 2 (by omega), key 3 (by omega)]
/-- a frame that is torn is none -/
theorem torn {x : RC} (h : okW x) {n : Nat} (hn : n < (frR x).length) : sizeS ((frR x).take n) = none := by
  have hl : (frR x).length = 8 + (recT x).length := frame_len _
  have hlen : ((frR x).take n).length = n := by rw [List.length_take]; omega
  unfold sizeS
  rw [hlen]
  by_cases h8 : n < 8
  · rw [if_pos h8]
  · rw [if_neg h8, num4_take _ _ (by omega)]
    have h1 : num4 (frR x) = (recT x).length := by
      have := h.2
      unfold frR frameL
      exact num4_four _ (by omega) _
    rw [h1, if_pos (by omega)]
/-- a beginning of printed records -/
theorem bytes_cut : ∀ (L : List RC) (m : Nat), (∀ r ∈ L, okW r) → m ≤ (bytesR L).length → ∃ k t, k ≤ L.length ∧ (bytesR L).take m = bytesR (L.take k) ++ t ∧ sizeS t = none ∧ (bytesR (L.take k)).length ≤ m ∧ (m = (bytesR L).length → k = L.length) ∧ ∀ i, i ≤ L.length → (bytesR (L.take i)).length ≤ m → i ≤ k
  | [], m, _, h => ⟨0, [], Nat.le_refl _, by simp [bytesR], sizeS_nil, by simp [bytesR], fun _ => rfl, fun i hi _ => hi⟩
  | x :: L, m, hL, h => by
    have hx := hL x (by simp)
    have e : bytesR (x :: L) = frR x ++ bytesR L := rfl
    have hf : (frR x).length = 8 + (recT x).length := frame_len _
    by_cases hm : m < (frR x).length
    · refine ⟨0, (frR x).take m, by simp, ?_, torn hx hm, by simp [bytesR], fun h2 => ?_, fun i hi hb => ?_⟩
      · rw [e, List.take_append_of_le_length (by omega)]; rfl
      · rw [e, List.length_append] at h2; omega
      · cases i with
        | zero => exact Nat.le_refl _
        | succ i =>
          have : bytesR ((x :: L).take (i + 1)) = frR x ++ bytesR (L.take i) := rfl
          rw [this, List.length_append] at hb
          omega
    · rw [e, List.length_append] at h
      obtain ⟨k, t, h1, h2, h3, h4, h5, h6⟩ := bytes_cut L (m - (frR x).length) (fun r hr => hL r (by simp [hr])) (by omega)
      refine ⟨k + 1, t, by simp; omega, ?_, h3, ?_, fun hq => ?_, fun i hi hb => ?_⟩
      · rw [e, List.take_append, List.take_of_length_le (by omega), h2]
        show frR x ++ (bytesR (L.take k) ++ t) = (frR x ++ bytesR (L.take k)) ++ t
        rw [List.append_assoc]
      · show (frR x ++ bytesR (L.take k)).length ≤ m
        rw [List.length_append]
        omega
      · rw [e, List.length_append] at hq
        have := h5 (by omega)
        simp
        omega
      · cases i with
        | zero => omega
        | succ i =>
          have e2 : bytesR ((x :: L).take (i + 1)) = frR x ++ bytesR (L.take i) := rfl
          rw [e2, List.length_append] at hb
          have := h6 i (by simp at hi; omega) (by omega)
          omega
end Go.Proofs.YtdmhnoffejjpnaaGreatDoor
end

section
set_option linter.unusedVariables false
set_option linter.unusedSimpArgs false
set_option maxRecDepth 100000
set_option maxRecDepth 100000
namespace Go.Proofs.YtdmhnoffejjpnaaGreatDoor
open Go.RowKit Go Go.Lib

structure DelQ (X Z : List QU) (p : QU → Bool) (i j : Nat) : Prop where
  len : Z.length = X.length
  lt : i < j
  le : j ≤ X.length
  cnt : ((X.take j).filter fun x => !p x).length = i
  low : Z.take i = (X.take j).filter fun x => !p x
  high : ∀ q, j ≤ q → Z[q]? = X[q]?
theorem take_suc {α : Type} {X : List α} {i : Nat} {x : α} (h : X[i]? = some x) : X.take (i + 1) = X.take i ++ [x] := by rw [List.take_add_one, h]; rfl
theorem DelQ.start {X : List QU} {p : QU → Bool} {i : Nat} {x : QU} (hi : X[i]? = some x) (hp : p x = true) (hno : ∀ x ∈ X.take i, p x = false) : DelQ X X p i (i + 1) := by
  have hlt := (List.getElem?_eq_some_iff.1 hi).1
  have h2 : (X.take i).filter (fun x => !p x) = X.take i := List.filter_eq_self.2 (fun x hx => by rw [hno x hx]; rfl)
  have h1 : (X.take (i + 1)).filter (fun x => !p x) = X.take i := by
    rw [take_suc hi, List.filter_append, h2]
    simp [hp]
  exact ⟨rfl, by omega, by omega, by rw [h1, List.length_take]; omega, by rw [h1], fun q _ => rfl⟩
theorem DelQ.skip {X Z : List QU} {p : QU → Bool} {i j : Nat} {x : QU} (h : DelQ X Z p i j) (hx : X[j]? = some x) (hp : p x = true) : DelQ X Z p i (j + 1) := by
  have hlt := (List.getElem?_eq_some_iff.1 hx).1
  have h1 : (X.take (j + 1)).filter (fun x => !p x) = (X.take j).filter (fun x => !p x) := by
    rw [take_suc hx, List.filter_append]
    simp [hp]
  exact ⟨h.len, by have := h.lt; omega, by omega, by rw [h1]; exact h.cnt, by rw [h1]; exact h.low, fun q hq => h.high q (by omega)⟩
theorem DelQ.keep {X Z : List QU} {p : QU → Bool} {i j : Nat} {x : QU} (h : DelQ X Z p i j) (hx : X[j]? = some x) (hp : p x = false) : DelQ X (Z.set i x) p (i + 1) (j + 1) := by
  have hlt := (List.getElem?_eq_some_iff.1 hx).1
  have hij := h.lt
  have hiz : i < Z.length := by rw [h.len]; omega
  have h1 : (X.take (j + 1)).filter (fun x => !p x) = (X.take j).filter (fun x => !p x) ++ [x] := by
    rw [take_suc hx, List.filter_append]
    simp [hp]
  refine ⟨by rw [List.length_set]; exact h.len, by omega, by omega, by rw [h1, List.length_append, h.cnt]; rfl, ?_, fun q hq => ?_⟩
  · rw [h1, ← h.low, take_suc (x := x) (by simp [hiz]), List.take_set_of_le (Nat.le_refl _)]
  · rw [← h.high q (by omega)]
    simp [List.getElem?_set, show ¬ i = q by omega]
/-- a record put in its place -/
theorem flat_set : ∀ (Z : List QU) (i : Nat) (x : QU), i < Z.length → (((((Z.flatMap QU.cs).set (i * 5) (.int .i64 x.x.tr)).set (i * 5 + 1) (.int .i64 x.x.jb)).set (i * 5 + 1 + 1) (.int .i64 x.x.cl)).set (i * 5 + 1 + 1 + 1) (.bool x.x.wh)).set (i * 5 + 1 + 1 + 1 + 1) x.v = (Z.set i x).flatMap QU.cs
  | [], i, x, h => by simp at h
  | z :: Z, 0, x, h => by
    simp [QU.cs, rcC]
  | z :: Z, i + 1, x, h => by
    have ih := flat_set Z i x (by simpa using h)
    rw [List.set_cons_succ, List.flatMap_cons, List.flatMap_cons, ← ih]
    have hl : z.cs.length = 5 := rfl
    have e : ∀ k, (i + 1) * 5 + k = z.cs.length + (i * 5 + k) := fun k => by rw [hl]; omega
    have a : ∀ (M : List Value) (k : Nat) (v : Value), (z.cs ++ M).set (z.cs.length + k) v = z.cs ++ M.set k v := fun M k v => by
      rw [List.set_append_right _ _ (by omega), Nat.add_sub_cancel_left]
    rw [show (i + 1) * 5 = z.cs.length + i * 5 by rw [hl]; omega]
    rw [a, show z.cs.length + i * 5 + 1 = z.cs.length + (i * 5 + 1) by omega, a, show z.cs.length + (i * 5 + 1) + 1 = z.cs.length + (i * 5 + 1 + 1) by omega, a, show z.cs.length + (i * 5 + 1 + 1) + 1 = z.cs.length + (i * 5 + 1 + 1 + 1) by omega, a, show z.cs.length + (i * 5 + 1 + 1 + 1) + 1 = z.cs.length + (i * 5 + 1 + 1 + 1 + 1) by omega, a]
theorem own_setS {w : World} {B g n c i s : Nat} {e : TypeId} {xs : List Value} (h : w.ownsRow B e s (.slice (some ⟨g, 0, none⟩) n c) n xs) (v : Value) : (w.setCell ⟨g, i, none⟩ v).ownsRow B e s (.slice (some ⟨g, 0, none⟩) n c) n (xs.set i v) := by
  refine ⟨by rw [List.length_set]; exact h.1, ?_⟩
  rcases h.2 with ⟨h1, _⟩ | ⟨g', cap, cur, h1, hb, hg, hn, hm, hs, ht⟩
  · cases h1
  · cases h1
    refine Or.inr ⟨g, c, cur.setIfInBounds i v, rfl, hb, ?_, hn, hm, by simpa using hs, ?_⟩
    · simp [World.setCell, Array.getElem?_modify, hg]
    · rw [Array.toList_setIfInBounds, List.take_set, ht]
theorem own_setQ {w : World} {B g n c i : Nat} {Z : List QU} (h : w.ownsRow B 63 5 (.slice (some ⟨g, 0, none⟩) n c) n (Z.flatMap QU.cs)) (x : QU) (hi : i < Z.length) :
    (w.setCells g (i * 5) [.int .i64 x.x.tr, .int .i64 x.x.jb, .int .i64 x.x.cl, .bool x.x.wh, x.v]).ownsRow B 63 5 (.slice (some ⟨g, 0, none⟩) n c) n ((Z.set i x).flatMap QU.cs) := by
  rw [← flat_set Z i x hi]
  simp only [World.setCells]
  exact own_setS (own_setS (own_setS (own_setS (own_setS h _) _) _) _) _
theorem own_cutS {w : World} {B g n c m s : Nat} {e : TypeId} {xs : List Value} (h : w.ownsRow B e s (.slice (some ⟨g, 0, none⟩) n c) n xs) (hm : m ≤ n) : w.ownsRow B e s (.slice (some ⟨g, 0, none⟩) m c) m (xs.take (m * s)) := by
  have hl := h.1
  have hms : m * s ≤ n * s := Nat.mul_le_mul_right s hm
  refine ⟨by rw [List.length_take]; omega, ?_⟩
  rcases h.2 with ⟨h1, _⟩ | ⟨g', cap, cur, h1, hb, hg, hn, hm2, hs, ht⟩
  · cases h1
  · cases h1
    refine Or.inr ⟨g, c, cur, rfl, hb, hg, by omega, hm2, hs, ?_⟩
    rw [← ht, List.take_take]
    congr 1
    omega
theorem own_pastS {w : World} {B g n c i s : Nat} {e : TypeId} {xs : List Value} (h : w.ownsRow B e s (.slice (some ⟨g, 0, none⟩) n c) n xs) (hi : n * s ≤ i) (v : Value) : (w.setCell ⟨g, i, none⟩ v).ownsRow B e s (.slice (some ⟨g, 0, none⟩) n c) n xs := by
  have := own_setS (i := i) h v
  rwa [List.set_eq_of_length_le (by have := h.1; omega)] at this
theorem own_pastsS {B g n c s : Nat} {e : TypeId} {xs : List Value} : ∀ (vs : List Value) (i : Nat) (w : World), w.ownsRow B e s (.slice (some ⟨g, 0, none⟩) n c) n xs → n * s ≤ i → (w.setCells g i vs).ownsRow B e s (.slice (some ⟨g, 0, none⟩) n c) n xs
  | [], i, w, h, hi => h
  | v :: r, i, w, h, hi => by
    rw [World.setCells]
    exact own_pastsS r (i + 1) _ (own_pastS h hi v) (by omega)
theorem flat_take (Z : List QU) (i : Nat) : (Z.flatMap QU.cs).take (i * 5) = (Z.take i).flatMap QU.cs := by
  induction Z generalizing i with
  | nil => simp
  | cons z Z ih =>
    cases i with
    | zero => simp
    | succ i =>
      have hl : z.cs.length = 5 := rfl
      rw [List.take_succ_cons, List.flatMap_cons, List.flatMap_cons, List.take_append, List.take_of_length_le (by rw [hl]; omega), show (i + 1) * 5 - z.cs.length = i * 5 by rw [hl]; omega, ih]
/-- the cells of the i-th record -/
theorem own_cellQ {w : World} {B g n c i q : Nat} {Z : List QU} {x : QU} {u : Value} (h : w.ownsRow B 63 5 (.slice (some ⟨g, 0, none⟩) n c) n (Z.flatMap QU.cs)) (hx : Z[i]? = some x) (hu : x.cs[q]? = some u) : w.cell? ⟨g, i * 5 + q, none⟩ = some u := by
  have hq5 : q < 5 := (List.getElem?_eq_some_iff.1 hu).1
  have h2 := QU.get Z i q x hx hq5
  have h3 := h.cells (g := g) rfl (i * 5 + q) u (by rw [h2]; exact hu)
  rw [add_none, Nat.zero_add] at h3
  exact h3
end Go.Proofs.YtdmhnoffejjpnaaGreatDoor
end
