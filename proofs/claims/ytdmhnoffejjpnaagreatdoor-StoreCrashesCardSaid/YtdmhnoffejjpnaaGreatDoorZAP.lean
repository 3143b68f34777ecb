/-
  seglog: four bytes of a number, and back.
  seglog: Print.
  seglog: a record's text as it is read: what is left, and where the parts lie.
-/
import Derived.Test.YtdmhnoffejjpnaaGreatDoorZAO
section
set_option linter.unusedVariables false
set_option linter.unusedSimpArgs false
set_option maxRecDepth 100000
set_option maxRecDepth 100000
namespace Go.Proofs.YtdmhnoffejjpnaaGreatDoor
open Go.RowKit Go Go.Lib

/-- a number's bytes, the highest first -/
def four (n : Nat) : List UInt8 := [UInt8.ofNat (n / 16777216), UInt8.ofNat (n / 65536), UInt8.ofNat (n / 256), UInt8.ofNat n]
theorem u8_nat (m : Nat) : (UInt8.ofNat m).toNat = m % 256 := by simp
theorem four_cells (n : Nat) (hn : n < 4294967296) : (four n).map cellB = [.int .u8 ((n : Int) / 16777216), .int .u8 ((n : Int) / 65536 % 256), .int .u8 ((n : Int) / 256 % 256), .int .u8 ((n : Int) % 256)] := by
  have h0 : n / 16777216 < 256 := by omega
  unfold four
  simp only [List.map_cons, List.map_nil, cellB, u8_nat]
  rw [Nat.mod_eq_of_lt h0]
  simp
set_option maxHeartbeats 4000000 in
theorem four_any (n : Nat) (w : World) (hn : n < 4294967296) : Calls Tryz.prog 115 #[.int .u32 (n : Int)] w fun e w' => e = .returned (.string (strB (four n))) ∧ Fr noB w w' := by
  have hn2 : (n : Int) < 4294967296 := by omega
  have hc := four_cells n hn
  have fX := (Fr.refl noB w).alloc (.cells #[.int .u8 ((n : Int) / 16777216), .int .u8 ((n : Int) / 65536 % 256), .int .u8 ((n : Int) / 256 % 256), .int .u8 ((n : Int) % 256)] 5)
  have o : (w.alloc (.cells #[.int .u8 ((n : Int) / 16777216), .int .u8 ((n : Int) / 65536 % 256), .int .u8 ((n : Int) / 256 % 256), .int .u8 ((n : Int) % 256)] 5)).ownsRow w.heap.size 5 1 (.slice (some ⟨w.heap.size, 0, none⟩) 4 4) 4 ((four n).map cellB) := by
    rw [hc]
    exact own_new w 5 [.int .u8 ((n : Int) / 16777216), .int .u8 ((n : Int) / 65536 % 256), .int .u8 ((n : Int) / 256 % 256), .int .u8 ((n : Int) % 256)] 1 4 rfl (by unfold maxLen; omega)
  have hcv := string_of_row (P := Tryz.prog) 119 9 5 Tryz.underlying119 Tryz.underlying5 Tryz.underlying9 o
  clear o hc
  go_enter Tryz.func115, Tryz.ntmps115
  go_wp2_with fail
  go_ret
  exact ⟨rfl, fX⟩
theorem at_get (s : ByteArray) (i : Nat) (h : i < s.size) : s.data.toList.getD i 0 = s[i] := by
  simp [List.getD, size_len, h]
  rfl

theorem idxS (s : ByteArray) (j : Nat) (J : Int) (hJ : J = (j : Int)) (h : j < s.size) : ∀ w : World, (Instr.index 9 (.string s) (.int .i64 J)).run Tryz.prog w = .ok (.int .u8 ((s.data.toList.getD j 0).toNat : Int)) w := by
  intro w
  subst hJ
  rw [run_index_string w 9 s .i64 (j : Int) Tryz.underlying9]
  rw [at_get s j h]
  simp [h]
/-- what four bytes spell -/
def num4 (l : List UInt8) : Nat := (l.getD 0 0).toNat * 16777216 + (l.getD 1 0).toNat * 65536 + (l.getD 2 0).toNat * 256 + (l.getD 3 0).toNat
theorem or_add (a b k : Nat) (h : b < 2 ^ k) : (a * 2 ^ k) ||| b = a * 2 ^ k + b := by
  rw [Nat.mul_comm]
  exact (Nat.two_pow_add_eq_or_of_lt h a).symm
theorem num_bits (x0 x1 x2 x3 : Nat) (b0 : x0 < 2 ^ 8) (b1 : x1 < 2 ^ 8) (b2 : x2 < 2 ^ 8) (b3 : x3 < 2 ^ 8) :
    bits BinOp.or IntKind.u32 (bits BinOp.or IntKind.u32 (bits BinOp.or IntKind.u32 ((x0 : Int) * 16777216) ((x1 : Int) * 65536)) ((x2 : Int) * 256)) (x3 : Int) = ((x0 * 16777216 + x1 * 65536 + x2 * 256 + x3 : Nat) : Int) := by
  have e0 : ((x0 : Int) * 16777216) = ((x0 * 16777216 : Nat) : Int) := by omega
  have e1 : ((x1 : Int) * 65536) = ((x1 * 65536 : Nat) : Int) := by omega
  have e2 : ((x2 : Int) * 256) = ((x2 * 256 : Nat) : Int) := by omega
  have o1 := or_add x0 (x1 * 65536) 24 (by omega)
  have o2 := or_add (x0 * 256 + x1) (x2 * 256) 16 (by omega)
  have o3 := or_add (x0 * 65536 + x1 * 256 + x2) x3 8 (by omega)
  rw [e0, e1, e2, u32_or_nat _ _ (by omega) (by omega)]
  rw [show x0 * 16777216 = x0 * 2 ^ 24 by omega, o1, u32_or_nat _ _ (by omega) (by omega)]
  rw [show x0 * 2 ^ 24 + x1 * 65536 = (x0 * 256 + x1) * 2 ^ 16 by omega, o2, u32_or_nat _ _ (by omega) (by omega)]
  rw [show (x0 * 256 + x1) * 2 ^ 16 + x2 * 256 = (x0 * 65536 + x1 * 256 + x2) * 2 ^ 8 by omega, o3]
  try omega
set_option maxHeartbeats 4000000 in
theorem num4_any (s : ByteArray) (w : World) (h4 : 4 ≤ s.size) : Calls Tryz.prog 73 #[.string s] w fun e w' => e = .returned (.int .u32 (num4 s.data.toList : Int)) ∧ Fr noB w w' := by
  have i0 := idxS s 0 0 rfl (by omega)
  have i1 := idxS s 1 1 rfl (by omega)
  have i2 := idxS s 2 2 rfl (by omega)
  have i3 := idxS s 3 3 rfl (by omega)
  have hb := num_bits _ _ _ _ (s.data.toList.getD 0 0).toNat_lt (s.data.toList.getD 1 0).toNat_lt (s.data.toList.getD 2 0).toNat_lt (s.data.toList.getD 3 0).toNat_lt
  have hn : num4 s.data.toList = (s.data.toList.getD 0 0).toNat * 16777216 + (s.data.toList.getD 1 0).toNat * 65536 + (s.data.toList.getD 2 0).toNat * 256 + (s.data.toList.getD 3 0).toNat := rfl
  have b0 := (s.data.toList.getD 0 0).toNat_lt
  have b1 := (s.data.toList.getD 1 0).toNat_lt
  have b2 := (s.data.toList.getD 2 0).toNat_lt
  have b3 := (s.data.toList.getD 3 0).toNat_lt
  rw [hn]
  clear hn
  generalize (s.data.toList.getD 0 0).toNat = x0 at *
  generalize (s.data.toList.getD 1 0).toNat = x1 at *
  generalize (s.data.toList.getD 2 0).toNat = x2 at *
  generalize (s.data.toList.getD 3 0).toNat = x3 at *
  rw [← hb]
  replace hb := Lib.hid hb
  go_enter Tryz.func73, Tryz.ntmps73
  go_wp2_with fail
  go_quiet (fail)
  have fX := (Fr.refl noB w).drewN nq
  go_wp2_with fail
  go_ret
  exact ⟨rfl, fX⟩
/-- how many bytes the record ahead takes -/
def sizeS (l : List UInt8) : Option Nat := if l.length < 8 then none else if l.length - 8 < num4 l then none else some (8 + num4 l)
def sizeV (o : Option Nat) : Value := match o with | none => .tuple #[.int .i64 0, .bool false] | some n => .tuple #[.int .i64 (n : Int), .bool true]
theorem num4_lt (l : List UInt8) : num4 l < 4294967296 := by
  unfold num4
  have b0 := (l.getD 0 0).toNat_lt
  have b1 := (l.getD 1 0).toNat_lt
  have b2 := (l.getD 2 0).toNat_lt
  have b3 := (l.getD 3 0).toNat_lt
  omega
set_option maxHeartbeats 4000000 in
theorem size_any (s : ByteArray) (w : World) (hs : s.size ≤ 1000000) : Calls Tryz.prog 58 #[.string s] w fun e w' => e = .returned (sizeV (sizeS s.data.toList)) ∧ Fr noB w w' := by
  by_cases h8 : s.size < 8
  · have e0 : sizeS s.data.toList = none := by unfold sizeS; rw [if_pos (by rw [size_len]; exact h8)]
    rw [e0]
    unfold sizeV
    have d1 : decide ((s.size : Int) < 8) = true := by simp; omega
    have d2 : (s.size : Int) < 8 := by omega
    go_enter Tryz.func58, Tryz.ntmps58
    go_wp2_with fail
    go_ret2
    exact ⟨rfl, Fr.refl _ _⟩
  have hn := num4_any s w (by omega)
  have hlt := num4_lt s.data.toList
  have hz : sizeS s.data.toList = if s.size - 8 < num4 s.data.toList then none else some (8 + num4 s.data.toList) := by unfold sizeS; rw [if_neg (by rw [size_len]; exact h8), size_len]
  rw [hz]
  clear hz
  generalize num4 s.data.toList = m at *
  have d1 : decide ((s.size : Int) < 8) = false := by simp; omega
  replace hn := Lib.hid hn
  have m0 : (m : Int) < 4294967296 := by omega
  have s0 : (8 : Int) ≤ s.size := by omega
  have s1 : (s.size : Int) ≤ 1000000 := by omega
  by_cases hm : s.size - 8 < m
  · rw [if_pos hm]
    unfold sizeV
    have d2 : decide ((s.size : Int) - 8 < (m : Int)) = true := by simp; omega
    go_enter Tryz.func58, Tryz.ntmps58
    go_wp2_with fail
    go_fit hn.out
    rintro e w1 ⟨rfl, f1⟩
    go_wp2_with fail
    go_ret2
    exact ⟨rfl, f1⟩
  · rw [if_neg hm]
    unfold sizeV
    have d2 : decide ((s.size : Int) - 8 < (m : Int)) = false := by simp; omega
    go_enter Tryz.func58, Tryz.ntmps58
    go_wp2_with fail
    go_fit hn.out
    rintro e w1 ⟨rfl, f1⟩
    go_wp2_with fail
    go_ret2
    exact ⟨by simp, f1⟩
end Go.Proofs.YtdmhnoffejjpnaaGreatDoor
end

section
set_option linter.unusedVariables false
set_option linter.unusedSimpArgs false
set_option maxRecDepth 100000
set_option maxRecDepth 100000
namespace Go.Proofs.YtdmhnoffejjpnaaGreatDoor
open Go.RowKit Go Go.Lib

theorem checkL_bd (l : List UInt8) : 0 ≤ checkL l ∧ checkL l ≤ 4294967295 := by
  obtain ⟨hb0, hb1⟩ := sumL_bd l
  unfold checkL
  have h1 : sumL l / 4294967296 = ((sumL l / 4294967296).toNat : Int) := by omega
  have h2 : sumL l % 4294967296 = ((sumL l % 4294967296).toNat : Int) := by omega
  rw [h1, h2, u32_xor_nat _ _ (by omega) (by omega)]
  have h3 : (sumL l / 4294967296).toNat ^^^ (sumL l % 4294967296).toNat < 2 ^ 32 := Nat.xor_lt_two_pow (by omega) (by omega)
  omega
/-- a record's bytes, with what stands ahead of them -/
def frameL (t : List UInt8) : List UInt8 := four t.length ++ (four (checkL t).toNat ++ t)
def printRc (r : RC) : List UInt8 := if okRc r = true then (if (recT r).length ≤ 60000 then frameL (recT r) else []) else []
theorem add_str (a b : List UInt8) (h : a.length + b.length ≤ 9223372036854775807) (w : World) : (Op.stringOp BinOp.add (strB a) (strB b)).run Tryz.prog w = .ok (.string (strB (a ++ b))) w := by
  rw [← strB_append]
  exact run_string_add_sum (P := Tryz.prog) (w := w) (strB a) (strB b) (by rw [strB_size, strB_size]; exact h)
set_option maxHeartbeats 8000000 in
theorem sgPrint_any (r : RC) (u : Value) (w : World) (hg : Gl w) (h : RdPt w u r.ps) :
    Calls Tryz.prog 90 #[rcV r u] w fun e w' => e = .returned (.string (strB (printRc r))) ∧ Fr noB w w' := by
  have hr := fun (w' : World) (f : Fr noB w w') => sgRight_any r u w' (h.frN f)
  have ht := fun (ho : RcOk r) (w' : World) (f : Fr noB w w') => sgText_any r u w' (hg.fr f) (h.frN f) ho
  have hok := @rc_ok r
  obtain ⟨O, hO⟩ : ∃ b, okRc r = b := ⟨_, rfl⟩
  obtain ⟨Z, hZ⟩ : ∃ q, printRc r = q := ⟨_, rfl⟩
  rw [hZ]
  unfold printRc at hZ
  rw [hO] at hZ hok
  simp only [hO] at hr
  generalize recT r = T at *
  obtain ⟨tr, jb, cl, wh, L⟩ := r
  unfold rcV at *
  simp only at hr ht ⊢
  have fX := (Fr.refl noB w).alloc (.cells #[.int .i64 tr, .int .i64 jb, .int .i64 cl, .bool wh, u] 63)
  have bX := Blk.new w 63 [.int .i64 tr, .int .i64 jb, .int .i64 cl, .bool wh, u]
  obtain ⟨ua, un, uc, rfl⟩ : ∃ a n c, u = .slice a n c := by obtain ⟨a, c, e, _⟩ := h; exact ⟨a, _, c, e⟩
  replace hr := Lib.hid hr
  replace ht := Lib.hid ht
  replace hok := Lib.hid hok
  replace hO := Lib.hid hO
  replace hZ := Lib.hid hZ
  clear h
  go_enter Tryz.func90, Tryz.ntmps90
  go_upto_region 1 with fail
  obtain ⟨gX, hgX⟩ : ∃ g, w.heap.size = g := ⟨_, rfl⟩
  rw [hgX] at bX
  try rw [hgX]
  generalize (w.alloc (.cells #[.int .i64 tr, .int .i64 jb, .int .i64 cl, .bool wh, .slice ua un uc] 63)) = wX at *
  replace hgX := Lib.hid hgX
  have i0 : wX.cell? ⟨gX, 0, none⟩ = some (.int .i64 tr) := bX.cell 0
  have i1 : wX.cell? ⟨gX, 1, none⟩ = some (.int .i64 jb) := bX.cell 1
  have i2 : wX.cell? ⟨gX, 2, none⟩ = some (.int .i64 cl) := bX.cell 2
  have i3 : wX.cell? ⟨gX, 3, none⟩ = some (.bool wh) := bX.cell 3
  have i4 : wX.cell? ⟨gX, 4, none⟩ = some (.slice ua un uc) := bX.cell 4
  replace bX := Lib.hid bX
  go_wp2_with fail
  go_fit (hr.out wX fX)
  rintro e w1 ⟨rfl, f1⟩
  have f2 := fX.seqN f1
  have b1 := f1.blk bX.out (fun q => q)
  clear i0 i1 i2 i3 i4 f1 fX bX hr
  cases O
  · have hz := hZ.out
    rw [if_neg (by decide)] at hz
    subst hz
    replace f2 := Lib.hid f2
    go_wp2_with fail
    go_ret
    exact ⟨rfl, f2.out⟩
  have hZ2 := hZ.out
  rw [if_pos rfl] at hZ2
  have ho := hok.out rfl
  have i0 : w1.cell? ⟨gX, 0, none⟩ = some (.int .i64 tr) := b1.cell 0
  have i1 : w1.cell? ⟨gX, 1, none⟩ = some (.int .i64 jb) := b1.cell 1
  have i2 : w1.cell? ⟨gX, 2, none⟩ = some (.int .i64 cl) := b1.cell 2
  have i3 : w1.cell? ⟨gX, 3, none⟩ = some (.bool wh) := b1.cell 3
  have i4 : w1.cell? ⟨gX, 4, none⟩ = some (.slice ua un uc) := b1.cell 4
  have ht1 := ht.out ho w1 f2
  replace ht1 := Lib.hid ht1
  replace hZ2 := Lib.hid hZ2
  clear b1 ht ho hok hZ
  go_wp2_with fail
  go_fit ht1.out
  rintro e w2 ⟨rfl, f3⟩
  have f4 := f2.seqN f3
  clear i0 i1 i2 i3 i4 f3 f2 ht1
  by_cases hl : T.length ≤ 60000
  · have hz := hZ2.out
    rw [if_pos hl] at hz
    have hs : (strB T).size = T.length := strB_size T
    have d1 : decide (((strB T).size : Int) > 60000) = false := by rw [hs]; simp; omega
    have d2 : decide (60000 < ((strB T).size : Int)) = false := by rw [hs]; simp; omega
    have d3 : decide (60000 < (strB T).size) = false := by rw [hs]; simp; omega
    have hb := checkL_bd T
    have hc := fun w' => check_any (strB T) w' (by rw [hs]; unfold maxLen; omega)
    rw [strB_list] at hc
    obtain ⟨c, hcc⟩ : ∃ c : Nat, checkL T = c := ⟨(checkL T).toNat, by omega⟩
    rw [hcc] at hc hb
    have hz2 : Z = four T.length ++ (four c ++ T) := by rw [← hz]; unfold frameL; rw [hcc]; rfl
    obtain ⟨N, hN⟩ : ∃ N, T.length = N := ⟨_, rfl⟩
    rw [hN] at hs hz2 hl
    have q1 := fun w' => four_any N w' (by omega)
    have q2 := fun w' => four_any c w' (by omega)
    have e1 := add_str (four N) (four c) (by simp [four])
    have e2 := add_str (four N ++ four c) T (by rw [hN]; simp [four]; omega)
    rw [List.append_assoc, ← hz2] at e2
    have hNb : (N : Int) ≤ 60000 := by omega
    have hcb : (c : Int) ≤ 4294967295 := by omega
    replace hc := Lib.hid hc
    replace q1 := Lib.hid q1
    replace q2 := Lib.hid q2
    replace f4 := Lib.hid f4
    replace hz2 := Lib.hid hz2
    clear hz hb hl hZ2
    replace hN := Lib.hid hN
    replace hcc := Lib.hid hcc
    go_wp2_with fail
    try rw [hs]
    go_fit (q1.out w2)
    rintro e w3 ⟨rfl, f5⟩
    go_wp2_with fail
    go_fit (hc.out w3)
    rintro e w4 ⟨rfl, hw⟩
    obtain rfl := hw.symm
    clear hw
    go_wp2_with fail
    go_fit (q2.out w3)
    rintro e w5 ⟨rfl, f6⟩
    have f7 := Lib.hid ((f4.out.seqN f5).seqN f6)
    clear f4 f5 f6 q1 q2 hc
    go_wp2_with fail
    go_ret
    exact ⟨rfl, f7.out⟩
  · have hz := hZ2.out
    rw [if_neg hl] at hz
    subst hz
    have hs : (strB T).size = T.length := strB_size T
    have d1 : decide (((strB T).size : Int) > 60000) = true := by rw [hs]; simp; omega
    have d2 : decide (60000 < ((strB T).size : Int)) = true := by rw [hs]; simp; omega
    have d3 : decide (60000 < (strB T).size) = true := by rw [hs]; simp; omega
    replace hs := Lib.hid hs
    replace hl := Lib.hid hl
    replace hZ2 := Lib.hid hZ2
    replace f4 := Lib.hid f4
    go_wp2_with fail
    go_ret
    exact ⟨rfl, f4.out⟩
end Go.Proofs.YtdmhnoffejjpnaaGreatDoor
end

section
set_option linter.unusedVariables false
set_option linter.unusedSimpArgs false
set_option maxRecDepth 100000
set_option maxRecDepth 100000
namespace Go.Proofs.YtdmhnoffejjpnaaGreatDoor
open Go.RowKit Go Go.Lib

/-- what is left behind a part's beginning -/
def pt1 (p : Pt) (R : List UInt8) : List UInt8 := textL (printL p.S) ++ (numL p.cr.length ++ (numsL p.cr ++ (numL (boolI p.lo).toNat ++ R)))
def pt2 (p : Pt) (R : List UInt8) : List UInt8 := numL p.cr.length ++ (numsL p.cr ++ (numL (boolI p.lo).toNat ++ R))
def pt3 (p : Pt) (j : Nat) (R : List UInt8) : List UInt8 := numsL (p.cr.drop j) ++ (numL (boolI p.lo).toNat ++ R)
def ptsR (L : List Pt) (k : Nat) : List UInt8 := (L.drop k).flatMap partT
theorem nums_one (x : Int) : numsL [x] = numL x.toNat := by unfold numsL; simp
theorem partT_app (p : Pt) (R : List UInt8) : partT p ++ R = numL p.a.toNat ++ pt1 p R := by
  unfold partT pt1
  simp only [nums_one, List.append_assoc, Int.toNat_natCast]
theorem ptsR_step {L : List Pt} {k : Nat} {p : Pt} (h : L[k]? = some p) : ptsR L k = numL p.a.toNat ++ pt1 p (ptsR L (k + 1)) := by
  obtain ⟨hk, rfl⟩ := List.getElem?_eq_some_iff.1 h
  unfold ptsR
  rw [List.drop_eq_getElem_cons hk, List.flatMap_cons, partT_app]
theorem pt3_step (p : Pt) (j : Nat) (R : List UInt8) (x : Int) (h : p.cr[j]? = some x) : pt3 p j R = numL x.toNat ++ pt3 p (j + 1) R := by
  obtain ⟨hk, rfl⟩ := List.getElem?_eq_some_iff.1 h
  unfold pt3
  rw [List.drop_eq_getElem_cons hk]
  unfold numsL
  rw [List.flatMap_cons, List.append_assoc]
theorem pt3_zero (p : Pt) (R : List UInt8) : pt2 p R = numL p.cr.length ++ pt3 p 0 R := by unfold pt2 pt3; rw [List.drop_zero]
theorem pt3_end (p : Pt) (R : List UInt8) : pt3 p p.cr.length R = numL (boolI p.lo).toNat ++ R := by unfold pt3; rw [List.drop_length]; rfl
theorem recT_app (r : RC) : recT r = numL r.tr.toNat ++ (numL r.jb.toNat ++ (numL r.cl.toNat ++ (numL r.ps.length ++ ptsR r.ps 0))) := by
  unfold recT ptsR numsL
  simp only [List.flatMap_cons, List.flatMap_nil, List.append_nil, List.append_assoc, List.drop_zero, Int.toNat_natCast]
theorem ptsR_end (L : List Pt) : ptsR L L.length = [] := by unfold ptsR; rw [List.drop_length]; rfl
/-- a number that is there is read -/
theorem rdI_any (p : Nat) (x lo hi : Int) (t : List UInt8) (w : World) (h : Rd w p (some (numL x.toNat ++ t))) (h1 : lo ≤ x) (h2 : x ≤ hi) (h0 : 0 ≤ x) (h3 : hi ≤ 9007199254740992) :
    Calls Tryz.prog 98 #[.pointer (some ⟨p, 0, none⟩), .int .i64 lo, .int .i64 hi] w fun e w' => e = .returned (.int .i64 x) ∧ Rd w' p (some t) ∧ Fr (onlyB p) w w' := by
  refine (rint_any p _ lo hi w h).mono ?_
  rw [show (some (numL x.toNat ++ t)).bind (intS lo hi) = some (x.toNat, t) from int_back _ _ _ _ (by omega) (by omega) (by omega)]
  rintro e w' ⟨rfl, h4, h5⟩
  refine ⟨?_, h4, h5⟩
  unfold vI
  simp only
  rw [Int.toNat_of_nonneg h0]
/-- a text that is there is read -/
theorem rdT_any (p : Nat) (s t : List UInt8) (m : Int) (w : World) (hg : Gl w) (hgp : p ≠ 0 ∧ p ≠ 1 ∧ p ≠ 5) (h : Rd w p (some (textL s ++ t))) (h1 : (s.length : Int) ≤ m) (h2 : (quoteL s).length ≤ 9007199254740992) :
    Calls Tryz.prog 100 #[.pointer (some ⟨p, 0, none⟩), .int .i64 m] w fun e w' => e = .returned (.string (strB s)) ∧ Rd w' p (some t) ∧ Fr (onlyB p) w w' := by
  refine (rtext_any p _ m w hg hgp h).mono ?_
  rw [show (some (textL s ++ t)).bind (textS m) = some (s, t) from text_back _ _ h1 h2 _]
  rintro e w' ⟨rfl, h4, h5⟩
  exact ⟨rfl, h4, h5⟩
/-- a part, and where its rows lie -/
structure SU where
  x : Pt
  sa : Option Addr
  sc : Nat
  ca : Option Addr
  cc : Nat
def ptC (x : Pt) (s c : Value) : List Value := [.int .i64 x.a, s, c, .bool x.lo]
def SU.s (q : SU) : Value := .slice q.sa q.x.S.length q.sc
def SU.c (q : SU) : Value := .slice q.ca q.x.cr.length q.cc
def SU.cs (q : SU) : List Value := ptC q.x q.s q.c
theorem SU.len (P : List SU) : (P.flatMap SU.cs).length = P.length * 4 := by
  induction P with
  | nil => rfl
  | cons s L ih =>
    rw [List.flatMap_cons, List.length_append, ih, List.length_cons]
    simp [SU.cs, ptC]
    omega
theorem SU.get : ∀ (L : List SU) (i q : Nat) (m : SU), L[i]? = some m → q < 4 → (L.flatMap SU.cs)[i * 4 + q]? = m.cs[q]?
  | [], i, q, m, h, _ => by simp at h
  | x :: r, 0, q, m, h, hq => by
    simp at h; subst h
    rw [List.flatMap_cons, List.getElem?_append_left (by simp [SU.cs, ptC]; omega)]
    congr 1; omega
  | x :: r, i + 1, q, m, h, hq => by
    have hl : x.cs.length = 4 := rfl
    rw [List.flatMap_cons, List.getElem?_append_right (by rw [hl]; omega), hl, show (i + 1) * 4 + q - 4 = i * 4 + q by omega]
    exact SU.get r i q m (by simpa using h) hq
theorem su_one (q : SU) : ∀ u ∈ q.cs, u.oneCell' = true := by
  intro u hu
  unfold SU.cs ptC SU.s SU.c at hu
  simp only [List.mem_cons, List.not_mem_nil, or_false] at hu
  rcases hu with rfl | rfl | rfl | rfl <;> rfl
structure OwnSU (w : World) (B : Nat) (P : List SU) : Prop where
  s : ∀ q ∈ P, w.ownsRow B 118 3 q.s q.x.S.length (q.x.S.flatMap spC)
  c : ∀ q ∈ P, w.ownsRow B 3 1 q.c q.x.cr.length (q.x.cr.map (Value.int .i64))
theorem OwnSU.fr {w w' : World} {B : Nat} {S : Nat → Prop} {P : List SU} (h : OwnSU w B P) (f : Fr S w w') (hS : ∀ q ∈ P, ∀ g, (q.s.ownBlock = some g ∨ q.c.ownBlock = some g) → ¬ S g) : OwnSU w' B P :=
  ⟨fun p hp => ownsRow_fr (h.s p hp) f (fun g hg => hS p hp g (Or.inl hg)), fun p hp => ownsRow_fr (h.c p hp) f (fun g hg => hS p hp g (Or.inr hg))⟩
theorem OwnSU.lt {w : World} {B : Nat} {P : List SU} (h : OwnSU w B P) {q : SU} (hq : q ∈ P) {g : Nat} (hg : q.s.ownBlock = some g ∨ q.c.ownBlock = some g) : B ≤ g ∧ g < w.heap.size := by
  rcases hg with hg | hg
  · exact (h.s q hq).lt g hg
  · exact (h.c q hq).lt g hg
theorem OwnSU.frN {w w' : World} {B : Nat} {P : List SU} (h : OwnSU w B P) (f : Fr noB w w') : OwnSU w' B P := h.fr f (fun _ _ _ _ q => q)
theorem OwnSU.low {w w' : World} {B : Nat} {S : Nat → Prop} {P : List SU} (h : OwnSU w B P) (f : Fr S w w') (hS : ∀ g, B ≤ g → g < w.heap.size → ¬ S g) : OwnSU w' B P := h.fr f (fun q hq g hg => hS g (h.lt hq hg).1 (h.lt hq hg).2)
theorem RdPt.of_own {w : World} {B n : Nat} {v : Value} {P : List SU} {ps : List Pt} (h : w.ownsRow B 112 4 v n (P.flatMap SU.cs)) (ho : OwnSU w B P) (hp : P.map SU.x = ps) (hn : P.length = n) (hb : n ≤ 1000000) : RdPt w v ps := by
  have hl : ps.length = n := by rw [← hp, List.length_map]; exact hn
  rcases h.2 with ⟨rfl, h1⟩ | ⟨g, cap, cur, rfl, hb, hg, hnc, hcm, hcs, htake⟩
  · refine ⟨none, 0, by rw [hl, h1], by omega, by omega, fun i p hi => ?_⟩
    rw [List.eq_nil_of_length_eq_zero (by omega : ps.length = 0)] at hi
    simp at hi
  · refine ⟨_, cap, by rw [hl], by omega, by omega, fun i p hi => ?_⟩
    rw [← hp, List.getElem?_map] at hi
    cases hq : P[i]? with
    | none => rw [hq] at hi; cases hi
    | some u =>
      rw [hq] at hi
      simp at hi
      subst hi
      have key : ∀ q x, u.cs[q]? = some x → q < 4 → w.cell? ⟨g, 0 + i * 4 + q, none⟩ = some x := fun q x hx hq4 => by
        have h2 := SU.get P i q u hq hq4
        have h3 := h.cells (g := g) rfl (i * 4 + q) x (by rw [h2]; exact hx)
        rw [add_none] at h3
        rw [Nat.add_assoc]
        exact h3
      have hm := List.mem_of_getElem? hq
      exact ⟨g, 0, u.sa, u.sc, u.ca, u.cc, rfl, key 0 _ rfl (by omega), key 1 _ rfl (by omega), key 2 _ rfl (by omega), key 3 _ rfl (by omega), RdSp.of_own (ho.s u hm) rfl, RdI.of_own (ho.c u hm)⟩
theorem Tryz.infoPart : (Tryz.prog.info? 112).map (fun i => (i.zero, i.size, i.bytes)) = some (some (.agg #[.int .i64 0, .slice none 0 0, .slice none 0 0, .bool false]), 4, 64) := by kernel_rfl
theorem size_part : (Tryz.prog.info? 112).map (·.size) = some 4 := by kernel_rfl
theorem size_rec5 : (Tryz.prog.info? 63).map (·.size) = some 5 := by kernel_rfl
theorem rec5_one (a b c : Int) (wh : Bool) (sa : Option Addr) (sn sc : Nat) : (#[.int .i64 a, .int .i64 b, .int .i64 c, .bool wh, .slice sa sn sc] : Array Value).all (·.oneCell') = true :=
  all_oneCell_toArray (cs := [.int .i64 a, .int .i64 b, .int .i64 c, .bool wh, .slice sa sn sc]) (fun v hv => by
    simp only [List.mem_cons, List.not_mem_nil, or_false] at hv
    rcases hv with rfl | rfl | rfl | rfl | rfl <;> rfl)
theorem store5m (w : World) (g i : Nat) (a b c d e : Value) : ∃ w2, w2 = w.setCells g i (#[a, b, c, d, e] : Array Value).toList ∧ Fr (onlyB g) w w2 ∧
    ∀ t cs, Blk w g t cs → Blk w2 g t (((((cs.set i a).set (i + 1) b).set (i + 1 + 1) c).set (i + 1 + 1 + 1) d).set (i + 1 + 1 + 1 + 1) e) :=
  ⟨_, rfl, by simp only [World.setCells]; exact ((((((Fr.refl (onlyB g) w).store rfl).store rfl).store rfl).store rfl).store rfl), fun t cs h => by simp only [World.setCells]; exact (((((h.set i a).set _ b).set _ c).set _ d).set _ e)⟩
end Go.Proofs.YtdmhnoffejjpnaaGreatDoor
end
