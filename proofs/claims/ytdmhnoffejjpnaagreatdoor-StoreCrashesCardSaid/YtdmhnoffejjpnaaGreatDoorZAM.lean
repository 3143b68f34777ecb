/-
  
  Messages, plainly: what may be, their texts; the values that stand for them.
  Stage 18: small words under the names that other stages' texts use.
  seglog: may a record be?
  seglog: Right, of any record.
-/
import Derived.Test.YtdmhnoffejjpnaaGreatDoorZAA
import Derived.Test.YtdmhnoffejjpnaaGreatDoorZAL
import Derived.Test.YtdmhnoffejjpnaaGreatDoorZAJ
import Derived.Test.YtdmhnoffejjpnaaGreatDoorZAK
section
set_option linter.unusedVariables false
set_option linter.unusedSimpArgs false
set_option maxRecDepth 100000
namespace Go.Proofs.YtdmhnoffejjpnaaGreatDoor
open Go.RowKit

/-- one step of the sum -/
def stepH (y : Int) (c : Nat) : Int := IntKind.u64.wrap (bits BinOp.xor IntKind.u64 y (IntKind.u64.wrap (c : Int)) * 1099511628211)
def sumL (l : List UInt8) : Int := l.foldl (fun y c => stepH y c.toNat) 14695981039346656037

theorem sumL_snoc (l : List UInt8) (c : UInt8) : sumL (l ++ [c]) = stepH (sumL l) c.toNat := by simp [sumL]
theorem take_snoc (s : ByteArray) (k : Nat) (h : k < s.size) : s.data.toList.take (k + 1) = s.data.toList.take k ++ [s[k]] := by
  rw [List.take_succ_eq_append_getElem (by simpa using h)]; rfl
theorem stepH_bd (y : Int) (c : Nat) : 0 ≤ stepH y c ∧ stepH y c ≤ 18446744073709551615 := by
  unfold stepH
  rw [IntKind.wrap_u64]
  omega
theorem sumL_bd (l : List UInt8) : 0 ≤ sumL l ∧ sumL l ≤ 18446744073709551615 := by
  rcases List.eq_nil_or_concat l with rfl | ⟨l', c, rfl⟩
  · simp [sumL]
  · rw [List.concat_eq_append, sumL_snoc]; exact stepH_bd _ _

theorem ret_int {k : IntKind} {a b : Int} (h : a = b) : Ending.returned (.int k a) = .returned (.int k b) := by rw [h]

set_option maxHeartbeats 400000 in
theorem sum_any (s : ByteArray) (w : World) (hs : s.size ≤ maxLen) :
    Calls Tryz.prog 96 #[.string s] w fun e w' => e = .returned (.int .u64 (sumL s.data.toList)) ∧ w' = w := by
  unfold maxLen at hs
  go_enter Tryz.func96, Tryz.ntmps96
  go_wp2
  go_loop [3, 7] (fun x i => ∃ k : Nat, k ≤ s.size ∧ i = .int .i64 k ∧ x = .int .u64 (sumL (s.data.toList.take k))) (fun _ i => s.size - (intOf i).toNat)
  case atStart => exact ⟨0, Nat.zero_le _, rfl, rfl⟩
  case round =>
    obtain ⟨k, hk, rfl, rfl⟩ := hrel
    by_cases hlt : k < s.size
    · have hsn := sumL_snoc (s.data.toList.take k) s[k]
      rw [← take_snoc s k hlt] at hsn
      replace hsn := Lib.hid hsn
      generalize hY : sumL (s.data.toList.take k) = y at *
      replace hY := Lib.hid hY
      go_wp2
      go_round
      case rel => exact ⟨k + 1, by omega, by go_num, by rw [hsn.out]; rfl⟩
      case measure => simp [intOf]; omega
    · go_wp2
      go_ret
      exact ⟨ret_int (by rw [List.take_of_length_le (by simp; omega)]), rfl⟩

set_option maxHeartbeats 400000 in
theorem rsum_any (s : ByteArray) (w : World) (hs : s.size ≤ maxLen) :
    Calls Tryz.prog 95 #[.string s] w fun e w' => e = .returned (.int .u64 (sumL s.data.toList)) ∧ w' = w := by
  unfold maxLen at hs
  go_enter Tryz.func95, Tryz.ntmps95
  go_wp2
  go_loop [3, 4] (fun x i => ∃ k : Nat, k ≤ s.size ∧ i = .int .i64 k ∧ x = .int .u64 (sumL (s.data.toList.take k))) (fun _ i => s.size - (intOf i).toNat)
  case atStart => exact ⟨0, Nat.zero_le _, rfl, rfl⟩
  case round =>
    obtain ⟨k, hk, rfl, rfl⟩ := hrel
    by_cases hlt : k < s.size
    · have hsn := sumL_snoc (s.data.toList.take k) s[k]
      rw [← take_snoc s k hlt] at hsn
      replace hsn := Lib.hid hsn
      generalize hY : sumL (s.data.toList.take k) = y at *
      replace hY := Lib.hid hY
      go_wp2
      go_round
      case rel => exact ⟨k + 1, by omega, by go_num, by rw [hsn.out]; rfl⟩
      case measure => simp [intOf]; omega
    · go_wp2
      go_ret
      exact ⟨ret_int (by rw [List.take_of_length_le (by simp; omega)]), rfl⟩

def checkL (l : List UInt8) : Int := bits BinOp.xor IntKind.u32 (sumL l / 4294967296) (sumL l % 4294967296)
theorem check_any (s : ByteArray) (w : World) (hs : s.size ≤ maxLen) :
    Calls Tryz.prog 74 #[.string s] w fun e w' => e = .returned (.int .u32 (checkL s.data.toList)) ∧ w' = w := by
  have hb := sumL_bd s.data.toList
  obtain ⟨hb0, hb1⟩ := hb
  replace hs := Lib.hid hs
  go_enter Tryz.func74, Tryz.ntmps74
  go_wp2_with fail
  refine (sum_any s w hs.out).mono ?_
  rintro e w1 ⟨rfl, hw1⟩
  obtain rfl := hw1.symm
  go_wp2
  go_ret
  exact ⟨rfl, rfl⟩
theorem rcheck_any (s : ByteArray) (w : World) (hs : s.size ≤ maxLen) :
    Calls Tryz.prog 70 #[.string s] w fun e w' => e = .returned (.int .u32 (checkL s.data.toList)) ∧ w' = w := by
  have hb := sumL_bd s.data.toList
  obtain ⟨hb0, hb1⟩ := hb
  replace hs := Lib.hid hs
  go_enter Tryz.func70, Tryz.ntmps70
  go_wp2_with fail
  refine (rsum_any s w hs.out).mono ?_
  rintro e w1 ⟨rfl, hw1⟩
  obtain rfl := hw1.symm
  go_wp2
  go_ret
  exact ⟨rfl, rfl⟩

/-- the first so many bytes of a priority's text -/
def seedBs (seed : Int) (k : Nat) : List UInt8 := (List.range k).map fun i => byteU (seed / 2 ^ (56 - 8 * i))
def traceBs (trace : Int) (k : Nat) : List UInt8 := (List.range k).map fun i => byteU (trace / 2 ^ (24 - 8 * i))
def prioL (seed trace : Int) : List UInt8 := seedBs seed 8 ++ traceBs trace 4
def prio (seed trace : Int) : Int := sumL (prioL seed trace)
theorem seedBs_snoc (seed : Int) (k : Nat) : seedBs seed (k + 1) = seedBs seed k ++ [byteU (seed / 2 ^ (56 - 8 * k))] := by simp [seedBs, List.range_succ]
theorem traceBs_snoc (trace : Int) (k : Nat) : traceBs trace (k + 1) = traceBs trace k ++ [byteU (trace / 2 ^ (24 - 8 * k))] := by simp [traceBs, List.range_succ]

end Go.Proofs.YtdmhnoffejjpnaaGreatDoor
end

section
set_option linter.unusedVariables false
set_option linter.unusedSimpArgs false
set_option maxRecDepth 100000
set_option maxRecDepth 100000
namespace Go.Proofs.YtdmhnoffejjpnaaGreatDoor
open Go.RowKit Go Go.Lib

/-- a Pinned's fields -/
structure Pn where
  a : Int
  t : Int
  j : Int
  n : Int
  cr : List Int
  lo : Bool
inductive Ms
  | trigger (a t c : Int)
  | pin (t j : Int)
  | pinned (p : Pn)
  | gone (a t j : Int)
  | collect (t j : Int)
  | chunk (a t j i n : Int) (sp : List Sp)
  | manifest (t j c : Int) (ps : List Pn)
  | stored (t j : Int)
  | unpin (t j : Int)
  | unpinned (a t j : Int)
def Ms.k : Ms → Int
  | .trigger .. => 1
  | .pin .. => 2
  | .pinned .. => 3
  | .gone .. => 4
  | .collect .. => 5
  | .chunk .. => 6
  | .manifest .. => 7
  | .stored .. => 8
  | .unpin .. => 9
  | .unpinned .. => 10
def pnB (p : Pn) : Bool := pinB p.a p.t p.j p.n p.cr
def spsB (t : Int) (sp : List Sp) : Bool := sp.all fun s => rightS s && s.t == t
def chunkB (a t j i n : Int) (sp : List Sp) : Bool := inB 0 3 a && (inB 1 65535 t && (inB 1 1073741824 j && (decide (1 ≤ n) && (decide (n ≤ 500) && (decide (0 ≤ i) && (decide (i < n) && (decide (sp.length ≤ 2) && spsB t sp)))))))
def manF (t j : Int) : Int → List Pn → Bool
  | _, [] => true
  | last, p :: r => pnB p && (p.t == t && (p.j == j && (decide (last < p.a) && manF t j p.a r)))
def manB (t j c : Int) (ps : List Pn) : Bool := inB 1 65535 t && (inB 1 1073741824 j && (inB 0 3 c && (decide (0 < ps.length) && manF t j (-1) ps)))
def Ms.ok : Ms → Bool
  | .trigger a t c => bTrigger a t c
  | .pin t j => bPin t j
  | .pinned p => pnB p
  | .gone a t j => bGone a t j
  | .collect t j => bCollect t j
  | .chunk a t j i n sp => chunkB a t j i n sp
  | .manifest t j c ps => manB t j c ps
  | .stored t j => bStored t j
  | .unpin t j => bUnpin t j
  | .unpinned a t j => bUnpinned a t j
def boolI (b : Bool) : Int := if b then 1 else 0
def pinT (p : Pn) : List UInt8 := numsL [p.a, p.t, p.j, p.n, (p.cr.length : Int)] ++ numsL p.cr ++ numsL [boolI p.lo]
def Ms.fl : Ms → List UInt8
  | .trigger a t c => numsL [a, t, c]
  | .pin t j => numsL [t, j]
  | .pinned p => pinT p
  | .gone a t j => numsL [a, t, j]
  | .collect t j => numsL [t, j]
  | .chunk a t j i n sp => numsL [a, t, j, i, n] ++ textL (printL sp)
  | .manifest t j c ps => numsL [t, j, c, (ps.length : Int)] ++ ps.flatMap pinT
  | .stored t j => numsL [t, j]
  | .unpin t j => numsL [t, j]
  | .unpinned a t j => numsL [a, t, j]
def Ms.body (m : Ms) : List UInt8 := numsL [m.k] ++ m.fl
def sums (c : Int) : List UInt8 := numsL [c / 65536, c % 65536]
def Ms.txt (m : Ms) : List UInt8 := if m.ok then m.body ++ sums (checkL m.body) else []

/-! ### values -/
def pnC (p : Pn) (u : Value) : List Value := [.int .i64 p.a, .int .i64 p.t, .int .i64 p.j, .int .i64 p.n, u, .bool p.lo]
/-- a slice of parts that can be read -/
def RdPs (w : World) (v : Value) (ps : List Pn) : Prop := ∃ a c, v = .slice a ps.length c ∧ ps.length ≤ c ∧ ps.length ≤ 9223372036854775807 ∧ ∀ i p, ps[i]? = some p → ∃ g o ua uc, a = some ⟨g, o, none⟩ ∧ (∀ q x, (pnC p (.slice ua p.cr.length uc))[q]? = some x → w.cell? ⟨g, o + (i * 6 + q), none⟩ = some x) ∧ RdI w (.slice ua p.cr.length uc) p.cr
def MsW (w : World) (v : Value) : Ms → Prop
  | .trigger a t c => v = mTrigger a t c
  | .pin t j => v = mPin t j
  | .pinned p => ∃ u, v = mPinned p.a p.t p.j p.n u p.lo ∧ RdI w u p.cr
  | .gone a t j => v = mGone a t j
  | .collect t j => v = mCollect t j
  | .chunk a t j i n sp => ∃ u, v = mChunk a t j i n u ∧ RdSp w u sp
  | .manifest t j c ps => ∃ u, v = mManifest t j c u ∧ RdPs w u ps
  | .stored t j => v = mStored t j
  | .unpin t j => v = mUnpin t j
  | .unpinned a t j => v = mUnpinned a t j
theorem RdI.frN {w w' : World} {v : Value} {xs : List Int} (h : RdI w v xs) (hf : Fr noB w w') : RdI w' v xs := h.fr hf (fun _ _ _ _ _ q => q)
theorem RdI.frH {w w' : World} {v : Value} {xs : List Int} (h : RdI w v xs) (hf : Fr (hiB w.heap.size) w w') : RdI w' v xs := by
  obtain ⟨a, c, rfl, h1, h2, h3⟩ := h
  refine ⟨a, c, rfl, h1, h2, fun i hi => ?_⟩
  obtain ⟨g, o, e, h4⟩ := h3 i hi
  exact ⟨g, o, e, hf.cell h4 (by have := lt_of_cell h4; unfold hiB; omega)⟩
theorem RdSp.frH {w w' : World} {v : Value} {L : List Sp} (h : RdSp w v L) (hf : Fr (hiB w.heap.size) w w') : RdSp w' v L := by
  obtain ⟨a, c, rfl, hl, hc, hn, h1⟩ := h
  refine ⟨a, c, rfl, hl, hc, hn, fun i s hi => ?_⟩
  obtain ⟨g, o, rfl, c0, c1, c2⟩ := h1 i s hi
  have : ¬ hiB w.heap.size g := by have := lt_of_cell c0; unfold hiB; omega
  exact ⟨g, o, rfl, hf.cell c0 this, hf.cell c1 this, hf.cell c2 this⟩
theorem RdPs.frH {w w' : World} {v : Value} {ps : List Pn} (h : RdPs w v ps) (hf : Fr (hiB w.heap.size) w w') : RdPs w' v ps := by
  obtain ⟨a, c, rfl, hl, hc, h1⟩ := h
  refine ⟨a, c, rfl, hl, hc, fun i p hi => ?_⟩
  obtain ⟨g, o, ua, uc, e, h2, h3⟩ := h1 i p hi
  exact ⟨g, o, ua, uc, e, fun q x hq => hf.cell (h2 q x hq) (by have := lt_of_cell (h2 q x hq); unfold hiB; omega), h3.frH hf⟩
theorem Fr.toH {B : Nat} {w w' : World} (h : Fr noB w w') : Fr (hiB B) w w' := h.mono (fun _ _ q => False.elim q)
theorem MsW.frH {w w' : World} {v : Value} {m : Ms} (h : MsW w v m) (hf : Fr (hiB w.heap.size) w w') : MsW w' v m := by
  cases m with
  | pinned p => obtain ⟨u, e, h1⟩ := h; exact ⟨u, e, h1.frH hf⟩
  | chunk => obtain ⟨u, e, h1⟩ := h; exact ⟨u, e, h1.frH hf⟩
  | manifest => obtain ⟨u, e, h1⟩ := h; exact ⟨u, e, h1.frH hf⟩
  | _ => exact h
theorem MsW.frN {w w' : World} {v : Value} {m : Ms} (h : MsW w v m) (hf : Fr noB w w') : MsW w' v m := h.frH hf.toH
end Go.Proofs.YtdmhnoffejjpnaaGreatDoor
end

section
set_option linter.unusedVariables false
set_option linter.unusedSimpArgs false
set_option maxRecDepth 100000
namespace Go.Proofs.YtdmhnoffejjpnaaGreatDoor
open Go.RowKit Go Go.Lib

theorem there6m {w : World} {g i n : Nat} {t : TypeId} {cs : List Value} (h : Blk w g t cs) (hn : i + n ≤ cs.length) : w.there g i n := fun j hj => by
  refine ⟨?_, Blk.frozen h _⟩
  rw [h.cell (i + j), List.getElem?_eq_getElem (by omega)]; rfl
theorem Fr.onl {p : Nat} {a b c : World} (h : Fr (onlyB p) a b) (k : Fr (onlyB p) b c) : Fr (onlyB p) a c := h.trans k (fun _ _ q => q) (fun _ _ q => q)
theorem flat_lenS (L : List Sp) : (L.flatMap spC).length = L.length * 3 := flat_len L
theorem flat_getS (L : List Sp) (i q : Nat) (m : Sp) (h : L[i]? = some m) (hq : q < 3) : (L.flatMap spC)[i * 3 + q]? = (spC m)[q]? := flat_get L i q m h hq
end Go.Proofs.YtdmhnoffejjpnaaGreatDoor
end

section
set_option linter.unusedVariables false
set_option linter.unusedSimpArgs false
set_option maxRecDepth 100000
set_option maxRecDepth 100000
namespace Go.Proofs.YtdmhnoffejjpnaaGreatDoor
open Go.RowKit Go Go.Lib

/-- a part of a record -/
structure Pt where
  a : Int
  S : List Sp
  cr : List Int
  lo : Bool
structure RC where
  tr : Int
  jb : Int
  cl : Int
  wh : Bool
  ps : List Pt
/-- crumbs that rise -/
def crF (last : Int) : List Int → Bool
  | [] => true
  | x :: r => inB 0 3 x && (decide (last < x) && crF x r)
def okPt (tr : Int) (p : Pt) : Bool := inB 0 3 p.a && (decide (p.S.length ≤ 1000) && (rowF tr 0 p.S && (p.S.all rightS && crF (-1) p.cr)))
def psF (tr last : Int) : List Pt → Bool
  | [] => true
  | p :: r => okPt tr p && (decide (last < p.a) && psF tr p.a r)
def lostP (L : List Pt) : Bool := L.any (·.lo)
def okRc (r : RC) : Bool := inB 1 65535 r.tr && (inB 1 1073741824 r.jb && (inB 0 3 r.cl && (psF r.tr (-1) r.ps && (decide (0 < r.ps.length) && (r.wh == !lostP r.ps)))))
def lastI (L : List Int) : Nat → Int
  | 0 => -1
  | k + 1 => L.getD k 0
theorem crF_drop (L : List Int) (k : Nat) (last : Int) (h : k < L.length) : crF last (L.drop k) = (inB 0 3 (L.getD k 0) && (decide (last < L.getD k 0) && crF (L.getD k 0) (L.drop (k + 1)))) := by
  rw [List.drop_eq_getElem_cons h]
  have : L.getD k 0 = L[k] := by simp [List.getD, h]
  rw [this]
  rfl
def lastP (L : List Pt) : Nat → Int
  | 0 => -1
  | k + 1 => match L[k]? with | some p => p.a | none => 0
theorem lastP_succ {L : List Pt} {k : Nat} {p : Pt} (h : L[k]? = some p) : lastP L (k + 1) = p.a := by simp [lastP, h]
theorem psF_drop (tr : Int) (L : List Pt) (k : Nat) (last : Int) (p : Pt) (h : L[k]? = some p) : psF tr last (L.drop k) = (okPt tr p && (decide (last < p.a) && psF tr p.a (L.drop (k + 1)))) := by
  obtain ⟨hk, rfl⟩ := List.getElem?_eq_some_iff.1 h
  rw [List.drop_eq_getElem_cons hk]
  rfl
/-- a slice of parts that can be read -/
def RdPt (w : World) (v : Value) (L : List Pt) : Prop := ∃ a c, v = .slice a L.length c ∧ L.length ≤ c ∧ L.length ≤ 1000000 ∧ ∀ i x, L[i]? = some x → ∃ g o sa sc ca cc, a = some ⟨g, o, none⟩ ∧ w.cell? ⟨g, o + i * 4, none⟩ = some (.int .i64 x.a) ∧ w.cell? ⟨g, o + i * 4 + 1, none⟩ = some (.slice sa x.S.length sc) ∧ w.cell? ⟨g, o + i * 4 + 2, none⟩ = some (.slice ca x.cr.length cc) ∧ w.cell? ⟨g, o + i * 4 + 3, none⟩ = some (.bool x.lo) ∧ RdSp w (.slice sa x.S.length sc) x.S ∧ RdI w (.slice ca x.cr.length cc) x.cr
theorem RdPt.frN {w w' : World} {v : Value} {L : List Pt} (h : RdPt w v L) (f : Fr noB w w') : RdPt w' v L := by
  obtain ⟨a, c, e, h1, h2, h3⟩ := h
  refine ⟨a, c, e, h1, h2, fun i x hx => ?_⟩
  obtain ⟨g, o, sa, sc, ca, cc, e1, c0, c1, c2, c3, r1, r2⟩ := h3 i x hx
  exact ⟨g, o, sa, sc, ca, cc, e1, f.cell c0 (fun q => q), f.cell c1 (fun q => q), f.cell c2 (fun q => q), f.cell c3 (fun q => q), r1.frN f, r2.frN f⟩
def rcV (r : RC) (u : Value) : Value := .agg #[.int .i64 r.tr, .int .i64 r.jb, .int .i64 r.cl, .bool r.wh, u]
/-- a record that can be read -/
def RdRc (w : World) (v : Value) (r : RC) : Prop := ∃ u, v = rcV r u ∧ RdPt w u r.ps
theorem RdRc.frN {w w' : World} {v : Value} {r : RC} (h : RdRc w v r) (f : Fr noB w w') : RdRc w' v r := by obtain ⟨u, e, h1⟩ := h; exact ⟨u, e, h1.frN f⟩

theorem sgAgent_any (n : Int) (w : World) : Calls Tryz.prog 125 #[.int .i64 n] w fun e w' => e = .returned (.bool (inB 0 3 n)) ∧ w' = w := by
  unfold inB
  by_cases h1 : 0 ≤ n
  · have h1d : decide (0 ≤ n) = true := by simpa using h1
    by_cases h2 : n ≤ 3
    · have h2d : decide (n ≤ 3) = true := by simpa using h2
      have h3d : decide (n < 4) = true := by simp; omega
      go_enter Tryz.func125, Tryz.ntmps125
      go_wp2_with fail
      go_ret
      exact ⟨by simp [h1, h2], rfl⟩
    · have h3d : decide (n < 4) = false := by simp; omega
      go_enter Tryz.func125, Tryz.ntmps125
      go_wp2_with fail
      go_ret
      exact ⟨by simp [h2], rfl⟩
  · have h1d : decide (0 ≤ n) = false := by simp; omega
    go_enter Tryz.func125, Tryz.ntmps125
    go_wp2_with fail
    go_ret
    exact ⟨by simp [h1], rfl⟩
theorem all_no {α : Type} {p : α → Bool} {L : List α} {k : Nat} {m : α} (h : L[k]? = some m) (hp : p m = false) : L.all p = false := by
  rw [List.all_eq_false]
  exact ⟨m, List.mem_of_getElem? h, by simp [hp]⟩
theorem all_yes {α : Type} {p : α → Bool} {L : List α} (h : ∀ (i : Nat) (m : α), i < L.length → L[i]? = some m → p m = true) : L.all p = true := by
  rw [List.all_eq_true]
  intro m hm
  obtain ⟨i, hi, rfl⟩ := List.getElem_of_mem hm
  exact h i _ hi (List.getElem?_eq_getElem hi)
set_option maxHeartbeats 4000000 in
theorem sgPart_any (p : Pt) (sa : Option Addr) (sc : Nat) (ca : Option Addr) (cc : Nat) (tr : Int) (w : World) (hS : RdSp w (.slice sa p.S.length sc) p.S) (hC : RdI w (.slice ca p.cr.length cc) p.cr) :
    Calls Tryz.prog 103 #[.agg #[.int .i64 p.a, .slice sa p.S.length sc, .slice ca p.cr.length cc, .bool p.lo], .int .i64 tr] w fun e w' => e = .returned (.bool (okPt tr p)) ∧ Fr noB w w' := by
  obtain ⟨ag, S, cr, lo⟩ := p
  simp only at hS hC ⊢
  obtain ⟨B0, hB0⟩ : ∃ b, okPt tr ⟨ag, S, cr, lo⟩ = b := ⟨_, rfl⟩
  rw [hB0]
  unfold okPt at hB0
  simp only at hB0
  have hrow := fun (w' : World) (f : Fr noB w w') => row_any _ S tr w' (hS.frN f)
  have hag := sgAgent_any ag
  have hri := fun (s : Sp) (w' : World) => right_any s w'
  have hsa := fun (x : Int) (w' : World) => sgAgent_any x w'
  have hgetS : ∀ k, k < S.length → ∃ m, S[k]? = some m := fun k hk => ⟨S[k], List.getElem?_eq_getElem hk⟩
  have hall0 : ∀ k m, S[k]? = some m → rightS m = false → S.all rightS = false := fun k m h1 h2 => all_no h1 h2
  have hall1 : (∀ (i : Nat) (m : Sp), i < S.length → S[i]? = some m → rightS m = true) → S.all rightS = true := fun h => all_yes h
  have hcd := crF_drop cr
  have hce : ∀ last, crF last (cr.drop cr.length) = true := fun last => by rw [List.drop_length]; rfl
  have hc0 : cr.drop 0 = cr := List.drop_zero
  obtain ⟨sa', sc', e1, hx1, hx2, _, hx3⟩ := hS
  cases e1
  obtain ⟨ca', cc', e2, hy1, hy2, hy3⟩ := hC
  cases e2
  unfold maxLen at hx2
  obtain ⟨n, hn⟩ : ∃ n, S.length = n := ⟨_, rfl⟩
  obtain ⟨m, hm⟩ : ∃ n, cr.length = n := ⟨_, rfl⟩
  rw [hn] at hx1 hgetS hall1 hrow hB0 ⊢
  rw [hm] at hy1 hy2 hy3 hcd hce ⊢
  obtain ⟨bA, hbA⟩ : ∃ b, inB 0 3 ag = b := ⟨_, rfl⟩
  obtain ⟨bR, hbR⟩ : ∃ b, rowF tr 0 S = b := ⟨_, rfl⟩
  obtain ⟨bL, hbL⟩ : ∃ b, S.all rightS = b := ⟨_, rfl⟩
  obtain ⟨bC, hbC⟩ : ∃ b, crF (-1) cr = b := ⟨_, rfl⟩
  rw [hbA, hbR, hbL, hbC] at hB0
  simp only [hbA] at hag
  simp only [hbR] at hrow
  simp only [hbL] at hall0 hall1
  have fX := (Fr.refl noB w).alloc (.cells #[.int .i64 ag, .slice sa n sc, .slice ca m cc, .bool lo] 112)
  have bX := Blk.new w 112 [.int .i64 ag, .slice sa n sc, .slice ca m cc, .bool lo]
  have hnb : (n : Int) ≤ 9223372036854775807 := by omega
  have hmb : (m : Int) ≤ 9223372036854775807 := by omega
  replace hx3 := Lib.hid hx3
  replace hy3 := Lib.hid hy3
  replace hgetS := Lib.hid hgetS
  replace hall0 := Lib.hid hall0
  replace hall1 := Lib.hid hall1
  replace hcd := Lib.hid hcd
  replace hce := Lib.hid hce
  replace hc0 := Lib.hid hc0
  replace hn := Lib.hid hn
  replace hm := Lib.hid hm
  replace hB0 := Lib.hid hB0
  replace hbA := Lib.hid hbA
  replace hbR := Lib.hid hbR
  replace hbL := Lib.hid hbL
  replace hbC := Lib.hid hbC
  replace hrow := Lib.hid hrow
  replace hag := Lib.hid hag
  replace hri := Lib.hid hri
  replace hsa := Lib.hid hsa
  go_enter Tryz.func103, Tryz.ntmps103
  go_upto_region 1 with fail
  obtain ⟨gX, hgX⟩ : ∃ g, w.heap.size = g := ⟨_, rfl⟩
  rw [hgX] at bX
  try rw [hgX]
  generalize (w.alloc (.cells #[.int .i64 ag, .slice sa n sc, .slice ca m cc, .bool lo] 112)) = wX at *
  replace hgX := Lib.hid hgX
  have i0 : wX.cell? ⟨gX, 0, none⟩ = some (.int .i64 ag) := bX.cell 0
  have i1 : wX.cell? ⟨gX, 1, none⟩ = some (.slice sa n sc) := bX.cell 1
  replace bX := Lib.hid bX
  cases bA
  · have hf : B0 = false := hB0.out.symm
    subst hf
    go_wp2_with fail
    go_fit (hag.out wX)
    rintro e w1 ⟨rfl, hw⟩
    obtain rfl := hw.symm
    clear hw
    go_wp2_with fail
    go_ret
    exact ⟨rfl, fX⟩
  by_cases hbig : 1000 < n
  · have hf : B0 = false := by rw [← hB0.out]; have : decide (n ≤ 1000) = false := by simp; omega
                               rw [this]; rfl
    subst hf
    have hd : decide ((n : Int) > 1000) = true := by simp; omega
    have hd2 : decide (1000 < (n : Int)) = true := by simp; omega
    replace hbig := Lib.hid hbig
    go_wp2_with fail
    go_fit (hag.out wX)
    rintro e w1 ⟨rfl, hw⟩
    obtain rfl := hw.symm
    clear hw
    go_wp2_with fail
    go_ret
    exact ⟨rfl, fX⟩
  have hd : decide ((n : Int) > 1000) = false := by simp; omega
  have hd2 : decide (1000 < (n : Int)) = false := by simp; omega
  have hd3 : decide (n ≤ 1000) = true := by simp; omega
  have hB1 : (bR && (bL && bC)) = B0 := by rw [← hB0.out, hd3]; rfl
  replace hB1 := Lib.hid hB1
  replace hbig := Lib.hid hbig
  clear hd3 hB0
  go_wp2_with fail
  go_fit (hag.out wX)
  rintro e w1 ⟨rfl, hw⟩
  obtain rfl := hw.symm
  clear hw
  go_wp2_with fail
  go_fit (hrow.out wX fX)
  rintro e w1 ⟨rfl, f1⟩
  have f2 := fX.seqN f1
  have b1 := Lib.hid (f1.blk bX.out (fun q => q))
  clear fX f1 bX i0 i1 hd hd2 hrow hag
  cases bR
  · have hf : B0 = false := hB1.out.symm
    subst hf
    go_wp2_with fail
    go_ret
    exact ⟨rfl, f2⟩
  have i1 : w1.cell? ⟨gX, 1, none⟩ = some (.slice sa n sc) := b1.out.cell 1
  go_wp2_with fail
  clear i1
  go_loopw [30] (fun i wr => ∃ k : Nat, k ≤ n ∧ i = .int .i64 k ∧ Hid (∀ (i : Nat) (m : Sp), i < k → S[i]? = some m → rightS m = true) ∧ Hid (Fr noB w1 wr)) (fun i _ => n - (RowKit.intOf i).toNat)
  case atStart => exact ⟨0, by omega, rfl, Lib.hid (fun i _ hi _ => by omega), Lib.hid (Fr.refl _ _)⟩
  case round =>
    obtain ⟨k, hk, rfl, hok, fr⟩ := hrel
    by_cases hlt : k < n
    · obtain ⟨s, hs⟩ := hgetS.out k hlt
      obtain ⟨g, o, rfl, c0, c1, c2⟩ := hx3.out k s hs
      replace c0 := fr.out.cell (f2.cell c0 (fun q => q)) (fun q => q)
      replace c1 := fr.out.cell (f2.cell c1 (fun q => q)) (fun q => q)
      replace c2 := fr.out.cell (f2.cell c2 (fun q => q)) (fun q => q)
      have hb1 : (k : Int) < n := by omega
      have fY := fr.out.alloc (.cells #[.int .i64 s.t, .int .i64 s.q, .string s.x] 118)
      have hr1 := hri.out s (wr.alloc (.cells #[.int .i64 s.t, .int .i64 s.q, .string s.x] 118))
      obtain ⟨R, hR⟩ : ∃ R, rightS s = R := ⟨_, rfl⟩
      rw [hR] at hr1
      replace hr1 := Lib.hid hr1
      replace hR := Lib.hid hR
      replace hs := Lib.hid hs
      go_wp2_with fail
      go_fit hr1.out
      rintro e w3 ⟨rfl, f3⟩
      have f4 := fY.seqN f3
      clear fY f3 c0 c1 c2 hr1
      cases R
      · have hf : B0 = false := by rw [← hB1.out, hall0.out k s hs.out hR.out]; rfl
        subst hf
        replace f4 := Lib.hid f4
        go_wp2_with fail
        go_ret
        exact ⟨rfl, f2.seqN f4.out⟩
      · have hok1 : Hid (∀ (i : Nat) (m : Sp), i < k + 1 → S[i]? = some m → rightS m = true) := Lib.hid (fun i m' hi hmi => by
          rcases Nat.lt_or_ge i k with q | q
          · exact hok.out i m' q hmi
          · obtain rfl : i = k := by omega
            rw [hs.out] at hmi; cases hmi
            exact hR.out)
        replace f4 := Lib.hid f4
        go_wp2_with fail
        go_roundw
        case rel => exact ⟨k + 1, by omega, by go_num, hok1, f4⟩
        case measure => simp [RowKit.intOf]; omega
    · obtain rfl : k = n := by omega
      have hL1 : bL = true := hall1.out hok.out
      subst hL1
      have hB2 : bC = B0 := hB1.out
      have f5 := f2.seqN fr.out
      have b5 := fr.out.blk b1.out (fun q => q)
      have i2 : wr.cell? ⟨gX, 2, none⟩ = some (.slice ca m cc) := b5.cell 2
      clear b5 hok hx3 hall0 hall1 hgetS fr f2
      subst hB2
      replace f5 := Lib.hid f5
      go_wp2_with fail
      clear i2
      go_loopw [7, 41] (fun lv i w2 => ∃ (q : Nat) (last : Int), q ≤ m ∧ i = .int .i64 q ∧ lv = .int .i64 last ∧ Hid (crF last (cr.drop q) = bC) ∧ w2 = wr) (fun _ i _ => m - (RowKit.intOf i).toNat)
      case atStart => exact ⟨0, -1, by omega, rfl, rfl, Lib.hid (by rw [hc0.out]; exact hbC.out), rfl⟩
      case round =>
        obtain ⟨q, last, hq, rfl, rfl, hcr, hww⟩ := hrel
        obtain rfl := hww.symm
        clear hww
        by_cases hlt2 : q < m
        · obtain ⟨g, o, rfl, c0⟩ := hy3.out q hlt2
          replace c0 := f5.out.cell c0 (fun q => q)
          have hcx := hcd.out q last hlt2
          rw [hcr.out] at hcx
          obtain ⟨x, hx⟩ : ∃ x, cr.getD q 0 = x := ⟨_, rfl⟩
          rw [hx] at c0 hcx
          have hs1 := hsa.out x wr
          obtain ⟨bI, hbI⟩ : ∃ b, inB 0 3 x = b := ⟨_, rfl⟩
          rw [hbI] at hs1 hcx
          have hb1 : (q : Int) < m := by omega
          replace hs1 := Lib.hid hs1
          replace hx := Lib.hid hx
          replace hbI := Lib.hid hbI
          replace hcx := Lib.hid hcx
          clear hcr
          go_wp2_with fail
          go_fit hs1.out
          rintro e w3 ⟨rfl, hw⟩
          obtain rfl := hw.symm
          clear hw hs1
          cases bI
          · have hf : bC = false := hcx.out
            subst hf
            go_wp2_with fail
            go_ret
            exact ⟨rfl, f5.out⟩
          · by_cases hl : last < x
            · have hd : decide (x ≤ last) = false := by simp; omega
              have hcr2 : Hid (crF x (cr.drop (q + 1)) = bC) := Lib.hid (by rw [hcx.out]; simp [hl])
              clear hcx
              go_wp2_with fail
              go_roundw
              case rel => exact ⟨q + 1, x, by omega, by go_num, rfl, hcr2, trivial⟩
              case measure => simp [RowKit.intOf]; omega
            · have hd : decide (x ≤ last) = true := by simp; omega
              have hf : bC = false := by rw [hcx.out]; simp [hl]
              subst hf
              replace hl := Lib.hid hl
              go_wp2_with fail
              go_ret
              exact ⟨rfl, f5.out⟩
        · obtain rfl : q = m := by omega
          have hf : bC = true := by rw [← hcr.out, hce.out]
          subst hf
          go_wp2_with fail
          go_ret
          exact ⟨rfl, f5.out⟩
end Go.Proofs.YtdmhnoffejjpnaaGreatDoor
end

section
set_option linter.unusedVariables false
set_option linter.unusedSimpArgs false
set_option maxRecDepth 100000
set_option maxRecDepth 100000
namespace Go.Proofs.YtdmhnoffejjpnaaGreatDoor
open Go.RowKit Go Go.Lib

theorem lost1_any (a : Int) (x y : Value) (lo : Bool) (w : World) : Calls Tryz.prog 124 #[.agg #[.int .i64 a, x, y, .bool lo]] w fun e w' => e = .returned (.bool lo) ∧ Fr noB w w' := by
  have fX := (Fr.refl noB w).alloc (.cells #[.int .i64 a, x, y, .bool lo] 112)
  have bX := Blk.new w 112 [.int .i64 a, x, y, .bool lo]
  have c3 := bX.cell 3
  go_enter Tryz.func124, Tryz.ntmps124
  go_wp2_with fail
  go_ret
  exact ⟨rfl, fX⟩
theorem find_drop {α : Type} (p : α → Bool) (L : List α) (k : Nat) (x : α) (h : L[k]? = some x) (hp : p x = false) : (L.drop k).any p = (L.drop (k + 1)).any p := by
  obtain ⟨hk, rfl⟩ := List.getElem?_eq_some_iff.1 h
  rw [List.drop_eq_getElem_cons hk, List.any_cons, hp, Bool.false_or]
set_option maxHeartbeats 4000000 in
theorem lostIdx_any (v : Value) (L : List Pt) (w : World) (hv : RdPt w v L) :
    Calls Tryz.prog 140 #[v, .func (.func 124) #[] #[]] w fun e w' => ∃ k : Int, e = .returned (.int .i64 k) ∧ decide (k ≥ 0) = lostP L ∧ Fr noB w w' := by
  obtain ⟨a, c, rfl, h1, h2, h3⟩ := hv
  have hget : ∀ k, k < L.length → ∃ m, L[k]? = some m := fun k hk => ⟨L[k], List.getElem?_eq_getElem hk⟩
  have hdrop := fun k (x : Pt) (h : L[k]? = some x) => find_drop Pt.lo L k x h
  have hyes : ∀ (k : Nat) (x : Pt), L[k]? = some x → x.lo = true → lostP L = true := fun k x h hx => by
    unfold lostP
    rw [List.any_eq_true]
    exact ⟨x, List.mem_of_getElem? h, hx⟩
  have h0 : (L.drop 0).any Pt.lo = lostP L := by rw [List.drop_zero]; rfl
  have hend : (L.drop L.length).any Pt.lo = false := by rw [List.drop_length]; rfl
  have hl1 := lost1_any
  obtain ⟨n, hn⟩ : ∃ n, L.length = n := ⟨_, rfl⟩
  rw [hn] at h1 h2 hget hend ⊢
  generalize lostP L = Z at *
  replace h3 := Lib.hid h3
  replace hget := Lib.hid hget
  replace hdrop := Lib.hid hdrop
  replace hyes := Lib.hid hyes
  replace hend := Lib.hid hend
  replace hn := Lib.hid hn
  replace hl1 := Lib.hid hl1
  go_enter Tryz.func140, Tryz.ntmps140
  go_wp2_with fail
  go_loopw [8] (fun i wr => ∃ k : Nat, k ≤ n ∧ i = .int .i64 k ∧ Hid ((L.drop k).any Pt.lo = Z) ∧ Fr noB w wr) (fun i _ => n - (RowKit.intOf i).toNat)
  case atStart => exact ⟨0, by omega, rfl, Lib.hid h0, Fr.refl _ _⟩
  case round =>
    obtain ⟨k, hk, rfl, hZ, fr⟩ := hrel
    clear h0
    by_cases hlt : k < n
    · obtain ⟨x, hx⟩ := hget.out k hlt
      obtain ⟨g, o, sa, sc, ca, cc, rfl, c0, c1, c2, c3, _, _⟩ := h3.out k x hx
      replace c0 := fr.cell c0 (fun q => q)
      replace c1 := fr.cell c1 (fun q => q)
      replace c2 := fr.cell c2 (fun q => q)
      replace c3 := fr.cell c3 (fun q => q)
      have hb1 : (k : Int) < n := by omega
      have hb0 : (0 : Int) ≤ k := by omega
      have hc := hl1.out x.a (.slice sa x.S.length sc) (.slice ca x.cr.length cc) x.lo wr
      obtain ⟨lo, hlo⟩ : ∃ b, x.lo = b := ⟨_, rfl⟩
      rw [hlo] at hc c3
      generalize x.a = xa at *
      generalize x.S.length = xs at *
      generalize x.cr.length = xc at *
      replace hc := Lib.hid hc
      replace hx := Lib.hid hx
      replace hlo := Lib.hid hlo
      go_wp2_with fail
      go_fit hc.out
      rintro e w3 ⟨rfl, f3⟩
      have f4 := fr.seqN f3
      clear fr f3 c0 c1 c2 c3 hc
      cases lo
      · have hZ2 : Hid ((L.drop (k + 1)).any Pt.lo = Z) := Lib.hid (by rw [← hdrop.out k x hx.out hlo.out]; exact hZ.out)
        clear hZ
        go_wp2_with fail
        go_roundw
        case rel => exact ⟨k + 1, by omega, by go_num, hZ2, f4⟩
        case measure => simp [RowKit.intOf]; omega
      · have hf : Z = true := hyes.out k x hx.out hlo.out
        subst hf
        go_wp2_with fail
        go_ret
        exact ⟨k, rfl, by simp, f4⟩
    · obtain rfl : k = n := by omega
      have hf : Z = false := by rw [← hZ.out, hend.out]
      subst hf
      go_wp2_with fail
      go_ret
      exact ⟨-1, rfl, by decide, fr⟩
set_option maxHeartbeats 1000000 in
theorem lostAny_any (v : Value) (L : List Pt) (w : World) (hv : RdPt w v L) :
    Calls Tryz.prog 123 #[v, .func (.func 124) #[] #[]] w fun e w' => e = .returned (.bool (lostP L)) ∧ Fr noB w w' := by
  have h := lostIdx_any v L w hv
  generalize lostP L = Z at *
  go_enter Tryz.func123, Tryz.ntmps123
  go_wp2_with fail
  go_fit h
  rintro e w1 ⟨k, rfl, hk, f1⟩
  have hk2 : decide (0 ≤ k) = Z := hk
  replace f1 := Lib.hid f1
  go_wp2_with fail
  go_ret
  exact ⟨rfl, f1.out⟩
set_option maxHeartbeats 1000000 in
theorem sgWhole_any (v : Value) (L : List Pt) (w : World) (hv : RdPt w v L) :
    Calls Tryz.prog 101 #[v] w fun e w' => e = .returned (.bool (!lostP L)) ∧ Fr noB w w' := by
  have h := lostAny_any v L w hv
  generalize lostP L = Z at *
  go_enter Tryz.func101, Tryz.ntmps101
  go_wp2_with fail
  go_fit h
  rintro e w1 ⟨rfl, f1⟩
  go_wp2_with fail
  go_ret
  exact ⟨rfl, f1⟩
end Go.Proofs.YtdmhnoffejjpnaaGreatDoor
end
