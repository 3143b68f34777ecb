/-
  A keeper's Write in one contract, and what the law's calls make of it.
-/
import Derived.Test.YtppmednmcbjafaaGreatKeepWrite
import Derived.Test.YtppmednmcbjafaaGreatArgs
set_option linter.unusedVariables false
set_option linter.unusedSimpArgs false
set_option maxRecDepth 100000
namespace Go.Proofs.YtppmednmcbjafaaGreat
open Go.RowKit Go Go.Maps Go.Lib

/-- a span as a value -/
def spV (s : Sp) : Value := .agg #[.int .i64 s.t, .int .i64 s.q, .string s.x]
/-- what a write makes of a keeper; the span; the error -/
def KS.wr (N : Nat) (K : KS) (t : Int) (x : ByteArray) : KS :=
  if mayB t x = false then K else if t ∈ K.loss then K else if t ∈ K.pins then K
  else if noRoom N K.P t then
    (if (mayL K).isEmpty then { K with loss := K.loss ++ [t] }
     else if goes K t = t then { K with P := without K.P t, loss := K.loss ++ [t], gone := K.gone ++ [t] }
     else { K with P := addT (without K.P (goes K t)) t x, loss := K.loss ++ [goes K t], gone := K.gone ++ [goes K t] })
  else { K with P := addT K.P t x }
def KS.we (N : Nat) (K : KS) (t : Int) (x : ByteArray) : Int :=
  if mayB t x = false then 1 else if t ∈ K.loss then 10 else if t ∈ K.pins then 12
  else if noRoom N K.P t then (if (mayL K).isEmpty then 6 else if goes K t = t then 10 else 0)
  else 0
def KS.ws (N : Nat) (K : KS) (t : Int) (x : ByteArray) : Sp := if K.we N t x = 0 then ⟨t, ((txt K.P t).length : Int) + 1, x⟩ else sp0
theorem kwrite_any (k g bp bl B N wc : Nat) (wa : Option Addr) (K : KS) (t : Int) (x : ByteArray) (w : World) (h : Kp w k g bp bl B N wa wc K) (hz : K.loss.length < 1000000) (hzg : K.gone.length < 1000000) :
    Calls Tryz.prog 46 #[.pointer (some ⟨k, 0, none⟩), .int .i64 t, .string x] w fun e w' => e = .returned (.tuple #[spV (K.ws N t x), .int .i64 (K.we N t x)]) ∧ KTo w w' k g bp bl B N wa (K.wr N t x) := by
  have same : ∀ w', Fr noB w w' → KTo w w' k g bp bl B N wa K := fun w' f => KTo.of (h.frN f) (f.mono (fun _ _ q => False.elim q))
  unfold KS.ws KS.wr KS.we
  by_cases hb : mayB t x = false
  · simp only [hb, if_true]
    exact (kwrite_bad k t x w hb).mono fun e w' ⟨he, f⟩ => ⟨he, same w' f⟩
  · have hb' : mayB t x = true := by simpa using hb
    simp only [hb, if_false]
    by_cases hl : t ∈ K.loss
    · simp only [hl, if_true]
      exact (kwrite_lost k g bp bl B N wc wa K t x w h hb' hl).mono fun e w' ⟨he, f⟩ => ⟨he, same w' f⟩
    · simp only [hl, if_false]
      by_cases hp : t ∈ K.pins
      · simp only [hp, if_true]
        exact (kwrite_pin k g bp bl B N wc wa K t x w h hb' hl hp).mono fun e w' ⟨he, f⟩ => ⟨he, same w' f⟩
      · simp only [hp, if_false]
        by_cases hr : noRoom N K.P t
        · simp only [hr, if_true]
          by_cases h0 : mayL K = []
          · have he : (mayL K).isEmpty = true := by rw [h0]; rfl
            simp only [he, if_true]
            exact kwrite_none k g bp bl B N wc wa K t x w h hb' hl hp hr h0 hz
          · have he : (mayL K).isEmpty = false := by cases hq : mayL K with | nil => exact absurd hq h0 | cons a r => rfl
            simp only [he, Bool.false_eq_true, if_false]
            by_cases hL : goes K t = t
            · have := kwrite_gone k g bp bl B N wc wa K t x w h hb' hl hp hr h0 hL hz hzg
              rw [hL] at this
              simp only [hL, if_true]
              exact this
            · simp only [hL, if_false]
              exact kwrite_evict k g bp bl B N wc wa K t x w h hb' hl hp hr h0 hL hz hzg
        · simp only [hr, if_false]
          exact kwrite_ok k g bp bl B N wc wa K t x w h hb' hl hp hr

/-! ### The law's calls -/
structure OpE where
  k : Int
  t : Int
  s : ByteArray
def IsOpE (cs : List Value) (m : OpE) : Prop := cs = [.int .i64 m.k, .int .i64 m.t, .string m.s] ∧ okI m.k ∧ okI m.t ∧ m.s.size ≤ maxLen
/-- what a call makes of a keeper; the span; the error -/
def KS.op (N : Nat) (K : KS) (m : OpE) : KS :=
  if m.k = 1 then K.wr N m.t m.s else if m.k = 2 then { K with pins := outL K.pins m.t ++ [m.t] } else if m.k = 3 then { K with pins := outL K.pins m.t }
  else if m.k = 4 then { K with P := without K.P m.t, pins := outL K.pins m.t, loss := outL K.loss m.t } else K
def KS.os (N : Nat) (K : KS) (m : OpE) : Sp := if m.k = 1 then K.ws N m.t m.s else sp0
def KS.oe (N : Nat) (K : KS) (m : OpE) : Int := if m.k = 1 then K.we N m.t m.s else 0
end Go.Proofs.YtppmednmcbjafaaGreat
