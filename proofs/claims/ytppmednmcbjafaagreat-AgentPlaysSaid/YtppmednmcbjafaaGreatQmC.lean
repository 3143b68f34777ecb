/-
  The document's answer by definition: whether a number is in a list; a number put in order.
  The document's answer by definition: its state, and who is named for a trace.
  The document's answer by definition: a trace's names are dropped.
  The document's answer by definition: an agent is named: what is refused.
  The document's answer by definition: an agent is named: a pair is put in order of the traces.
  Two ways to put a number in order are one.
  The reference's crumbs: put in order, looked up; what stands off.
  The plain leases that the law of the stage plays beside the leases.
  A tick of the plain leases.
  The leases and the plain leases, side by side: plain lists alone.
  msg: a Manifest read.
  Small words.
  spoorlaw09.Like of a Manifest.
  Like, and the reference's Print, of any message.
  The law's samePart, Same: two alike.
  The reference's within; rising agents.
  The document's answer: may a part be?
  The document's answer: may a message be? By kind, for the kinds without parts and spans.
-/
import Derived.Test.YtppmednmcbjafaaGreatCrumbAddA
import Derived.Test.YtppmednmcbjafaaGreatInts
import Derived.OwnWalk
import Derived.Deep.DeepMust
import Derived.Test.YtppmednmcbjafaaGreatTickA
import Derived.Test.YtppmednmcbjafaaGreatMsT
import Derived.Test.YtppmednmcbjafaaGreatAppend
import Derived.Deep.MidRow
import Derived.Test.YtppmednmcbjafaaGreatLikePin
import Derived.Deep.LoopGhost
import Derived.Deep.DeepCutAuto
import Derived.Test.YtppmednmcbjafaaGreatMsg
import Derived.Test.YtppmednmcbjafaaGreatLike
section
set_option linter.unusedVariables false
set_option linter.unusedSimpArgs false
namespace Go.Proofs.YtppmednmcbjafaaGreat.CR
open Go.RowKit Go Go.Maps Go.Lib

set_option maxHeartbeats 400000 in
theorem rin_any (v : Value) (xs : List Int) (x : Int) (w : World) (hv : RdI w v xs) :
    Calls Tryz.prog 89 #[v, .int .i64 x] w fun e w' => e = .returned (.bool (decide (x ∈ xs))) ∧ ∃ q, w' = w.drewN q := by
  obtain ⟨a, c, rfl, h1, h2, h3⟩ := hv
  generalize hn : xs.length = n at *
  replace hn := Lib.hid hn
  replace h3 := Lib.hid h3
  go_enter Tryz.func89, Tryz.ntmps89
  go_wp2_with fail
  go_loopw [5] (fun i wr => ∃ k : Nat, k ≤ n ∧ i = .int .i64 k ∧ Hid (x ∉ xs.take k) ∧ ∃ q, wr = w.drewN q) (fun i _ => n - (RowKit.intOf i).toNat)
  case atStart => exact ⟨0, by omega, rfl, Lib.hid (by simp), 0, rfl⟩
  case round =>
    obtain ⟨k, hk, rfl, hkt, q, rfl⟩ := hrel
    by_cases hlt : k < n
    · obtain ⟨g, o, rfl, e1⟩ := h3.out k hlt
      have hkx : k < xs.length := by have := hn.out; omega
      have hx1 : xs.take (k + 1) = xs.take k ++ [xs.getD k 0] := by
        rw [List.take_succ_eq_append_getElem hkx]; simp [List.getD, hkx]
      have hym : xs.getD k 0 ∈ xs := by
        have : xs[k]? = some (xs.getD k 0) := by simp [List.getD, hkx]
        exact List.mem_of_getElem? this
      generalize xs.getD k 0 = y at *
      replace hx1 := Lib.hid hx1
      replace e1 : (w.drewN q).cell? ⟨g, o + k, none⟩ = some (.int .i64 y) := e1
      generalize hw : w.drewN q = wd at *
      replace hw := Lib.hid hw
      by_cases hxy : y = x
      · subst hxy
        have he : decide (y ∈ xs) = true := by simpa using hym
        have hb : (y == y) = true := by simp
        replace he := Lib.hid he
        clear hym hkx
        go_wp2_with fail
        try go_quiet (fail)
        try go_wp2_with fail
        go_ret
        exact ⟨by first | (rw [he.out]; done) | (rw [he.out]; rfl), by first | exact ⟨_, by rw [← hw.out, World.drewN_drewN]⟩ | exact ⟨q, by rw [hw.out]⟩⟩
      · have hb : (y == x) = false := by simpa using hxy
        have hk2 : Hid (x ∉ xs.take (k + 1)) := Lib.hid (by
          rw [hx1.out, List.mem_append]
          exact fun z => z.elim hkt.out (fun z => hxy (List.mem_singleton.1 z).symm))
        clear hym hkx hkt hx1
        go_wp2_with fail
        try go_quiet (fail)
        try go_wp2_with fail
        go_roundw
        case rel => exact ⟨k + 1, by omega, by go_num, hk2, by first | exact ⟨_, by rw [← hw.out, World.drewN_drewN]⟩ | exact ⟨q, by rw [hw.out]⟩⟩
        case measure => simp [RowKit.intOf]; omega
    · obtain rfl : k = n := by omega
      have he : decide (x ∈ xs) = false := by
        have h5 := hkt.out
        rw [List.take_of_length_le (by have := hn.out; omega)] at h5
        simpa using h5
      replace he := Lib.hid he
      go_wp2_with fail
      go_ret
      exact ⟨by first | (rw [he.out]; done) | (rw [he.out]; rfl), q, rfl⟩

/-- a number put ahead of the first that is greater -/
def insG : List Int → Int → List Int
  | [], x => [x]
  | a :: r, x => if x < a then x :: a :: r else a :: insG r x
def anyG (l : List Int) (x : Int) : Bool := l.any fun y => decide (x < y)
theorem insG_none {l : List Int} {x : Int} (h : anyG l x = false) : insG l x = l ++ [x] := by
  induction l with
  | nil => rfl
  | cons a r ih =>
    simp only [anyG, List.any_cons, Bool.or_eq_false_iff, decide_eq_false_iff_not] at h
    unfold insG
    rw [if_neg h.1, ih h.2]; rfl
theorem insG_snoc {l : List Int} {x : Int} (y : Int) (h : anyG l x = true) : insG (l ++ [y]) x = insG l x ++ [y] := by
  induction l with
  | nil => simp [anyG] at h
  | cons a r ih =>
    by_cases ha : x < a
    · simp [insG, ha]
    · simp only [anyG, List.any_cons, Bool.or_eq_true, decide_eq_true_eq] at h
      have := ih (h.resolve_left ha)
      simp only [List.cons_append, insG, if_neg ha, this]
theorem insG_here {l : List Int} {x y : Int} (h : anyG l x = false) (hy : x < y) : insG (l ++ [y]) x = l ++ [x] ++ [y] := by
  induction l with
  | nil => simp [insG, hy]
  | cons a r ih =>
    simp only [anyG, List.any_cons, Bool.or_eq_false_iff, decide_eq_false_iff_not] at h
    have := ih h.2
    simp only [List.cons_append, insG, if_neg h.1, this]
theorem anyG_snoc (l : List Int) (x y : Int) : anyG (l ++ [y]) x = (anyG l x || decide (x < y)) := by simp [anyG]
/-- what has been put so far -/
def outG (l : List Int) (x : Int) : List Int := if anyG l x then insG l x else l
theorem insG_len (l : List Int) (x : Int) : (insG l x).length = l.length + 1 := by
  induction l with
  | nil => rfl
  | cons a r ih => unfold insG; split <;> simp_all
theorem outG_len (l : List Int) (x : Int) : (outG l x).length ≤ l.length + 1 := by
  unfold outG; split
  · exact Nat.le_of_eq (insG_len l x)
  · exact Nat.le_succ _
theorem append_int (B : Nat) (w : World) (v : Value) (O : List Int) (y : Int) (h : w.ownsRow B 3 1 v O.length (rowV O)) : (w.alloc (.cells #[.int .i64 y] 3)).ownsRow B 3 1 v O.length (rowV O) := ownsRow_fr h ((Fr.refl noB w).alloc _) (fun _ _ q => q)

theorem grow_int {w wr w1 : World} {B : Nat} {v v' : Value} {O : List Int} {y : Int} (hB : Hid (w.heap.size = B)) (fr : Fr noB w wr) (hA : (wr.alloc (.cells #[.int .i64 y] 3)).ownsRow B 3 1 v O.length (rowV O))
    (o1 : w1.ownsRow B 3 1 v' (O.length + 1) (rowV O ++ [.int .i64 y])) (gr : (wr.alloc (.cells #[.int .i64 y] 3)).grownBy w1 v.ownBlock) :
    w1.ownsRow B 3 1 v' (O ++ [y]).length (rowV (O ++ [y])) ∧ Fr noB w w1 := by
  refine ⟨by rw [List.length_append]; simpa [rowV] using o1, (fr.alloc _).grown gr (fun q hq hlt => ?_)⟩
  have := (hA.lt q hq).1
  have := hB.out
  omega
theorem outG_yes {l O : List Int} {x : Int} (y : Int) (h : Hid (true = anyG l x ∧ O = outG l x)) : Hid (true = anyG (l ++ [y]) x ∧ O ++ [y] = outG (l ++ [y]) x) := by
  obtain ⟨h1, h2⟩ := h.out
  refine Lib.hid ⟨by rw [anyG_snoc, ← h1]; rfl, ?_⟩
  have h3 : anyG (l ++ [y]) x = true := by rw [anyG_snoc, ← h1]; rfl
  unfold outG at h2 ⊢
  rw [h2, if_pos h1.symm, if_pos h3, insG_snoc y h1.symm]
theorem outG_here {l O : List Int} {x y : Int} (h : Hid (false = anyG l x ∧ O = outG l x)) (hy : x < y) : Hid (true = anyG (l ++ [y]) x ∧ O ++ [x] ++ [y] = outG (l ++ [y]) x) := by
  obtain ⟨h1, h2⟩ := h.out
  have h3 : anyG (l ++ [y]) x = true := by rw [anyG_snoc]; simp [hy]
  refine Lib.hid ⟨h3.symm, ?_⟩
  unfold outG at h2 ⊢
  rw [← h1] at h2
  simp only [Bool.false_eq_true, if_false] at h2
  rw [h2, if_pos h3, insG_here h1.symm hy]
theorem outG_no {l O : List Int} {x y : Int} (h : Hid (false = anyG l x ∧ O = outG l x)) (hy : ¬ x < y) : Hid (false = anyG (l ++ [y]) x ∧ O ++ [y] = outG (l ++ [y]) x) := by
  obtain ⟨h1, h2⟩ := h.out
  have h3 : anyG (l ++ [y]) x = false := by rw [anyG_snoc, ← h1]; simp; omega
  refine Lib.hid ⟨h3.symm, ?_⟩
  unfold outG at h2 ⊢
  rw [← h1] at h2
  rw [h3]
  simp only [Bool.false_eq_true, if_false] at h2 ⊢
  rw [h2]

set_option maxHeartbeats 1000000 in
set_option maxRecDepth 10000 in
theorem rinsert_any (v : Value) (xs : List Int) (x : Int) (w : World) (hv : RdI w v xs) (hl : xs.length ≤ 1000000) :
    Calls Tryz.prog 90 #[v, .int .i64 x] w fun e w' => ∃ u, e = .returned u ∧ w'.ownsRow w.heap.size 3 1 u (insG xs x).length (rowV (insG xs x)) ∧ Fr noB w w' := by
  obtain ⟨i0, hi0, hz0, hz1, hz2⟩ : ∃ i0, Tryz.prog.info? 3 = some i0 ∧ i0.zero = some (.int .i64 0) ∧ i0.size = 1 ∧ i0.bytes = 8 := by
    have hI := infoIntR
    cases hq : Tryz.prog.info? 3 with
    | none => rw [hq] at hI; cases hI
    | some k => rw [hq] at hI; simp at hI; exact ⟨k, rfl, hI⟩
  have hv2 := Lib.hid hv
  obtain ⟨a, c, rfl, h1, h2, h3⟩ := hv
  generalize hn : xs.length = n at *
  replace hn := Lib.hid hn
  replace h3 := Lib.hid h3
  generalize hB : w.heap.size = B at *
  replace hB := Lib.hid hB
  go_enter Tryz.func90, Tryz.ntmps90
  go_wp2_with fail
  go_loopw [5, 6, 7] (fun ov dn i wr => ∃ (k : Nat) (O : List Int) (d : Bool), k ≤ n ∧ i = .int .i64 k ∧ dn = .bool d ∧ wr.ownsRow B 3 1 ov O.length (rowV O) ∧ Hid (d = anyG (xs.take k) x ∧ O = outG (xs.take k) x) ∧ Fr noB w wr) (fun _ _ i _ => n - (RowKit.intOf i).toNat)
  case atStart => exact ⟨0, [], false, by omega, rfl, rfl, World.ownsRow_nil _ _ _ _, Lib.hid ⟨by simp [anyG], by simp [outG, anyG]⟩, Fr.refl _ _⟩
  case round =>
    obtain ⟨k, O, d, hk, rfl, rfl, own, hO, fr⟩ := hrel
    have hOl : O.length ≤ k + 1 := by rw [hO.out.2]; exact Nat.le_trans (outG_len _ _) (by have := List.length_take_le k xs; omega)
    by_cases hlt : k < n
    · obtain ⟨g, o, rfl, e0⟩ := h3.out k hlt
      have e1 := fr.cell e0 (fun q => q)
      have hkx : k < xs.length := by have := hn.out; omega
      have hx1 : xs.take (k + 1) = xs.take k ++ [xs.getD k 0] := by
        rw [List.take_succ_eq_append_getElem hkx]; simp [List.getD, hkx]
      generalize xs.getD k 0 = y at *
      replace hx1 := Lib.hid hx1
      have e0' := e0
      replace e0 := Lib.hid e0
      clear hkx
      have hBr : B ≤ wr.heap.size := by rw [← hB.out]; exact fr.size
      cases d with
      | true =>
        have hA := append_int B wr u5 O y own
        have hN := cell_new wr (.int .i64 y) 3
        go_wp2_with (first
          | (at_builtin; go_must (refine wpList_append_at _ rfl (.tmp 28) (.tmp 33) 57 rfl B 3 i0 _ 1 8 Tryz.underlying57 hi0 hz0 hz1 hz2 rfl (by omega) _ O.length _ rfl hA ⟨wr.heap.size, 0, none⟩ 1 1 [.int .i64 y] rfl rfl hN (one_int _ _) ?_ ?_ ?_ ?_))
          | fail)
        · unfold maxLen; omega
        · omega
        · have := ((Fr.refl noB wr).alloc (.cells #[.int .i64 y] 3)).size; omega
        intro v' w1 o1 gr1 _
        obtain ⟨own1, fr1⟩ := grow_int hB fr hA o1 gr1
        have hO1 := outG_yes y hO
        rw [← hx1.out] at hO1
        clear hA hN o1 gr1 own fr e1 hO
        go_wp2_with fail
        go_roundw
        case rel => exact ⟨k + 1, O ++ [y], true, by omega, by go_num, rfl, own1, hO1, fr1⟩
        case measure => simp [RowKit.intOf]; omega
      | false =>
        by_cases hxy : x < y
        · have hb : decide (x < y) = true := by simpa using hxy
          have hA := append_int B wr u5 O x own
          have hN := cell_new wr (.int .i64 x) 3
          go_wp2_with (first
          | (at_builtin; go_must (refine wpList_append_at _ rfl (.tmp 24) (.tmp 26) 57 rfl B 3 i0 _ 1 8 Tryz.underlying57 hi0 hz0 hz1 hz2 rfl (by omega) _ O.length _ rfl hA ⟨wr.heap.size, 0, none⟩ 1 1 [.int .i64 x] rfl rfl hN (one_int _ _) ?_ ?_ ?_ ?_))
          | fail)
          · unfold maxLen; omega
          · omega
          · have := ((Fr.refl noB wr).alloc (.cells #[.int .i64 x] 3)).size; omega
          intro v' w1 o1 gr1 _
          obtain ⟨own1, fr1⟩ := grow_int hB fr hA o1 gr1
          have e2 := fr1.cell e0' (fun q => q)
          have hl1 : (O ++ [x]).length ≤ k + 2 := by simp; omega
          have hB1 : B ≤ w1.heap.size := by rw [← hB.out]; exact fr1.size
          clear hA hN o1 gr1 own fr e1
          generalize hP : O ++ [x] = P at *
          replace hP := Lib.hid hP
          have hA := append_int B w1 v' P y own1
          have hN := cell_new w1 (.int .i64 y) 3
          go_wp2_with (first
          | (at_builtin; go_must (refine wpList_append_at _ rfl (.tmp 28) (.tmp 33) 57 rfl B 3 i0 _ 1 8 Tryz.underlying57 hi0 hz0 hz1 hz2 rfl (by omega) _ P.length _ rfl hA ⟨w1.heap.size, 0, none⟩ 1 1 [.int .i64 y] rfl rfl hN (one_int _ _) ?_ ?_ ?_ ?_))
          | fail)
          · unfold maxLen; omega
          · omega
          · have := ((Fr.refl noB w1).alloc (.cells #[.int .i64 y] 3)).size; omega
          intro v2 w2 o2 gr2 _
          obtain ⟨own2, fr2⟩ := grow_int hB fr1 hA o2 gr2
          have hO1 := outG_here hO hxy
          rw [← hx1.out, hP.out] at hO1
          clear hA hN o2 gr2 own1 fr1 e2 hO
          go_wp2_with fail
          go_roundw
          case rel => exact ⟨k + 1, P ++ [y], true, by omega, by go_num, rfl, own2, hO1, fr2⟩
          case measure => simp [RowKit.intOf]; omega
        · have hb : decide (x < y) = false := by simpa using hxy
          have hA := append_int B wr u5 O y own
          have hN := cell_new wr (.int .i64 y) 3
          go_wp2_with (first
          | (at_builtin; go_must (refine wpList_append_at _ rfl (.tmp 28) (.tmp 33) 57 rfl B 3 i0 _ 1 8 Tryz.underlying57 hi0 hz0 hz1 hz2 rfl (by omega) _ O.length _ rfl hA ⟨wr.heap.size, 0, none⟩ 1 1 [.int .i64 y] rfl rfl hN (one_int _ _) ?_ ?_ ?_ ?_))
          | fail)
          · unfold maxLen; omega
          · omega
          · have := ((Fr.refl noB wr).alloc (.cells #[.int .i64 y] 3)).size; omega
          intro v' w1 o1 gr1 _
          obtain ⟨own1, fr1⟩ := grow_int hB fr hA o1 gr1
          have hO1 := outG_no hO (y := y) (by omega)
          rw [← hx1.out] at hO1
          clear hA hN o1 gr1 own fr e1 hO
          go_wp2_with fail
          go_roundw
          case rel => exact ⟨k + 1, O ++ [y], false, by omega, by go_num, rfl, own1, hO1, fr1⟩
          case measure => simp [RowKit.intOf]; omega
    · obtain rfl : k = n := by omega
      have hBr : B ≤ wr.heap.size := by rw [← hB.out]; exact fr.size
      have htk : xs.take k = xs := List.take_of_length_le (by have := hn.out; omega)
      rw [htk] at hO
      cases d with
      | true =>
        have hE : O = insG xs x := by
          obtain ⟨h4, h5⟩ := hO.out
          rw [h5]; unfold outG; rw [if_pos h4.symm]
        replace hE := Lib.hid hE
        clear hO htk
        go_wp2_with fail
        go_ret
        exact ⟨_, rfl, by rw [← hE.out]; exact own, fr⟩
      | false =>
        have hE : O ++ [x] = insG xs x := by
          obtain ⟨h4, h5⟩ := hO.out
          rw [insG_none h4.symm, h5]; unfold outG; rw [← h4]; rfl
        replace hE := Lib.hid hE
        clear hO htk
        have hA := append_int B wr u5 O x own
        have hN := cell_new wr (.int .i64 x) 3
        go_wp2_with (first
          | (at_builtin; go_must (refine wpList_append_at _ rfl (.tmp 37) (.tmp 39) 57 rfl B 3 i0 _ 1 8 Tryz.underlying57 hi0 hz0 hz1 hz2 rfl (by omega) _ O.length _ rfl hA ⟨wr.heap.size, 0, none⟩ 1 1 [.int .i64 x] rfl rfl hN (one_int _ _) ?_ ?_ ?_ ?_))
          | fail)
        · unfold maxLen; omega
        · omega
        · have := ((Fr.refl noB wr).alloc (.cells #[.int .i64 x] 3)).size; omega
        intro v' w1 o1 gr1 _
        obtain ⟨own1, fr1⟩ := grow_int hB fr hA o1 gr1
        clear hA hN o1 gr1 own fr
        go_wp2_with fail
        go_ret
        exact ⟨_, rfl, by rw [← hE.out]; exact own1, fr1⟩
end Go.Proofs.YtppmednmcbjafaaGreat.CR
end

section
set_option linter.unusedVariables false
set_option linter.unusedSimpArgs false
namespace Go.Proofs.YtppmednmcbjafaaGreat.CR
open Go.RowKit Go Go.Maps Go.Lib

/-- The reference's crumbs at block r, its two rows from B on: E tells, trace by trace, the names; VA are the rows of names as they lie. -/
structure Rc (w : World) (r B : Nat) (N : Int) (E : List (Int × List Int)) (aT : Option Addr) (cT : Nat) (aA : Option Addr) (cA : Nat) (VA : List Value) : Prop where
  blk : Blk w r 121 [.int .i64 N, .slice aT E.length cT, .slice aA E.length cA]
  rT : w.ownsRow B 3 1 (.slice aT E.length cT) E.length (rowV (E.map (·.1)))
  rA : w.ownsRow B 57 1 (.slice aA E.length cA) E.length VA
  rd : ∀ i, i < E.length → RdI w (VA.getD i (.slice none 0 0)) (E.getD i (0, [])).2
  ap : ∀ u ∈ VA, ∀ g o n c, u = .slice (some ⟨g, o, none⟩) n c → g ≠ r ∧ g < w.heap.size
  rB : r < B
  Bw : B ≤ w.heap.size

theorem Rc.frN {w w' : World} {r B : Nat} {N : Int} {E : List (Int × List Int)} {aT : Option Addr} {cT : Nat} {aA : Option Addr} {cA : Nat} {VA : List Value} (h : Rc w r B N E aT cT aA cA VA) (hf : Fr noB w w') : Rc w' r B N E aT cT aA cA VA :=
  ⟨hf.blk h.blk (fun q => q), ownsRow_fr h.rT hf (fun _ _ q => q), ownsRow_fr h.rA hf (fun _ _ q => q), fun i hi => (h.rd i hi).fr hf (fun _ _ _ _ _ q => q), fun u hu g o n c e => ⟨(h.ap u hu g o n c e).1, Nat.lt_of_lt_of_le (h.ap u hu g o n c e).2 hf.size⟩, h.rB, Nat.le_trans h.Bw hf.size⟩
theorem Rc.drewN {w : World} {r B : Nat} {N : Int} {E : List (Int × List Int)} {aT : Option Addr} {cT : Nat} {aA : Option Addr} {cA : Nat} {VA : List Value} (h : Rc w r B N E aT cT aA cA VA) (q : Nat) : Rc (w.drewN q) r B N E aT cT aA cA VA := h.frN ((Fr.refl noB w).drewN q)

theorem own_at {w : World} {B n c : Nat} {t : TypeId} {a : Option Addr} {xs : List Value} (h : w.ownsRow B t 1 (.slice a n c) n xs) {i : Nat} {x : Value} (hx : xs[i]? = some x) : ∃ g, a = some ⟨g, 0, none⟩ ∧ w.cell? ⟨g, i, none⟩ = some x := by
  have hi : i < xs.length := (List.getElem?_eq_some_iff.1 hx).1
  have hn : 0 < n := by have := h.1; omega
  obtain ⟨g, cap, e, _⟩ := ownsRow_some h hn
  cases e
  refine ⟨g, rfl, ?_⟩
  have := h.cells (g := g) rfl i x hx
  rwa [show (⟨g, 0, none⟩ : Addr).add i = ⟨g, i, none⟩ by unfold Addr.add; split <;> simp_all] at this

theorem look_at {α : Type} {E : List (Int × α)} {t : Int} {k : Nat} {m : Int × α} (h : ∀ p ∈ E.take k, p.1 ≠ t) (hm : E[k]? = some m) (ht : m.1 = t) : look E t = some m.2 := by
  have hk : k < E.length := (List.getElem?_eq_some_iff.1 hm).1
  have he : E = E.take k ++ m :: E.drop (k + 1) := by
    have h1 := (List.getElem?_eq_some_iff.1 hm).2
    rw [← h1, List.getElem_cons_drop, List.take_append_drop]
  unfold look
  rw [he, List.find?_append, List.find?_eq_none.2 (fun p hp => by simpa using h p hp)]
  simp [ht]

set_option maxHeartbeats 1000000 in
set_option maxRecDepth 10000 in
theorem rof_any (r B : Nat) (N t : Int) (E : List (Int × List Int)) (aT : Option Addr) (cT : Nat) (aA : Option Addr) (cA : Nat) (VA : List Value) (w : World) (h : Rc w r B N E aT cT aA cA VA) (hE : E.length ≤ 1000000) :
    Calls Tryz.prog 31 #[.pointer (some ⟨r, 0, none⟩), .int .i64 t] w fun e w' => ∃ v, e = .returned v ∧ RdI w v ((look E t).getD []) ∧ ∃ q, w' = w.drewN q := by
  have h' := Lib.hid h
  obtain ⟨hb, hrT, hrA, hrd, hap, hrB, hBw⟩ := h
  clear hap
  have hVl : VA.length = E.length := by simpa using hrA.1
  have hTl : (E.map (·.1)).length = E.length := by simp
  generalize hn : E.length = n at *
  replace hn := Lib.hid hn
  replace hVl := Lib.hid hVl
  replace hb := Lib.hid hb
  replace hrT := Lib.hid hrT
  replace hrA := Lib.hid hrA
  replace hrd := Lib.hid hrd
  clear hTl
  go_enter Tryz.func31, Tryz.ntmps31
  go_wp2_with fail
  go_loopw [5] (fun i wr => ∃ k : Nat, k ≤ n ∧ i = .int .i64 k ∧ Hid (∀ p ∈ E.take k, p.1 ≠ t) ∧ ∃ q, wr = w.drewN q) (fun i _ => n - (RowKit.intOf i).toNat)
  case atStart => exact ⟨0, by omega, rfl, Lib.hid (by simp), 0, rfl⟩
  case round =>
    obtain ⟨k, hk, rfl, hkt, q, rfl⟩ := hrel
    have c1 : (w.drewN q).cell? ⟨r, 1, none⟩ = some (.slice aT n cT) := hb.out.cell 1
    have c2 : (w.drewN q).cell? ⟨r, 2, none⟩ = some (.slice aA n cA) := hb.out.cell 2
    by_cases hlt : k < n
    · obtain ⟨m, hm⟩ : ∃ m, E[k]? = some m := ⟨_, List.getElem?_eq_getElem (by rw [hn.out]; exact hlt)⟩
      obtain ⟨u, hu⟩ : ∃ u, VA[k]? = some u := ⟨_, List.getElem?_eq_getElem (by rw [hVl.out]; exact hlt)⟩
      obtain ⟨gT, rfl, e1⟩ := own_at hrT.out (i := k) (x := .int .i64 m.1) (by simp [rowV, hm])
      obtain ⟨gA, rfl, e2⟩ := own_at hrA.out hu
      have hru : RdI w u m.2 := by
        have := hrd.out k hlt
        simpa [List.getD, hm, hu] using this
      replace e1 : (w.drewN q).cell? ⟨gT, k, none⟩ = some (.int .i64 m.1) := e1
      replace e2 : (w.drewN q).cell? ⟨gA, k, none⟩ = some u := e2
      replace hru := Lib.hid hru
      replace hu := Lib.hid hu
      generalize hw : w.drewN q = wd at *
      replace hw := Lib.hid hw
      by_cases hmt : m.1 = t
      · have hlk : look E t = some m.2 := look_at hkt.out hm hmt
        have hb1 : (m.1 == t) = true := by simpa using hmt
        replace hlk := Lib.hid hlk
        replace hm := Lib.hid hm
        generalize m.1 = x at *
        clear hmt
        go_wp2_with fail
        try go_quiet (fail)
        try go_wp2_with fail
        go_ret
        exact ⟨_, rfl, by rw [hlk.out]; exact hru.out, by first | exact ⟨_, by rw [← hw.out, World.drewN_drewN]⟩ | exact ⟨q, by rw [hw.out]⟩⟩
      · have hb1 : (m.1 == t) = false := by simpa using hmt
        have hk2 : Hid (∀ p ∈ E.take (k + 1), p.1 ≠ t) := Lib.hid (by
          have hkl : k < E.length := by rw [hn.out]; exact hlt
          rw [List.take_succ_eq_append_getElem hkl]
          intro p hp
          rcases List.mem_append.1 hp with hp | hp
          · exact hkt.out p hp
          · rw [List.mem_singleton.1 hp, (List.getElem?_eq_some_iff.1 hm).2]; exact hmt)
        replace hm := Lib.hid hm
        generalize m.1 = x at *
        clear hmt hkt
        go_wp2_with fail
        try go_quiet (fail)
        try go_wp2_with fail
        go_roundw
        case rel => exact ⟨k + 1, by omega, by go_num, hk2, by first | exact ⟨_, by rw [← hw.out, World.drewN_drewN]⟩ | exact ⟨q, by rw [hw.out]⟩⟩
        case measure => simp [RowKit.intOf]; omega
    · obtain rfl : k = n := by omega
      have hlk : look E t = none := by
        have h5 := hkt.out
        rw [List.take_of_length_le (by have := hn.out; omega)] at h5
        unfold look
        rw [List.find?_eq_none.2 (fun p hp => by simpa using h5 p hp)]; rfl
      replace hlk := Lib.hid hlk
      go_wp2_with fail
      go_ret
      exact ⟨_, rfl, by rw [hlk.out]; exact ⟨none, 0, rfl, by simp, by simp, fun i hi => by simp at hi⟩, q, rfl⟩
end Go.Proofs.YtppmednmcbjafaaGreat.CR
end

section
set_option linter.unusedVariables false
set_option linter.unusedSimpArgs false
namespace Go.Proofs.YtppmednmcbjafaaGreat.CR
open Go.RowKit Go Go.Maps Go.Lib

theorem infoSlR : (Tryz.prog.info? 57).map (fun i => (i.zero, i.size, i.bytes)) = some (some (.slice none 0 0), 1, 24) := by kernel_rfl
theorem row_typeR {w : World} {B : Nat} {e : TypeId} {k n : Nat} {v : Value} {xs : List Value} (h : w.ownsRow B e k v n xs) {q : Nat} (hq : v.ownBlock = some q) : ∃ cs, w.heap[q]? = some (.cells cs e (0, 0)) := by
  rcases h.2 with ⟨rfl, _⟩ | ⟨g, cap, cur, rfl, _, hg, _⟩
  · cases hq
  · cases hq; exact ⟨_, hg⟩
/-- rows of two types lie in two blocks -/
theorem rows_apart {w : World} {B B' : Nat} {e e' : TypeId} {k k' n n' : Nat} {v v' : Value} {xs xs' : List Value} (h : w.ownsRow B e k v n xs) (h' : w.ownsRow B' e' k' v' n' xs') (he : e ≠ e') : ∀ g, v.ownBlock = some g → v'.ownBlock ≠ some g := fun g hg hg' => by
  obtain ⟨c, hc⟩ := row_typeR h hg
  obtain ⟨c', hc'⟩ := row_typeR h' hg'
  rw [hc] at hc'
  simp only [Option.some.injEq, Obj.cells.injEq] at hc'
  exact he hc'.2.1

theorem without_snoc {α : Type} (l : List (Int × α)) (t : Int) (m : Int × α) : without (l ++ [m]) t = without l t ++ if m.1 = t then [] else [m] := by
  unfold without
  rw [List.filter_append]
  by_cases h : m.1 = t <;> simp [h]

/-- what has been kept so far -/
structure Kp (w : World) (E : List (Int × List Int)) (t : Int) (k : Nat) (F : List (Int × List Int)) (V : List Value) : Prop where
  eq : F = without (E.take k) t
  len : V.length = F.length
  rd : ∀ i, i < F.length → RdI w (V.getD i (.slice none 0 0)) (F.getD i (0, [])).2
theorem Kp.skip {w : World} {E : List (Int × List Int)} {t : Int} {k : Nat} {F : List (Int × List Int)} {V : List Value} {m : Int × List Int} (h : Kp w E t k F V) (hm : E[k]? = some m) (ht : m.1 = t) : Kp w E t (k + 1) F V := by
  obtain ⟨hk, e⟩ := List.getElem?_eq_some_iff.1 hm
  refine ⟨?_, h.len, h.rd⟩
  rw [List.take_succ_eq_append_getElem hk, without_snoc, e, if_pos ht, List.append_nil]; exact h.eq
theorem Kp.take {w : World} {E : List (Int × List Int)} {t : Int} {k : Nat} {F : List (Int × List Int)} {V : List Value} {m : Int × List Int} {u : Value} (h : Kp w E t k F V) (hm : E[k]? = some m) (ht : m.1 ≠ t) (hu : RdI w u m.2) : Kp w E t (k + 1) (F ++ [m]) (V ++ [u]) := by
  obtain ⟨hk, e⟩ := List.getElem?_eq_some_iff.1 hm
  refine ⟨?_, by simp [h.len], fun i hi => ?_⟩
  · rw [List.take_succ_eq_append_getElem hk, without_snoc, e, if_neg ht, ← h.eq]
  · by_cases hi2 : i < F.length
    · have := h.rd i hi2
      simp only [List.getD, List.getElem?_append_left hi2, List.getElem?_append_left (show i < V.length by rw [h.len]; exact hi2)] at this ⊢
      exact this
    · have : i = F.length := by simp at hi; omega
      subst this
      have h3 : (V ++ [u])[F.length]? = some u := by rw [← h.len]; simp
      simp only [List.getD, h3, Option.getD_some]
      simpa using hu
theorem Kp.len_le {w : World} {E : List (Int × List Int)} {t : Int} {k : Nat} {F : List (Int × List Int)} {V : List Value} (h : Kp w E t k F V) : F.length ≤ k := by
  rw [h.eq]
  exact Nat.le_trans (List.length_filter_le _ _) (List.length_take_le _ _)
theorem one_rd {w : World} {u : Value} {xs : List Int} (h : RdI w u xs) : ∀ z ∈ [u], z.oneCell' = true := by
  obtain ⟨a, c, rfl, _⟩ := h
  intro z hz; simp at hz; subst hz; rfl

set_option maxHeartbeats 1000000 in
set_option maxRecDepth 10000 in
theorem rdrop_any (r B : Nat) (N t : Int) (E : List (Int × List Int)) (aT : Option Addr) (cT : Nat) (aA : Option Addr) (cA : Nat) (VA : List Value) (w : World) (h : Rc w r B N E aT cT aA cA VA) (hE : E.length ≤ 1000000) :
    Calls Tryz.prog 71 #[.pointer (some ⟨r, 0, none⟩), .int .i64 t] w fun e w' => e = .returned (.tuple #[]) ∧ (∃ aT cT aA cA V, Rc w' r w.heap.size N (without E t) aT cT aA cA V ∧ ∀ z ∈ V, z ∈ VA) ∧ Fr (onlyB r) w w' := by
  obtain ⟨i0, hi0, hz0, hz1, hz2⟩ : ∃ i0, Tryz.prog.info? 3 = some i0 ∧ i0.zero = some (.int .i64 0) ∧ i0.size = 1 ∧ i0.bytes = 8 := by
    have hI := infoIntR
    cases hq : Tryz.prog.info? 3 with
    | none => rw [hq] at hI; cases hI
    | some k => rw [hq] at hI; simp at hI; exact ⟨k, rfl, hI⟩
  obtain ⟨j0, hj0, hy0, hy1, hy2⟩ : ∃ i0, Tryz.prog.info? 57 = some i0 ∧ i0.zero = some (.slice none 0 0) ∧ i0.size = 1 ∧ i0.bytes = 24 := by
    have hI := infoSlR
    cases hq : Tryz.prog.info? 57 with
    | none => rw [hq] at hI; cases hI
    | some k => rw [hq] at hI; simp at hI; exact ⟨k, rfl, hI⟩
  obtain ⟨hb, hrT, hrA, hrd, hap, hrB, hBw⟩ := h
  replace hap := Lib.hid hap
  have hVl : VA.length = E.length := by simpa using hrA.1
  generalize hn : E.length = n at *
  replace hn := Lib.hid hn
  replace hVl := Lib.hid hVl
  replace hb := Lib.hid hb
  replace hrT := Lib.hid hrT
  replace hrA := Lib.hid hrA
  replace hrd := Lib.hid hrd
  generalize hD : w.heap.size = D at *
  replace hD := Lib.hid hD
  go_enter Tryz.func71, Tryz.ntmps71
  go_wp2_with fail
  go_loopw [4, 5, 6] (fun tv av i wr => ∃ (k : Nat) (F : List (Int × List Int)) (V : List Value), k ≤ n ∧ i = .int .i64 k ∧ wr.ownsRow D 3 1 tv F.length (rowV (F.map (·.1))) ∧ wr.ownsRow D 57 1 av F.length V ∧ Hid (Kp w E t k F V) ∧ Hid (∀ z ∈ V, z ∈ VA) ∧ Fr noB w wr) (fun _ _ i _ => n - (RowKit.intOf i).toNat)
  case atStart => exact ⟨0, [], [], by omega, rfl, World.ownsRow_nil _ _ _ _, World.ownsRow_nil _ _ _ _, Lib.hid ⟨by simp [without], rfl, fun i hi => by simp at hi⟩, Lib.hid (by simp), Fr.refl _ _⟩
  case round =>
    obtain ⟨k, F, V, hk, rfl, oT, oA, hK, hsub, fr⟩ := hrel
    have c1 : wr.cell? ⟨r, 1, none⟩ = some (.slice aT n cT) := (fr.blk hb.out (fun q => q)).cell 1
    have c2 : wr.cell? ⟨r, 2, none⟩ = some (.slice aA n cA) := (fr.blk hb.out (fun q => q)).cell 2
    have hFl := hK.out.len_le
    have hDr : D ≤ wr.heap.size := by rw [← hD.out]; exact fr.size
    by_cases hlt : k < n
    · obtain ⟨m, hm⟩ : ∃ m, E[k]? = some m := ⟨_, List.getElem?_eq_getElem (by rw [hn.out]; exact hlt)⟩
      obtain ⟨u, hu⟩ : ∃ u, VA[k]? = some u := ⟨_, List.getElem?_eq_getElem (by rw [hVl.out]; exact hlt)⟩
      obtain ⟨gT, rfl, e1⟩ := own_at hrT.out (i := k) (x := .int .i64 m.1) (by simp [rowV, hm])
      obtain ⟨gA, rfl, e2⟩ := own_at hrA.out hu
      have hru : RdI w u m.2 := by
        have := hrd.out k hlt
        simpa [List.getD, hm, hu] using this
      have e3 := fr.cell e1 (fun q => q)
      have e4 := fr.cell e2 (fun q => q)
      have hone := one_rd hru
      by_cases hmt : m.1 = t
      · have hb1 : (m.1 != t) = false := by simpa using hmt
        have hK1 := Lib.hid (hK.out.skip hm hmt)
        clear hK hm hu e1 e2 hru hone e4
        generalize m.1 = x at *
        clear hmt
        go_wp2_with fail
        go_roundw
        case rel => exact ⟨k + 1, F, V, by omega, by go_num, oT, oA, hK1, hsub, fr⟩
        case measure => simp [RowKit.intOf]; omega
      · have hb1 : (m.1 != t) = true := by simpa using hmt
        have hK1 := Lib.hid (hK.out.take hm hmt hru)
        have hmap : rowV ((F ++ [m]).map (·.1)) = rowV (F.map (·.1)) ++ [.int .i64 m.1] := by simp [rowV]
        replace hmap := Lib.hid hmap
        replace hone := Lib.hid hone
        have hle : (F ++ [m]).length = F.length + 1 := by simp
        replace hle := Lib.hid hle
        generalize F ++ [m] = F1 at *
        have hsub1 : Hid (∀ z ∈ V ++ [u], z ∈ VA) := Lib.hid (fun z hz => (List.mem_append.1 hz).elim (hsub.out z) (fun q => by rw [List.mem_singleton.1 q]; exact List.mem_of_getElem? hu))
        replace e2 := Lib.hid e2
        obtain ⟨au, lu, cu, rfl⟩ : ∃ au lu cu, u = .slice au lu cu := by obtain ⟨a, c, h, _⟩ := hru; exact ⟨a, _, c, h⟩
        clear hK hm hu e1 hru
        generalize m.1 = x at *
        clear hmt
        have hA : (wr.alloc (.cells #[.int .i64 x] 3)).ownsRow D 3 1 u4 F.length (rowV (F.map (·.1))) := ownsRow_fr oT ((Fr.refl noB wr).alloc _) (fun _ _ q => q)
        have hN := cell_new wr (.int .i64 x) 3
        go_wp2_with (first
          | (at_builtin; go_must (refine wpList_append_at _ rfl (.tmp 25) (.tmp 33) 57 rfl D 3 i0 _ 1 8 Tryz.underlying57 hi0 hz0 hz1 hz2 rfl (by omega) _ F.length _ rfl hA ⟨wr.heap.size, 0, none⟩ 1 1 [.int .i64 x] rfl rfl hN (one_int _ _) ?_ ?_ ?_ ?_))
          | fail)
        · unfold maxLen; omega
        · omega
        · have := ((Fr.refl noB wr).alloc (.cells #[.int .i64 x] 3)).size; omega
        intro v' w1 o1 gr1 _
        have fX := (Fr.refl noB wr).alloc (.cells #[.int .i64 x] 3)
        have oAX := ownsRow_fr oA fX (fun _ _ q => q)
        have oA1 := ownsRow_other oAX gr1 (rows_apart oAX hA (by decide))
        have fr1 : Fr noB w w1 := (fr.alloc _).grown gr1 (fun q hq hlt => by have := (hA.lt q hq).1; have := hD.out; omega)
        have d2 : w1.cell? ⟨r, 2, none⟩ = some (.slice (some ⟨gA, 0, none⟩) n cA) := (fr1.blk hb.out (fun q => q)).cell 2
        have e5 := fr1.cell e2.out (fun q => q)
        clear oAX gr1 e3 e4 hN
        have hA2 : (w1.alloc (.cells #[.slice au lu cu] 57)).ownsRow D 57 1 u5 F.length V := ownsRow_fr oA1 ((Fr.refl noB w1).alloc _) (fun _ _ q => q)
        have hN2 := cell_new w1 (.slice au lu cu) 57
        have hD1 : D ≤ w1.heap.size := by rw [← hD.out]; exact fr1.size
        clear hA fX
        go_wp2_with (first
          | (at_builtin; go_must (refine wpList_append_at _ rfl (.tmp 35) (.tmp 43) 119 rfl D 57 j0 _ 1 24 Tryz.underlying119 hj0 hy0 hy1 hy2 rfl (by omega) _ F.length _ rfl hA2 ⟨w1.heap.size, 0, none⟩ 1 1 [.slice au lu cu] rfl rfl hN2 hone.out ?_ ?_ ?_ ?_))
          | fail)
        · unfold maxLen; omega
        · omega
        · have := ((Fr.refl noB w1).alloc (.cells #[.slice au lu cu] 57)).size; omega
        intro v2 w2 o2 gr2 _
        have oTX := ownsRow_fr o1 ((Fr.refl noB w1).alloc (.cells #[.slice au lu cu] 57)) (fun _ _ q => q)
        have oT2 := ownsRow_other oTX gr2 (rows_apart oTX hA2 (by decide))
        have fr2 : Fr noB w w2 := (fr1.alloc _).grown gr2 (fun q hq hlt => by have := (hA2.lt q hq).1; have := hD.out; omega)
        rw [← hle.out] at o2
        rw [← hmap.out, ← hle.out] at oT2
        clear oTX gr2 hA2 hN2 o1 e5 d2 hle hmap c1 c2
        go_wp2_with fail
        go_roundw
        case rel => exact ⟨k + 1, F1, V ++ [.slice au lu cu], by omega, by go_num, oT2, o2, hK1, hsub1, fr2⟩
        case measure => simp [RowKit.intOf]; omega
    · obtain rfl : k = n := by omega
      have hF : F = without E t := by
        have := hK.out.eq
        rwa [List.take_of_length_le (by have := hn.out; omega)] at this
      obtain ⟨aT', cT', rfl⟩ := ownsRow_slice oT
      obtain ⟨aA', cA', rfl⟩ := ownsRow_slice oA
      have b0 := fr.blk hb.out (fun q => q)
      have z0 := b0.frozen 1
      have b1 := b0.set 1 (.slice aT' F.length cT')
      have z1 := b1.frozen 2
      have b2 := b1.set 2 (.slice aA' F.length cA')
      have c3 : (wr.setCell ⟨r, 1, none⟩ (.slice aT' F.length cT')).cell? ⟨r, 2, none⟩ = some (.slice aA k cA) := b1.cell 2
      have g1 : Fr (onlyB r) wr (wr.setCell ⟨r, 1, none⟩ (.slice aT' F.length cT')) := (Fr.refl _ _).store rfl
      have g2 : Fr (onlyB r) (wr.setCell ⟨r, 1, none⟩ (.slice aT' F.length cT')) ((wr.setCell ⟨r, 1, none⟩ (.slice aT' F.length cT')).setCell ⟨r, 2, none⟩ (.slice aA' F.length cA')) := (Fr.refl _ _).store rfl
      have g3 := g1.seqB g2 (fun _ => rfl)
      have hout : (∃ aT cT aA cA V, Rc ((wr.setCell ⟨r, 1, none⟩ (.slice aT' F.length cT')).setCell ⟨r, 2, none⟩ (.slice aA' F.length cA')) r D N (without E t) aT cT aA cA V ∧ ∀ z ∈ V, z ∈ VA) ∧ Fr (onlyB r) w ((wr.setCell ⟨r, 1, none⟩ (.slice aT' F.length cT')).setCell ⟨r, 2, none⟩ (.slice aA' F.length cA')) := by
        have hrD : ∀ q, D ≤ q → ¬ onlyB r q := fun q hq z => by unfold onlyB at z; have := hD.out; omega
        have fw : Fr (onlyB r) w ((wr.setCell ⟨r, 1, none⟩ (.slice aT' F.length cT')).setCell ⟨r, 2, none⟩ (.slice aA' F.length cA')) := (fr.mono (fun _ _ q => False.elim q)).seqB g3 (fun _ => rfl)
        refine ⟨⟨aT', cT', aA', cA', V, ?_, hsub.out⟩, fw⟩
        rw [← hF]
        have hDB : B ≤ D := hBw
        refine ⟨by simpa using b2, ownsRow_fr oT g3 (fun q hq => hrD q (oT.lt q hq).1), ownsRow_fr oA g3 (fun q hq => hrD q (oA.lt q hq).1), fun i hi => (hK.out.rd i hi).fr fw (fun g o n c e => ?_), fun u hu g o n c e => ?_, by omega, by have := fw.size; have := hD.out; omega⟩
        rotate_left
        · have h9 := hap.out u (hsub.out u hu) g o n c e
          exact ⟨h9.1, by have := fw.size; have := hD.out; omega⟩
        have hi2 : i < V.length := by rw [hK.out.len]; exact hi
        have hm9 : V.getD i (.slice none 0 0) ∈ V := List.mem_of_getElem? (show V[i]? = some (V.getD i (.slice none 0 0)) by simp [List.getD, hi2])
        exact (hap.out _ (hsub.out _ hm9) g o n c e).1
      replace hout := Lib.hid hout
      clear b0 b1 b2 g1 g2 g3 hF
      go_wp2_with fail
      go_end0
      exact ⟨rfl, hout.out⟩
end Go.Proofs.YtppmednmcbjafaaGreat.CR
end

section
set_option linter.unusedVariables false
set_option linter.unusedSimpArgs false
namespace Go.Proofs.YtppmednmcbjafaaGreat.CR
open Go.RowKit Go Go.Maps Go.Lib

theorem radd_arg (r : Nat) (t a : Int) (w : World) (ht : t < 1 ∨ 65535 < t) :
    Calls Tryz.prog 52 #[.pointer (some ⟨r, 0, none⟩), .int .i64 t, .int .i64 a] w fun e w' => e = .returned (.int .i64 1) ∧ w' = w := by
  by_cases h1 : t < 1
  · have h2 : decide (t < 1) = true := by simpa using h1
    go_enter Tryz.func52, Tryz.ntmps52
    go_wp2_with fail
    go_ret
    exact ⟨rfl, rfl⟩
  · have h2 : decide (t < 1) = false := by simpa using h1
    have h3 : decide (65535 < t) = true := by simp; omega
    go_enter Tryz.func52, Tryz.ntmps52
    go_wp2_with fail
    go_ret
    exact ⟨rfl, rfl⟩

theorem radd_range (r B : Nat) (N t a : Int) (E : List (Int × List Int)) (aT : Option Addr) (cT : Nat) (aA : Option Addr) (cA : Nat) (VA : List Value) (w : World) (h : Rc w r B N E aT cT aA cA VA) (ht1 : 1 ≤ t) (ht2 : t ≤ 65535) (ha : a < 0 ∨ N ≤ a) :
    Calls Tryz.prog 52 #[.pointer (some ⟨r, 0, none⟩), .int .i64 t, .int .i64 a] w fun e w' => e = .returned (.int .i64 2) ∧ w' = w := by
  have c0 : w.cell? ⟨r, 0, none⟩ = some (.int .i64 N) := h.blk.cell 0
  have h2 : decide (t < 1) = false := by simp; omega
  have h3 : decide (65535 < t) = false := by simp; omega
  clear h
  by_cases h1 : a < 0
  · have h4 : decide (a < 0) = true := by simpa using h1
    go_enter Tryz.func52, Tryz.ntmps52
    go_wp2_with fail
    go_ret
    exact ⟨rfl, rfl⟩
  · have h4 : decide (a < 0) = false := by simpa using h1
    have h5 : decide (N ≤ a) = true := by simp; omega
    go_enter Tryz.func52, Tryz.ntmps52
    go_wp2_with fail
    go_ret
    exact ⟨rfl, rfl⟩

set_option maxHeartbeats 1000000 in
theorem radd_once (r B : Nat) (N t a : Int) (E : List (Int × List Int)) (aT : Option Addr) (cT : Nat) (aA : Option Addr) (cA : Nat) (VA : List Value) (w : World) (h : Rc w r B N E aT cT aA cA VA) (hE : E.length ≤ 1000000) (ht1 : 1 ≤ t) (ht2 : t ≤ 65535) (ha0 : 0 ≤ a) (ha1 : a < N) (hm : a ∈ (look E t).getD []) :
    Calls Tryz.prog 52 #[.pointer (some ⟨r, 0, none⟩), .int .i64 t, .int .i64 a] w fun e w' => e = .returned (.int .i64 8) ∧ Fr noB w w' := by
  have c0 : w.cell? ⟨r, 0, none⟩ = some (.int .i64 N) := h.blk.cell 0
  have h2 : decide (t < 1) = false := by simp; omega
  have h3 : decide (65535 < t) = false := by simp; omega
  have h4 : decide (a < 0) = false := by simp; omega
  have h5 : decide (N ≤ a) = false := by simp; omega
  have hof := rof_any r B N t E aT cT aA cA VA w h hE
  clear h
  have hd : decide (a ∈ (look E t).getD []) = true := by simpa using hm
  clear hm
  generalize (look E t).getD [] = X at *
  go_enter Tryz.func52, Tryz.ntmps52
  go_wp2_with fail
  refine hof.mono ?_
  rintro e w1 ⟨v, rfl, hr, q, hw1⟩
  have f1 : Fr noB w w1 := by rw [hw1]; exact (Fr.refl noB w).drewN q
  have hr1 : RdI w1 v X := by rw [hw1]; exact hr.drewN q
  clear hw1 hr hof c0
  go_wp2_with fail
  refine (rin_any v X a w1 hr1).mono ?_
  rintro e w2 ⟨rfl, q2, hw2⟩
  rw [hd]
  have f2 : Fr noB w w2 := f1.seqN (by rw [hw2]; exact (Fr.refl noB w1).drewN q2)
  clear hw2 f1 hr1
  go_wp2_with fail
  go_ret
  exact ⟨rfl, f2⟩
end Go.Proofs.YtppmednmcbjafaaGreat.CR
end

section
set_option linter.unusedVariables false
set_option linter.unusedSimpArgs false
namespace Go.Proofs.YtppmednmcbjafaaGreat.CR
open Go.RowKit Go Go.Maps Go.Lib

/-- a trace with its names, put in order of the traces -/
def insP : List (Int × List Int) → Int × List Int → List (Int × List Int)
  | [], x => [x]
  | a :: r, x => if x.1 < a.1 then x :: a :: r else a :: insP r x
def anyP (l : List (Int × List Int)) (x : Int) : Bool := l.any fun y => decide (x < y.1)
theorem insP_none {l : List (Int × List Int)} {x : Int × List Int} (h : anyP l x.1 = false) : insP l x = l ++ [x] := by
  induction l with
  | nil => rfl
  | cons a r ih =>
    simp only [anyP, List.any_cons, Bool.or_eq_false_iff, decide_eq_false_iff_not] at h
    unfold insP
    rw [if_neg h.1, ih h.2]; rfl
theorem insP_snoc {l : List (Int × List Int)} {x : Int × List Int} (y : Int × List Int) (h : anyP l x.1 = true) : insP (l ++ [y]) x = insP l x ++ [y] := by
  induction l with
  | nil => simp [anyP] at h
  | cons a r ih =>
    by_cases ha : x.1 < a.1
    · simp [insP, ha]
    · simp only [anyP, List.any_cons, Bool.or_eq_true, decide_eq_true_eq] at h
      have := ih (h.resolve_left ha)
      simp only [List.cons_append, insP, if_neg ha, this]
theorem insP_here {l : List (Int × List Int)} {x y : Int × List Int} (h : anyP l x.1 = false) (hy : x.1 < y.1) : insP (l ++ [y]) x = l ++ [x] ++ [y] := by
  induction l with
  | nil => simp [insP, hy]
  | cons a r ih =>
    simp only [anyP, List.any_cons, Bool.or_eq_false_iff, decide_eq_false_iff_not] at h
    have := ih h.2
    simp only [List.cons_append, insP, if_neg h.1, this]
theorem anyP_snoc (l : List (Int × List Int)) (x : Int) (y : Int × List Int) : anyP (l ++ [y]) x = (anyP l x || decide (x < y.1)) := by simp [anyP]
def outP (l : List (Int × List Int)) (x : Int × List Int) : List (Int × List Int) := if anyP l x.1 then insP l x else l
theorem insP_len (l : List (Int × List Int)) (x : Int × List Int) : (insP l x).length = l.length + 1 := by
  induction l with
  | nil => rfl
  | cons a r ih => unfold insP; split <;> simp_all
theorem outP_len (l : List (Int × List Int)) (x : Int × List Int) : (outP l x).length ≤ l.length + 1 := by
  unfold outP; split
  · exact Nat.le_of_eq (insP_len l x)
  · exact Nat.le_succ _

/-- what has been put so far -/
structure Pt (w : World) (E : List (Int × List Int)) (p : Int × List Int) (k : Nat) (d : Bool) (F : List (Int × List Int)) (V : List Value) : Prop where
  any : d = anyP (E.take k) p.1
  eq : F = outP (E.take k) p
  len : V.length = F.length
  rd : ∀ i, i < F.length → RdI w (V.getD i (.slice none 0 0)) (F.getD i (0, [])).2

theorem rd_snoc {w : World} {F : List (Int × List Int)} {V : List Value} {m : Int × List Int} {u : Value} (hl : V.length = F.length) (h : ∀ i, i < F.length → RdI w (V.getD i (.slice none 0 0)) (F.getD i (0, [])).2) (hu : RdI w u m.2) :
    (V ++ [u]).length = (F ++ [m]).length ∧ ∀ i, i < (F ++ [m]).length → RdI w ((V ++ [u]).getD i (.slice none 0 0)) ((F ++ [m]).getD i (0, [])).2 := by
  refine ⟨by simp [hl], fun i hi => ?_⟩
  by_cases hi2 : i < F.length
  · have := h i hi2
    simp only [List.getD, List.getElem?_append_left hi2, List.getElem?_append_left (show i < V.length by rw [hl]; exact hi2)] at this ⊢
    exact this
  · have : i = F.length := by simp at hi; omega
    subst this
    have h3 : (V ++ [u])[F.length]? = some u := by rw [← hl]; simp
    simp only [List.getD, h3, Option.getD_some]
    simpa using hu
theorem take_next {α : Type} {E : List α} {k : Nat} {m : α} (hm : E[k]? = some m) : E.take (k + 1) = E.take k ++ [m] := by
  obtain ⟨hk, e⟩ := List.getElem?_eq_some_iff.1 hm
  rw [List.take_succ_eq_append_getElem hk, e]
theorem Pt.yes {w : World} {E : List (Int × List Int)} {p m : Int × List Int} {k : Nat} {F : List (Int × List Int)} {V : List Value} {u : Value} (h : Pt w E p k true F V) (hm : E[k]? = some m) (hu : RdI w u m.2) : Pt w E p (k + 1) true (F ++ [m]) (V ++ [u]) := by
  obtain ⟨h1, h2, h3, h4⟩ := h
  obtain ⟨h5, h6⟩ := rd_snoc h3 h4 hu
  have h7 : anyP (E.take k ++ [m]) p.1 = true := by rw [anyP_snoc, ← h1]; rfl
  refine ⟨by rw [take_next hm, h7], ?_, h5, h6⟩
  rw [take_next hm]
  unfold outP at h2 ⊢
  rw [h2, if_pos h1.symm, if_pos h7, insP_snoc m h1.symm]
theorem Pt.here {w : World} {E : List (Int × List Int)} {p m : Int × List Int} {k : Nat} {F : List (Int × List Int)} {V : List Value} {u l : Value} (h : Pt w E p k false F V) (hm : E[k]? = some m) (hp : p.1 < m.1) (hu : RdI w u m.2) (hl : RdI w l p.2) : Pt w E p (k + 1) true (F ++ [p] ++ [m]) (V ++ [l] ++ [u]) := by
  obtain ⟨h1, h2, h3, h4⟩ := h
  obtain ⟨h5, h6⟩ := rd_snoc h3 h4 hl
  obtain ⟨h5, h6⟩ := rd_snoc h5 h6 hu
  have h7 : anyP (E.take k ++ [m]) p.1 = true := by rw [anyP_snoc]; simp [hp]
  refine ⟨by rw [take_next hm, h7], ?_, h5, h6⟩
  rw [take_next hm]
  unfold outP at h2 ⊢
  rw [← h1] at h2
  simp only [Bool.false_eq_true, if_false] at h2
  rw [h2, if_pos h7, insP_here h1.symm hp]
theorem Pt.no {w : World} {E : List (Int × List Int)} {p m : Int × List Int} {k : Nat} {F : List (Int × List Int)} {V : List Value} {u : Value} (h : Pt w E p k false F V) (hm : E[k]? = some m) (hp : ¬ p.1 < m.1) (hu : RdI w u m.2) : Pt w E p (k + 1) false (F ++ [m]) (V ++ [u]) := by
  obtain ⟨h1, h2, h3, h4⟩ := h
  obtain ⟨h5, h6⟩ := rd_snoc h3 h4 hu
  have h7 : anyP (E.take k ++ [m]) p.1 = false := by rw [anyP_snoc, ← h1]; simp; omega
  refine ⟨by rw [take_next hm, h7], ?_, h5, h6⟩
  rw [take_next hm]
  unfold outP at h2 ⊢
  rw [← h1] at h2
  rw [h7]
  simp only [Bool.false_eq_true, if_false] at h2 ⊢
  rw [h2]
theorem Pt.len_le {w : World} {E : List (Int × List Int)} {p : Int × List Int} {k : Nat} {d : Bool} {F : List (Int × List Int)} {V : List Value} (h : Pt w E p k d F V) : F.length ≤ k + 1 := by
  rw [h.eq]; exact Nat.le_trans (outP_len _ _) (by have := List.length_take_le k E; omega)
theorem Pt.done_yes {w : World} {E : List (Int × List Int)} {p : Int × List Int} {F : List (Int × List Int)} {V : List Value} (h : Pt w E p E.length true F V) : F = insP E p := by
  obtain ⟨h1, h2, h3, h4⟩ := h
  rw [List.take_length] at h1 h2
  unfold outP at h2
  rw [h2, if_pos h1.symm]
theorem Pt.done_no {w : World} {E : List (Int × List Int)} {p : Int × List Int} {F : List (Int × List Int)} {V : List Value} (h : Pt w E p E.length false F V) : F ++ [p] = insP E p := by
  obtain ⟨h1, h2, h3, h4⟩ := h
  rw [List.take_length] at h1 h2
  unfold outP at h2
  rw [← h1] at h2
  rw [insP_none h1.symm, h2]; rfl

theorem growT {w wr w1 : World} {D n x : Nat} {tv av : Value} {xs V : List Value} {o : Obj} (hD : Hid (w.heap.size = D)) (fr : Fr noB w wr) (hA : (wr.alloc o).ownsRow D 3 1 tv n xs) (oA : wr.ownsRow D 57 1 av x V) (gr : (wr.alloc o).grownBy w1 tv.ownBlock) :
    w1.ownsRow D 57 1 av x V ∧ Fr noB w w1 := by
  have oAX := ownsRow_fr oA ((Fr.refl noB wr).alloc o) (fun _ _ q => q)
  exact ⟨ownsRow_other oAX gr (rows_apart oAX hA (by decide)), (fr.alloc _).grown gr (fun q hq hlt => by have := (hA.lt q hq).1; have := hD.out; omega)⟩
theorem growA {w wr w1 : World} {D n x : Nat} {tv av : Value} {xs V : List Value} {o : Obj} (hD : Hid (w.heap.size = D)) (fr : Fr noB w wr) (hA : (wr.alloc o).ownsRow D 57 1 av n V) (oT : wr.ownsRow D 3 1 tv x xs) (gr : (wr.alloc o).grownBy w1 av.ownBlock) :
    w1.ownsRow D 3 1 tv x xs ∧ Fr noB w w1 := by
  have oTX := ownsRow_fr oT ((Fr.refl noB wr).alloc o) (fun _ _ q => q)
  exact ⟨ownsRow_other oTX gr (rows_apart oTX hA (by decide)), (fr.alloc _).grown gr (fun q hq hlt => by have := (hA.lt q hq).1; have := hD.out; omega)⟩
theorem snoc_row {w : World} {D : Nat} {tv av : Value} {F : List (Int × List Int)} {V : List Value} {m : Int × List Int} {u : Value} (h1 : w.ownsRow D 3 1 tv (F.length + 1) (rowV (F.map (·.1)) ++ [.int .i64 m.1])) (h2 : w.ownsRow D 57 1 av (F.length + 1) (V ++ [u])) :
    w.ownsRow D 3 1 tv (F ++ [m]).length (rowV ((F ++ [m]).map (·.1))) ∧ w.ownsRow D 57 1 av (F ++ [m]).length (V ++ [u]) := by
  have e1 : (F ++ [m]).length = F.length + 1 := by simp
  have e2 : rowV ((F ++ [m]).map (·.1)) = rowV (F.map (·.1)) ++ [.int .i64 m.1] := by simp [rowV]
  rw [e1, e2]; exact ⟨h1, h2⟩

theorem RdI.lt {w : World} {g o n c : Nat} {xs : List Int} (h : RdI w (.slice (some ⟨g, o, none⟩) n c) xs) (hx : xs ≠ []) : g < w.heap.size := by
  obtain ⟨a, c2, e, h1, h2, h3⟩ := h
  obtain ⟨g2, o2, e2, h4⟩ := h3 0 (List.length_pos_iff.2 hx)
  simp only [Value.slice.injEq] at e
  obtain ⟨e, _, _⟩ := e
  rw [← e] at e2
  cases e2
  exact lt_of_cell h4

/-- the loop that puts a pair in order, and what follows it -/
def PutsP (r D B : Nat) (N t : Int) (Y : List Int) (E : List (Int × List Int)) (l : Value) (VA : List Value) (w w' : World) : Prop :=
  (∃ aT cT aA cA V, Rc w' r D N (insP E (t, Y)) aT cT aA cA V ∧ ∀ z ∈ V, z ∈ VA ∨ z = l) ∧ Fr (onlyB r) w w'

theorem puts_fin {r D B cT cA : Nat} {aT aA aT' aA' : Option Addr} {cT' cA' : Nat} {N t : Int} {Y : List Int} {E F : List (Int × List Int)} {l : Value} {VA V : List Value} {w wr : World} (hrB : r < D) (hD : w.heap.size = D)
    (hb : Blk w r 121 [.int .i64 N, .slice aT E.length cT, .slice aA E.length cA])
    (hap : ∀ u ∈ VA, ∀ g o n c, u = .slice (some ⟨g, o, none⟩) n c → g ≠ r ∧ g < w.heap.size) (hlp : ∀ g o n c, l = .slice (some ⟨g, o, none⟩) n c → g ≠ r ∧ g < w.heap.size)
    (hF : F = insP E (t, Y)) (hlen : V.length = F.length) (hrd : ∀ i, i < F.length → RdI w (V.getD i (.slice none 0 0)) (F.getD i (0, [])).2) (hsub : ∀ z ∈ V, z ∈ VA ∨ z = l)
    (oT : wr.ownsRow D 3 1 (.slice aT' F.length cT') F.length (rowV (F.map (·.1)))) (oA : wr.ownsRow D 57 1 (.slice aA' F.length cA') F.length V) (fr : Fr noB w wr) :
    PutsP r D B N t Y E l VA w ((wr.setCell ⟨r, 1, none⟩ (.slice aT' F.length cT')).setCell ⟨r, 2, none⟩ (.slice aA' F.length cA')) := by
  have b0 := fr.blk hb (fun q => q)
  have b2 := (b0.set 1 (.slice aT' F.length cT')).set 2 (.slice aA' F.length cA')
  have g1 : Fr (onlyB r) wr (wr.setCell ⟨r, 1, none⟩ (.slice aT' F.length cT')) := (Fr.refl _ _).store rfl
  have g2 : Fr (onlyB r) (wr.setCell ⟨r, 1, none⟩ (.slice aT' F.length cT')) ((wr.setCell ⟨r, 1, none⟩ (.slice aT' F.length cT')).setCell ⟨r, 2, none⟩ (.slice aA' F.length cA')) := (Fr.refl _ _).store rfl
  have g3 := g1.seqB g2 (fun _ => rfl)
  have hrD : ∀ q, D ≤ q → ¬ onlyB r q := fun q hq z => by unfold onlyB at z; omega
  have fw : Fr (onlyB r) w ((wr.setCell ⟨r, 1, none⟩ (.slice aT' F.length cT')).setCell ⟨r, 2, none⟩ (.slice aA' F.length cA')) := (fr.mono (fun _ _ q => False.elim q)).seqB g3 (fun _ => rfl)
  have hall : ∀ u ∈ V, ∀ g o n c, u = .slice (some ⟨g, o, none⟩) n c → g ≠ r ∧ g < w.heap.size := fun u hu => by
    rcases hsub u hu with h | rfl
    · exact hap u h
    · exact hlp
  refine ⟨⟨aT', cT', aA', cA', V, ?_, hsub⟩, fw⟩
  rw [← hF]
  refine ⟨by simpa using b2, ownsRow_fr oT g3 (fun q hq => hrD q (oT.lt q hq).1), ownsRow_fr oA g3 (fun q hq => hrD q (oA.lt q hq).1), fun i hi => (hrd i hi).fr fw (fun g o n c e => ?_), fun u hu g o n c e => ?_, by omega, by have := fw.size; omega⟩
  · have hi2 : i < V.length := by rw [hlen]; exact hi
    have hm9 : V.getD i (.slice none 0 0) ∈ V := List.mem_of_getElem? (show V[i]? = some (V.getD i (.slice none 0 0)) by simp [List.getD, hi2])
    exact (hall _ hm9 g o n c e).1
  · have h9 := hall u hu g o n c e
    exact ⟨h9.1, by have := fw.size; omega⟩

set_option maxHeartbeats 4000000 in
set_option maxRecDepth 10000 in
theorem radd_ok (r B : Nat) (N t a : Int) (E0 : List (Int × List Int)) (aT0 : Option Addr) (cT0 : Nat) (aA0 : Option Addr) (cA0 : Nat) (VA0 : List Value) (w0 : World) (h : Rc w0 r B N E0 aT0 cT0 aA0 cA0 VA0) (hE : E0.length ≤ 1000000) (ht1 : 1 ≤ t) (ht2 : t ≤ 65535) (ha0 : 0 ≤ a) (ha1 : a < N) (hm : a ∉ (look E0 t).getD []) (hX : ((look E0 t).getD []).length ≤ 1000000) :
    Calls Tryz.prog 52 #[.pointer (some ⟨r, 0, none⟩), .int .i64 t, .int .i64 a] w0 fun e w' => e = .returned (.int .i64 0) ∧ (∃ aT cT aA cA V, Rc w' r w0.heap.size N (insP (without E0 t) (t, insG ((look E0 t).getD []) a)) aT cT aA cA V ∧ ∀ z ∈ V, z ∈ VA0 ∨ ∀ g o n c, z = .slice (some ⟨g, o, none⟩) n c → w0.heap.size ≤ g) ∧ Fr (onlyB r) w0 w' := by
  obtain ⟨i0, hi0, hz0, hz1, hz2⟩ : ∃ i0, Tryz.prog.info? 3 = some i0 ∧ i0.zero = some (.int .i64 0) ∧ i0.size = 1 ∧ i0.bytes = 8 := by
    have hI := infoIntR
    cases hq : Tryz.prog.info? 3 with
    | none => rw [hq] at hI; cases hI
    | some k => rw [hq] at hI; simp at hI; exact ⟨k, rfl, hI⟩
  obtain ⟨j0, hj0, hy0, hy1, hy2⟩ : ∃ i0, Tryz.prog.info? 57 = some i0 ∧ i0.zero = some (.slice none 0 0) ∧ i0.size = 1 ∧ i0.bytes = 24 := by
    have hI := infoSlR
    cases hq : Tryz.prog.info? 57 with
    | none => rw [hq] at hI; cases hI
    | some k => rw [hq] at hI; simp at hI; exact ⟨k, rfl, hI⟩
  have c0 : w0.cell? ⟨r, 0, none⟩ = some (.int .i64 N) := h.blk.cell 0
  have hrw9 : r < w0.heap.size := Nat.lt_of_lt_of_le h.rB h.Bw
  have h2 : decide (t < 1) = false := by simp; omega
  have h3 : decide (65535 < t) = false := by simp; omega
  have h4 : decide (a < 0) = false := by simp; omega
  have h5 : decide (N ≤ a) = false := by simp; omega
  have hof := rof_any r B N t E0 aT0 cT0 aA0 cA0 VA0 w0 h hE
  have hd : decide (a ∈ (look E0 t).getD []) = false := by simpa using hm
  clear hm
  obtain ⟨X, hXe⟩ : ∃ X, X = (look E0 t).getD [] := ⟨_, rfl⟩
  rw [← hXe] at hX hd hof ⊢
  replace hXe := Lib.hid hXe
  go_enter Tryz.func52, Tryz.ntmps52
  go_wp2_with fail
  refine hof.mono ?_
  rintro e w1 ⟨v, rfl, hr, q, hw1⟩
  have f1 : Fr noB w0 w1 := by rw [hw1]; exact (Fr.refl noB w0).drewN q
  have k1 : Rc w1 r B N E0 aT0 cT0 aA0 cA0 VA0 := by rw [hw1]; exact h.drewN q
  have hr1 : RdI w1 v X := by rw [hw1]; exact hr.drewN q
  clear hw1 hr hof c0 h
  go_wp2_with fail
  refine (rin_any v X a w1 hr1).mono ?_
  rintro e w2 ⟨rfl, q2, hw2⟩
  rw [hd]
  have f2 : Fr noB w0 w2 := f1.seqN (by rw [hw2]; exact (Fr.refl noB w1).drewN q2)
  have k2 : Rc w2 r B N E0 aT0 cT0 aA0 cA0 VA0 := by rw [hw2]; exact k1.drewN q2
  clear hw2 f1 hr1 k1 hd h2 h3 h4 h5
  have hof := rof_any r B N t E0 aT0 cT0 aA0 cA0 VA0 w2 k2 hE
  rw [← hXe.out] at hof
  go_wp2_with fail
  refine hof.mono ?_
  rintro e w1 ⟨v2, rfl, hr, q, hw1⟩
  have f1 : Fr noB w0 w1 := by rw [hw1]; exact f2.drewN q
  have k1 : Rc w1 r B N E0 aT0 cT0 aA0 cA0 VA0 := by rw [hw1]; exact k2.drewN q
  have hr1 : RdI w1 v2 X := by rw [hw1]; exact hr.drewN q
  clear hw1 hr hof f2 k2
  go_wp2_with fail
  refine (rinsert_any v2 X a w1 hr1 hX).mono ?_
  rintro e w2 ⟨lv, rfl, hlo, fI⟩
  have f2 : Fr noB w0 w2 := f1.seqN fI
  have k2 : Rc w2 r B N E0 aT0 cT0 aA0 cA0 VA0 := k1.frN fI
  have hlw : w0.heap.size ≤ w1.heap.size := f1.size
  obtain ⟨al, cl, rfl⟩ := ownsRow_slice hlo
  have hrw1 : r < w1.heap.size := by have := k1.rB; have := k1.Bw; omega
  have hlI : RdI w2 (.slice al (insG X a).length cl) (insG X a) := RdI.of_own hlo
  have hln : insG X a ≠ [] := fun e => by have := insG_len X a; rw [e] at this; cases this
  have hlb : ∀ g o n c, Value.slice al (insG X a).length cl = .slice (some ⟨g, o, none⟩) n c → w1.heap.size ≤ g ∧ g < w2.heap.size := fun g o n c e => by
    simp only [Value.slice.injEq] at e
    obtain ⟨rfl, rfl, rfl⟩ := e
    exact hlo.lt g rfl
  clear fI k1 f1 hr1
  obtain ⟨Y, hY⟩ : ∃ Y, Y = insG X a := ⟨_, rfl⟩
  rw [← hY] at hlo hlI hln hlb
  obtain ⟨ln, hln9⟩ : ∃ ln, ln = Y.length := ⟨_, rfl⟩
  rw [← hY, ← hln9]
  rw [← hln9] at hlo hlI hlb
  replace hY := Lib.hid hY
  replace hln9 := Lib.hid hln9
  clear hlo
  replace hlI := Lib.hid hlI
  replace hlb := Lib.hid hlb
  go_wp2_with fail
  refine (rdrop_any r B N t E0 aT0 cT0 aA0 cA0 VA0 w2 k2 hE).mono ?_
  rintro e w ⟨rfl, ⟨aT, cT, aA, cA, VA, hR, hVA⟩, fD⟩
  have hEl : (without E0 t).length ≤ 1000000 := Nat.le_trans (List.length_filter_le _ _) hE
  have hl9 : RdI w (.slice al ln cl) Y := hlI.out.fr fD (fun g o n c e => by have := hlb.out g o n c e; unfold onlyB; omega)
  have hlp : ∀ g o n c, Value.slice al ln cl = .slice (some ⟨g, o, none⟩) n c → g ≠ r ∧ g < w.heap.size := fun g o n c e => by have := hlb.out g o n c e; have := fD.size; omega
  have hlw9 : ∀ g o n c, Value.slice al ln cl = .slice (some ⟨g, o, none⟩) n c → w0.heap.size ≤ g := fun g o n c e => by have := hlb.out g o n c e; omega
  have f9 : Fr (onlyB r) w0 w := (f2.mono (fun _ _ q => False.elim q)).seqB fD (fun _ => rfl)
  have hs9 : w0.heap.size ≤ w.heap.size := f9.size
  clear hlI hlb hXe f2 k2 fD
  obtain ⟨E, hE9⟩ : ∃ E, E = without E0 t := ⟨_, rfl⟩
  rw [← hE9] at hR hEl
  replace hE9 := Lib.hid hE9
  replace hlp := Lib.hid hlp
  replace hlw9 := Lib.hid hlw9
  replace hVA := Lib.hid hVA
  replace f9 := Lib.hid f9
  replace hln := Lib.hid hln
  obtain ⟨hb, hrT, hrA, hrd, hap, hrB, hBw⟩ := hR
  replace hap := Lib.hid hap
  have hVl : VA.length = E.length := by simpa using hrA.1
  generalize hn : E.length = n at *
  replace hn := Lib.hid hn
  replace hVl := Lib.hid hVl
  replace hb := Lib.hid hb
  replace hrT := Lib.hid hrT
  replace hrA := Lib.hid hrA
  replace hrd := Lib.hid hrd
  have honl : Hid (∀ z ∈ [Value.slice al ln cl], z.oneCell' = true) := Lib.hid (one_rd hl9)
  replace hl9 := Lib.hid hl9
  generalize hD : w.heap.size = D at *
  replace hD := Lib.hid hD
  have hfin : ∀ w', PutsP r D B N t Y E (.slice al ln cl) VA w w' → (∃ aT cT aA cA V, Rc w' r w0.heap.size N (insP (without E0 t) (t, insG X a)) aT cT aA cA V ∧ ∀ z ∈ V, z ∈ VA0 ∨ ∀ g o n c, z = .slice (some ⟨g, o, none⟩) n c → w0.heap.size ≤ g) ∧ Fr (onlyB r) w0 w' := by
    rw [← hE9.out, ← hY.out]
    rintro w' ⟨⟨aT, cT, aA, cA, V, hR, hV⟩, f⟩
    refine ⟨⟨aT, cT, aA, cA, V, ⟨hR.blk, ownsRow_mono hR.rT hs9, ownsRow_mono hR.rA hs9, hR.rd, hR.ap, hrw9, by have := f.size; have := hD.out; omega⟩, fun z hz => (hV z hz).imp (fun q => hVA.out z q) (fun q => by rw [q]; exact hlw9.out)⟩, f9.out.seqB f (fun _ => rfl)⟩
  replace hfin := Lib.hid hfin
  clear hVA hlw9 f9
  go_wp2_with fail
  go_loopw [8, 9, 10, 11] (fun tv av dn i wr => ∃ (k : Nat) (F : List (Int × List Int)) (V : List Value) (d : Bool), k ≤ n ∧ i = .int .i64 k ∧ dn = .bool d ∧ wr.ownsRow D 3 1 tv F.length (rowV (F.map (·.1))) ∧ wr.ownsRow D 57 1 av F.length V ∧ Hid (Pt w E (t, Y) k d F V) ∧ Hid (∀ z ∈ V, z ∈ VA ∨ z = .slice al ln cl) ∧ Fr noB w wr) (fun _ _ _ i _ => n - (RowKit.intOf i).toNat)
  case atStart => exact ⟨0, [], [], false, by omega, rfl, rfl, World.ownsRow_nil _ _ _ _, World.ownsRow_nil _ _ _ _, Lib.hid ⟨by simp [anyP], by simp [outP, anyP], rfl, fun i hi => by simp at hi⟩, Lib.hid (by simp), Fr.refl _ _⟩
  case round =>
    obtain ⟨k, F, V, d, hk, rfl, rfl, oT, oA, hK, hsub, fr⟩ := hrel
    have c1 : wr.cell? ⟨r, 1, none⟩ = some (.slice aT n cT) := (fr.blk hb.out (fun q => q)).cell 1
    have c2 : wr.cell? ⟨r, 2, none⟩ = some (.slice aA n cA) := (fr.blk hb.out (fun q => q)).cell 2
    have hFl := hK.out.len_le
    by_cases hlt : k < n
    · obtain ⟨m, hm⟩ : ∃ m, E[k]? = some m := ⟨_, List.getElem?_eq_getElem (by rw [hn.out]; exact hlt)⟩
      obtain ⟨u, hu⟩ : ∃ u, VA[k]? = some u := ⟨_, List.getElem?_eq_getElem (by rw [hVl.out]; exact hlt)⟩
      obtain ⟨gT, rfl, e1⟩ := own_at hrT.out (i := k) (x := .int .i64 m.1) (by simp [rowV, hm])
      obtain ⟨gA, rfl, e2⟩ := own_at hrA.out hu
      have hru : RdI w u m.2 := by
        have := hrd.out k hlt
        simpa [List.getD, hm, hu] using this
      have e3 := fr.cell e1 (fun q => q)
      obtain ⟨au, lu, cu, rfl⟩ : ∃ au lu cu, u = .slice au lu cu := by obtain ⟨a, c, h, _⟩ := hru; exact ⟨a, _, c, h⟩
      have hone := Lib.hid (one_rd hru)
      have huV : Value.slice au lu cu ∈ VA := List.mem_of_getElem? hu
      have hsubm : ∀ W : List Value, (∀ z ∈ W, z ∈ VA ∨ z = .slice al ln cl) → Hid (∀ z ∈ W ++ [.slice au lu cu], z ∈ VA ∨ z = .slice al ln cl) := fun W hW => Lib.hid (fun z hz => (List.mem_append.1 hz).elim (hW z) (fun q => by rw [List.mem_singleton.1 q]; exact Or.inl huV))
      have hsubl : ∀ W : List Value, (∀ z ∈ W, z ∈ VA ∨ z = .slice al ln cl) → (∀ z ∈ W ++ [.slice al ln cl], z ∈ VA ∨ z = .slice al ln cl) := fun W hW => fun z hz => (List.mem_append.1 hz).elim (hW z) (fun q => by rw [List.mem_singleton.1 q]; exact Or.inr rfl)
      replace hsubm := Lib.hid hsubm
      replace hsubl := Lib.hid hsubl
      replace e1 := Lib.hid e1
      replace e2 := Lib.hid e2
      replace hu := Lib.hid hu
      clear huV
      cases d with
      | true =>
        have hK1 := Lib.hid (hK.out.yes hm hru)
        have hs1 := hsubm.out V hsub.out
        clear hm hru hK
        obtain ⟨x, y⟩ := m
        simp only at e3
        have hA : (wr.alloc (.cells #[.int .i64 x] 3)).ownsRow D 3 1 u8 F.length (rowV (F.map (·.1))) := ownsRow_fr oT ((Fr.refl noB wr).alloc _) (fun _ _ q => q)
        have hN := cell_new wr (.int .i64 x) 3
        have hDW : D ≤ wr.heap.size := by rw [← hD.out]; exact fr.size
        go_wp2_with (first
          | (at_builtin; go_must (refine wpList_append_at _ rfl (.tmp 71) (.tmp 79) 57 rfl D 3 i0 _ 1 8 Tryz.underlying57 hi0 hz0 hz1 hz2 rfl (by omega) _ F.length _ rfl hA ⟨wr.heap.size, 0, none⟩ 1 1 [.int .i64 x] rfl rfl hN (one_int _ _) ?_ ?_ ?_ ?_))
          | fail)
        · unfold maxLen; omega
        · omega
        · have := ((Fr.refl noB wr).alloc (.cells #[.int .i64 x] 3)).size; omega
        intro tvw1 w1 oTw1 grw1 _
        obtain ⟨oAw1, frw1⟩ := growT hD fr hA oA grw1
        clear hA hN grw1 hDW c1 c2 e3
        have dw1 : w1.cell? ⟨r, 2, none⟩ = some (.slice (some ⟨gA, 0, none⟩) n cA) := (frw1.blk hb.out (fun q => q)).cell 2
        have ew1 := frw1.cell e2.out (fun q => q)
        have hA : (w1.alloc (.cells #[.slice au lu cu] 57)).ownsRow D 57 1 u9 F.length V := ownsRow_fr oAw1 ((Fr.refl noB w1).alloc _) (fun _ _ q => q)
        have hN := cell_new w1 (.slice au lu cu) 57
        have hDW : D ≤ w1.heap.size := by rw [← hD.out]; exact frw1.size
        go_wp2_with (first
          | (at_builtin; go_must (refine wpList_append_at _ rfl (.tmp 81) (.tmp 89) 119 rfl D 57 j0 _ 1 24 Tryz.underlying119 hj0 hy0 hy1 hy2 rfl (by omega) _ F.length _ rfl hA ⟨w1.heap.size, 0, none⟩ 1 1 [.slice au lu cu] rfl rfl hN hone.out ?_ ?_ ?_ ?_))
          | fail)
        · unfold maxLen; omega
        · omega
        · have := ((Fr.refl noB w1).alloc (.cells #[.slice au lu cu] 57)).size; omega
        intro avw2 w2 oAw2 grw2 _
        obtain ⟨oTw2, frw2⟩ := growA hD frw1 hA oTw1 grw2
        clear hA hN grw2 hDW oTw1 oAw1 dw1 ew1
        obtain ⟨pTw2, pAw2⟩ := snoc_row (m := (x, y)) oTw2 oAw2
        clear oTw2 oAw2
        go_wp2_with fail
        go_roundw
        case rel => exact ⟨k + 1, F ++ [(x, y)], V ++ [.slice au lu cu], true, by omega, by go_num, rfl, pTw2, pAw2, hK1, hs1, frw2⟩
        case measure => simp [RowKit.intOf]; omega
      | false =>
        by_cases hxy : t < m.1
        · have hb1 : decide (t < m.1) = true := by simpa using hxy
          have hK1 := Lib.hid (hK.out.here hm hxy hru hl9.out)
          have hs1 := hsubm.out _ (hsubl.out V hsub.out)
          clear hm hru hK hxy
          obtain ⟨x, y⟩ := m
          simp only at e3 hb1
          have hA : (wr.alloc (.cells #[.int .i64 t] 3)).ownsRow D 3 1 u8 F.length (rowV (F.map (·.1))) := ownsRow_fr oT ((Fr.refl noB wr).alloc _) (fun _ _ q => q)
          have hN := cell_new wr (.int .i64 t) 3
          have hDW : D ≤ wr.heap.size := by rw [← hD.out]; exact fr.size
          go_wp2_with (first
            | (at_builtin; go_must (refine wpList_append_at _ rfl (.tmp 63) (.tmp 65) 57 rfl D 3 i0 _ 1 8 Tryz.underlying57 hi0 hz0 hz1 hz2 rfl (by omega) _ F.length _ rfl hA ⟨wr.heap.size, 0, none⟩ 1 1 [.int .i64 t] rfl rfl hN (one_int _ _) ?_ ?_ ?_ ?_))
            | fail)
          · unfold maxLen; omega
          · omega
          · have := ((Fr.refl noB wr).alloc (.cells #[.int .i64 t] 3)).size; omega
          intro tvw1 w1 oTw1 grw1 _
          obtain ⟨oAw1, frw1⟩ := growT hD fr hA oA grw1
          clear hA hN grw1 hDW c1 c2 e3
          have hA : (w1.alloc (.cells #[.slice al ln cl] 57)).ownsRow D 57 1 u9 F.length V := ownsRow_fr oAw1 ((Fr.refl noB w1).alloc _) (fun _ _ q => q)
          have hN := cell_new w1 (.slice al ln cl) 57
          have hDW : D ≤ w1.heap.size := by rw [← hD.out]; exact frw1.size
          go_wp2_with (first
            | (at_builtin; go_must (refine wpList_append_at _ rfl (.tmp 67) (.tmp 69) 119 rfl D 57 j0 _ 1 24 Tryz.underlying119 hj0 hy0 hy1 hy2 rfl (by omega) _ F.length _ rfl hA ⟨w1.heap.size, 0, none⟩ 1 1 [.slice al ln cl] rfl rfl hN honl.out ?_ ?_ ?_ ?_))
            | fail)
          · unfold maxLen; omega
          · omega
          · have := ((Fr.refl noB w1).alloc (.cells #[.slice al ln cl] 57)).size; omega
          intro avw2 w2 oAw2 grw2 _
          obtain ⟨oTw2, frw2⟩ := growA hD frw1 hA oTw1 grw2
          clear hA hN grw2 hDW oTw1 oAw1
          obtain ⟨pTw2, pAw2⟩ := snoc_row (m := (t, Y)) oTw2 oAw2
          clear oTw2 oAw2
          have hP1 : (F ++ [(t, Y)]).length ≤ k + 2 := by simp; omega
          have c1 : w2.cell? ⟨r, 1, none⟩ = some (.slice (some ⟨gT, 0, none⟩) n cT) := (frw2.blk hb.out (fun q => q)).cell 1
          have e3 := frw2.cell e1.out (fun q => q)
          generalize hP : F ++ [(t, Y)] = P at *
          generalize hO : V ++ [Value.slice al ln cl] = O at *
          replace hP := Lib.hid hP
          replace hO := Lib.hid hO
          have hA : (w2.alloc (.cells #[.int .i64 x] 3)).ownsRow D 3 1 tvw1 P.length (rowV (P.map (·.1))) := ownsRow_fr pTw2 ((Fr.refl noB w2).alloc _) (fun _ _ q => q)
          have hN := cell_new w2 (.int .i64 x) 3
          have hDW : D ≤ w2.heap.size := by rw [← hD.out]; exact frw2.size
          go_wp2_with (first
            | (at_builtin; go_must (refine wpList_append_at _ rfl (.tmp 71) (.tmp 79) 57 rfl D 3 i0 _ 1 8 Tryz.underlying57 hi0 hz0 hz1 hz2 rfl (by omega) _ P.length _ rfl hA ⟨w2.heap.size, 0, none⟩ 1 1 [.int .i64 x] rfl rfl hN (one_int _ _) ?_ ?_ ?_ ?_))
            | fail)
          · unfold maxLen; omega
          · omega
          · have := ((Fr.refl noB w2).alloc (.cells #[.int .i64 x] 3)).size; omega
          intro tvw3 w3 oTw3 grw3 _
          obtain ⟨oAw3, frw3⟩ := growT hD frw2 hA pAw2 grw3
          clear hA hN grw3 hDW c1 e3
          have dw3 : w3.cell? ⟨r, 2, none⟩ = some (.slice (some ⟨gA, 0, none⟩) n cA) := (frw3.blk hb.out (fun q => q)).cell 2
          have ew3 := frw3.cell e2.out (fun q => q)
          have hA : (w3.alloc (.cells #[.slice au lu cu] 57)).ownsRow D 57 1 avw2 P.length O := ownsRow_fr oAw3 ((Fr.refl noB w3).alloc _) (fun _ _ q => q)
          have hN := cell_new w3 (.slice au lu cu) 57
          have hDW : D ≤ w3.heap.size := by rw [← hD.out]; exact frw3.size
          go_wp2_with (first
            | (at_builtin; go_must (refine wpList_append_at _ rfl (.tmp 81) (.tmp 89) 119 rfl D 57 j0 _ 1 24 Tryz.underlying119 hj0 hy0 hy1 hy2 rfl (by omega) _ P.length _ rfl hA ⟨w3.heap.size, 0, none⟩ 1 1 [.slice au lu cu] rfl rfl hN hone.out ?_ ?_ ?_ ?_))
            | fail)
          · unfold maxLen; omega
          · omega
          · have := ((Fr.refl noB w3).alloc (.cells #[.slice au lu cu] 57)).size; omega
          intro avw4 w4 oAw4 grw4 _
          obtain ⟨oTw4, frw4⟩ := growA hD frw3 hA oTw3 grw4
          clear hA hN grw4 hDW oTw3 oAw3 dw3 ew3
          obtain ⟨pTw4, pAw4⟩ := snoc_row (m := (x, y)) oTw4 oAw4
          clear oTw4 oAw4
          go_wp2_with fail
          go_roundw
          case rel => exact ⟨k + 1, P ++ [(x, y)], O ++ [.slice au lu cu], true, by omega, by go_num, rfl, pTw4, pAw4, hK1, hs1, frw4⟩
          case measure => simp [RowKit.intOf]; omega
        · have hb1 : decide (t < m.1) = false := by simpa using hxy
          have hK1 := Lib.hid (hK.out.no hm hxy hru)
          have hs1 := hsubm.out V hsub.out
          clear hm hru hK hxy
          obtain ⟨x, y⟩ := m
          simp only at e3 hb1
          have hA : (wr.alloc (.cells #[.int .i64 x] 3)).ownsRow D 3 1 u8 F.length (rowV (F.map (·.1))) := ownsRow_fr oT ((Fr.refl noB wr).alloc _) (fun _ _ q => q)
          have hN := cell_new wr (.int .i64 x) 3
          have hDW : D ≤ wr.heap.size := by rw [← hD.out]; exact fr.size
          go_wp2_with (first
            | (at_builtin; go_must (refine wpList_append_at _ rfl (.tmp 71) (.tmp 79) 57 rfl D 3 i0 _ 1 8 Tryz.underlying57 hi0 hz0 hz1 hz2 rfl (by omega) _ F.length _ rfl hA ⟨wr.heap.size, 0, none⟩ 1 1 [.int .i64 x] rfl rfl hN (one_int _ _) ?_ ?_ ?_ ?_))
            | fail)
          · unfold maxLen; omega
          · omega
          · have := ((Fr.refl noB wr).alloc (.cells #[.int .i64 x] 3)).size; omega
          intro tvw1 w1 oTw1 grw1 _
          obtain ⟨oAw1, frw1⟩ := growT hD fr hA oA grw1
          clear hA hN grw1 hDW c1 c2 e3
          have dw1 : w1.cell? ⟨r, 2, none⟩ = some (.slice (some ⟨gA, 0, none⟩) n cA) := (frw1.blk hb.out (fun q => q)).cell 2
          have ew1 := frw1.cell e2.out (fun q => q)
          have hA : (w1.alloc (.cells #[.slice au lu cu] 57)).ownsRow D 57 1 u9 F.length V := ownsRow_fr oAw1 ((Fr.refl noB w1).alloc _) (fun _ _ q => q)
          have hN := cell_new w1 (.slice au lu cu) 57
          have hDW : D ≤ w1.heap.size := by rw [← hD.out]; exact frw1.size
          go_wp2_with (first
            | (at_builtin; go_must (refine wpList_append_at _ rfl (.tmp 81) (.tmp 89) 119 rfl D 57 j0 _ 1 24 Tryz.underlying119 hj0 hy0 hy1 hy2 rfl (by omega) _ F.length _ rfl hA ⟨w1.heap.size, 0, none⟩ 1 1 [.slice au lu cu] rfl rfl hN hone.out ?_ ?_ ?_ ?_))
            | fail)
          · unfold maxLen; omega
          · omega
          · have := ((Fr.refl noB w1).alloc (.cells #[.slice au lu cu] 57)).size; omega
          intro avw2 w2 oAw2 grw2 _
          obtain ⟨oTw2, frw2⟩ := growA hD frw1 hA oTw1 grw2
          clear hA hN grw2 hDW oTw1 oAw1 dw1 ew1
          obtain ⟨pTw2, pAw2⟩ := snoc_row (m := (x, y)) oTw2 oAw2
          clear oTw2 oAw2
          go_wp2_with fail
          go_roundw
          case rel => exact ⟨k + 1, F ++ [(x, y)], V ++ [.slice au lu cu], false, by omega, by go_num, rfl, pTw2, pAw2, hK1, hs1, frw2⟩
          case measure => simp [RowKit.intOf]; omega
    · obtain rfl : k = n := by omega
      cases d with
      | true =>
        have hF : F = insP E (t, Y) := (show Pt w E (t, Y) E.length true F V by rw [hn.out]; exact hK.out).done_yes
        obtain ⟨aT', cT', rfl⟩ := ownsRow_slice oT
        obtain ⟨aA', cA', rfl⟩ := ownsRow_slice oA
        have hout := puts_fin (B := B) (show r < D by omega) hD.out (by rw [hn.out]; exact hb.out) (by rw [hD.out]; exact hap.out) (by rw [hD.out]; exact hlp.out) hF hK.out.len hK.out.rd hsub.out oT oA fr
        have z0 := (fr.blk hb.out (fun q => q)).frozen 1
        have z1 := ((fr.blk hb.out (fun q => q)).set 1 (.slice aT' F.length cT')).frozen 2
        replace hout := Lib.hid hout
        clear hF hK
        go_wp2_with fail
        go_ret
        exact ⟨rfl, hfin.out _ hout.out⟩
      | false =>
        have hF : F ++ [(t, Y)] = insP E (t, Y) := (show Pt w E (t, Y) E.length false F V by rw [hn.out]; exact hK.out).done_no
        have hK1 := Lib.hid (rd_snoc (m := (t, Y)) hK.out.len hK.out.rd hl9.out)
        have hsub1 : Hid (∀ z ∈ V ++ [.slice al ln cl], z ∈ VA ∨ z = .slice al ln cl) := Lib.hid (fun z hz => (List.mem_append.1 hz).elim (hsub.out z) (fun q => by rw [List.mem_singleton.1 q]; exact Or.inr rfl))
        replace hF := Lib.hid hF
        clear hK
        have hA : (wr.alloc (.cells #[.int .i64 t] 3)).ownsRow D 3 1 u8 F.length (rowV (F.map (·.1))) := ownsRow_fr oT ((Fr.refl noB wr).alloc _) (fun _ _ q => q)
        have hN := cell_new wr (.int .i64 t) 3
        have hDW : D ≤ wr.heap.size := by rw [← hD.out]; exact fr.size
        go_wp2_with (first
          | (at_builtin; go_must (refine wpList_append_at _ rfl (.tmp 93) (.tmp 95) 57 rfl D 3 i0 _ 1 8 Tryz.underlying57 hi0 hz0 hz1 hz2 rfl (by omega) _ F.length _ rfl hA ⟨wr.heap.size, 0, none⟩ 1 1 [.int .i64 t] rfl rfl hN (one_int _ _) ?_ ?_ ?_ ?_))
          | fail)
        · unfold maxLen; omega
        · omega
        · have := ((Fr.refl noB wr).alloc (.cells #[.int .i64 t] 3)).size; omega
        intro tvw1 w1 oTw1 grw1 _
        obtain ⟨oAw1, frw1⟩ := growT hD fr hA oA grw1
        clear hA hN grw1 hDW c1 c2
        have hA : (w1.alloc (.cells #[.slice al ln cl] 57)).ownsRow D 57 1 u9 F.length V := ownsRow_fr oAw1 ((Fr.refl noB w1).alloc _) (fun _ _ q => q)
        have hN := cell_new w1 (.slice al ln cl) 57
        have hDW : D ≤ w1.heap.size := by rw [← hD.out]; exact frw1.size
        go_wp2_with (first
          | (at_builtin; go_must (refine wpList_append_at _ rfl (.tmp 97) (.tmp 99) 119 rfl D 57 j0 _ 1 24 Tryz.underlying119 hj0 hy0 hy1 hy2 rfl (by omega) _ F.length _ rfl hA ⟨w1.heap.size, 0, none⟩ 1 1 [.slice al ln cl] rfl rfl hN honl.out ?_ ?_ ?_ ?_))
          | fail)
        · unfold maxLen; omega
        · omega
        · have := ((Fr.refl noB w1).alloc (.cells #[.slice al ln cl] 57)).size; omega
        intro avw2 w2 oAw2 grw2 _
        obtain ⟨oTw2, frw2⟩ := growA hD frw1 hA oTw1 grw2
        clear hA hN grw2 hDW oTw1 oAw1
        obtain ⟨pTw2, pAw2⟩ := snoc_row (m := (t, Y)) oTw2 oAw2
        clear oTw2 oAw2
        generalize hP : F ++ [(t, Y)] = P at *
        generalize hO : V ++ [Value.slice al ln cl] = O at *
        obtain ⟨aT', cT', rfl⟩ := ownsRow_slice pTw2
        obtain ⟨aA', cA', rfl⟩ := ownsRow_slice pAw2
        have hout := puts_fin (B := B) (show r < D by omega) hD.out (by rw [hn.out]; exact hb.out) (by rw [hD.out]; exact hap.out) (by rw [hD.out]; exact hlp.out) hF.out hK1.out.1 hK1.out.2 hsub1.out pTw2 pAw2 frw2
        have z0 := (frw2.blk hb.out (fun q => q)).frozen 1
        have c1 : w2.cell? ⟨r, 1, none⟩ = some (.slice aT k cT) := (frw2.blk hb.out (fun q => q)).cell 1
        have c2 : (w2.setCell ⟨r, 1, none⟩ (.slice aT' P.length cT')).cell? ⟨r, 2, none⟩ = some (.slice aA k cA) := ((frw2.blk hb.out (fun q => q)).set 1 (.slice aT' P.length cT')).cell 2
        have z1 := ((frw2.blk hb.out (fun q => q)).set 1 (.slice aT' P.length cT')).frozen 2
        replace hout := Lib.hid hout
        replace hP := Lib.hid hP
        replace hO := Lib.hid hO
        clear hF hK1
        go_wp2_with fail
        go_ret
        exact ⟨rfl, hfin.out _ hout.out⟩
end Go.Proofs.YtppmednmcbjafaaGreat.CR
end

section
set_option linter.unusedVariables false
set_option linter.unusedSimpArgs false
namespace Go.Proofs.YtppmednmcbjafaaGreat.CR
open Go.RowKit Go Go.Maps Go.Lib

theorem placeI_zero {r : List Int} {x : Int} (h : ∀ y ∈ r, ¬ y < x) : placeI r x = 0 := by
  unfold placeI
  rw [List.countP_eq_zero]
  intro y hy; simpa using h y hy
theorem insG_insAt {l : List Int} {x : Int} (hl : l.Pairwise (· < ·)) (hx : x ∉ l) : insG l x = insAt l (placeI l x) x := by
  induction l with
  | nil => rfl
  | cons a r ih =>
    rw [List.pairwise_cons] at hl
    rw [List.mem_cons, not_or] at hx
    unfold insG
    by_cases h : x < a
    · rw [if_pos h, placeI_zero (fun y hy => by
        rcases List.mem_cons.1 hy with rfl | hy
        · omega
        · have := hl.1 y hy; omega)]
      rfl
    · have hp : placeI (a :: r) x = placeI r x + 1 := by
        unfold placeI
        rw [List.countP_cons_of_pos (by simp; omega)]
      rw [if_neg h, ih hl.2 hx.2, hp]
      rfl
end Go.Proofs.YtppmednmcbjafaaGreat.CR
end

section
set_option linter.unusedVariables false
set_option linter.unusedSimpArgs false
set_option maxRecDepth 100000
namespace Go.Proofs.YtppmednmcbjafaaGreat.CR
open Go.RowKit Go Go.Maps Go.Lib

theorem look_cons {α : Type} (a : Int × α) (r : List (Int × α)) (k : Int) : look (a :: r) k = if a.1 = k then some a.2 else look r k := by
  unfold look
  by_cases h : a.1 = k <;> simp [h]
theorem look_insP {E : List (Int × List Int)} {p : Int × List Int} (hp : ∀ m ∈ E, m.1 ≠ p.1) (k : Int) : look (insP E p) k = if k = p.1 then some p.2 else look E k := by
  induction E with
  | nil =>
    unfold insP
    rw [look_cons]
    by_cases h : k = p.1
    · rw [if_pos h.symm, if_pos h]
    · rw [if_neg (fun q => h q.symm), if_neg h]
  | cons a r ih =>
    have ih := ih (fun m hm => hp m (List.mem_cons_of_mem _ hm))
    have ha := hp a List.mem_cons_self
    unfold insP
    by_cases h1 : p.1 < a.1
    · rw [if_pos h1, look_cons]
      by_cases h : k = p.1
      · rw [if_pos h.symm, if_pos h]
      · rw [if_neg (fun q => h q.symm), if_neg h]
    · rw [if_neg h1, look_cons, look_cons, ih]
      by_cases h : k = p.1
      · rw [if_pos h, if_pos h, if_neg (fun q => ha (by rw [q, h]))]
      · rw [if_neg h, if_neg h]
theorem mem_insP {E : List (Int × List Int)} {p m : Int × List Int} : m ∈ insP E p ↔ m = p ∨ m ∈ E := by
  induction E with
  | nil => simp [insP]
  | cons a r ih =>
    unfold insP
    split
    · simp
    · rw [List.mem_cons, ih, List.mem_cons]
      constructor
      · rintro (h | h | h)
        · exact Or.inr (Or.inl h)
        · exact Or.inl h
        · exact Or.inr (Or.inr h)
      · rintro (h | h | h)
        · exact Or.inr (Or.inl h)
        · exact Or.inl h
        · exact Or.inr (Or.inr h)
theorem sorted_insP {E : List (Int × List Int)} {p : Int × List Int} (hs : E.Pairwise (fun a b => a.1 < b.1)) (hp : ∀ m ∈ E, m.1 ≠ p.1) : (insP E p).Pairwise (fun a b => a.1 < b.1) := by
  induction E with
  | nil => exact List.pairwise_singleton _ _
  | cons a r ih =>
    have hc := List.pairwise_cons.1 hs
    unfold insP
    split
    · rename_i h1
      refine List.pairwise_cons.2 ⟨fun y hy => ?_, hs⟩
      rcases List.mem_cons.1 hy with rfl | hy
      · exact h1
      · have := hc.1 y hy; omega
    · rename_i h1
      refine List.pairwise_cons.2 ⟨fun y hy => ?_, ih hc.2 (fun m hm => hp m (List.mem_cons_of_mem _ hm))⟩
      rcases mem_insP.1 hy with rfl | hy
      · have := hp a List.mem_cons_self; omega
      · exact hc.1 y hy

/-- no row of the reference's lies in a block of the crumbs -/
def Off (C : Nat → Prop) (r : Nat) (aT aA : Option Addr) (VA : List Value) : Prop :=
  ∀ k, C k → k ≠ r ∧ (∀ o, aT ≠ some ⟨k, o, none⟩) ∧ (∀ o, aA ≠ some ⟨k, o, none⟩) ∧ ∀ u ∈ VA, ∀ o n c, u ≠ .slice (some ⟨k, o, none⟩) n c

theorem Rc.fr {w w' : World} {r B : Nat} {N : Int} {E : List (Int × List Int)} {aT : Option Addr} {cT : Nat} {aA : Option Addr} {cA : Nat} {VA : List Value} {S : Nat → Prop} (h : Rc w r B N E aT cT aA cA VA) (hf : Fr S w w') (hS : Off S r aT aA VA) : Rc w' r B N E aT cT aA cA VA := by
  have hown : ∀ (a : Option Addr) (e : TypeId) (n c q : Nat) (xs : List Value), w.ownsRow B e 1 (.slice a n c) n xs → (Value.slice a n c).ownBlock = some q → ∃ o, a = some ⟨q, o, none⟩ := fun a e n c q xs ho hq => by
    rcases ho.2 with ⟨h1, _⟩ | ⟨g, cap, cur, h1, _⟩
    · cases h1; cases hq
    · cases h1; cases hq; exact ⟨0, rfl⟩
  refine ⟨hf.blk h.blk (fun q => (hS r q).1 rfl), ownsRow_fr h.rT hf (fun q hq z => ?_), ownsRow_fr h.rA hf (fun q hq z => ?_), fun i hi => (h.rd i hi).fr hf (fun g o n c e z => ?_), fun u hu g o n c e => ⟨(h.ap u hu g o n c e).1, Nat.lt_of_lt_of_le (h.ap u hu g o n c e).2 hf.size⟩, h.rB, Nat.le_trans h.Bw hf.size⟩
  · obtain ⟨o, e⟩ := hown _ _ _ _ _ _ h.rT hq
    exact (hS q z).2.1 o e
  · obtain ⟨o, e⟩ := hown _ _ _ _ _ _ h.rA hq
    exact (hS q z).2.2.1 o e
  · have hVl : VA.length = E.length := by simpa using h.rA.1
    have hm9 : VA.getD i (.slice none 0 0) ∈ VA := List.mem_of_getElem? (show VA[i]? = some (VA.getD i (.slice none 0 0)) by simp [List.getD, hVl, hi])
    exact (hS g z).2.2.2 _ hm9 o n c e

theorem Off.mono {C C' : Nat → Prop} {r : Nat} {aT aA : Option Addr} {VA : List Value} (h : Off C r aT aA VA) (hs : ∀ k, C' k → C k) : Off C' r aT aA VA := fun k hk => h k (hs k hk)
theorem addr_of {w : World} {D e k n c : Nat} {a : Option Addr} {xs : List Value} (h : w.ownsRow D e k (.slice a n c) n xs) {q o : Nat} (ha : a = some ⟨q, o, none⟩) : D ≤ q := by
  rcases h.2 with ⟨h1, _⟩ | ⟨g, cap, cur, h1, h2, _⟩
  · subst ha; cases h1
  · subst ha; cases h1; exact h2

end Go.Proofs.YtppmednmcbjafaaGreat.CR
end

section
set_option linter.unusedVariables false
set_option linter.unusedSimpArgs false
namespace Go.Proofs.YtppmednmcbjafaaGreat.LR
open Go.RowKit Go Go.Lib

/-- a plain lease: trace, job, left -/
abbrev PL := Int × Int × Int
def plV (m : PL) : List Value := [.int .i64 m.1, .int .i64 m.2.1, .int .i64 m.2.2]
def plC (l : List PL) : List Value := l.flatMap plV
theorem plC_len (l : List PL) : (plC l).length = l.length * 3 := by
  induction l with
  | nil => rfl
  | cons m r ih => rw [show plC (m :: r) = plV m ++ plC r from rfl, List.length_append, ih]; simp [plV]; omega
theorem plC_append (a b : List PL) : plC (a ++ b) = plC a ++ plC b := List.flatMap_append
theorem plC_get (l : List PL) (i : Nat) (m : PL) (h : l[i]? = some m) : (plC l)[i * 3]? = some (.int .i64 m.1) ∧ (plC l)[i * 3 + 1]? = some (.int .i64 m.2.1) ∧ (plC l)[i * 3 + 2]? = some (.int .i64 m.2.2) := by
  induction l generalizing i with
  | nil => simp at h
  | cons x r ih =>
    rw [show plC (x :: r) = plV x ++ plC r from rfl]
    cases i with
    | zero => simp at h; subst h; simp [plV]
    | succ i =>
      have := ih i (by simpa using h)
      have h3 : (plV x).length = 3 := rfl
      rw [List.getElem?_append_right (by rw [h3]; omega), List.getElem?_append_right (by rw [h3]; omega), List.getElem?_append_right (by rw [h3]; omega), h3]
      rw [show (i + 1) * 3 - 3 = i * 3 by omega, show (i + 1) * 3 + 1 - 3 = i * 3 + 1 by omega, show (i + 1) * 3 + 2 - 3 = i * 3 + 2 by omega]
      exact this
theorem plC_set (l : List PL) (i : Nat) (m : PL) (v : Int) (h : l[i]? = some m) : (plC l).set (i * 3 + 2) (.int .i64 v) = plC (l.set i (m.1, m.2.1, v)) := by
  induction l generalizing i with
  | nil => simp at h
  | cons x r ih =>
    rw [show plC (x :: r) = plV x ++ plC r from rfl]
    cases i with
    | zero => simp at h; subst h; simp [plV, plC]
    | succ i =>
      have h3 : (plV x).length = 3 := rfl
      rw [List.set_append_right _ _ (by rw [h3]; omega), h3, show (i + 1) * 3 + 2 - 3 = i * 3 + 2 by omega, ih i (by simpa using h)]
      rfl
/-- Plain leases at block r; their rows lie from B on. -/
structure Rl (w : World) (r B : Nat) (T : Int) (L O : List PL) : Prop where
  ex : ∃ aL cL aO cO, Blk w r 123 [.int .i64 T, .slice aL L.length cL, .slice aO O.length cO] ∧ w.ownsRow B 84 3 (.slice aL L.length cL) L.length (plC L) ∧ w.ownsRow B 84 3 (.slice aO O.length cO) O.length (plC O) ∧
    (∀ g, (Value.slice aL L.length cL).ownBlock = some g → (Value.slice aO O.length cO).ownBlock ≠ some g)
  rB : r < B
  Bw : B ≤ w.heap.size
  lL : L.length ≤ 100000
  lO : O.length ≤ 1000000
/-- what the plain leases' calls may write -/
def touchL (w : World) (r B : Nat) : Nat → Prop := fun k => k = r ∨ ∃ i v, w.cell? ⟨r, i, none⟩ = some v ∧ v.ownBlock = some k
/-- what it touches behind a call it touched before, or is new -/
def Tn (w w' : World) (r B : Nat) : Prop := ∀ q, touchL w' r B q → touchL w r B q ∨ w.heap.size ≤ q
theorem touch_cell {w : World} {r B i : Nat} {v : Value} (h : w.cell? ⟨r, i, none⟩ = some v) {q : Nat} (hq : v.ownBlock = some q) : touchL w r B q := Or.inr ⟨i, v, h, hq⟩
theorem Tn.of {w w' : World} {r B : Nat} {T : Int} {u v : Value} (hb : Blk w' r 123 [.int .i64 T, u, v]) (h1 : ∀ q, u.ownBlock = some q → touchL w r B q ∨ w.heap.size ≤ q) (h2 : ∀ q, v.ownBlock = some q → touchL w r B q ∨ w.heap.size ≤ q) : Tn w w' r B := by
  intro q hq
  rcases hq with rfl | ⟨i, x, hc, hx⟩
  · exact Or.inl (Or.inl rfl)
  · rw [hb.cell i] at hc
    match i, hc with
    | 0, hc => injection hc with hc; subst hc; cases hx
    | 1, hc => injection hc with hc; subst hc; exact h1 q hx
    | 2, hc => injection hc with hc; subst hc; exact h2 q hx
    | i + 3, hc => simp at hc
theorem Tn.trans {w w1 w2 : World} {r B : Nat} (h : Tn w w1 r B) (k : Tn w1 w2 r B) (hs : w.heap.size ≤ w1.heap.size) : Tn w w2 r B := fun q hq => by
  rcases k q hq with e | e
  · exact h q e
  · exact Or.inr (Nat.le_trans hs e)
theorem row_type {w : World} {B e k n : Nat} {v : Value} {xs : List Value} (h : w.ownsRow B e k v n xs) {q : Nat} (hq : v.ownBlock = some q) : ∃ cs, w.heap[q]? = some (.cells cs e (0, 0)) := by
  rcases h.2 with ⟨rfl, _⟩ | ⟨g, cap, cur, rfl, _, h3, _⟩
  · cases hq
  · cases hq; exact ⟨_, h3⟩
theorem Rl.fr {w w' : World} {r B : Nat} {T : Int} {L O : List PL} {S : Nat → Prop} (h : Rl w r B T L O) (hf : Fr S w w') (hS : ∀ k, touchL w r B k → ¬ S k) : Rl w' r B T L O := by
  obtain ⟨⟨aL, cL, aO, cO, hb, h1, h2, h3⟩, rB, Bw, lL, lO⟩ := h
  exact ⟨⟨aL, cL, aO, cO, hf.blk hb (hS r (Or.inl rfl)), ownsRow_fr h1 hf (fun g hg => hS g (Or.inr ⟨1, _, hb.cell 1, hg⟩)), ownsRow_fr h2 hf (fun g hg => hS g (Or.inr ⟨2, _, hb.cell 2, hg⟩)), h3⟩, rB, Nat.le_trans Bw hf.size, lL, lO⟩
theorem Rl.frN {w w' : World} {r B : Nat} {T : Int} {L O : List PL} (h : Rl w r B T L O) (hf : Fr noB w w') : Rl w' r B T L O := h.fr hf (fun _ _ q => q)

theorem Tryz.infoPL : (Tryz.prog.info? 84).map (fun i => (i.zero, i.size, i.bytes)) = some (some (.agg #[.int .i64 0, .int .i64 0, .int .i64 0]), 3, 24) := by kernel_rfl
theorem Tryz.infoIntR : (Tryz.prog.info? 3).map (fun i => (i.zero, i.size, i.bytes)) = some (some (.int .i64 0), 1, 8) := by kernel_rfl
theorem infoPL : ∃ i0, Tryz.prog.info? 84 = some i0 ∧ i0.zero = some (.agg #[.int .i64 0, .int .i64 0, .int .i64 0]) ∧ i0.size = 3 ∧ i0.bytes = 24 := by
  have hI := Tryz.infoPL
  cases hq : Tryz.prog.info? 84 with
  | none => rw [hq] at hI; cases hI
  | some k => rw [hq] at hI; simp at hI; exact ⟨k, rfl, hI⟩
theorem cell_new3 (w : World) (x y z : Value) (t : TypeId) : ∀ j u, [x, y, z][j]? = some u → (w.alloc (.cells #[x, y, z] t)).cell? ((⟨w.heap.size, 0, none⟩ : Addr).add j) = some u := by
  intro j u hj
  rw [Addr.add_lit, Nat.zero_add]
  exact ((Blk.new w t [x, y, z]).cell j).trans hj
theorem one_pl (m : PL) : ∀ u ∈ plV m, u.oneCell' = true := by intro u hu; simp [plV] at hu; rcases hu with rfl | rfl | rfl <;> rfl
/-- an element of a row -/
theorem pl_at {w : World} {B n : Nat} {a : Option Addr} {c : Nat} {l : List PL} (h : w.ownsRow B 84 3 (.slice a n c) n (plC l)) {i : Nat} {m : PL} (hm : l[i]? = some m) :
    ∃ g, a = some ⟨g, 0, none⟩ ∧ B ≤ g ∧ w.cell? ⟨g, i * 3, none⟩ = some (.int .i64 m.1) ∧ w.cell? ⟨g, i * 3 + 1, none⟩ = some (.int .i64 m.2.1) ∧ w.cell? ⟨g, i * 3 + 2, none⟩ = some (.int .i64 m.2.2) := by
  have hl : l.length = n := by have := h.1; rw [plC_len] at this; omega
  have hi : i < l.length := by
    rcases Nat.lt_or_ge i l.length with h1 | h1
    · exact h1
    · rw [List.getElem?_eq_none h1] at hm; cases hm
  obtain ⟨g, cap, hv, hg⟩ := ownsRow_some h (by omega)
  cases hv
  obtain ⟨m0, m1, m2⟩ := plC_get l i m hm
  have e0 := h.cells rfl _ _ m0
  have e1 := h.cells rfl _ _ m1
  have e2 := h.cells rfl _ _ m2
  rw [Addr.add_lit, Nat.zero_add] at e0 e1 e2
  exact ⟨g, rfl, hg, e0, e1, e2⟩

theorem take_filter_snoc {α : Type} (l : List α) (p : α → Bool) (i : Nat) (m : α) (h : l[i]? = some m) : (l.take (i + 1)).filter p = (l.take i).filter p ++ if p m then [m] else [] := by
  have hi : i < l.length := by
    rcases Nat.lt_or_ge i l.length with h1 | h1
    · exact h1
    · rw [List.getElem?_eq_none h1] at h; cases h
  rw [List.getElem?_eq_getElem hi] at h
  cases h
  rw [List.take_succ_eq_append_getElem hi, List.filter_append]
  by_cases hp : p l[i] <;> simp [hp]

set_option maxHeartbeats 1000000 in
set_option maxRecDepth 10000 in
theorem rend_any (r B : Nat) (T t : Int) (L O : List PL) (w : World) (h : Rl w r B T L O) :
    Calls Tryz.prog 69 #[.pointer (some ⟨r, 0, none⟩), .int .i64 t] w fun e w' => e = .returned (.tuple #[]) ∧ Rl w' r B T (L.filter fun m => decide (m.1 ≠ t)) O ∧ Fr (onlyB r) w w' ∧ Tn w w' r B := by
  obtain ⟨⟨aL, cL, aO, cO, hb, h1, h2, h3⟩, rB, Bw, lL, lO⟩ := h
  obtain ⟨i0, hi, hz0, hz1, hz2⟩ := infoPL
  generalize hn : L.length = n at *
  replace hn := Lib.hid hn
  have c1 : w.cell? ⟨r, 1, none⟩ = some (.slice aL n cL) := hb.cell 1
  go_enter Tryz.func69, Tryz.ntmps69
  go_wp2_with fail
  go_loopw [4, 5] (fun v i wr => ∃ k : Nat, k ≤ n ∧ i = .int .i64 k ∧ Fr noB w wr ∧ wr.ownsRow w.heap.size 84 3 v ((L.take k).filter fun m => decide (m.1 ≠ t)).length (plC ((L.take k).filter fun m => decide (m.1 ≠ t)))) (fun _ i _ => n - (RowKit.intOf i).toNat)
  case atStart => exact ⟨0, by omega, rfl, Fr.refl _ _, by simpa [plC] using World.ownsRow_nil _ _ _ _⟩
  case round =>
    obtain ⟨k, hk, rfl, fr, ho⟩ := hrel
    have d1 : wr.cell? ⟨r, 1, none⟩ = some (.slice aL n cL) := fr.cell c1 (fun q => q)
    have hlen : ((L.take k).filter fun m => decide (m.1 ≠ t)).length ≤ k := by
      have := List.length_filter_le (fun m : PL => decide (m.1 ≠ t)) (L.take k)
      have : (L.take k).length ≤ k := List.length_take_le _ _
      omega
    by_cases hlt : k < n
    · obtain ⟨m, hm⟩ : ∃ m, L[k]? = some m := ⟨_, List.getElem?_eq_getElem (by rw [hn.out]; exact hlt)⟩
      obtain ⟨g, rfl, hg, e0, e1, e2⟩ := pl_at h1 hm
      have e0' := fr.cell e0 (fun q => q)
      have e1' := fr.cell e1 (fun q => q)
      have e2' := fr.cell e2 (fun q => q)
      have hsn := take_filter_snoc L (fun m => decide (m.1 ≠ t)) k m hm
      clear e0 e1 e2
      generalize ((L.take k).filter fun m => decide (m.1 ≠ t)) = F at *
      by_cases hmt : m.1 = t
      · have hb2 : (m.1 != t) = false := by simpa using hmt
        rw [if_neg (by simpa using hmt), List.append_nil] at hsn
        replace hsn := Lib.hid hsn
        replace hm := Lib.hid hm
        obtain ⟨m1, m2, m3⟩ := m
        replace hmt := Lib.hid hmt
        simp only [] at e0' e1' e2' hb2
        go_wp2_with fail
        go_roundw
        case rel => exact ⟨k + 1, by omega, by go_num, fr, by rw [hsn.out]; exact ho⟩
        case measure => simp [RowKit.intOf]; omega
      · have hb2 : (m.1 != t) = true := by simpa using hmt
        rw [if_pos (by simpa using hmt)] at hsn
        replace hsn := Lib.hid hsn
        replace hm := Lib.hid hm
        obtain ⟨m1, m2, m3⟩ := m
        simp only [] at e0' e1' e2' hb2 hmt
        have hA : (wr.alloc (.cells #[.int .i64 m1, .int .i64 m2, .int .i64 m3] 84)).ownsRow w.heap.size 84 3 u4 F.length (plC F) := ownsRow_fr ho ((Fr.refl noB wr).alloc _) (fun _ _ q => q)
        have hN := cell_new3 wr (.int .i64 m1) (.int .i64 m2) (.int .i64 m3) 84
        have hone := one_pl (m1, m2, m3)
        have fsz := fr.size
        go_wp2_with (first
          | (at_builtin; go_must (refine wpList_append_at _ rfl (.tmp 25) (.tmp 33) 46 rfl w.heap.size 84 i0 _ 3 24 Tryz.underlying46 hi hz0 hz1 hz2 rfl (by omega) _ F.length _ rfl hA ⟨wr.heap.size, 0, none⟩ 1 1 [.int .i64 m1, .int .i64 m2, .int .i64 m3] rfl rfl hN hone ?_ ?_ ?_ ?_))
          | fail)
        · unfold maxLen; omega
        · omega
        · simp; omega
        intro v' w1 o1 gr1 _
        have f1 : Fr noB w w1 := fr.trans (((Fr.refl (fun k => w.heap.size ≤ k) wr).alloc (.cells #[.int .i64 m1, .int .i64 m2, .int .i64 m3] 84)).grown gr1 (fun q hq _ => (hA.lt q hq).1)) (fun _ _ q => q) (fun i hi q => by omega)
        have o2 : w1.ownsRow w.heap.size 84 3 v' (F ++ [(m1, m2, m3)]).length (plC (F ++ [(m1, m2, m3)])) := by rw [plC_append]; simpa [plC, plV] using o1
        clear hA hN o1 gr1
        go_wp2_with fail
        go_roundw
        case rel => exact ⟨k + 1, by omega, by go_num, f1, by rw [hsn.out]; exact o2⟩
        case measure => simp [RowKit.intOf]; omega
    · obtain rfl : k = n := by omega
      have hFL : (L.take k) = L := List.take_of_length_le (by have := hn.out; omega)
      rw [hFL] at ho hlen
      generalize hF : (L.filter fun m => decide (m.1 ≠ t)) = F at *
      have fr2 := fr.blk hb (fun q => q)
      have fz : wr.frozen? ⟨r, 1, none⟩ = false := fr2.frozen 1
      obtain ⟨a9, c9, hv⟩ := ownsRow_slice ho
      subst hv
      go_wp2_with fail
      go_end0
      have b2 := fr2.set 1 (.slice a9 F.length c9)
      have fs := (Fr.refl (onlyB r) wr).store (g := r) (i := 1) (v := .slice a9 F.length c9) (onlyB_self r)
      have hrw : r < w.heap.size := hb.lt
      subst hF
      refine ⟨rfl, ⟨⟨a9, c9, aO, cO, b2, ownsRow_mono (ownsRow_fr ho fs (fun q hq => by have := (ho.lt q hq).1; unfold onlyB; omega)) Bw, ownsRow_fr (ownsRow_fr h2 fr (fun _ _ q => q)) fs (fun q hq => by have := (h2.lt q hq).1; unfold onlyB; omega), ?_⟩, rB, ?_, by omega, lO⟩, ?_, ?_⟩
      · intro q hq hq2
        have := (ho.lt q hq).1
        have := (h2.lt q hq2).2
        omega
      · have := fr.size; simp [World.setCell]; omega
      · exact (fr.mono (fun _ _ q => False.elim q)).trans fs (fun _ _ q => q) (fun _ _ q => q)
      · exact Tn.of b2 (fun q hq => Or.inr (ho.lt q hq).1) (fun q hq => Or.inl (touch_cell (hb.cell 2) hq))

/-- the first lease of a trace; none: zero -/
def ofL (L : List PL) (t : Int) : PL := (L.find? fun m => decide (m.1 = t)).getD (0, 0, 0)
theorem find_take (L : List PL) (t : Int) (k : Nat) (m : PL) (hm : L[k]? = some m) (h : (L.take k).find? (fun m => decide (m.1 = t)) = none) (hmt : m.1 = t) : ofL L t = m := by
  have hi : k < L.length := by
    rcases Nat.lt_or_ge k L.length with h1 | h1
    · exact h1
    · rw [List.getElem?_eq_none h1] at hm; cases hm
  unfold ofL
  have h1 := List.take_append_drop k L
  rw [List.getElem?_eq_getElem hi] at hm
  have hm2 : L[k] = m := by simpa using hm
  rw [List.drop_eq_getElem_cons hi, hm2] at h1
  have h2 : L.find? (fun m => decide (m.1 = t)) = (L.take k ++ m :: L.drop (k + 1)).find? (fun m => decide (m.1 = t)) := by rw [h1]
  rw [h2, List.find?_append, h]
  simp [hmt]

set_option maxHeartbeats 1000000 in
set_option maxRecDepth 10000 in
theorem rof_any (r B : Nat) (T t : Int) (L O : List PL) (w : World) (h : Rl w r B T L O) :
    Calls Tryz.prog 33 #[.pointer (some ⟨r, 0, none⟩), .int .i64 t] w fun e w' => e = .returned (.agg #[.int .i64 (ofL L t).1, .int .i64 (ofL L t).2.1, .int .i64 (ofL L t).2.2]) ∧ Fr noB w w' := by
  obtain ⟨⟨aL, cL, aO, cO, hb, h1, h2, h3⟩, rB, Bw, lL, lO⟩ := h
  generalize hn : L.length = n at *
  replace hn := Lib.hid hn
  have c1 : w.cell? ⟨r, 1, none⟩ = some (.slice aL n cL) := hb.cell 1
  have hrw : r < w.heap.size := hb.lt
  go_enter Tryz.func33, Tryz.ntmps33
  go_wp2_with fail
  have fa := (Fr.refl noB w).alloc (.cells #[.int .i64 0, .int .i64 0, .int .i64 0] 84)
  have ba := Blk.new w 84 [.int .i64 0, .int .i64 0, .int .i64 0]
  obtain ⟨ob, hob⟩ : ∃ ob, ob = w.heap.size := ⟨_, rfl⟩
  rw [← hob] at ba ⊢
  generalize (w.alloc (.cells #[.int .i64 0, .int .i64 0, .int .i64 0] 84)) = wa at *
  replace hob := Lib.hid hob
  go_loopw [5] (fun i wr => ∃ k : Nat, k ≤ n ∧ i = .int .i64 k ∧ wr = wa ∧ Hid ((L.take k).find? (fun m => decide (m.1 = t)) = none)) (fun i _ => n - (RowKit.intOf i).toNat)
  case atStart => exact ⟨0, by omega, rfl, rfl, Lib.hid rfl⟩
  case round =>
    obtain ⟨k, hk, rfl, hw, hf⟩ := hrel
    subst hw
    have d1 : wr.cell? ⟨r, 1, none⟩ = some (.slice aL n cL) := fa.cell c1 (fun q => q)
    by_cases hlt : k < n
    · obtain ⟨m, hm⟩ : ∃ m, L[k]? = some m := ⟨_, List.getElem?_eq_getElem (by rw [hn.out]; exact hlt)⟩
      obtain ⟨g, rfl, hg, e0, e1, e2⟩ := pl_at h1 hm
      have e0' := fa.cell e0 (fun q => q)
      have e1' := fa.cell e1 (fun q => q)
      have e2' := fa.cell e2 (fun q => q)
      clear e0 e1 e2
      by_cases hmt : m.1 = t
      · have hb2 : (m.1 == t) = true := by simpa using hmt
        have hfin := find_take L t k m hm hf.out hmt
        replace hm := Lib.hid hm
        obtain ⟨m1, m2, m3⟩ := m
        replace hmt := Lib.hid hmt
        replace hfin := Lib.hid hfin
        simp only [] at e0' e1' e2' hb2
        have z0 : wr.cell? ⟨ob, 0, none⟩ = some (.int .i64 0) := ba.cell 0
        have z1 : wr.cell? ⟨ob, 1, none⟩ = some (.int .i64 0) := ba.cell 1
        have z2 : wr.cell? ⟨ob, 2, none⟩ = some (.int .i64 0) := ba.cell 2
        have y0 : wr.frozen? ⟨ob, 0, none⟩ = false := ba.frozen 0
        have y1 : wr.frozen? ⟨ob, 1, none⟩ = false := ba.frozen 1
        have y2 : wr.frozen? ⟨ob, 2, none⟩ = false := ba.frozen 2
        go_wp2_with fail
        have bd := ((ba.set 0 (.int .i64 m1)).set 1 (.int .i64 m2)).set 2 (.int .i64 m3)
        simp only [List.set_cons_zero, List.set_cons_succ] at bd
        have hoo : w.heap.size ≤ ob := by have := hob.out; omega
        have fd := ((fa.storeNew (g := ob) (i := 0) (v := .int .i64 m1) hoo).storeNew (g := ob) (i := 1) (v := .int .i64 m2) hoo).storeNew (g := ob) (i := 2) (v := .int .i64 m3) hoo
        generalize ((wr.setCell ⟨ob, 0, none⟩ (.int .i64 m1)).setCell ⟨ob, 1, none⟩ (.int .i64 m2)).setCell ⟨ob, 2, none⟩ (.int .i64 m3) = W at *
        have q0 : W.cell? ⟨ob, 0, none⟩ = some (.int .i64 m1) := bd.cell 0
        have q1 : W.cell? ⟨ob, 1, none⟩ = some (.int .i64 m2) := bd.cell 1
        have q2 : W.cell? ⟨ob, 2, none⟩ = some (.int .i64 m3) := bd.cell 2
        exact bodyPost_ret (v := .agg #[.int .i64 m1, .int .i64 m2, .int .i64 m3]) (by simp [results, Tryz.results33, go_sem, q0, q1, q2]) rfl ⟨by rw [hfin.out], fd⟩
      · have hb2 : (m.1 == t) = false := by simpa using hmt
        have hf2 : Hid ((L.take (k + 1)).find? (fun m => decide (m.1 = t)) = none) := Lib.hid (by
          have hi : k < L.length := by rw [hn.out]; exact hlt
          rw [List.getElem?_eq_getElem hi] at hm
          cases hm
          rw [List.take_succ_eq_append_getElem hi, List.find?_append, hf.out]
          simp [hmt])
        replace hm := Lib.hid hm
        obtain ⟨m1, m2, m3⟩ := m
        simp only [] at e0' e1' e2' hb2 hmt
        go_wp2_with fail
        go_roundw
        case rel => exact ⟨k + 1, by omega, by go_num, by first | trivial | rfl, hf2⟩
        case measure => simp [RowKit.intOf]; omega
    · obtain rfl : k = n := by omega
      have hfin : ofL L t = (0, 0, 0) := by
        have := hf.out
        rw [List.take_of_length_le (by have := hn.out; omega)] at this
        unfold ofL; rw [this]; rfl
      replace hfin := Lib.hid hfin
      have z0 : wr.cell? ⟨ob, 0, none⟩ = some (.int .i64 0) := ba.cell 0
      have z1 : wr.cell? ⟨ob, 1, none⟩ = some (.int .i64 0) := ba.cell 1
      have z2 : wr.cell? ⟨ob, 2, none⟩ = some (.int .i64 0) := ba.cell 2
      have y0 : wr.frozen? ⟨ob, 0, none⟩ = false := ba.frozen 0
      have y1 : wr.frozen? ⟨ob, 1, none⟩ = false := ba.frozen 1
      have y2 : wr.frozen? ⟨ob, 2, none⟩ = false := ba.frozen 2
      go_wp2_with fail
      have bd := ((ba.set 0 (.int .i64 0)).set 1 (.int .i64 0)).set 2 (.int .i64 0)
      simp only [List.set_cons_zero, List.set_cons_succ] at bd
      have hoo : w.heap.size ≤ ob := by have := hob.out; omega
      have fd := ((fa.storeNew (g := ob) (i := 0) (v := .int .i64 0) hoo).storeNew (g := ob) (i := 1) (v := .int .i64 0) hoo).storeNew (g := ob) (i := 2) (v := .int .i64 0) hoo
      generalize ((wr.setCell ⟨ob, 0, none⟩ (.int .i64 0)).setCell ⟨ob, 1, none⟩ (.int .i64 0)).setCell ⟨ob, 2, none⟩ (.int .i64 0) = W at *
      have q0 : W.cell? ⟨ob, 0, none⟩ = some (.int .i64 0) := bd.cell 0
      have q1 : W.cell? ⟨ob, 1, none⟩ = some (.int .i64 0) := bd.cell 1
      have q2 : W.cell? ⟨ob, 2, none⟩ = some (.int .i64 0) := bd.cell 2
      exact bodyPost_ret (v := .agg #[.int .i64 0, .int .i64 0, .int .i64 0]) (by simp [results, Tryz.results33, go_sem, q0, q1, q2]) rfl ⟨by rw [hfin.out], fd⟩

/-- the greatest job of a trace among those that ran out -/
def lastL (O : List PL) (t : Int) : Int := O.foldl (fun n m => if m.1 = t ∧ n < m.2.1 then m.2.1 else n) 0
set_option maxHeartbeats 1000000 in
set_option maxRecDepth 10000 in
theorem rlast_any (r B : Nat) (T t : Int) (L O : List PL) (w : World) (h : Rl w r B T L O) :
    Calls Tryz.prog 66 #[.pointer (some ⟨r, 0, none⟩), .int .i64 t] w fun e w' => e = .returned (.int .i64 (lastL O t)) ∧ w' = w := by
  obtain ⟨⟨aL, cL, aO, cO, hb, h1, h2, h3⟩, rB, Bw, lL, lO⟩ := h
  generalize hn : O.length = n at *
  replace hn := Lib.hid hn
  have c1 : w.cell? ⟨r, 2, none⟩ = some (.slice aO n cO) := hb.cell 2
  go_enter Tryz.func66, Tryz.ntmps66
  go_wp2_with fail
  go_loop [5, 6] (fun v i => ∃ k : Nat, k ≤ n ∧ i = .int .i64 k ∧ v = .int .i64 (lastL (O.take k) t)) (fun _ i => n - (RowKit.intOf i).toNat)
  case atStart => exact ⟨0, by omega, rfl, rfl⟩
  case round =>
    obtain ⟨k, hk, rfl, rfl⟩ := hrel
    by_cases hlt : k < n
    · obtain ⟨m, hm⟩ : ∃ m, O[k]? = some m := ⟨_, List.getElem?_eq_getElem (by rw [hn.out]; exact hlt)⟩
      obtain ⟨g, rfl, hg, e0, e1, e2⟩ := pl_at h2 hm
      have hsn : lastL (O.take (k + 1)) t = if m.1 = t ∧ lastL (O.take k) t < m.2.1 then m.2.1 else lastL (O.take k) t := by
        have hi : k < O.length := by rw [hn.out]; exact hlt
        rw [List.getElem?_eq_getElem hi] at hm
        cases hm
        rw [List.take_succ_eq_append_getElem hi]
        unfold lastL
        rw [List.foldl_append]
        rfl
      generalize lastL (O.take k) t = old at *
      replace hm := Lib.hid hm
      obtain ⟨m1, m2, m3⟩ := m
      simp only [] at e0 e1 e2 hsn
      by_cases hmt : m1 = t ∧ old < m2
      · rw [if_pos hmt] at hsn
        obtain ⟨rfl, hlt2⟩ := hmt
        replace hsn := Lib.hid hsn
        have hd2 : decide (old < m2) = true := by simp; omega
        go_wp2_with fail
        go_round
        case rel => exact ⟨k + 1, by omega, by go_num, by rw [hsn.out]⟩
        case measure => simp [RowKit.intOf]; omega
      · rw [if_neg hmt] at hsn
        replace hsn := Lib.hid hsn
        by_cases hmt1 : m1 = t
        · subst hmt1
          have hd2 : decide (old < m2) = false := by simp; omega
          go_wp2_with fail
          go_round
          case rel => exact ⟨k + 1, by omega, by go_num, by rw [hsn.out]⟩
          case measure => simp [RowKit.intOf]; omega
        · have hb2 : (m1 == t) = false := by simpa using hmt1
          clear hmt
          go_wp2_with fail
          go_round
          case rel => exact ⟨k + 1, by omega, by go_num, by rw [hsn.out]⟩
          case measure => simp [RowKit.intOf]; omega
    · obtain rfl : k = n := by omega
      rw [List.take_of_length_le (by have := hn.out; omega)]
      go_wp2_with fail
      go_ret
      exact ⟨rfl, rfl⟩

/-- a lease, in order -/
def insL (l : List PL) (x : PL) : List PL := l.takeWhile (fun m => !decide (x.1 < m.1)) ++ x :: l.dropWhile (fun m => !decide (x.1 < m.1))
def anyL (l : List PL) (x : PL) : Bool := l.any fun m => decide (x.1 < m.1)
def midL (l : List PL) (x : PL) : List PL := if anyL l x then insL l x else l
theorem insL_none {l : List PL} {x : PL} (h : anyL l x = false) (r : List PL) : (l ++ r).takeWhile (fun m => !decide (x.1 < m.1)) = l ++ r.takeWhile (fun m => !decide (x.1 < m.1)) ∧ (l ++ r).dropWhile (fun m => !decide (x.1 < m.1)) = r.dropWhile (fun m => !decide (x.1 < m.1)) := by
  induction l with
  | nil => exact ⟨rfl, rfl⟩
  | cons y l ih =>
    unfold anyL at h ih
    simp only [List.any_cons, Bool.or_eq_false_iff] at h
    have := ih h.2
    simp [List.takeWhile_cons, List.dropWhile_cons, h.1, this]
theorem midL_end (l : List PL) (x : PL) : insL l x = if anyL l x then midL l x else l ++ [x] := by
  by_cases h : anyL l x = true
  · rw [if_pos h, midL, if_pos h]
  · have h2 : anyL l x = false := by simpa using h
    rw [if_neg h]
    have := insL_none h2 []
    simp at this
    unfold insL
    rw [this.1, this.2]
theorem midL_step (l : List PL) (x m : PL) : midL (l ++ [m]) x = if anyL l x then midL l x ++ [m] else if x.1 < m.1 then l ++ [x] ++ [m] else l ++ [m] := by
  by_cases h : anyL l x = true
  · rw [if_pos h]
    have h3 : anyL (l ++ [m]) x = true := by unfold anyL at *; simp [h]
    unfold midL
    rw [if_pos h3, if_pos h]
    unfold insL
    unfold anyL at h
    rw [List.any_eq_true] at h
    obtain ⟨y, hy, hxy⟩ := h
    have t1 : (l ++ [m]).takeWhile (fun m => !decide (x.1 < m.1)) = l.takeWhile (fun m => !decide (x.1 < m.1)) ∧ (l ++ [m]).dropWhile (fun m => !decide (x.1 < m.1)) = l.dropWhile (fun m => !decide (x.1 < m.1)) ++ [m] := by
      clear h3
      induction l with
      | nil => cases hy
      | cons z l ih =>
        by_cases hz : x.1 < z.1
        · simp [List.takeWhile_cons, List.dropWhile_cons, hz]
        · have hy2 : y ∈ l := by
            rcases List.mem_cons.1 hy with rfl | h
            · simp at hxy; omega
            · exact h
          have := ih hy2
          simp [List.takeWhile_cons, List.dropWhile_cons, hz, this]
    rw [t1.1, t1.2]
    simp
  · have h2 : anyL l x = false := by simpa using h
    rw [if_neg h]
    by_cases hm : x.1 < m.1
    · rw [if_pos hm]
      have h3 : anyL (l ++ [m]) x = true := by unfold anyL; simp [hm]
      unfold midL
      rw [if_pos h3]
      have := insL_none h2 [m]
      simp [hm] at this
      unfold insL
      rw [this.1, this.2]
      simp
    · rw [if_neg hm]
      have h3 : anyL (l ++ [m]) x = false := by unfold anyL at *; simp [h2]; omega
      unfold midL
      rw [h3]; simp
theorem anyL_step (l : List PL) (x m : PL) : anyL (l ++ [m]) x = (anyL l x || decide (x.1 < m.1)) := by simp [anyL]
theorem midL_len (l : List PL) (x : PL) : (midL l x).length ≤ l.length + 1 := by
  unfold midL insL
  split
  · have := congrArg List.length (List.takeWhile_append_dropWhile (p := fun m : PL => !decide (x.1 < m.1)) (l := l))
    simp only [List.length_append, List.length_cons] at *
    omega
  · omega

set_option maxHeartbeats 2000000 in
set_option maxRecDepth 10000 in
theorem rgrant_any (r B : Nat) (T t j : Int) (L O : List PL) (w : World) (h : Rl w r B T L O) (hl5 : L.length < 100000) :
    Calls Tryz.prog 67 #[.pointer (some ⟨r, 0, none⟩), .int .i64 t, .int .i64 j] w fun e w' => e = .returned (.tuple #[]) ∧ Rl w' r B T (insL (L.filter fun m => decide (m.1 ≠ t)) (t, j, T)) O ∧ Fr (onlyB r) w w' ∧ Tn w w' r B := by
  have hLl := List.length_filter_le (fun m : PL => decide (m.1 ≠ t)) L
  have hend := rend_any r B T t L O w h
  have hbw : r < w.heap.size := by obtain ⟨⟨aL, cL, aO, cO, hb, _⟩, _⟩ := h; exact hb.lt
  clear h
  generalize (L.filter fun m => decide (m.1 ≠ t)) = M at *
  obtain ⟨i0, hi, hz0, hz1, hz2⟩ := infoPL
  go_enter Tryz.func67, Tryz.ntmps67
  go_wp2_with fail
  refine hend.mono ?_
  rintro e w1 ⟨rfl, h, f1, tn1⟩
  replace tn1 := Lib.hid tn1
  obtain ⟨⟨aL, cL, aO, cO, hb, h1, h2, h3⟩, rB, Bw, lL, lO⟩ := h
  generalize hn : M.length = n at *
  replace hn := Lib.hid hn
  have c0 : w1.cell? ⟨r, 0, none⟩ = some (.int .i64 T) := hb.cell 0
  go_wp2_with fail
  have fa := (Fr.refl noB w1).alloc (.cells #[.int .i64 t, .int .i64 j, .int .i64 T] 84)
  have ba := Blk.new w1 84 [.int .i64 t, .int .i64 j, .int .i64 T]
  have sa : (w1.alloc (.cells #[.int .i64 t, .int .i64 j, .int .i64 T] 84)).heap.size = w1.heap.size + 1 := by simp
  obtain ⟨ob, hob⟩ : ∃ ob, ob = w1.heap.size := ⟨_, rfl⟩
  rw [← hob] at ba sa ⊢
  generalize (w1.alloc (.cells #[.int .i64 t, .int .i64 j, .int .i64 T] 84)) = wa at *
  replace hob := Lib.hid hob
  obtain ⟨BB, hBB⟩ : ∃ BB, BB = wa.heap.size := ⟨_, rfl⟩
  have hBa : BB ≤ wa.heap.size := by omega
  have hoB : ob < BB := by omega
  have hBa2 : wa.heap.size ≤ BB := by omega
  clear sa c0
  replace hBB := Lib.hid hBB
  have ca : wa.cell? ⟨r, 1, none⟩ = some (.slice aL n cL) := fa.cell (hb.cell 1) (fun q => q)
  go_loopw [6, 7, 9] (fun v d i wr => ∃ k : Nat, k ≤ n ∧ i = .int .i64 k ∧ d = .bool (anyL (M.take k) (t, j, T)) ∧ Fr noB wa wr ∧ wr.ownsRow BB 84 3 v (midL (M.take k) (t, j, T)).length (plC (midL (M.take k) (t, j, T)))) (fun _ _ i _ => n - (RowKit.intOf i).toNat)
  case atStart => exact ⟨0, by omega, rfl, rfl, Fr.refl _ _, by simpa [midL, anyL, plC] using World.ownsRow_nil _ _ _ _⟩
  case round =>
    obtain ⟨k, hk, rfl, rfl, fr, ho⟩ := hrel
    have d1 : wr.cell? ⟨r, 1, none⟩ = some (.slice aL n cL) := fr.cell ca (fun q => q)
    have br := fr.blk ba (fun q => q)
    have x0 : wr.cell? ⟨ob, 0, none⟩ = some (.int .i64 t) := br.cell 0
    have x1 : wr.cell? ⟨ob, 1, none⟩ = some (.int .i64 j) := br.cell 1
    have x2 : wr.cell? ⟨ob, 2, none⟩ = some (.int .i64 T) := br.cell 2
    have hlen := midL_len (M.take k) (t, j, T)
    have hlen2 : (M.take k).length ≤ k := List.length_take_le _ _
    by_cases hlt : k < n
    · obtain ⟨m, hm⟩ : ∃ m, M[k]? = some m := ⟨_, List.getElem?_eq_getElem (by rw [hn.out]; exact hlt)⟩
      obtain ⟨g, rfl, hg, e0, e1, e2⟩ := pl_at h1 hm
      have e0h := fun (W : World) (fb : Fr noB wa W) => fb.cell (fa.cell e0 (fun q => q)) (fun q => q)
      have e1h := fun (W : World) (fb : Fr noB wa W) => fb.cell (fa.cell e1 (fun q => q)) (fun q => q)
      have e2h := fun (W : World) (fb : Fr noB wa W) => fb.cell (fa.cell e2 (fun q => q)) (fun q => q)
      have e0' := fr.cell (fa.cell e0 (fun q => q)) (fun q => q)
      have e1' := fr.cell (fa.cell e1 (fun q => q)) (fun q => q)
      have e2' := fr.cell (fa.cell e2 (fun q => q)) (fun q => q)
      have htk : M.take (k + 1) = M.take k ++ [m] := by
        have hi : k < M.length := by rw [hn.out]; exact hlt
        rw [List.getElem?_eq_getElem hi] at hm
        cases hm
        exact List.take_succ_eq_append_getElem hi
      have hs1 := midL_step (M.take k) (t, j, T) m
      have hs2 := anyL_step (M.take k) (t, j, T) m
      rw [← htk] at hs1 hs2
      have hnl : anyL (M.take k) (t, j, T) = false → M.take k = midL (M.take k) (t, j, T) := fun h => by unfold midL; rw [h]; simp
      replace htk := Lib.hid htk
      clear e0 e1 e2
      generalize M.take k = F0 at *
      generalize hD : anyL F0 (t, j, T) = D at *
      generalize midL F0 (t, j, T) = F at *
      replace hD := Lib.hid hD
      replace hm := Lib.hid hm
      have hFl : F.length ≤ 100002 := by omega
      clear hlen hlen2
      obtain ⟨m1, m2, m3⟩ := m
      simp only [] at e0' e1' e2' e0h e1h e2h hs1 hs2
      replace e0h := Lib.hid e0h
      replace e1h := Lib.hid e1h
      replace e2h := Lib.hid e2h
      cases D with
      | true =>
        replace hs1 : Hid (midL (M.take (k + 1)) (t, j, T) = F ++ [(m1, m2, m3)]) := Lib.hid (by simpa using hs1)
        replace hs2 : Hid (anyL (M.take (k + 1)) (t, j, T) = true) := Lib.hid (by simpa using hs2)
        clear hnl
        have hA : (wr.alloc (.cells #[.int .i64 m1, .int .i64 m2, .int .i64 m3] 84)).ownsRow BB 84 3 u6 F.length (plC F) := ownsRow_fr ho ((Fr.refl noB wr).alloc _) (fun _ _ q => q)
        have hN := cell_new3 wr (.int .i64 m1) (.int .i64 m2) (.int .i64 m3) 84
        have hone := one_pl (m1, m2, m3)
        go_wp2_with (first
          | (at_builtin; go_must (refine wpList_append_at _ rfl (.tmp 47) (.tmp 55) 46 rfl BB 84 i0 _ 3 24 Tryz.underlying46 hi hz0 hz1 hz2 rfl (by omega) _ F.length _ rfl hA ⟨wr.heap.size, 0, none⟩ 1 1 [.int .i64 m1, .int .i64 m2, .int .i64 m3] rfl rfl hN hone ?_ ?_ ?_ ?_))
          | fail)
        · unfold maxLen; omega
        · omega
        · have := fr.size; simp; omega
        intro v5 w5 o5 gr5 _
        have f5 : Fr noB wa w5 := fr.trans (((Fr.refl (fun k => BB ≤ k) wr).alloc (.cells #[.int .i64 m1, .int .i64 m2, .int .i64 m3] 84)).grown gr5 (fun q hq _ => (hA.lt q hq).1)) (fun _ _ q => q) (fun i hi q => by omega)
        have p5 : w5.ownsRow BB 84 3 v5 (F ++ [(m1, m2, m3)]).length (plC (F ++ [(m1, m2, m3)])) := by rw [plC_append]; simpa [plC, plV] using o5
        clear hA hN hone o5 gr5
        go_wp2_with fail
        go_roundw
        case rel => exact ⟨k + 1, by omega, by go_num, by rw [hs2.out], f5, by rw [hs1.out]; exact p5⟩
        case measure => simp [RowKit.intOf]; omega
      | false =>
        obtain rfl := hnl rfl
        by_cases htm : t < m1
        · have hd3 : decide (t < m1) = true := by simpa using htm
          replace hs1 : Hid (midL (M.take (k + 1)) (t, j, T) = F0 ++ [(t, j, T)] ++ [(m1, m2, m3)]) := Lib.hid (by rw [hs1]; simp [htm])
          replace hs2 : Hid (anyL (M.take (k + 1)) (t, j, T) = true) := Lib.hid (by rw [hs2]; simp [htm])
          have hA : (wr.alloc (.cells #[.int .i64 t, .int .i64 j, .int .i64 T] 84)).ownsRow BB 84 3 u6 F0.length (plC F0) := ownsRow_fr ho ((Fr.refl noB wr).alloc _) (fun _ _ q => q)
          have hN := cell_new3 wr (.int .i64 t) (.int .i64 j) (.int .i64 T) 84
          have hone := one_pl (t, j, T)
          go_wp2_with (first
            | (at_builtin; go_must (refine wpList_append_at _ rfl (.tmp 43) (.tmp 45) 46 rfl BB 84 i0 _ 3 24 Tryz.underlying46 hi hz0 hz1 hz2 rfl (by omega) _ F0.length _ rfl hA ⟨wr.heap.size, 0, none⟩ 1 1 [.int .i64 t, .int .i64 j, .int .i64 T] rfl rfl hN hone ?_ ?_ ?_ ?_))
            | fail)
          · unfold maxLen; omega
          · omega
          · have := fr.size; simp; omega
          intro v4 w4 o4 gr4 _
          have f4 : Fr noB wa w4 := fr.trans (((Fr.refl (fun k => BB ≤ k) wr).alloc (.cells #[.int .i64 t, .int .i64 j, .int .i64 T] 84)).grown gr4 (fun q hq _ => (hA.lt q hq).1)) (fun _ _ q => q) (fun i hi q => by omega)
          have p4 : w4.ownsRow BB 84 3 v4 (F0 ++ [(t, j, T)]).length (plC (F0 ++ [(t, j, T)])) := by rw [plC_append]; simpa [plC, plV] using o4
          clear hA hN hone o4 gr4
          have fb := f4
          have d1b : w4.cell? ⟨r, 1, none⟩ = some (.slice (some ⟨g, 0, none⟩) n cL) := fb.cell ca (fun q => q)
          have e0b : w4.cell? ⟨g, k * 3, none⟩ = some (.int .i64 m1) := e0h.out w4 fb
          have e1b : w4.cell? ⟨g, k * 3 + 1, none⟩ = some (.int .i64 m2) := e1h.out w4 fb
          have e2b : w4.cell? ⟨g, k * 3 + 2, none⟩ = some (.int .i64 m3) := e2h.out w4 fb
          obtain ⟨FF, hFF⟩ : ∃ FF, FF = F0 ++ [(t, j, T)] := ⟨_, rfl⟩
          rw [← hFF] at p4 hs1
          have hFFl : FF.length ≤ 100003 := by rw [hFF]; simp; omega
          clear hFF
          have hA : (w4.alloc (.cells #[.int .i64 m1, .int .i64 m2, .int .i64 m3] 84)).ownsRow BB 84 3 v4 FF.length (plC FF) := ownsRow_fr p4 ((Fr.refl noB w4).alloc _) (fun _ _ q => q)
          have hN := cell_new3 w4 (.int .i64 m1) (.int .i64 m2) (.int .i64 m3) 84
          have hone := one_pl (m1, m2, m3)
          go_wp2_with (first
            | (at_builtin; go_must (refine wpList_append_at _ rfl (.tmp 47) (.tmp 55) 46 rfl BB 84 i0 _ 3 24 Tryz.underlying46 hi hz0 hz1 hz2 rfl (by omega) _ FF.length _ rfl hA ⟨w4.heap.size, 0, none⟩ 1 1 [.int .i64 m1, .int .i64 m2, .int .i64 m3] rfl rfl hN hone ?_ ?_ ?_ ?_))
            | fail)
          · unfold maxLen; omega
          · omega
          · have := fb.size; simp; omega
          intro v5 w5 o5 gr5 _
          have f5 : Fr noB wa w5 := fb.trans (((Fr.refl (fun k => BB ≤ k) w4).alloc (.cells #[.int .i64 m1, .int .i64 m2, .int .i64 m3] 84)).grown gr5 (fun q hq _ => (hA.lt q hq).1)) (fun _ _ q => q) (fun i hi q => by omega)
          have p5 : w5.ownsRow BB 84 3 v5 (FF ++ [(m1, m2, m3)]).length (plC (FF ++ [(m1, m2, m3)])) := by rw [plC_append]; simpa [plC, plV] using o5
          clear hA hN hone o5 gr5
          go_wp2_with fail
          go_roundw
          case rel => exact ⟨k + 1, by omega, by go_num, by rw [hs2.out], f5, by rw [hs1.out]; exact p5⟩
          case measure => simp [RowKit.intOf]; omega
        · have hd3 : decide (t < m1) = false := by simpa using htm
          replace hs1 : Hid (midL (M.take (k + 1)) (t, j, T) = F0 ++ [(m1, m2, m3)]) := Lib.hid (by rw [hs1]; simp [htm]; exact htk.out)
          replace hs2 : Hid (anyL (M.take (k + 1)) (t, j, T) = false) := Lib.hid (by rw [hs2]; simp [htm])
          have hA : (wr.alloc (.cells #[.int .i64 m1, .int .i64 m2, .int .i64 m3] 84)).ownsRow BB 84 3 u6 F0.length (plC F0) := ownsRow_fr ho ((Fr.refl noB wr).alloc _) (fun _ _ q => q)
          have hN := cell_new3 wr (.int .i64 m1) (.int .i64 m2) (.int .i64 m3) 84
          have hone := one_pl (m1, m2, m3)
          go_wp2_with (first
            | (at_builtin; go_must (refine wpList_append_at _ rfl (.tmp 47) (.tmp 55) 46 rfl BB 84 i0 _ 3 24 Tryz.underlying46 hi hz0 hz1 hz2 rfl (by omega) _ F0.length _ rfl hA ⟨wr.heap.size, 0, none⟩ 1 1 [.int .i64 m1, .int .i64 m2, .int .i64 m3] rfl rfl hN hone ?_ ?_ ?_ ?_))
            | fail)
          · unfold maxLen; omega
          · omega
          · have := fr.size; simp; omega
          intro v5 w5 o5 gr5 _
          have f5 : Fr noB wa w5 := fr.trans (((Fr.refl (fun k => BB ≤ k) wr).alloc (.cells #[.int .i64 m1, .int .i64 m2, .int .i64 m3] 84)).grown gr5 (fun q hq _ => (hA.lt q hq).1)) (fun _ _ q => q) (fun i hi q => by omega)
          have p5 : w5.ownsRow BB 84 3 v5 (F0 ++ [(m1, m2, m3)]).length (plC (F0 ++ [(m1, m2, m3)])) := by rw [plC_append]; simpa [plC, plV] using o5
          clear hA hN hone o5 gr5
          go_wp2_with fail
          go_roundw
          case rel => exact ⟨k + 1, by omega, by go_num, by rw [hs2.out], f5, by rw [hs1.out]; exact p5⟩
          case measure => simp [RowKit.intOf]; omega
    · obtain rfl : k = n := by omega
      have hFL : (M.take k) = M := List.take_of_length_le (by have := hn.out; omega)
      rw [hFL] at ho hlen ⊢
      have hE := midL_end M (t, j, T)
      have hiL : (insL M (t, j, T)).length ≤ 100000 := by
        have := congrArg List.length (List.takeWhile_append_dropWhile (p := fun m : PL => !decide ((t, j, T).1 < m.1)) (l := M))
        have h9 := hn.out
        unfold insL
        simp only [List.length_append, List.length_cons] at *
        omega
      have hnl : anyL M (t, j, T) = false → M = midL M (t, j, T) := fun h => by unfold midL; rw [h]; simp
      generalize hFi : insL M (t, j, T) = Fi at *
      replace hFi := Lib.hid hFi
      generalize hD : anyL M (t, j, T) = D at *
      generalize midL M (t, j, T) = F at *
      replace hD := Lib.hid hD
      have hFl : F.length ≤ 100002 := by have := hn.out; omega
      clear hlen hlen2
      have fin : ∀ (v : Value) (w5 : World), Fr noB wa w5 → w5.ownsRow BB 84 3 v Fi.length (plC Fi) → ∃ a9 c9, v = .slice a9 Fi.length c9 ∧ w5.frozen? ⟨r, 1, none⟩ = false ∧ w5.cell? ⟨r, 1, none⟩ = some (.slice aL k cL) ∧ (Rl (w5.setCell ⟨r, 1, none⟩ v) r B T (insL M (t, j, T)) O ∧ Fr (onlyB r) w (w5.setCell ⟨r, 1, none⟩ v) ∧ Tn w (w5.setCell ⟨r, 1, none⟩ v) r B) := by
        intro v w5 f5 o5
        obtain ⟨a9, c9, rfl⟩ := ownsRow_slice o5
        have b5 := (fa.seqN f5).blk hb (fun q => q)
        have b6 := b5.set 1 (.slice a9 Fi.length c9)
        have fs := (Fr.refl (onlyB r) w5).store (g := r) (i := 1) (v := .slice a9 Fi.length c9) (onlyB_self r)
        have f6 := fa.seqN f5
        have hw1 := f1.size
        refine ⟨a9, c9, rfl, b5.frozen 1, b5.cell 1, ?_, ?_, ?_⟩
        · rw [hFi.out]
          refine ⟨⟨a9, c9, aO, cO, b6, ownsRow_mono (ownsRow_fr o5 fs (fun q hq => by have := (o5.lt q hq).1; have := hob.out; unfold onlyB; omega)) (by have := hob.out; omega), ownsRow_fr (ownsRow_fr h2 f6 (fun _ _ q => q)) fs (fun q hq => by have := (h2.lt q hq).1; unfold onlyB; omega), ?_⟩, rB, ?_, hiL, lO⟩
          · intro q hq hq2
            have := (o5.lt q hq).1
            have := (h2.lt q hq2).2
            have := hob.out
            omega
          · have := f6.size; have := fs.size; omega
        · exact f1.trans ((f6.mono (fun _ _ q => False.elim q)).trans fs (fun _ _ q => q) (fun _ _ q => q)) (fun _ _ q => q) (fun _ _ q => q)
        · exact Tn.of b6 (fun q hq => Or.inr (by have := (o5.lt q hq).1; have := hob.out; omega)) (fun q hq => tn1.out q (touch_cell (hb.cell 2) hq))
      replace fin := Lib.hid fin
      cases D with
      | true =>
        replace hE : Hid (Fi = F) := Lib.hid (by simpa using hE)
        obtain ⟨a9, c9, hv, fz, fc, R1, R2⟩ := fin.out _ _ fr (by rw [hE.out]; exact ho)
        subst hv
        go_wp2_with fail
        go_end0
        exact ⟨rfl, R1, R2⟩
      | false =>
        obtain rfl := hnl rfl
        replace hE : Hid (Fi = M ++ [(t, j, T)]) := Lib.hid (by simpa using hE)
        have hA : (wr.alloc (.cells #[.int .i64 t, .int .i64 j, .int .i64 T] 84)).ownsRow BB 84 3 u6 M.length (plC M) := ownsRow_fr ho ((Fr.refl noB wr).alloc _) (fun _ _ q => q)
        have hN := cell_new3 wr (.int .i64 t) (.int .i64 j) (.int .i64 T) 84
        have hone := one_pl (t, j, T)
        go_wp2_with (first
          | (at_builtin; go_must (refine wpList_append_at _ rfl (.tmp 59) (.tmp 61) 46 rfl BB 84 i0 _ 3 24 Tryz.underlying46 hi hz0 hz1 hz2 rfl (by omega) _ M.length _ rfl hA ⟨wr.heap.size, 0, none⟩ 1 1 [.int .i64 t, .int .i64 j, .int .i64 T] rfl rfl hN hone ?_ ?_ ?_ ?_))
          | fail)
        · unfold maxLen; omega
        · omega
        · have := fr.size; simp; omega
        intro v5 w5 o5 gr5 _
        have f5 : Fr noB wa w5 := fr.trans (((Fr.refl (fun k => BB ≤ k) wr).alloc (.cells #[.int .i64 t, .int .i64 j, .int .i64 T] 84)).grown gr5 (fun q hq _ => (hA.lt q hq).1)) (fun _ _ q => q) (fun i hi q => by omega)
        have p5 : w5.ownsRow BB 84 3 v5 (M ++ [(t, j, T)]).length (plC (M ++ [(t, j, T)])) := by rw [plC_append]; simpa [plC, plV] using o5
        clear hA hN hone o5 gr5
        obtain ⟨a9, c9, hv, fz, fc, R1, R2⟩ := fin.out _ _ f5 (by rw [hE.out]; exact p5)
        subst hv
        go_wp2_with fail
        go_end0
        exact ⟨rfl, R1, R2⟩
end Go.Proofs.YtppmednmcbjafaaGreat.LR
end

section
set_option linter.unusedVariables false
set_option linter.unusedSimpArgs false
namespace Go.Proofs.YtppmednmcbjafaaGreat.LR
open Go.RowKit Go Go.Lib

theorem ownsRow_set {w : World} {B e size g n c : Nat} {cs : List Value} (h : w.ownsRow B e size (.slice (some ⟨g, 0, none⟩) n c) n cs) (j : Nat) (u : Value) :
    (w.setCell ⟨g, j, none⟩ u).ownsRow B e size (.slice (some ⟨g, 0, none⟩) n c) n (cs.set j u) := by
  refine ⟨by simpa using h.1, ?_⟩
  rcases h.2 with ⟨h1, _⟩ | ⟨g', cap, cur, h1, h2, h3, h4, h5, h6, h7⟩
  · cases h1
  · cases h1
    refine Or.inr ⟨g, c, cur.setIfInBounds j u, rfl, h2, ?_, h4, h5, by simpa using h6, ?_⟩
    · simp [World.setCell, Array.getElem?_modify, h3]
    · rw [Array.toList_setIfInBounds, List.take_set, h7]
theorem step_append_at {P : Program} {ops : Array Oper} {o : Oper} {a : Act} {w : World} {K : Act → World → Prop} {Q : Exit → Act → World → Prop} {E : Prop} (hgd : o.guard = none) (s x : Operand) (t : TypeId)
    (ho : o.op = .call { callee := .builtin .append, args := #[s, x], argTypes := #[t, t] })
    (base : Nat) (e : TypeId) (i : TypeInfo) (z : Value) (size bytes : Nat) (ht : P.underlying t = some (.slice e)) (hi : P.info? e = some i) (hz : i.zero = some z)
    (hsize : i.size = size) (hby : i.bytes = bytes) (hzs : z.cells.size = size) (hsz : 0 < size)
    (v : Value) (n : Nat) (xs : List Value) (hs : a.eval s = v) (hown : w.ownsRow base e size v n xs)
    (ad : Addr) (m c : Nat) (news : List Value) (hx : a.eval x = .slice (some ad) m c) (hl : news.length = m * size) (hnews : ∀ j u, news[j]? = some u → w.cell? (ad.add j) = some u) (h1 : ∀ u ∈ news, u.oneCell' = true)
    (h63 : n + m ≤ maxLen) (hbytes : (n + m) * bytes ≤ 140737488355328) (hbase : base ≤ w.heap.size)
    (h : ∀ v' w', w'.ownsRow base e size v' (n + m) (xs ++ news) → w.grownBy w' v.ownBlock → Moved w v v' → K (a.put o.dst v') w') :
    if Region.wanted o (yielded ops a.tmps) = true then Oper.wp P o a w K Q else E := by
  have hw : Region.wanted o (yielded ops a.tmps) = true := by simp [Region.wanted, hgd]
  rw [if_pos hw]
  exact wp_append_at w s x t ho base e i z size bytes ht hi hz hsize hby hzs hsz v n xs hs hown ad m c news hx hl hnews h1 h63 hbytes hbase h

def decP (m : PL) : PL := (m.1, m.2.1, m.2.2 - 1)
def mapTo (L : List PL) (k : Nat) : List PL := (L.take k).map decP ++ L.drop k
theorem mapTo_len (L : List PL) (k : Nat) : (mapTo L k).length = L.length := by
  have := congrArg List.length (List.take_append_drop k L)
  simp [mapTo] at *; omega
theorem mapTo_get (L : List PL) (k : Nat) (m : PL) (h : L[k]? = some m) : (mapTo L k)[k]? = some m := by
  have hi : k < L.length := by
    rcases Nat.lt_or_ge k L.length with h1 | h1
    · exact h1
    · rw [List.getElem?_eq_none h1] at h; cases h
  unfold mapTo
  rw [List.getElem?_append_right (by simp; omega)]
  simp
  rw [show k + (k - min k L.length) = k by omega]
  exact h
theorem mapTo_succ (L : List PL) (k : Nat) (m : PL) (h : L[k]? = some m) : (mapTo L k).set k (decP m) = mapTo L (k + 1) := by
  have hi : k < L.length := by
    rcases Nat.lt_or_ge k L.length with h1 | h1
    · exact h1
    · rw [List.getElem?_eq_none h1] at h; cases h
  rw [List.getElem?_eq_getElem hi] at h
  have h2 : L[k] = m := by simpa using h
  have h3 : ((L.take k).map decP).length = k := by simp; omega
  unfold mapTo
  rw [List.set_append_right _ _ (by rw [h3]; exact Nat.le_refl _), h3, Nat.sub_self, List.drop_eq_getElem_cons hi, List.set_cons_zero, List.take_succ_eq_append_getElem hi, List.map_append, h2]
  simp only [List.map_cons, List.map_nil, List.append_assoc, List.cons_append, List.nil_append]
/-- those that run out with this tick -/
def outL (L : List PL) : List PL := (L.map decP).filter fun m => decide (m.2.2 = 0)
theorem outL_succ (L : List PL) (k : Nat) (m : PL) (h : L[k]? = some m) : outL (L.take (k + 1)) = outL (L.take k) ++ if m.2.2 = 1 then [decP m] else [] := by
  have hi : k < L.length := by
    rcases Nat.lt_or_ge k L.length with h1 | h1
    · exact h1
    · rw [List.getElem?_eq_none h1] at h; cases h
  rw [List.getElem?_eq_getElem hi] at h
  cases h
  rw [List.take_succ_eq_append_getElem hi]
  unfold outL
  rw [List.map_append, List.filter_append]
  by_cases h1 : L[k].2.2 = 1
  · simp [decP, h1]
  · simp [decP, h1]; omega
theorem outL_len (L : List PL) : (outL L).length ≤ L.length := by
  have := List.length_filter_le (fun m : PL => decide (m.2.2 = 0)) (L.map decP)
  simpa [outL] using this

/-- amid the first loop of a tick -/
structure Rt (w0 w : World) (r B : Nat) (T : Int) (aL : Option Addr) (n cL : Nat) (Lk Ok : List PL) (E : List Int) (v : Value) : Prop where
  rowL : w.ownsRow B 84 3 (.slice aL n cL) n (plC Lk)
  ex : ∃ aO cO, Blk w r 123 [.int .i64 T, .slice aL n cL, .slice aO Ok.length cO] ∧ w.ownsRow B 84 3 (.slice aO Ok.length cO) Ok.length (plC Ok) ∧
    (∀ q, (Value.slice aO Ok.length cO).ownBlock = some q → (Value.slice aL n cL).ownBlock ≠ some q) ∧ (∀ q, (Value.slice aO Ok.length cO).ownBlock = some q → q < w0.heap.size → touchL w0 r B q)
  own : w.ownsRow w0.heap.size 3 1 v E.length (E.map (Value.int .i64))
  fr : Fr (touchL w0 r B) w0 w
  kL : ∀ q, (Value.slice aL n cL).ownBlock = some q → touchL w0 r B q ∧ q < w0.heap.size
  rB : r < B
  r0 : r < w0.heap.size
  Bw : B ≤ w0.heap.size
theorem int_apart {w : World} {B B2 n m k : Nat} {v u : Value} {l l2 : List Value} (h : w.ownsRow B 84 k v n l) (h2 : w.ownsRow B2 3 1 u m l2) {q : Nat} (hq : v.ownBlock = some q) : u.ownBlock ≠ some q := by
  intro hu
  obtain ⟨c1, e1⟩ := row_type h hq
  obtain ⟨c2, e2⟩ := row_type h2 hu
  rw [e1] at e2; cases e2

theorem Rt.gone {w0 w w' : World} {r B : Nat} {T : Int} {aL : Option Addr} {n cL : Nat} {Lk Ok : List PL} {E E' : List Int} {v v' : Value} {o : Obj} (h : Rt w0 w r B T aL n cL Lk Ok E v) (gr : (w.alloc o).grownBy w' v.ownBlock)
    (o1 : w'.ownsRow w0.heap.size 3 1 v' E'.length (E'.map (Value.int .i64))) : Rt w0 w' r B T aL n cL Lk Ok E' v' := by
  have f : Fr (fun q => v.ownBlock = some q) w w' := ((Fr.refl _ w).alloc o).grown gr (fun q hq _ => hq)
  have hge : ∀ q, v.ownBlock = some q → w0.heap.size ≤ q := fun q hq => (h.own.lt q hq).1
  obtain ⟨aO, cO, hb, hro, hap, hto⟩ := h.ex
  exact ⟨ownsRow_fr h.rowL f (fun q hq => int_apart h.rowL h.own hq), ⟨aO, cO, f.blk hb (fun q => by have := hge _ q; have := h.r0; omega), ownsRow_fr hro f (fun q hq => int_apart hro h.own hq), hap, hto⟩, o1,
    h.fr.trans f (fun _ _ q => q) (fun i hi q => by have := hge _ q; omega), h.kL, h.rB, h.r0, h.Bw⟩
theorem Rt.over {w0 w X w' : World} {r B : Nat} {T : Int} {aL : Option Addr} {n cL : Nat} {Lk Ok : List PL} {E : List Int} {v v9 : Value} {m : PL} (h : Rt w0 w r B T aL n cL Lk Ok E v) {aO : Option Addr} {cO : Nat}
    (hb : Blk w r 123 [.int .i64 T, .slice aL n cL, .slice aO Ok.length cO]) (hro : w.ownsRow B 84 3 (.slice aO Ok.length cO) Ok.length (plC Ok))
    (hap : ∀ q, (Value.slice aO Ok.length cO).ownBlock = some q → (Value.slice aL n cL).ownBlock ≠ some q) (hto : ∀ q, (Value.slice aO Ok.length cO).ownBlock = some q → q < w0.heap.size → touchL w0 r B q)
    (hf : Fr noB w X) (gr : X.grownBy w' (Value.slice aO Ok.length cO).ownBlock) (o5 : w'.ownsRow B 84 3 v9 (Ok ++ [m]).length (plC (Ok ++ [m]))) (mv : Moved X (.slice aO Ok.length cO) v9) :
    ∃ a9 c9, v9 = .slice a9 (Ok ++ [m]).length c9 ∧ w'.cell? ⟨r, 2, none⟩ = some (.slice aO Ok.length cO) ∧ w'.frozen? ⟨r, 2, none⟩ = false ∧ w'.cell? ⟨r, 1, none⟩ = some (.slice aL n cL) ∧ w'.ownsRow B 84 3 (.slice aL n cL) n (plC Lk) ∧
      Rt w0 (w'.setCell ⟨r, 2, none⟩ v9) r B T aL n cL Lk (Ok ++ [m]) E v := by
  have f : Fr (fun q => (Value.slice aO Ok.length cO).ownBlock = some q) w w' := (hf.mono (fun _ _ q => False.elim q)).trans ((Fr.refl _ X).grown gr (fun q hq _ => hq)) (fun _ _ q => q) (fun _ _ q => q)
  have hBo : ∀ q, (Value.slice aO Ok.length cO).ownBlock = some q → B ≤ q := fun q hq => (hro.lt q hq).1
  obtain ⟨a9, c9, rfl⟩ := ownsRow_slice o5
  have b5 := f.blk hb (fun q => by have := hBo _ q; have := h.rB; omega)
  have l5 := ownsRow_fr h.rowL f (fun q hq z => hap q z hq)
  have e5 := ownsRow_fr h.own f (fun q hq z => int_apart hro h.own z hq)
  have b6 := b5.set 2 (.slice a9 (Ok ++ [m]).length c9)
  have fs := (Fr.refl (onlyB r) w').store (g := r) (i := 2) (v := .slice a9 (Ok ++ [m]).length c9) (onlyB_self r)
  have hr0 := h.r0
  have hrB := h.rB
  have hXw := hf.size
  have hww := h.fr.size
  refine ⟨a9, c9, rfl, b5.cell 2, b5.frozen 2, b5.cell 1, l5, ⟨ownsRow_fr l5 fs (fun q hq z => by have := (h.rowL.lt q hq).1; unfold onlyB at z; omega), ⟨a9, c9, b6, ownsRow_fr o5 fs (fun q hq z => by have := (o5.lt q hq).1; unfold onlyB at z; omega), ?_, ?_⟩,
    ownsRow_fr e5 fs (fun q hq z => by have := (h.own.lt q hq).1; unfold onlyB at z; omega), (h.fr.trans f (fun _ _ q => q) (fun i hi q => hto i q hi)).trans fs (fun _ _ q => q) (fun i hi q => Or.inl q), h.kL, h.rB, h.r0, h.Bw⟩⟩
  · intro q hq hq2
    rcases mv with e | e
    · rw [e] at hq; exact hap q hq hq2
    · rw [e] at hq
      cases hq
      have := (h.rowL.lt _ hq2).2
      omega
  · intro q hq hq2
    rcases mv with e | e
    · rw [e] at hq; exact hto q hq hq2
    · rw [e] at hq
      cases hq
      omega

set_option maxHeartbeats 4000000 in
set_option maxRecDepth 10000 in
theorem rtick1 (r B : Nat) (T : Int) (L O : List PL) (w : World) (h : Rl w r B T L O) (hLb : ∀ m ∈ L, 1 ≤ m.2.2 ∧ m.2.2 ≤ 1000) (hO5 : O.length + L.length ≤ 1000000) :
    Calls Tryz.prog 59 #[.pointer (some ⟨r, 0, none⟩)] w fun e w' => ∃ v, e = .returned v ∧ w'.ownsRow w.heap.size 3 1 v ((outL L).map (·.1)).length (((outL L).map (·.1)).map (Value.int .i64)) ∧ Rl w' r B T ((L.map decP).filter fun m => decide (m.1 ∉ (outL L).map (·.1))) (O ++ outL L) ∧ Fr (touchL w r B) w w' ∧ Tn w w' r B := by
  obtain ⟨⟨aL, cL, aO, cO, hb, h1, h2, h3⟩, rB, Bw, lL, lO⟩ := h
  obtain ⟨i0, hi, hz0, hz1, hbytes⟩ := infoPL
  obtain ⟨j0, hj, hy0, hy1, hy2⟩ := info_parts Tryz.infoIntR
  have st0 : Rt w w r B T aL L.length cL (mapTo L 0) (O ++ outL (L.take 0)) [] (.slice none 0 0) :=
    ⟨by simpa [mapTo] using h1, ⟨aO, cO, by simpa [outL] using hb, by simpa [outL] using h2, by simpa [outL] using (fun q hq hq2 => h3 q hq2 hq), fun q hq hq2 => touch_cell (hb.cell 2) (by simpa [outL] using hq)⟩, World.ownsRow_nil _ _ _ _, Fr.refl _ _, fun q hq => ⟨touch_cell (hb.cell 1) hq, (h1.lt q hq).2⟩, rB, hb.lt, Bw⟩
  clear h1 h2 h3 hb
  generalize hn : L.length = n at *
  replace hn := Lib.hid hn
  replace hLb := Lib.hid hLb
  go_enter Tryz.func59, Tryz.ntmps59
  go_wp2_with fail
  go_loopw [3, 4] (fun v i wr => ∃ k : Nat, k ≤ n ∧ i = .int .i64 k ∧ Rt w wr r B T aL n cL (mapTo L k) (O ++ outL (L.take k)) ((outL (L.take k)).map (·.1)) v) (fun _ i _ => n - (RowKit.intOf i).toNat)
  case atStart => exact ⟨0, by omega, rfl, st0⟩
  case round =>
    clear st0
    obtain ⟨k, hk, rfl, st⟩ := hrel
    obtain ⟨aO2, cO2, hb, hro, hap, hto⟩ := st.ex
    have d1 : wr.cell? ⟨r, 1, none⟩ = some (.slice aL n cL) := hb.cell 1
    by_cases hlt : k < n
    · obtain ⟨m, hm⟩ : ∃ m, L[k]? = some m := ⟨_, List.getElem?_eq_getElem (by rw [hn.out]; exact hlt)⟩
      have hmb := hLb.out m (List.mem_of_getElem? hm)
      obtain ⟨g, rfl, hg, e0, e1, e2⟩ := pl_at st.rowL (mapTo_get L k m hm)
      have hfz : wr.frozen? ⟨g, k * 3 + 2, none⟩ = false := by
        obtain ⟨cs, hcs⟩ := row_type st.rowL (q := g) rfl
        simp [World.frozen?, hcs]
      have hset := ownsRow_set st.rowL (k * 3 + 2) (.int .i64 (m.2.2 - 1))
      rw [plC_set _ _ _ _ (mapTo_get L k m hm), show ((mapTo L k).set k (m.1, m.2.1, m.2.2 - 1)) = mapTo L (k + 1) from mapTo_succ L k m hm] at hset
      have hos := outL_succ L k m hm
      have fs := (Fr.refl (onlyB g) wr).store (g := g) (i := k * 3 + 2) (v := .int .i64 (m.2.2 - 1)) (onlyB_self g)
      have hgL := st.kL g rfl
      have hgr : g ≠ r := by have := st.rB; omega
      have hb2 := fs.blk hb (fun q => hgr q.symm)
      have hro2 := ownsRow_fr hro fs (fun q hq z => hap q hq (by unfold onlyB at z; rw [z]; rfl))
      have hown2 := ownsRow_fr st.own fs (fun q hq z => int_apart st.rowL st.own (q := g) rfl (by unfold onlyB at z; rw [← z]; exact hq))
      have hfr2 : Fr (touchL w r B) w (wr.setCell ⟨g, k * 3 + 2, none⟩ (.int .i64 (m.2.2 - 1))) := st.fr.trans fs (fun _ _ q => q) (fun i hi q => by unfold onlyB at q; rw [q]; exact hgL.1)
      have hL2 := plC_get _ _ _ (mapTo_get L k m hm)
      have hcs := hset
      have st2 : Rt w (wr.setCell ⟨g, k * 3 + 2, none⟩ (.int .i64 (m.2.2 - 1))) r B T (some ⟨g, 0, none⟩) n cL (mapTo L (k + 1)) (O ++ outL (L.take k)) ((outL (L.take k)).map (·.1)) u3 :=
        ⟨hset, ⟨aO2, cO2, hb2, hro2, hap, hto⟩, hown2, hfr2, st.kL, st.rB, st.r0, st.Bw⟩
      have hmk : (mapTo L (k + 1))[k]? = some (decP m) := by
        rw [← mapTo_succ L k m hm]
        have : k < (mapTo L k).length := by rw [mapTo_len, hn.out]; exact hlt
        simp [this]
      clear hset hos hb2 hro2 hown2 hfr2 hL2 hcs fs
      have hos := Lib.hid (outL_succ L k m hm)
      replace hm := Lib.hid hm
      clear st hap hto hro hb
      obtain ⟨m1, m2, m3⟩ := m
      simp only [] at e0 e1 e2 hmb st2 hmk
      have hms := IntWalk.i64_in (m3 - 1) (by omega)
      obtain ⟨aO3, cO3, hb3, hro3, hap3, hto3⟩ := st2.ex
      obtain ⟨g', hgg, _, q0, q1, q2⟩ := pl_at st2.rowL hmk
      cases hgg
      simp only [decP] at q0 q1 q2
      have d1' : (wr.setCell ⟨g, k * 3 + 2, none⟩ (.int .i64 (m3 - 1))).cell? ⟨r, 1, none⟩ = some (.slice (some ⟨g, 0, none⟩) n cL) := hb3.cell 1
      have d2' : (wr.setCell ⟨g, k * 3 + 2, none⟩ (.int .i64 (m3 - 1))).cell? ⟨r, 2, none⟩ = some (.slice aO3 (O ++ outL (L.take k)).length cO3) := hb3.cell 2
      clear hb3 hro3 hap3 hto3
      have hml := outL_len (L.take k)
      have hml2 : (L.take k).length ≤ k := List.length_take_le _ _
      by_cases hz : m3 = 1
      · have hz2 : (m3 - 1 == 0) = true := by simp; omega
        have hz3 : ((m3 : Int) == 1) = true := by simpa using hz
        replace hos : Hid (outL (L.take (k + 1)) = outL (L.take k) ++ [decP (m1, m2, m3)]) := Lib.hid (by rw [hos.out, if_pos hz])
        replace hz := Lib.hid hz
        generalize outL (L.take k) = F at *
        have hFE : (F.map (·.1)).length ≤ F.length := by simp
        generalize hE : F.map (·.1) = E at *
        replace hE := Lib.hid hE
        have hA : ((wr.setCell ⟨g, k * 3 + 2, none⟩ (.int .i64 (m3 - 1))).alloc (.cells #[.int .i64 m1] 3)).ownsRow w.heap.size 3 1 u3 E.length (E.map (Value.int .i64)) := ownsRow_fr st2.own ((Fr.refl noB _).alloc _) (fun _ _ q => q)
        have hN := cell_new (wr.setCell ⟨g, k * 3 + 2, none⟩ (.int .i64 (m3 - 1))) (.int .i64 m1) 3
        rw [show (wr.setCell ⟨g, k * 3 + 2, none⟩ (.int .i64 (m3 - 1))).heap.size = wr.heap.size by simp [World.setCell]] at hN
        have hws := st2.fr.size
        rw [show (wr.setCell ⟨g, k * 3 + 2, none⟩ (.int .i64 (m3 - 1))).heap.size = wr.heap.size by simp [World.setCell]] at hws
        have hEl : E.length ≤ 100000 := by have := hn.out; omega
        go_wp2_with (first
          | (at_builtin; go_must (refine wpList_append_at _ rfl (.tmp 35) (.tmp 44) 57 rfl w.heap.size 3 j0 _ 1 8 Tryz.underlying57 hj hy0 hy1 hy2 rfl (by omega) _ E.length _ rfl hA _ 1 1 [.int .i64 m1] rfl rfl hN (one_int _ _) ?_ ?_ ?_ ?_))
          | fail)
        · unfold maxLen; omega
        · omega
        · simp; omega
        intro v1 w1 o1 gr1 _
        have o2 : w1.ownsRow w.heap.size 3 1 v1 (E ++ [m1]).length ((E ++ [m1]).map (Value.int .i64)) := by
          rw [List.map_append, List.length_append]; exact o1
        have st3 := st2.gone gr1 o2
        clear st2 hA hN gr1 o1 o2 d1' d2' q0 q1 q2 e0 e1 e2 d1 hfz hgL
        obtain ⟨aO4, cO4, hb4, hro4, hap4, hto4⟩ := st3.ex
        obtain ⟨g', hgg, _, q0, q1, q2⟩ := pl_at st3.rowL hmk
        cases hgg
        simp only [decP] at q0 q1 q2
        have b1 : w1.cell? ⟨r, 1, none⟩ = some (.slice (some ⟨g, 0, none⟩) n cL) := hb4.cell 1
        have b2 : w1.cell? ⟨r, 2, none⟩ = some (.slice aO4 (O ++ F).length cO4) := hb4.cell 2
        have fX0 := (Fr.refl noB w1).alloc (.cells #[.int .i64 m1, .int .i64 m2, .int .i64 (m3 - 1)] 84)
        have fX := fX0.drew
        have hX := ownsRow_fr hro4 fX (fun _ _ q => q)
        have hNX : ∀ j u, [Value.int .i64 m1, .int .i64 m2, .int .i64 (m3 - 1)][j]? = some u → (w1.alloc (.cells #[.int .i64 m1, .int .i64 m2, .int .i64 (m3 - 1)] 84)).drew.cell? ((⟨w1.heap.size, 0, none⟩ : Addr).add j) = some u := cell_new3 w1 (.int .i64 m1) (.int .i64 m2) (.int .i64 (m3 - 1)) 84
        have hone := one_pl (m1, m2, m3 - 1)
        have hFl : (O ++ F).length ≤ 1000000 := by have := hn.out; simp; omega
        have hBw1 : B ≤ w1.heap.size := by have := st3.Bw; have := st3.fr.size; omega
        have hover := fun (v9 : Value) (w5 : World) => Rt.over (w' := w5) (v9 := v9) (m := decP (m1, m2, m3)) st3 hb4 hro4 hap4 hto4 fX
        have b2X : (w1.alloc (.cells #[.int .i64 m1, .int .i64 m2, .int .i64 (m3 - 1)] 84)).cell? ⟨r, 2, none⟩ = some (.slice aO4 (O ++ F).length cO4) := fX0.cell b2 (fun q => q)
        have b1X : (w1.alloc (.cells #[.int .i64 m1, .int .i64 m2, .int .i64 (m3 - 1)] 84)).cell? ⟨r, 1, none⟩ = some (.slice (some ⟨g, 0, none⟩) n cL) := fX0.cell b1 (fun q => q)
        have q0X := fX0.cell q0 (fun q => q)
        have q1X := fX0.cell q1 (fun q => q)
        have q2X := fX0.cell q2 (fun q => q)
        replace hover := Lib.hid hover
        replace hX := Lib.hid hX
        replace hNX := Lib.hid hNX
        generalize hFL2 : (O ++ F).length = nO at *
        have mixed : Tryz.prog.follows .mixedOrders = true := by kernel_rfl
        replace hFL2 := Lib.hid hFL2
        go_wp2_with fail
        go_region_law (first
           | (refine step_append_at rfl (.tmp 50) (.tmp 58) 46 rfl B 84 i0 _ 3 24 Tryz.underlying46 hi hz0 hz1 hbytes rfl (by omega) (.slice aO4 nO cO4) nO _ (by simp [Act.eval, Act.put]) hX.out ⟨w1.heap.size, 0, none⟩ 1 1 [.int .i64 m1, .int .i64 m2, .int .i64 (m3 - 1)] (by simp [Act.eval, Act.put]) rfl hNX.out hone (by unfold maxLen; omega) (by omega) (by simp; omega) ?_; intro v9 w5 o5 gr5 mv5
              have hv := hover.out v9 w5 gr5 (by rw [plC_append, List.length_append, hFL2.out]; exact o5) mv5
              rw [List.length_append, hFL2.out] at hv
              obtain ⟨a9, c9, rfl, y2, y3, y4, y5, st9⟩ := hv))
        all_goals (
          go_wp2_with fail
          go_roundw
          case rel => exact ⟨k + 1, by omega, by go_num, by rw [hos.out, ← List.append_assoc, List.map_append, hE.out]; exact st9⟩
          case measure => simp [RowKit.intOf]; omega)
      · have hz2 : (m3 - 1 == 0) = false := by simp; omega
        have hz3 : ((m3 : Int) == 1) = false := by simpa using hz
        replace hos : Hid (outL (L.take (k + 1)) = outL (L.take k)) := Lib.hid (by rw [hos.out, if_neg hz, List.append_nil])
        go_wp2_with fail
        go_roundw
        case rel => exact ⟨k + 1, by omega, by go_num, by rw [hos.out]; exact st2⟩
        case measure => simp [RowKit.intOf]; omega
    · obtain rfl : k = n := by omega
      have hm1 : mapTo L k = L.map decP := by unfold mapTo; rw [List.take_of_length_le (by have := hn.out; omega), List.drop_eq_nil_of_le (by have := hn.out; omega), List.append_nil]
      have ho1 : outL (L.take k) = outL L := by rw [List.take_of_length_le (by have := hn.out; omega)]
      rw [hm1, ho1] at st
      have hol := outL_len L
      have hml : (L.map decP).length = k := by simpa using hn.out
      have rl0 : Rl wr r B T ((L.map decP).filter fun m => decide (m.1 ∉ ((outL L).map (·.1)).take 0)) (O ++ outL L) := by
        obtain ⟨aO5, cO5, x1, x2, x3, x4⟩ := st.ex
        rw [show ((L.map decP).filter fun m => decide (m.1 ∉ ((outL L).map (·.1)).take 0)) = L.map decP by simp]
        refine ⟨⟨aL, cL, aO5, cO5, by rw [hml]; exact x1, by rw [hml]; exact st.rowL, x2, fun q hq hq2 => x3 q hq2 (by rw [← hml]; exact hq)⟩, st.rB, Nat.le_trans st.Bw st.fr.size, by rw [hml]; exact lL, by have := hn.out; simp; omega⟩
      have tn0 : Tn w wr r B := by
        obtain ⟨aO5, cO5, x1, x2, x3, x4⟩ := st.ex
        exact Tn.of x1 (fun q hq => Or.inl (st.kL q hq).1) (fun q hq => by
          rcases Nat.lt_or_ge q w.heap.size with e | e
          · exact Or.inl (x4 q hq e)
          · exact Or.inr e)
      have ow0 := st.own
      have fr0 := st.fr
      clear st hb hro hap hto hm1 ho1 hml
      generalize hM : L.map decP = M at *
      replace hM := Lib.hid hM
      generalize hE : (outL L).map (·.1) = E at *
      have hEl : E.length ≤ 100000 := by have := hn.out; rw [← hE]; simp; omega
      generalize hO9 : O ++ outL L = O9 at *
      replace hE := Lib.hid hE
      replace hO9 := Lib.hid hO9
      obtain ⟨aE, cE, hvE⟩ := ownsRow_slice ow0
      subst hvE
      generalize hEn : E.length = nE at *
      replace hEn := Lib.hid hEn
      go_wp2_with fail
      clear d1
      go_loopw [5] (fun i wr => ∃ j : Nat, j ≤ nE ∧ i = .int .i64 j ∧ Rl wr r B T (M.filter fun m => decide (m.1 ∉ E.take j)) O9 ∧ wr.ownsRow w.heap.size 3 1 (.slice aE nE cE) nE (E.map (Value.int .i64)) ∧ Fr (touchL w r B) w wr ∧ Tn w wr r B) (fun i _ => nE - (RowKit.intOf i).toNat)
      case atStart => exact ⟨0, by omega, rfl, rl0, ow0, fr0, tn0⟩
      case round =>
        clear rl0 ow0 fr0 tn0
        obtain ⟨wr2, rfl⟩ : ∃ wr2 : World, wr2 = wr := ⟨_, rfl⟩
        obtain ⟨j, hj9, rfl, rl, ow, fr, tn⟩ := hrel
        by_cases hlt2 : j < nE
        · obtain ⟨x, hx⟩ : ∃ x, E[j]? = some x := ⟨_, List.getElem?_eq_getElem (by rw [hEn.out]; exact hlt2)⟩
          have hcellx : ∃ gg oo, aE = some ⟨gg, oo, none⟩ ∧ wr2.cell? ⟨gg, oo + j, none⟩ = some (.int .i64 x) := by
            obtain ⟨a6, c6, q1, q2, q3, q4⟩ := RdI.of_own ow
            cases q1
            obtain ⟨gg, oo, q5, q6⟩ := q4 j (by rw [hEn.out]; exact hlt2)
            refine ⟨gg, oo, q5, ?_⟩
            rw [q6]; simp [List.getD, hx]
          obtain ⟨gg, oo, rfl, ex⟩ := hcellx
          have hstep : (M.filter fun m => decide (m.1 ∉ E.take (j + 1))) = ((M.filter fun m => decide (m.1 ∉ E.take j)).filter fun m => decide (m.1 ≠ x)) := by
            rw [List.filter_filter]
            refine List.filter_congr fun m _ => ?_
            have hj2 : j < E.length := by rw [hEn.out]; exact hlt2
            rw [List.getElem?_eq_getElem hj2] at hx
            have hx2 : E[j] = x := by simpa using hx
            have ht : E.take (j + 1) = E.take j ++ [x] := by rw [List.take_succ_eq_append_getElem hj2, hx2]
            rw [ht]
            simp [not_or, and_comm]
          replace hstep := Lib.hid hstep
          replace hx := Lib.hid hx
          have hend := rend_any r B T x _ _ wr2 rl
          generalize (M.filter fun m => decide (m.1 ∉ E.take j)) = N at *
          go_wp2_with fail
          refine hend.mono ?_
          rintro e w5 ⟨rfl, rl5, f5, tn5⟩
          have tn6 := tn.trans tn5 fr.size
          have ow5 := ownsRow_fr ow f5 (fun q hq z => by have := (ow.lt q hq).1; have := rl.rB; unfold onlyB at z; omega)
          have fr5 : Fr (touchL w r B) w w5 := fr.trans f5 (fun _ _ q => q) (fun i hi q => Or.inl q)
          clear ow fr rl f5 ex hend tn tn5
          go_wp2_with fail
          go_roundw
          case rel => exact ⟨j + 1, by omega, by go_num, by rw [hstep.out]; exact rl5, ow5, fr5, tn6⟩
          case measure => simp [RowKit.intOf]; omega
        · obtain rfl : j = nE := by omega
          have hfin : (M.filter fun m => decide (m.1 ∉ E.take j)) = M.filter fun m => decide (m.1 ∉ E) := by rw [List.take_of_length_le (by have := hEn.out; omega)]
          rw [hfin] at rl
          clear hfin
          go_wp2_with fail
          go_ret
          exact ⟨_, rfl, by rw [hE.out, hEn.out]; exact ow, by rw [hE.out, hO9.out, hM.out]; exact rl, fr, tn⟩
end Go.Proofs.YtppmednmcbjafaaGreat.LR
end

section
set_option linter.unusedVariables false
set_option linter.unusedSimpArgs false
namespace Go.Proofs.YtppmednmcbjafaaGreat.LR
open Go.RowKit Go Go.Lib

theorem ticked_eq {H : List (Int × (Int × Int))} {O : List (Int × Int)} {nw : Int} {E : List Int} {O2 : List (Int × Int)} (h : Ticked H O nw E O2) {F : List Int} (hs : F.Pairwise (· ≤ ·)) (hn : F.Nodup) (hF : ∀ k, k ∈ F ↔ ∃ x, look H k = some x ∧ x.2 ≤ nw) : E = F :=
  sorted_eq h.es hs ((List.perm_ext_iff_of_nodup h.en hn).2 fun k => by rw [h.e k, hF k])
/-- a plain lease as a hold -/
def hOf (now : Int) (m : PL) : Int × (Int × Int) := (m.1, (m.2.1, now + m.2.2))
structure Sm (H : List (Int × (Int × Int))) (O : List (Int × Int)) (now T : Int) (L Ov : List PL) : Prop where
  so : L.Pairwise (fun a b => a.1 < b.1)
  hp : H.Perm (L.map (hOf now))
  lb : ∀ m ∈ L, 1 ≤ m.2.2 ∧ m.2.2 ≤ T
  ov : ∀ t, (look O t).getD 0 = lastL Ov t

theorem keys_nodup {L : List PL} (h : L.Pairwise (fun a b => a.1 < b.1)) (now : Int) : ((L.map (hOf now)).map (·.1)).Nodup := by
  rw [List.map_map]
  exact List.Pairwise.map _ (fun a b hab he => by simp only [Function.comp, hOf] at he; omega) h
theorem Sm.nodup {H : List (Int × (Int × Int))} {O : List (Int × Int)} {now T : Int} {L Ov : List PL} (h : Sm H O now T L Ov) : (H.map (·.1)).Nodup :=
  (h.hp.map _).nodup_iff.2 (keys_nodup h.so now)
theorem Sm.look_iff {H : List (Int × (Int × Int))} {O : List (Int × Int)} {now T : Int} {L Ov : List PL} (h : Sm H O now T L Ov) (k : Int) (x : Int × Int) : look H k = some x ↔ ∃ m ∈ L, m.1 = k ∧ x = (m.2.1, now + m.2.2) := by
  constructor
  · intro hl
    obtain ⟨m, hm, he⟩ := List.mem_map.1 (h.hp.mem_iff.1 (look_some hl))
    simp only [hOf, Prod.mk.injEq] at he
    exact ⟨m, hm, he.1, he.2.symm⟩
  · rintro ⟨m, hm, rfl, rfl⟩
    exact look_mem h.nodup (h.hp.mem_iff.2 (List.mem_map.2 ⟨m, hm, rfl⟩))
theorem uniq {L : List PL} (h : L.Pairwise (fun a b => a.1 < b.1)) {a b : PL} (ha : a ∈ L) (hb : b ∈ L) (e : a.1 = b.1) : a = b := by
  induction L with
  | nil => cases ha
  | cons x r ih =>
    rw [List.pairwise_cons] at h
    rcases List.mem_cons.1 ha with ea | ha
    · rcases List.mem_cons.1 hb with eb | hb
      · rw [ea, eb]
      · have := h.1 _ hb; rw [← ea] at this; omega
    · rcases List.mem_cons.1 hb with eb | hb
      · have := h.1 _ ha; rw [← eb] at this; omega
      · exact ih h.2 ha hb
theorem Sm.len {H : List (Int × (Int × Int))} {O : List (Int × Int)} {now T : Int} {L Ov : List PL} (h : Sm H O now T L Ov) : H.length = L.length := by
  have := h.hp.length_eq
  simpa using this
theorem Sm.of {H : List (Int × (Int × Int))} {O : List (Int × Int)} {now T : Int} {L Ov : List PL} (h : Sm H O now T L Ov) (t : Int) : (ofL L t).2.1 = ((look H t).getD (0, 0)).1 ∧ (ofL L t).2.2 = leftOf now (look H t) := by
  unfold ofL
  cases hf : L.find? (fun m => decide (m.1 = t)) with
  | none =>
    have hl : look H t = none := by
      cases hl : look H t with
      | none => rfl
      | some x =>
        obtain ⟨m, hm, he, _⟩ := (h.look_iff t x).1 hl
        have := List.find?_eq_none.1 hf m hm
        simp [he] at this
    rw [hl]; exact ⟨rfl, rfl⟩
  | some m =>
    have h1 := List.mem_of_find?_eq_some hf
    have h2 := List.find?_some hf
    simp at h2
    have hl := (h.look_iff t _).2 ⟨m, h1, h2, rfl⟩
    rw [hl]
    exact ⟨rfl, by simp only [leftOf, Option.getD_some]; omega⟩
theorem insL_cons (y : PL) (l : List PL) (x : PL) : insL (y :: l) x = if x.1 < y.1 then x :: y :: l else y :: insL l x := by
  unfold insL
  by_cases h : x.1 < y.1
  · simp [List.takeWhile_cons, List.dropWhile_cons, h]
  · simp [List.takeWhile_cons, List.dropWhile_cons, h]
theorem mem_insL {l : List PL} {x m : PL} : m ∈ insL l x ↔ m = x ∨ m ∈ l := by
  induction l with
  | nil => simp [insL]
  | cons y l ih =>
    rw [insL_cons]
    split
    · simp
    · simp only [List.mem_cons, ih]
      constructor
      · rintro (h | h | h)
        · exact Or.inr (Or.inl h)
        · exact Or.inl h
        · exact Or.inr (Or.inr h)
      · rintro (h | h | h)
        · exact Or.inr (Or.inl h)
        · exact Or.inl h
        · exact Or.inr (Or.inr h)
theorem insL_sorted {l : List PL} {x : PL} (h : l.Pairwise (fun a b => a.1 < b.1)) (hx : ∀ m ∈ l, m.1 ≠ x.1) : (insL l x).Pairwise (fun a b => a.1 < b.1) := by
  induction l with
  | nil => simp [insL]
  | cons y l ih =>
    rw [insL_cons]
    have hc := List.pairwise_cons.1 h
    split
    · rename_i hlt
      refine List.pairwise_cons.2 ⟨fun m hm => ?_, h⟩
      rcases List.mem_cons.1 hm with rfl | hm
      · exact hlt
      · have := hc.1 m hm; omega
    · rename_i hlt
      have hne := hx y (by simp)
      refine List.pairwise_cons.2 ⟨fun m hm => ?_, ih hc.2 (fun m hm => hx m (by simp [hm]))⟩
      rcases mem_insL.1 hm with rfl | hm
      · omega
      · exact hc.1 m hm
theorem Sm.grant {H : List (Int × (Int × Int))} {O : List (Int × Int)} {now T : Int} {L Ov : List PL} (h : Sm H O now T L Ov) (t j : Int) (hT : 1 ≤ T) : Sm (withKey H t (j, now + T)) O now T (insL (L.filter fun m => decide (m.1 ≠ t)) (t, j, T)) Ov := by
  have hs : (insL (L.filter fun m => decide (m.1 ≠ t)) (t, j, T)).Pairwise (fun a b => a.1 < b.1) :=
    insL_sorted (h.so.sublist List.filter_sublist) (fun m hm => by simpa using (List.mem_filter.1 hm).2)
  refine ⟨hs, perm_of_look (nodup_withKey h.nodup t _) (keys_nodup hs now) fun k => ?_, fun m hm => ?_, h.ov⟩
  · apply Option.ext
    intro x
    have h2 : look ((insL (L.filter fun m => decide (m.1 ≠ t)) (t, j, T)).map (hOf now)) k = some x ↔ ∃ m, (m = (t, j, T) ∨ (m ∈ L ∧ m.1 ≠ t)) ∧ hOf now m = (k, x) := by
      constructor
      · intro hl
        obtain ⟨m, hm, he⟩ := List.mem_map.1 (look_some hl)
        refine ⟨m, ?_, he⟩
        rcases mem_insL.1 hm with rfl | hm
        · exact Or.inl rfl
        · exact Or.inr ⟨(List.mem_filter.1 hm).1, by simpa using (List.mem_filter.1 hm).2⟩
      · rintro ⟨m, hm, he⟩
        refine look_mem (keys_nodup hs now) (List.mem_map.2 ⟨m, ?_, he⟩)
        rcases hm with rfl | hm
        · exact mem_insL.2 (Or.inl rfl)
        · exact mem_insL.2 (Or.inr (List.mem_filter.2 ⟨hm.1, by simpa using hm.2⟩))
    rw [h2]
    by_cases hk : k = t
    · subst hk
      rw [look_withKey_same]
      constructor
      · intro he; cases he; exact ⟨_, Or.inl rfl, rfl⟩
      · rintro ⟨m, hm, he⟩
        rcases hm with rfl | ⟨_, hm⟩
        · simp only [hOf, Prod.mk.injEq, true_and] at he; rw [← he]
        · simp only [hOf, Prod.mk.injEq] at he; exact absurd he.1 hm
    · rw [look_withKey_other _ _ hk, h.look_iff]
      constructor
      · rintro ⟨m, hm, he, hx⟩
        exact ⟨m, Or.inr ⟨hm, by omega⟩, by simp [hOf, he, hx]⟩
      · rintro ⟨m, hm, he⟩
        simp only [hOf, Prod.mk.injEq] at he
        rcases hm with rfl | ⟨hm, _⟩
        · exact absurd he.1.symm hk
        · exact ⟨m, hm, he.1, he.2.symm⟩
  · rcases mem_insL.1 hm with rfl | hm
    · simp only; omega
    · exact h.lb m (List.mem_filter.1 hm).1
theorem Sm.stop {H : List (Int × (Int × Int))} {O : List (Int × Int)} {now T : Int} {L Ov : List PL} (h : Sm H O now T L Ov) (t : Int) : Sm (without H t) O now T (L.filter fun m => decide (m.1 ≠ t)) Ov := by
  have hs : (L.filter fun m => decide (m.1 ≠ t)).Pairwise (fun a b => a.1 < b.1) := h.so.sublist List.filter_sublist
  refine ⟨hs, ?_, fun m hm => h.lb m (List.mem_filter.1 hm).1, h.ov⟩
  unfold without
  refine (h.hp.filter _).trans (List.Perm.of_eq ?_)
  rw [List.filter_map]
  rfl
theorem lastL_append (O R : List PL) (t : Int) : lastL (O ++ R) t = R.foldl (fun n m => if m.1 = t ∧ n < m.2.1 then m.2.1 else n) (lastL O t) := by
  unfold lastL
  rw [List.foldl_append]
theorem fold_last {R : List PL} (h : R.Pairwise (fun a b => a.1 < b.1)) (t n : Int) : R.foldl (fun n m => if m.1 = t ∧ n < m.2.1 then m.2.1 else n) n = match R.find? (fun m => decide (m.1 = t)) with | none => n | some m => max m.2.1 n := by
  induction R generalizing n with
  | nil => rfl
  | cons y R ih =>
    have hc := List.pairwise_cons.1 h
    rw [List.foldl_cons, ih hc.2, List.find?_cons]
    by_cases hy : y.1 = t
    · have hn : R.find? (fun m => decide (m.1 = t)) = none := by
        rw [List.find?_eq_none]
        intro m hm
        have := hc.1 m hm
        simp; omega
      rw [hn]
      simp only [hy, decide_true]
      simp only [true_and]
      rw [Int.max_def]
      split <;> split <;> omega
    · simp [hy]
theorem dec_fst (m : PL) : (decP m).1 = m.1 := rfl
theorem mem_outL {L : List PL} {m : PL} : m ∈ outL L ↔ ∃ a ∈ L, a.2.2 = 1 ∧ m = decP a := by
  unfold outL
  rw [List.mem_filter, List.mem_map]
  constructor
  · rintro ⟨⟨a, ha, rfl⟩, h⟩
    refine ⟨a, ha, ?_, rfl⟩
    have h2 := of_decide_eq_true h
    simp only [decP] at h2; omega
  · rintro ⟨a, ha, h, rfl⟩
    exact ⟨⟨a, ha, rfl⟩, by simp [decP, h]⟩
theorem dec_sorted {L : List PL} (h : L.Pairwise (fun a b => a.1 < b.1)) : (L.map decP).Pairwise (fun a b => a.1 < b.1) := List.Pairwise.map _ (fun a b hab => hab) h
theorem Sm.tick {H : List (Int × (Int × Int))} {O O2 : List (Int × Int)} {now T : Int} {L Ov : List PL} {E : List Int} (h : Sm H O now T L Ov) (ht : Ticked H O (now + 1) E O2) :
    E = (outL L).map (·.1) ∧ Sm (goneOf H (now + 1)) O2 (now + 1) T ((L.map decP).filter fun m => decide (m.1 ∉ (outL L).map (·.1))) (Ov ++ outL L) := by
  have hos : (outL L).Pairwise (fun a b => a.1 < b.1) := (dec_sorted h.so).sublist List.filter_sublist
  have hE : E = (outL L).map (·.1) := by
    refine ticked_eq ht (List.Pairwise.map _ (fun a b hab => by omega) hos) (List.Pairwise.map _ (fun a b hab he => by omega) hos) fun k => ?_
    constructor
    · intro hk
      obtain ⟨m, hm, rfl⟩ := List.mem_map.1 hk
      obtain ⟨a, ha, h1, rfl⟩ := mem_outL.1 hm
      exact ⟨_, (h.look_iff a.1 _).2 ⟨a, ha, rfl, rfl⟩, by simp only; omega⟩
    · rintro ⟨x, hx, hx2⟩
      obtain ⟨m, hm, rfl, rfl⟩ := (h.look_iff k x).1 hx
      have := h.lb m hm
      simp only at hx2
      exact List.mem_map.2 ⟨decP m, mem_outL.2 ⟨m, hm, by omega, rfl⟩, rfl⟩
  have hin : ∀ m ∈ L, m.1 ∈ (outL L).map (·.1) ↔ m.2.2 = 1 := fun m hm => by
    constructor
    · intro hk
      obtain ⟨q, hq, he⟩ := List.mem_map.1 hk
      obtain ⟨a, ha, h1, rfl⟩ := mem_outL.1 hq
      rw [← uniq h.so ha hm he]; exact h1
    · intro h1
      exact List.mem_map.2 ⟨decP m, mem_outL.2 ⟨m, hm, h1, rfl⟩, rfl⟩
  have hs : ((L.map decP).filter fun m => decide (m.1 ∉ (outL L).map (·.1))).Pairwise (fun a b => a.1 < b.1) := (dec_sorted h.so).sublist List.filter_sublist
  refine ⟨hE, hs, perm_of_look (h.nodup.sublist (List.Sublist.map _ List.filter_sublist)) (keys_nodup hs _) fun k => ?_, fun m hm => ?_, fun t => ?_⟩
  · apply Option.ext
    intro x
    rw [look_gone h.nodup, h.look_iff]
    constructor
    · rintro ⟨⟨m, hm, rfl, rfl⟩, hlt⟩
      refine look_mem (keys_nodup hs _) (List.mem_map.2 ⟨decP m, List.mem_filter.2 ⟨List.mem_map_of_mem hm, ?_⟩, ?_⟩)
      · exact decide_eq_true (fun hc => by have := (hin m hm).1 hc; simp only at hlt; omega)
      · simp only [hOf, decP, Prod.mk.injEq, true_and]; omega
    · intro hl
      obtain ⟨q, hq, he⟩ := List.mem_map.1 (look_some hl)
      obtain ⟨hq1, hq2⟩ := List.mem_filter.1 hq
      obtain ⟨m, hm, rfl⟩ := List.mem_map.1 hq1
      have hq3 := of_decide_eq_true hq2
      have hq4 : m.2.2 ≠ 1 := fun h1 => hq3 ((hin m hm).2 h1)
      have := h.lb m hm
      simp only [hOf, decP, Prod.mk.injEq] at he
      exact ⟨⟨m, hm, he.1, by rw [← he.2]; simp; omega⟩, by rw [← he.2]; simp; omega⟩
  · obtain ⟨hq1, hq2⟩ := List.mem_filter.1 hm
    obtain ⟨a, ha, rfl⟩ := List.mem_map.1 hq1
    have hq3 := of_decide_eq_true hq2
    have hq4 : a.2.2 ≠ 1 := fun h1 => hq3 ((hin a ha).2 h1)
    have := h.lb a ha
    simp only [decP]; omega
  · rw [ht.o t, lastL_append, fold_last hos, hE]
    cases hf : (outL L).find? (fun m => decide (m.1 = t)) with
    | none =>
      have : t ∉ (outL L).map (·.1) := by
        intro hk
        obtain ⟨m, hm, he⟩ := List.mem_map.1 hk
        have := List.find?_eq_none.1 hf m hm
        simp [he] at this
      rw [if_neg this, h.ov t]
    | some m =>
      have h1 := List.mem_of_find?_eq_some hf
      have h2 : m.1 = t := by simpa using List.find?_some hf
      rw [if_pos (List.mem_map.2 ⟨m, h1, h2⟩), h.ov t]
      obtain ⟨a, ha, h3, rfl⟩ := mem_outL.1 h1
      have hl := (h.look_iff t _).2 ⟨a, ha, h2, rfl⟩
      simp only [jobOf, hl, Option.getD_some, decP]
end Go.Proofs.YtppmednmcbjafaaGreat.LR
end

section
set_option linter.unusedVariables false
set_option linter.unusedSimpArgs false
set_option maxRecDepth 100000
namespace Go.Proofs.YtppmednmcbjafaaGreat
open Go.RowKit Go Go.Lib

theorem own_apartm {w : World} {B B' e e' k k' n m : Nat} {v u : Value} {xs ys : List Value} (h : w.ownsRow B e k v n xs) (h' : w.ownsRow B' e' k' u m ys) (he : e ≠ e') : ∀ g, v.ownBlock = some g → ¬ rowB u g := by
  intro g hg q
  unfold rowB at q
  rcases h.2 with ⟨rfl, _⟩ | ⟨g1, cap, cur, rfl, _, hh, _⟩
  · simp [Value.ownBlock] at hg
  rcases h'.2 with ⟨rfl, _⟩ | ⟨g2, cap2, cur2, rfl, _, hh2, _⟩
  · simp [Value.ownBlock] at q
  simp [Value.ownBlock] at hg q
  subst hg
  subst q
  rw [hh] at hh2
  simp only [Option.some.injEq, Obj.cells.injEq] at hh2
  exact he hh2.2.1
/-- a part, and where its crumbs lie -/
structure PU where
  p : Pn
  a : Option Addr
  c : Nat
def PU.v (q : PU) : Value := .slice q.a q.p.cr.length q.c
def PU.cs (q : PU) : List Value := pnC q.p q.v
theorem PU.len (P : List PU) : (P.flatMap PU.cs).length = P.length * 6 := by
  induction P with
  | nil => rfl
  | cons s L ih =>
    rw [List.flatMap_cons, List.length_append, ih, List.length_cons]
    simp [PU.cs, pnC]
    omega
theorem PU.get : ∀ (L : List PU) (i q : Nat) (m : PU), L[i]? = some m → q < 6 → (L.flatMap PU.cs)[i * 6 + q]? = m.cs[q]?
  | [], i, q, m, h, _ => by simp at h
  | x :: r, 0, q, m, h, hq => by
    simp at h; subst h
    rw [List.flatMap_cons, List.getElem?_append_left (by simp [PU.cs, pnC]; omega)]
    congr 1; omega
  | x :: r, i + 1, q, m, h, hq => by
    have hl : x.cs.length = 6 := rfl
    rw [List.flatMap_cons, List.getElem?_append_right (by rw [hl]; omega), hl, show (i + 1) * 6 + q - 6 = i * 6 + q by omega]
    exact PU.get r i q m (by simpa using h) hq
def OwnPU (w : World) (B : Nat) (P : List PU) : Prop := ∀ q ∈ P, w.ownsRow B 3 1 q.v q.p.cr.length (q.p.cr.map (Value.int .i64))
theorem OwnPU.fr {w w' : World} {B : Nat} {S : Nat → Prop} {P : List PU} (h : OwnPU w B P) (f : Fr S w w') (hS : ∀ q ∈ P, ∀ g, q.v.ownBlock = some g → ¬ S g) : OwnPU w' B P := fun p hp => ownsRow_fr (h p hp) f (hS p hp)
theorem RdPs.of_own {w : World} {B n : Nat} {v : Value} {P : List PU} {ps : List Pn} (h : w.ownsRow B 133 6 v n (P.flatMap PU.cs)) (ho : OwnPU w B P) (hp : P.map PU.p = ps) (hn : P.length = n) (hb : n ≤ 1000000) : RdPs w v ps := by
  have hl : ps.length = n := by rw [← hp, List.length_map]; exact hn
  rcases h.2 with ⟨rfl, h1⟩ | ⟨g, cap, cur, rfl, hb, hg, hnc, hcm, hcs, htake⟩
  · refine ⟨none, 0, by rw [hl, h1], by omega, by omega, fun i p hi => ?_⟩
    rw [List.eq_nil_of_length_eq_zero (by omega : ps.length = 0)] at hi
    simp at hi
  · refine ⟨_, cap, by rw [hl], by omega, by omega, fun i p hi => ?_⟩
    rw [← hp, List.getElem?_map] at hi
    cases hq : P[i]? with
    | none => rw [hq] at hi; cases hi
    | some u =>
      rw [hq] at hi
      simp at hi
      subst hi
      refine ⟨g, 0, u.a, u.c, rfl, fun q x hx => ?_, RdI.of_own (ho u (List.mem_of_getElem? hq))⟩
      have hq6 : q < 6 := (List.getElem?_eq_some_iff.1 hx).1
      have h2 := PU.get P i q u hq hq6
      have h3 := h.cells (g := g) rfl (i * 6 + q) x (by rw [h2]; exact hx)
      rw [add_none] at h3
      exact h3
theorem Tryz.infoPinned : (Tryz.prog.info? 133).map (fun i => (i.zero, i.size, i.bytes)) = some (some (.agg #[.int .i64 0, .int .i64 0, .int .i64 0, .int .i64 0, .slice none 0 0, .bool false]), 6, 64) := by kernel_rfl
theorem pu_one (q : PU) : ∀ u ∈ q.cs, u.oneCell' = true := by
  intro u hu
  unfold PU.cs pnC PU.v at hu
  simp only [List.mem_cons, List.not_mem_nil, or_false] at hu
  rcases hu with rfl | rfl | rfl | rfl | rfl | rfl <;> rfl

end Go.Proofs.YtppmednmcbjafaaGreat
end

section
set_option linter.unusedVariables false
set_option linter.unusedSimpArgs false
set_option maxRecDepth 100000
namespace Go.Proofs.YtppmednmcbjafaaGreat
open Go.RowKit Go Go.Maps Go.Lib

theorem row_not {w : World} {B n g : Nat} {e t : TypeId} {k : Nat} {v : Value} {xs cs : List Value} (h : w.ownsRow B e k v n xs) (hb : Blk w g t cs) (ht : t ≠ e) : ¬ rowB v g := by
  intro q
  rcases h.2 with ⟨rfl, _⟩ | ⟨g', cap, cur, rfl, _, hh, _⟩
  · simp [rowB, Value.ownBlock] at q
  · simp [rowB, Value.ownBlock] at q
    subst q
    unfold Blk at hb
    rw [hb] at hh
    simp only [Option.some.injEq, Obj.cells.injEq] at hh
    exact ht hh.2.1
theorem news_at (w : World) (t : TypeId) (cs : List Value) : ∀ j u, cs[j]? = some u → (w.alloc (.cells cs.toArray t)).cell? ((⟨w.heap.size, 0, none⟩ : Addr).add j) = some u := by
  intro j u hj
  rw [add_none, (Blk.new w t cs).cell, Nat.zero_add]
  exact hj
theorem there6m {w : World} {g i n : Nat} {t : TypeId} {cs : List Value} (h : Blk w g t cs) (hn : i + n ≤ cs.length) : w.there g i n := fun j hj => by
  refine ⟨?_, Blk.frozen h _⟩
  rw [h.cell (i + j), List.getElem?_eq_getElem (by omega)]; rfl
theorem size_alloc (w : World) (o : Obj) : (w.alloc o).heap.size = w.heap.size + 1 := by simp
end Go.Proofs.YtppmednmcbjafaaGreat
end

section
set_option linter.unusedVariables false
set_option linter.unusedSimpArgs false
set_option maxRecDepth 100000
namespace Go.Proofs.YtppmednmcbjafaaGreat
open Go.RowKit Go Go.Lib

/-- a whole block is written over -/
theorem setCells_blk : ∀ (vs : List Value) (w : World) (g i : Nat) (t : TypeId) (cs : List Value), Blk w g t cs → i + vs.length ≤ cs.length → Blk (w.setCells g i vs) g t (cs.take i ++ vs ++ cs.drop (i + vs.length))
  | [], w, g, i, t, cs, h, _ => by simpa [World.setCells] using h
  | v :: vs, w, g, i, t, cs, h, hl => by
    simp only [World.setCells]
    rw [List.length_cons] at hl
    have h1 := setCells_blk vs (w.setCell ⟨g, i, none⟩ v) g (i + 1) t (cs.set i v) (h.set i v) (by rw [List.length_set]; omega)
    have e : (cs.set i v).take (i + 1) ++ vs ++ (cs.set i v).drop (i + 1 + vs.length) = cs.take i ++ (v :: vs) ++ cs.drop (i + (v :: vs).length) := by
      rw [List.take_add_one, List.take_set_of_le (Nat.le_refl _), List.getElem?_set_self (by omega), List.drop_set_of_lt (by omega), List.length_cons, show i + (vs.length + 1) = i + 1 + vs.length by omega]
      simp
    rw [e] at h1
    exact h1
theorem setCells_fr : ∀ (vs : List Value) (w : World) (g i : Nat), Fr (onlyB g) w (w.setCells g i vs)
  | [], w, g, i => by simpa [World.setCells] using Fr.refl _ _
  | v :: vs, w, g, i => by
    simp only [World.setCells]
    exact (((Fr.refl (onlyB g) w).store rfl)).trans (setCells_fr vs _ g (i + 1)) (fun _ _ q => q) (fun _ _ q => q)
theorem store_all (w : World) (g : Nat) (vs : Array Value) : ∃ w2, w2 = w.setCells g 0 vs.toList ∧ Fr (onlyB g) w w2 ∧ ∀ t cs, Blk w g t cs → cs.length = vs.size → Blk w2 g t vs.toList :=
  ⟨_, rfl, setCells_fr _ _ _ _, fun t cs h hl => by
    have h1 := setCells_blk vs.toList w g 0 t cs h (by simp [hl])
    have e : cs.take 0 ++ vs.toList ++ cs.drop (0 + vs.toList.length) = vs.toList := by
      rw [List.take_zero, List.nil_append, List.drop_eq_nil_of_le (by simp [hl]), List.append_nil]
    rw [e] at h1
    exact h1⟩
theorem RdPs.of_rd {w : World} {B n : Nat} {e : TypeId} {v : Value} {P : List PU} {ps : List Pn} (h : w.ownsRow B e 6 v n (P.flatMap PU.cs)) (ho : ∀ q ∈ P, RdI w q.v q.p.cr) (hp : P.map PU.p = ps) (hn : P.length = n) (hb : n ≤ 1000000) : RdPs w v ps := by
  have hl : ps.length = n := by rw [← hp, List.length_map]; exact hn
  rcases h.2 with ⟨rfl, h1⟩ | ⟨g, cap, cur, rfl, hb, hg, hnc, hcm, hcs, htake⟩
  · refine ⟨none, 0, by rw [hl, h1], by omega, by omega, fun i p hi => ?_⟩
    rw [List.eq_nil_of_length_eq_zero (by omega : ps.length = 0)] at hi
    simp at hi
  · refine ⟨_, cap, by rw [hl], by omega, by omega, fun i p hi => ?_⟩
    rw [← hp, List.getElem?_map] at hi
    cases hq : P[i]? with
    | none => rw [hq] at hi; cases hi
    | some u =>
      rw [hq] at hi
      simp at hi
      subst hi
      refine ⟨g, 0, u.a, u.c, rfl, fun q x hx => ?_, ho u (List.mem_of_getElem? hq)⟩
      have hq6 : q < 6 := (List.getElem?_eq_some_iff.1 hx).1
      have h2 := PU.get P i q u hq hq6
      have h3 := h.cells (g := g) rfl (i * 6 + q) x (by rw [h2]; exact hx)
      rw [add_none] at h3
      exact h3
theorem Tryz.infoPart : (Tryz.prog.info? 69).map (fun i => (i.zero, i.size, i.bytes)) = some (some (.agg #[.int .i64 0, .int .i64 0, .int .i64 0, .int .i64 0, .slice none 0 0, .bool false]), 6, 64) := by kernel_rfl
theorem size_msg : (Tryz.prog.info? 73).map (·.size) = some 15 := by kernel_rfl
theorem mr_one (m : MR) : ((mrC m).toArray).all (·.oneCell') = true :=
  all_oneCell_toArray (cs := mrC m) (fun v hv => by
    unfold mrC at hv
    simp only [List.mem_cons, List.not_mem_nil, or_false] at hv
    rcases hv with rfl | rfl | rfl | rfl | rfl | rfl | rfl | rfl | rfl | rfl | rfl | rfl | rfl | rfl | rfl <;> rfl)

theorem part_fr (a t j n : Int) (ua : Option Addr) (un uc : Nat) (lo : Bool) (w : World) :
    Calls Tryz.prog 72 #[.agg #[.int .i64 a, .int .i64 t, .int .i64 j, .int .i64 n, .slice ua un uc, .bool lo]] w fun e w' => e = .returned (.agg #[.int .i64 a, .int .i64 t, .int .i64 j, .int .i64 n, .slice ua un uc, .bool lo]) ∧ Fr noB w w' := by
  refine (part_is a t j n ua un uc lo w).mono ?_
  rintro e w' ⟨rfl, rfl⟩
  exact ⟨rfl, by first | exact (((Fr.refl _ _).alloc _).alloc _) | exact (Fr.refl _ _).alloc _⟩
set_option maxHeartbeats 2000000 in
theorem like_Manifest (t j c : Int) (v : Value) (ps : List Pn) (w : World) (hv : RdPs w v ps) (hl : ps.length ≤ 100) :
    Calls Tryz.prog 25 #[mManifest t j c v] w fun e w' => ∃ a cc, e = .returned (mrV { k := 7, t := t, j := j, c := c, qa := a, qn := ps.length, qc := cc }) ∧ RdPs w' (.slice a ps.length cc) ps ∧ Fr noB w w' := by
  obtain ⟨i0, hi, hz0, hz1, hz2⟩ := info_parts Tryz.infoPart
  have hget : ∀ k, k < ps.length → ∃ m, ps[k]? = some m := fun k hk => ⟨ps[k], List.getElem?_eq_getElem hk⟩
  have hv0 := hv
  obtain ⟨sa, sc, rfl, hx1, hx2, hx3⟩ := hv
  obtain ⟨N, hN⟩ : ∃ N, ps.length = N := ⟨_, rfl⟩
  obtain ⟨B, hB⟩ : ∃ B, w.heap.size = B := ⟨_, rfl⟩
  rw [hN] at hget hx1 hx2 hl ⊢
  unfold mManifest
  have b0 := Blk.new w 73 (mrC {})
  have f0 : Fr noB w (w.alloc (.cells (mrC {}).toArray 73)) := (Fr.refl _ w).alloc _
  have hs1 : (w.alloc (.cells (mrC {}).toArray 73)).heap.size = B + 1 := by rw [size_alloc, hB]
  rw [hB] at b0
  unfold mrC at b0 f0 hs1
  have q0 := as_Manifest_Trigger
  have q1 := as_Manifest_Pin
  have q2 := as_Manifest_Pinned
  have q3 := as_Manifest_Gone
  have q4 := as_Manifest_Collect
  have q5 := as_Manifest_Chunk
  have q6 := as_Manifest_Manifest
  have hpart := fun (p : Pn) ua cl uc w' => part_fr p.a p.t p.j p.n ua cl uc p.lo w'
  replace hpart := Lib.hid hpart
  go_enter Tryz.func25, Tryz.ntmps25
  go_wp2_with fail
  generalize (w.alloc (.cells #[.int .i64 0, .int .i64 0, .int .i64 0, .int .i64 0, .int .i64 0, .int .i64 0, .int .i64 0, .int .i64 0, .int .i64 0, .int .i64 0, .int .i64 0, .slice none 0 0, .bool false, .slice none 0 0, .slice none 0 0] 73)) = w1 at *
  have bm := Blk.new w1 141 [.int .i64 t, .int .i64 j, .int .i64 c, .slice sa N sc]
  have f1 : Fr noB w1 (w1.alloc (.cells #[.int .i64 t, .int .i64 j, .int .i64 c, .slice sa N sc] 141)) := (Fr.refl _ _).alloc _
  have hs2 : (w1.alloc (.cells #[.int .i64 t, .int .i64 j, .int .i64 c, .slice sa N sc] 141)).heap.size = B + 2 := by rw [size_alloc, hs1]
  rw [hs1] at bm
  have b02 := f1.blk b0 (fun q => q)
  generalize (w1.alloc (.cells #[.int .i64 t, .int .i64 j, .int .i64 c, .slice sa N sc] 141)) = w2 at *
  have own3 := own_new w2 69 [] 6 0 rfl (Nat.zero_le _)
  have f3 : Fr noB w2 (w2.alloc (.cells #[] 69)) := (Fr.refl _ _).alloc _
  have b03 := f3.blk b02 (fun q => q)
  have bm3 := f3.blk bm (fun q => q)
  rw [hs2] at own3
  have fr3 := (f0.seqN f1).seqN f3
  have own3b := ownsRow_mono own3 (show B ≤ B + 2 by omega)
  replace hv0 := Lib.hid hv0
  replace hx3 := Lib.hid hx3
  replace hget := Lib.hid hget
  replace hN := Lib.hid hN
  clear b0 f0 b02 bm f1 f3 own3 q0 q1 q2 q3 q4 q5 q6
  go_loopg [10, 82] N (fun gk vl vi wr => ∃ (k : Nat) (P : List PU), k + gk = N ∧ vi = .int .i64 k ∧ Hid (P.map PU.p = ps.take k) ∧ Hid (P.length = k) ∧ Hid (∀ q ∈ P, RdI w q.v q.p.cr) ∧ Hid (wr.ownsRow B 69 6 vl k (P.flatMap PU.cs)) ∧ Hid (Blk wr B 73 [.int .i64 0, .int .i64 0, .int .i64 0, .int .i64 0, .int .i64 0, .int .i64 0, .int .i64 0, .int .i64 0, .int .i64 0, .int .i64 0, .int .i64 0, .slice none 0 0, .bool false, .slice none 0 0, .slice none 0 0]) ∧ Hid (Blk wr (B + 1) 141 [.int .i64 t, .int .i64 j, .int .i64 c, .slice sa N sc]) ∧ Fr noB w wr)
  case atStart => exact ⟨0, [], by omega, by first | rfl | trivial, Lib.hid rfl, Lib.hid rfl, Lib.hid (fun q hq => by simp at hq), Lib.hid own3b, Lib.hid b03, Lib.hid bm3, fr3⟩
  case round =>
    clear own3b b03 bm3 fr3 hs1 hs2
    obtain ⟨k, P, hkn, rfl, hPf, hPl, hPr, hown, hb0, hbm, fr⟩ := hrel
    by_cases hlt : k < N
    · obtain ⟨p, hs⟩ := hget.out k hlt
      obtain ⟨g', o, ua, uc, rfl, hc, hri2⟩ := hx3.out k p hs
      have c0 : wr.cell? ⟨g', o + k * 6, none⟩ = some (.int .i64 p.a) := fr.cell (hc 0 _ rfl) (fun q => q)
      have c1 : wr.cell? ⟨g', o + k * 6 + 1, none⟩ = some (.int .i64 p.t) := fr.cell (hc 1 _ rfl) (fun q => q)
      have c2 : wr.cell? ⟨g', o + k * 6 + 2, none⟩ = some (.int .i64 p.j) := fr.cell (hc 2 _ rfl) (fun q => q)
      have c3 : wr.cell? ⟨g', o + k * 6 + 3, none⟩ = some (.int .i64 p.n) := fr.cell (hc 3 _ rfl) (fun q => q)
      have c4 : wr.cell? ⟨g', o + k * 6 + 4, none⟩ = some (.slice ua p.cr.length uc) := fr.cell (hc 4 _ rfl) (fun q => q)
      have c5 : wr.cell? ⟨g', o + k * 6 + 5, none⟩ = some (.bool p.lo) := fr.cell (hc 5 _ rfl) (fun q => q)
      have hb1 : (k : Int) < N := by omega
      have hmeas : N - (k + 1) < gk := by omega
      have hkn2 : k + 1 + (N - (k + 1)) = N := by omega
      have hk1 : k ≤ 100 := by omega
      have hBr : B ≤ wr.heap.size := by have := fr.size; omega
      obtain ⟨cl, hcl⟩ : ∃ cl, p.cr.length = cl := ⟨_, rfl⟩
      have hpu : PU.cs (PU.mk p ua uc) = [.int .i64 p.a, .int .i64 p.t, .int .i64 p.j, .int .i64 p.n, .slice ua p.cr.length uc, .bool p.lo] := rfl
      have hri3 : RdI w (PU.v (PU.mk p ua uc)) p.cr := hri2
      rw [hcl] at c4 hpu
      have fA : Fr noB wr (wr.alloc (.cells #[.int .i64 p.a, .int .i64 p.t, .int .i64 p.j, .int .i64 p.n, .slice ua cl uc, .bool p.lo] 133)) := (Fr.refl _ _).alloc _
      have hpp := hpart.out p ua cl uc (wr.alloc (.cells #[.int .i64 p.a, .int .i64 p.t, .int .i64 p.j, .int .i64 p.n, .slice ua cl uc, .bool p.lo] 133))
      replace hpp := Lib.hid hpp
      replace hri3 := Lib.hid hri3
      replace hpu := Lib.hid hpu
      replace hs := Lib.hid hs
      replace hcl := Lib.hid hcl
      replace hmeas := Lib.hid hmeas
      replace hkn2 := Lib.hid hkn2
      clear hc hri2 hkn hlt
      go_wp2_with fail
      go_fit hpp.out
      rintro e w4 ⟨rfl, f4⟩
      have f5 : Fr noB w4 (w4.alloc (.cells #[.int .i64 p.a, .int .i64 p.t, .int .i64 p.j, .int .i64 p.n, .slice ua cl uc, .bool p.lo] 69)) := (Fr.refl _ _).alloc _
      have f45 := (fA.seqN f4).seqN f5
      have ow5 := ownsRow_fr hown.out f45 (fun _ _ q => q)
      have b05 := f45.blk hb0.out (fun q => q)
      have bm5 := f45.blk hbm.out (fun q => q)
      have hB5 : B ≤ (w4.alloc (.cells #[.int .i64 p.a, .int .i64 p.t, .int .i64 p.j, .int .i64 p.n, .slice ua cl uc, .bool p.lo] 69)).heap.size := by have := f45.size; omega
      have b6 := news_at w4 69 [.int .i64 p.a, .int .i64 p.t, .int .i64 p.j, .int .i64 p.n, .slice ua cl uc, .bool p.lo]
      replace b05 := Lib.hid b05
      replace bm5 := Lib.hid bm5
      clear hpp fA f4 f5
      go_wp2_with (first
        | (at_builtin; go_must (refine wpList_append_at _ rfl (.tmp 86) (.tmp 89) 70 rfl B 69 i0 _ 6 64 Tryz.underlying70 hi hz0 hz1 hz2 rfl (by decide) _ k _ rfl ow5 ⟨w4.heap.size, 0, none⟩ 1 1 [.int .i64 p.a, .int .i64 p.t, .int .i64 p.j, .int .i64 p.n, .slice ua cl uc, .bool p.lo] rfl rfl b6 (by intro u hu; simp only [List.mem_cons, List.not_mem_nil, or_false] at hu; rcases hu with rfl | rfl | rfl | rfl | rfl | rfl <;> rfl) ?_ ?_ hB5 ?_))
        | fail)
      · unfold maxLen; omega
      · omega
      intro v8 w8 o8 gr8 _
      have f8 : Fr (rowB u10) (w4.alloc (.cells #[.int .i64 p.a, .int .i64 p.t, .int .i64 p.j, .int .i64 p.n, .slice ua cl uc, .bool p.lo] 69)) w8 := (Fr.refl _ _).grown gr8 (fun k hk _ => hk)
      have b08 := f8.blk b05.out (row_not ow5 b05.out (by decide))
      have bm8 := f8.blk bm5.out (row_not ow5 bm5.out (by decide))
      have fr8 : Fr noB w w8 := (fr.seqN f45).trans f8 (fun _ _ q => q) (fun i hi q => by have := (hown.out.lt i q).1; omega)
      rw [show P.flatMap PU.cs ++ [.int .i64 p.a, .int .i64 p.t, .int .i64 p.j, .int .i64 p.n, .slice ua cl uc, .bool p.lo] = (P ++ [PU.mk p ua uc]).flatMap PU.cs by rw [List.flatMap_append, ← hpu.out]; simp] at o8
      have hPf2 : (P ++ [PU.mk p ua uc]).map PU.p = ps.take (k + 1) := by rw [List.map_append, hPf.out, List.take_add_one, hs.out]; rfl
      have hPl2 : (P ++ [PU.mk p ua uc]).length = k + 1 := by rw [List.length_append, hPl.out]; rfl
      have hPr2 : ∀ q ∈ P ++ [PU.mk p ua uc], RdI w q.v q.p.cr := fun q hq => by
        rcases List.mem_append.1 hq with hq | hq
        · exact hPr.out q hq
        · simp at hq; subst hq; exact hri3.out
      replace o8 := Lib.hid o8
      replace b08 := Lib.hid b08
      replace bm8 := Lib.hid bm8
      replace hPf2 := Lib.hid hPf2
      replace hPl2 := Lib.hid hPl2
      replace hPr2 := Lib.hid hPr2
      clear gr8 f8 f45 ow5 b05 bm5 b6 hB5
      go_wp2_with fail
      go_roundg (N - (k + 1))
      case rel => exact ⟨k + 1, P ++ [PU.mk p ua uc], hkn2.out, by go_num, hPf2, hPl2, hPr2, o8, b08, bm8, fr8⟩
      case measure => exact hmeas.out
    · obtain rfl : k = N := by omega
      obtain ⟨qa, qc, rfl⟩ := ownsRow_slice hown.out
      have d0 : wr.cell? ⟨B + 1, 0, none⟩ = some (.int .i64 t) := hbm.out.cell 0
      have d1 : wr.cell? ⟨B + 1, 1, none⟩ = some (.int .i64 j) := hbm.out.cell 1
      have d2 : wr.cell? ⟨B + 1, 2, none⟩ = some (.int .i64 c) := hbm.out.cell 2
      have t1a : Hid (wr.there B 0 (#[.int .i64 7, .int .i64 0, .int .i64 t, .int .i64 j, .int .i64 c, .int .i64 0, .int .i64 0, .int .i64 0, .int .i64 0, .int .i64 0, .int .i64 0, .slice none 0 0, .bool false, .slice qa k qc, .slice none 0 0] : Array Value).size) := Lib.hid (there6m hb0.out (by simp))
      have hsz : (Tryz.prog.info? 73).map (·.size) = some (#[.int .i64 7, .int .i64 0, .int .i64 t, .int .i64 j, .int .i64 c, .int .i64 0, .int .i64 0, .int .i64 0, .int .i64 0, .int .i64 0, .int .i64 0, .slice none 0 0, .bool false, .slice qa k qc, .slice none 0 0] : Array Value).size := size_msg
      have hon : (#[.int .i64 7, .int .i64 0, .int .i64 t, .int .i64 j, .int .i64 c, .int .i64 0, .int .i64 0, .int .i64 0, .int .i64 0, .int .i64 0, .int .i64 0, .slice none 0 0, .bool false, .slice qa k qc, .slice none 0 0] : Array Value).all (·.oneCell') = true := mr_one { k := 7, t := t, j := j, c := c, qa := qa, qn := k, qc := qc }
      have hfull : ps.take k = ps := by rw [← hN.out, List.take_length]
      have hbl0 := hb0
      replace hsz := Lib.hid hsz
      replace hon := Lib.hid hon
      replace hfull := Lib.hid hfull
      go_wp2_with (first
        | (refine wpList_store_mid rfl 73 (.tmp 2) (.tmp 99) rfl B 0 #[.int .i64 7, .int .i64 0, .int .i64 t, .int .i64 j, .int .i64 c, .int .i64 0, .int .i64 0, .int .i64 0, .int .i64 0, .int .i64 0, .int .i64 0, .slice none 0 0, .bool false, .slice qa k qc, .slice none 0 0] rfl rfl t1a.out hsz.out hon.out ?_; obtain ⟨w10, hw10, f10, h10⟩ := store_all wr B #[.int .i64 7, .int .i64 0, .int .i64 t, .int .i64 j, .int .i64 c, .int .i64 0, .int .i64 0, .int .i64 0, .int .i64 0, .int .i64 0, .int .i64 0, .slice none 0 0, .bool false, .slice qa k qc, .slice none 0 0]; rw [← hw10]; clear hw10; have h10 := h10 _ _ hb0.out rfl; have f10 := Lib.hid f10)
        | fail)
      have r0 : w10.cell? ⟨B, 0, none⟩ = some (.int .i64 7) := h10.cell 0
      have r1 : w10.cell? ⟨B, 1, none⟩ = some (.int .i64 0) := h10.cell 1
      have r2 : w10.cell? ⟨B, 2, none⟩ = some (.int .i64 t) := h10.cell 2
      have r3 : w10.cell? ⟨B, 3, none⟩ = some (.int .i64 j) := h10.cell 3
      have r4 : w10.cell? ⟨B, 4, none⟩ = some (.int .i64 c) := h10.cell 4
      have r5 : w10.cell? ⟨B, 5, none⟩ = some (.int .i64 0) := h10.cell 5
      have r6 : w10.cell? ⟨B, 6, none⟩ = some (.int .i64 0) := h10.cell 6
      have r7 : w10.cell? ⟨B, 7, none⟩ = some (.int .i64 0) := h10.cell 7
      have r8 : w10.cell? ⟨B, 8, none⟩ = some (.int .i64 0) := h10.cell 8
      have r9 : w10.cell? ⟨B, 9, none⟩ = some (.int .i64 0) := h10.cell 9
      have r10 : w10.cell? ⟨B, 10, none⟩ = some (.int .i64 0) := h10.cell 10
      have r11 : w10.cell? ⟨B, 11, none⟩ = some (.slice none 0 0) := h10.cell 11
      have r12 : w10.cell? ⟨B, 12, none⟩ = some (.bool false) := h10.cell 12
      have r13 : w10.cell? ⟨B, 13, none⟩ = some (.slice qa k qc) := h10.cell 13
      have r14 : w10.cell? ⟨B, 14, none⟩ = some (.slice none 0 0) := h10.cell 14
      have frA : Fr noB w w10 := fr.trans f10.out (fun _ _ q => q) (fun i hi q => by unfold onlyB at q; omega)
      have owA := ownsRow_fr hown.out f10.out (fun g hg q => by
        unfold onlyB at q
        subst q
        exact row_not hown.out hb0.out (by decide) hg)
      have hrp : RdPs w10 (.slice qa k qc) ps := RdPs.of_rd owA (fun q hq => (hPr.out q hq).frN frA) (by rw [hPf.out, hfull.out]) hPl.out (by omega)
      clear h10 f10 t1a hsz hon d0 d1 d2 owA
      replace hrp := Lib.hid hrp
      try go_wp2_with fail
      refine bodyPost_ret (by simp [results, Tryz.results25, go_sem, r0, r1, r2, r3, r4, r5, r6, r7, r8, r9, r10, r11, r12, r13, r14]; try rfl) rfl ?_
      exact ⟨qa, qc, rfl, hrp.out, frA⟩
end Go.Proofs.YtppmednmcbjafaaGreat
end

section
set_option linter.unusedVariables false
set_option linter.unusedSimpArgs false
set_option maxRecDepth 100000
namespace Go.Proofs.YtppmednmcbjafaaGreat
open Go.RowKit Go Go.Lib

/-- the value v is the reference's message m -/
def RfW (w : World) (v : Value) : Ms → Prop
  | .trigger a t c => v = mrV { k := 1, a := a, t := t, c := c }
  | .pin t j => v = mrV { k := 2, t := t, j := j }
  | .pinned p => ∃ ua uc, v = mrV { k := 3, pa := p.a, pt := p.t, pj := p.j, pc := p.n, ua := ua, un := p.cr.length, uc := uc, lo := p.lo } ∧ RdI w (.slice ua p.cr.length uc) p.cr
  | .gone a t j => v = mrV { k := 4, a := a, t := t, j := j }
  | .collect t j => v = mrV { k := 5, t := t, j := j }
  | .chunk a t j i n sp => ∃ sa sc, v = mrV { k := 6, a := a, t := t, j := j, i := i, n := n, sa := sa, sn := sp.length, sc := sc } ∧ RdSp w (.slice sa sp.length sc) sp
  | .manifest t j c ps => ∃ qa qc, v = mrV { k := 7, t := t, j := j, c := c, qa := qa, qn := ps.length, qc := qc } ∧ RdPs w (.slice qa ps.length qc) ps
  | .stored t j => v = mrV { k := 8, t := t, j := j }
  | .unpin t j => v = mrV { k := 9, t := t, j := j }
  | .unpinned a t j => v = mrV { k := 10, a := a, t := t, j := j }
theorem RfW.frN {w w' : World} {v : Value} {m : Ms} (h : RfW w v m) (hf : Fr noB w w') : RfW w' v m := by
  cases m with
  | pinned p => obtain ⟨a, c, e, h1⟩ := h; exact ⟨a, c, e, h1.frN hf⟩
  | chunk => obtain ⟨a, c, e, h1⟩ := h; exact ⟨a, c, e, h1.frN hf⟩
  | manifest => obtain ⟨a, c, e, h1⟩ := h; exact ⟨a, c, e, h1.frH hf.toH⟩
  | _ => exact h
def Ms.few : Ms → Prop
  | .manifest _ _ _ ps => ps.length ≤ 100
  | _ => True
theorem like_ms (v : Value) (m : Ms) (w : World) (h : MsW w v m) (hl : m.few) : Calls Tryz.prog 25 #[v] w fun e w' => ∃ u, e = .returned u ∧ RfW w' u m ∧ Fr noB w w' := by
  cases m with
  | trigger a t c => obtain rfl := h; exact (like_Trigger a t c w).mono fun e w' ⟨h1, f⟩ => ⟨_, h1, rfl, f⟩
  | pin t j => obtain rfl := h; exact (like_Pin t j w).mono fun e w' ⟨h1, f⟩ => ⟨_, h1, rfl, f⟩
  | pinned p =>
    obtain ⟨u, rfl, h1⟩ := h
    have h0 := h1
    obtain ⟨ua, uc, rfl, _⟩ := h1
    exact (like_Pinned p.a p.t p.j p.n ua _ uc p.lo w).mono fun e w' ⟨h2, f⟩ => ⟨_, h2, ⟨ua, uc, rfl, h0.frN f⟩, f⟩
  | gone a t j => obtain rfl := h; exact (like_Gone a t j w).mono fun e w' ⟨h1, f⟩ => ⟨_, h1, rfl, f⟩
  | collect t j => obtain rfl := h; exact (like_Collect t j w).mono fun e w' ⟨h1, f⟩ => ⟨_, h1, rfl, f⟩
  | chunk a t j i n sp =>
    obtain ⟨u, rfl, h1⟩ := h
    have h0 := h1
    obtain ⟨sa, sc, rfl, _⟩ := h1
    exact (like_Chunk a t j i n sa _ sc w).mono fun e w' ⟨h2, f⟩ => ⟨_, h2, ⟨sa, sc, rfl, h0.frN f⟩, f⟩
  | manifest t j c ps =>
    obtain ⟨u, rfl, h1⟩ := h
    refine (like_Manifest t j c u ps w h1 hl).mono ?_
    rintro e w' ⟨qa, qc, rfl, h2, f⟩
    exact ⟨_, rfl, ⟨qa, qc, rfl, h2⟩, f⟩
  | stored t j => obtain rfl := h; exact (like_Stored t j w).mono fun e w' ⟨h1, f⟩ => ⟨_, h1, rfl, f⟩
  | unpin t j => obtain rfl := h; exact (like_Unpin t j w).mono fun e w' ⟨h1, f⟩ => ⟨_, h1, rfl, f⟩
  | unpinned a t j => obtain rfl := h; exact (like_Unpinned a t j w).mono fun e w' ⟨h1, f⟩ => ⟨_, h1, rfl, f⟩
end Go.Proofs.YtppmednmcbjafaaGreat
end

section
set_option linter.unusedVariables false
set_option linter.unusedSimpArgs false
set_option maxRecDepth 100000
namespace Go.Proofs.YtppmednmcbjafaaGreat
open Go.RowKit Go Go.Lib

set_option maxHeartbeats 2000000 in
theorem same_part (p : Pn) (ua ub : Option Addr) (uc ud : Nat) (w : World) (hu : RdI w (.slice ua p.cr.length uc) p.cr) (hv : RdI w (.slice ub p.cr.length ud) p.cr) :
    Calls Tryz.prog 100 #[.agg #[.int .i64 p.a, .int .i64 p.t, .int .i64 p.j, .int .i64 p.n, .slice ua p.cr.length uc, .bool p.lo], .agg #[.int .i64 p.a, .int .i64 p.t, .int .i64 p.j, .int .i64 p.n, .slice ub p.cr.length ud, .bool p.lo]] w fun e w' => e = .returned (.bool true) ∧ Fr noB w w' := by
  have hs := fun w' (f : Fr noB w w') => sameInts_any _ _ p.cr p.cr w' (hu.frN f) (hv.frN f)
  generalize p.cr.length = cl at *
  have fX := ((Fr.refl noB w).alloc (.cells #[.int .i64 p.a, .int .i64 p.t, .int .i64 p.j, .int .i64 p.n, .slice ua cl uc, .bool p.lo] 69)).alloc (.cells #[.int .i64 p.a, .int .i64 p.t, .int .i64 p.j, .int .i64 p.n, .slice ub cl ud, .bool p.lo] 69)
  have k0 : (p.a == p.a) = true := by simp
  have k1 : (p.t == p.t) = true := by simp
  have k2 : (p.j == p.j) = true := by simp
  have k3 : (p.n == p.n) = true := by simp
  have k4 : (p.lo == p.lo) = true := by simp
  have hs2 := hs _ fX
  rw [show decide (p.cr = p.cr) = true by simp] at hs2
  replace hs2 := Lib.hid hs2
  clear hs hu hv
  go_enter Tryz.func100, Tryz.ntmps100
  go_wp2_with fail
  go_fit hs2.out
  rintro e w1 ⟨rfl, q, hw⟩
  obtain rfl := hw
  go_wp2_with fail
  go_ret
  exact ⟨rfl, fX.drewN q⟩

/-- the reference's message with just these fields -/
def RfG (w : World) (v : Value) (k a t j c i n : Int) (p : Pn) (ps : List Pn) (sp : List Sp) : Prop := ∃ ua uc qa qc sa sc, v = mrV { k := k, a := a, t := t, j := j, c := c, i := i, n := n, pa := p.a, pt := p.t, pj := p.j, pc := p.n, ua := ua, un := p.cr.length, uc := uc, lo := p.lo, qa := qa, qn := ps.length, qc := qc, sa := sa, sn := sp.length, sc := sc } ∧ RdI w (.slice ua p.cr.length uc) p.cr ∧ RdPs w (.slice qa ps.length qc) ps ∧ RdSp w (.slice sa sp.length sc) sp
set_option maxHeartbeats 2000000 in
theorem same_gen (v u : Value) (k a t j c i n : Int) (p : Pn) (ps : List Pn) (sp : List Sp) (w : World) (hv : RfG w v k a t j c i n p ps sp) (hu : RfG w u k a t j c i n p ps sp) :
    Calls Tryz.prog 73 #[v, u] w fun e w' => e = .returned (.bool true) ∧ Fr noB w w' := by
  obtain ⟨ua, uc, qa, qc, sa, sc, rfl, hu1, hq1, hs1⟩ := hv
  obtain ⟨ub, ud, qb, qd, sb, sd, rfl, hu2, hq2, hs2⟩ := hu
  have hsp := fun w' (f : Fr noB w w') => same_part p ua ub uc ud w' (hu1.frN f) (hu2.frN f)
  have hss := fun w' (f : Fr noB w w') => same_any _ _ sp w' (hs1.frN f) (hs2.frN f)
  have hget : ∀ k, k < ps.length → ∃ m, ps[k]? = some m := fun k hk => ⟨ps[k], List.getElem?_eq_getElem hk⟩
  obtain ⟨_, _, e1, hx1, hx2, hx3⟩ := hq1
  cases e1
  obtain ⟨_, _, e2, hy1, hy2, hy3⟩ := hq2
  cases e2
  unfold mrV mrC
  generalize hcl : p.cr.length = cl at *
  generalize hN : ps.length = N at *
  generalize hM : sp.length = M at *
  have hNb : (N : Int) ≤ 9223372036854775807 := by omega
  have fX := ((Fr.refl noB w).alloc (.cells #[.int .i64 k, .int .i64 a, .int .i64 t, .int .i64 j, .int .i64 c, .int .i64 i, .int .i64 n, .int .i64 p.a, .int .i64 p.t, .int .i64 p.j, .int .i64 p.n, .slice ua cl uc, .bool p.lo, .slice qa N qc, .slice sa M sc] 73)).alloc (.cells #[.int .i64 k, .int .i64 a, .int .i64 t, .int .i64 j, .int .i64 c, .int .i64 i, .int .i64 n, .int .i64 p.a, .int .i64 p.t, .int .i64 p.j, .int .i64 p.n, .slice ub cl ud, .bool p.lo, .slice qb N qd, .slice sb M sd] 73)
  have h1 := ((Fr.refl noB (w.alloc (.cells #[.int .i64 k, .int .i64 a, .int .i64 t, .int .i64 j, .int .i64 c, .int .i64 i, .int .i64 n, .int .i64 p.a, .int .i64 p.t, .int .i64 p.j, .int .i64 p.n, .slice ua cl uc, .bool p.lo, .slice qa N qc, .slice sa M sc] 73))).alloc (.cells #[.int .i64 k, .int .i64 a, .int .i64 t, .int .i64 j, .int .i64 c, .int .i64 i, .int .i64 n, .int .i64 p.a, .int .i64 p.t, .int .i64 p.j, .int .i64 p.n, .slice ub cl ud, .bool p.lo, .slice qb N qd, .slice sb M sd] 73)).blk (Blk.new w 73 [.int .i64 k, .int .i64 a, .int .i64 t, .int .i64 j, .int .i64 c, .int .i64 i, .int .i64 n, .int .i64 p.a, .int .i64 p.t, .int .i64 p.j, .int .i64 p.n, .slice ua cl uc, .bool p.lo, .slice qa N qc, .slice sa M sc]) (fun q => q)
  have h2 := Blk.new (w.alloc (.cells #[.int .i64 k, .int .i64 a, .int .i64 t, .int .i64 j, .int .i64 c, .int .i64 i, .int .i64 n, .int .i64 p.a, .int .i64 p.t, .int .i64 p.j, .int .i64 p.n, .slice ua cl uc, .bool p.lo, .slice qa N qc, .slice sa M sc] 73)) 73 [.int .i64 k, .int .i64 a, .int .i64 t, .int .i64 j, .int .i64 c, .int .i64 i, .int .i64 n, .int .i64 p.a, .int .i64 p.t, .int .i64 p.j, .int .i64 p.n, .slice ub cl ud, .bool p.lo, .slice qb N qd, .slice sb M sd]
  rw [size_alloc] at h2
  obtain ⟨g1, hg1⟩ : ∃ g, w.heap.size = g := ⟨_, rfl⟩
  rw [hg1] at h1 h2
  obtain ⟨g2, hg2⟩ : ∃ g, g1 + 1 = g := ⟨_, rfl⟩
  rw [hg2] at h2
  have z0 : ∀ x : Int, (x != x) = false := fun x => by simp
  have hsp1 := hsp _ fX
  replace hsp1 := Lib.hid hsp1
  replace hss := Lib.hid hss
  replace hget := Lib.hid hget
  replace hx3 := Lib.hid hx3
  replace hy3 := Lib.hid hy3
  replace hcl := Lib.hid hcl
  replace hN := Lib.hid hN
  replace hM := Lib.hid hM
  replace hu1 := Lib.hid hu1
  replace hu2 := Lib.hid hu2
  replace hs1 := Lib.hid hs1
  replace hs2 := Lib.hid hs2
  replace h1 := Lib.hid h1
  replace h2 := Lib.hid h2
  clear hsp hx1 hx2 hy2
  go_enter Tryz.func73, Tryz.ntmps73
  go_upto_region 1 with fail
  generalize ((w.alloc (.cells #[.int .i64 k, .int .i64 a, .int .i64 t, .int .i64 j, .int .i64 c, .int .i64 i, .int .i64 n, .int .i64 p.a, .int .i64 p.t, .int .i64 p.j, .int .i64 p.n, .slice ua cl uc, .bool p.lo, .slice qa N qc, .slice sa M sc] 73)).alloc (.cells #[.int .i64 k, .int .i64 a, .int .i64 t, .int .i64 j, .int .i64 c, .int .i64 i, .int .i64 n, .int .i64 p.a, .int .i64 p.t, .int .i64 p.j, .int .i64 p.n, .slice ub cl ud, .bool p.lo, .slice qb N qd, .slice sb M sd] 73)) = wX at *
  have a0 : wX.cell? ⟨g1, 0, none⟩ = some (.int .i64 k) := h1.out.cell 0
  have b0 : wX.cell? ⟨g2, 0, none⟩ = some (.int .i64 k) := h2.out.cell 0
  have a1 : wX.cell? ⟨g1, 1, none⟩ = some (.int .i64 a) := h1.out.cell 1
  have b1 : wX.cell? ⟨g2, 1, none⟩ = some (.int .i64 a) := h2.out.cell 1
  have a2 : wX.cell? ⟨g1, 2, none⟩ = some (.int .i64 t) := h1.out.cell 2
  have b2 : wX.cell? ⟨g2, 2, none⟩ = some (.int .i64 t) := h2.out.cell 2
  have a3 : wX.cell? ⟨g1, 3, none⟩ = some (.int .i64 j) := h1.out.cell 3
  have b3 : wX.cell? ⟨g2, 3, none⟩ = some (.int .i64 j) := h2.out.cell 3
  have a4 : wX.cell? ⟨g1, 4, none⟩ = some (.int .i64 c) := h1.out.cell 4
  have b4 : wX.cell? ⟨g2, 4, none⟩ = some (.int .i64 c) := h2.out.cell 4
  have a5 : wX.cell? ⟨g1, 5, none⟩ = some (.int .i64 i) := h1.out.cell 5
  have b5 : wX.cell? ⟨g2, 5, none⟩ = some (.int .i64 i) := h2.out.cell 5
  have a6 : wX.cell? ⟨g1, 6, none⟩ = some (.int .i64 n) := h1.out.cell 6
  have b6 : wX.cell? ⟨g2, 6, none⟩ = some (.int .i64 n) := h2.out.cell 6
  have a7 : wX.cell? ⟨g1, 7, none⟩ = some (.int .i64 p.a) := h1.out.cell 7
  have b7 : wX.cell? ⟨g2, 7, none⟩ = some (.int .i64 p.a) := h2.out.cell 7
  have a8 : wX.cell? ⟨g1, 8, none⟩ = some (.int .i64 p.t) := h1.out.cell 8
  have b8 : wX.cell? ⟨g2, 8, none⟩ = some (.int .i64 p.t) := h2.out.cell 8
  have a9 : wX.cell? ⟨g1, 9, none⟩ = some (.int .i64 p.j) := h1.out.cell 9
  have b9 : wX.cell? ⟨g2, 9, none⟩ = some (.int .i64 p.j) := h2.out.cell 9
  have a10 : wX.cell? ⟨g1, 10, none⟩ = some (.int .i64 p.n) := h1.out.cell 10
  have b10 : wX.cell? ⟨g2, 10, none⟩ = some (.int .i64 p.n) := h2.out.cell 10
  have a11 : wX.cell? ⟨g1, 11, none⟩ = some (.slice ua cl uc) := h1.out.cell 11
  have b11 : wX.cell? ⟨g2, 11, none⟩ = some (.slice ub cl ud) := h2.out.cell 11
  have a12 : wX.cell? ⟨g1, 12, none⟩ = some (.bool p.lo) := h1.out.cell 12
  have b12 : wX.cell? ⟨g2, 12, none⟩ = some (.bool p.lo) := h2.out.cell 12
  have a13 : wX.cell? ⟨g1, 13, none⟩ = some (.slice qa N qc) := h1.out.cell 13
  have b13 : wX.cell? ⟨g2, 13, none⟩ = some (.slice qb N qd) := h2.out.cell 13
  have a14 : wX.cell? ⟨g1, 14, none⟩ = some (.slice sa M sc) := h1.out.cell 14
  have b14 : wX.cell? ⟨g2, 14, none⟩ = some (.slice sb M sd) := h2.out.cell 14
  go_wp2_with fail
  go_fit hsp1.out
  rintro e w1 ⟨rfl, f1⟩
  have fr1 := fX.seqN f1
  have h1w1 := f1.blk h1.out (fun q => q)
  have h2w1 := f1.blk h2.out (fun q => q)
  clear a0 b0 a1 b1 a2 b2 a3 b3 a4 b4 a5 b5 a6 b6 a7 b7 a8 b8 a9 b9 a10 b10 a11 b11 a12 b12 a13 b13 a14 b14
  have a13 : w1.cell? ⟨g1, 13, none⟩ = some (.slice qa N qc) := h1w1.cell 13
  have b13 : w1.cell? ⟨g2, 13, none⟩ = some (.slice qb N qd) := h2w1.cell 13
  have a14 : w1.cell? ⟨g1, 14, none⟩ = some (.slice sa M sc) := h1w1.cell 14
  have b14 : w1.cell? ⟨g2, 14, none⟩ = some (.slice sb M sd) := h2w1.cell 14
  have hss1 := hss.out w1 fr1
  replace hss1 := Lib.hid hss1
  replace h1w1 := Lib.hid h1w1
  replace h2w1 := Lib.hid h2w1
  go_wp2_with fail
  go_fit hss1.out
  rintro e w2 ⟨rfl, f2⟩
  have fr2 := fr1.seqN f2
  have h1w2 := f2.blk h1w1.out (fun q => q)
  have h2w2 := f2.blk h2w1.out (fun q => q)
  clear a13 b13 a14 b14
  have a13 : w2.cell? ⟨g1, 13, none⟩ = some (.slice qa N qc) := h1w2.cell 13
  replace h1w2 := Lib.hid h1w2
  replace h2w2 := Lib.hid h2w2
  go_wp2_with fail
  clear a13
  go_loopw [81] (fun vi wr => ∃ m : Nat, m ≤ N ∧ vi = .int .i64 m ∧ Fr noB w2 wr) (fun vi _ => N - (RowKit.intOf vi).toNat)
  case atStart => exact ⟨0, by omega, rfl, Fr.refl _ _⟩
  case round =>
    obtain ⟨m, hm, rfl, fr⟩ := hrel
    have frw := fr2.seqN fr
    by_cases hlt : m < N
    · obtain ⟨r, hr⟩ := hget.out m hlt
      obtain ⟨ga, oa, va, vc, rfl, hca, hra⟩ := hx3.out m r hr
      obtain ⟨gb, ob, vb, vd, rfl, hcb, hrb⟩ := hy3.out m r hr
      have hpt := fun w' (f : Fr noB w w') => same_part r va vb vc vd w' (hra.frN f) (hrb.frN f)
      generalize hrl : r.cr.length = rl at *
      have hS : ∀ w', Fr noB wr w' → ((w'.cell? ⟨g1, 13, none⟩ = some (.slice (some ⟨ga, oa, none⟩) N qc) ∧ w'.cell? ⟨g2, 13, none⟩ = some (.slice (some ⟨gb, ob, none⟩) N qd)) ∧ (w'.cell? ⟨ga, oa + m * 6, none⟩ = some (.int .i64 r.a) ∧ w'.cell? ⟨ga, oa + m * 6 + 1, none⟩ = some (.int .i64 r.t) ∧ w'.cell? ⟨ga, oa + m * 6 + 2, none⟩ = some (.int .i64 r.j) ∧ w'.cell? ⟨ga, oa + m * 6 + 3, none⟩ = some (.int .i64 r.n) ∧ w'.cell? ⟨ga, oa + m * 6 + 4, none⟩ = some (.slice va rl vc) ∧ w'.cell? ⟨ga, oa + m * 6 + 5, none⟩ = some (.bool r.lo)) ∧ w'.cell? ⟨gb, ob + m * 6, none⟩ = some (.int .i64 r.a) ∧ w'.cell? ⟨gb, ob + m * 6 + 1, none⟩ = some (.int .i64 r.t) ∧ w'.cell? ⟨gb, ob + m * 6 + 2, none⟩ = some (.int .i64 r.j) ∧ w'.cell? ⟨gb, ob + m * 6 + 3, none⟩ = some (.int .i64 r.n) ∧ w'.cell? ⟨gb, ob + m * 6 + 4, none⟩ = some (.slice vb rl vd) ∧ w'.cell? ⟨gb, ob + m * 6 + 5, none⟩ = some (.bool r.lo)) := fun w' f => by
        have b1 := (fr.seqN f).blk h1w2.out (fun q => q)
        have b2 := (fr.seqN f).blk h2w2.out (fun q => q)
        have fw := frw.seqN f
        exact ⟨⟨b1.cell 13, b2.cell 13⟩, ⟨fw.cell (hca 0 _ rfl) (fun q => q), fw.cell (hca 1 _ rfl) (fun q => q), fw.cell (hca 2 _ rfl) (fun q => q), fw.cell (hca 3 _ rfl) (fun q => q), fw.cell (hca 4 _ (by simp [pnC, hrl])) (fun q => q), fw.cell (hca 5 _ rfl) (fun q => q)⟩, fw.cell (hcb 0 _ rfl) (fun q => q), fw.cell (hcb 1 _ rfl) (fun q => q), fw.cell (hcb 2 _ rfl) (fun q => q), fw.cell (hcb 3 _ rfl) (fun q => q), fw.cell (hcb 4 _ (by simp [pnC, hrl])) (fun q => q), fw.cell (hcb 5 _ rfl) (fun q => q)⟩
      have hb1 : (m : Int) < N := by omega
      have fq := (Fr.refl noB wr).drewN 1
      replace hS := Lib.hid hS
      replace hpt := Lib.hid hpt
      replace hr := Lib.hid hr
      replace hrl := Lib.hid hrl
      clear hca hcb hra hrb
      go_wp2_with fail
      go_region_held3 (fun w' => ((w'.cell? ⟨g1, 13, none⟩ = some (.slice (some ⟨ga, oa, none⟩) N qc) ∧ w'.cell? ⟨g2, 13, none⟩ = some (.slice (some ⟨gb, ob, none⟩) N qd)) ∧ (w'.cell? ⟨ga, oa + m * 6, none⟩ = some (.int .i64 r.a) ∧ w'.cell? ⟨ga, oa + m * 6 + 1, none⟩ = some (.int .i64 r.t) ∧ w'.cell? ⟨ga, oa + m * 6 + 2, none⟩ = some (.int .i64 r.j) ∧ w'.cell? ⟨ga, oa + m * 6 + 3, none⟩ = some (.int .i64 r.n) ∧ w'.cell? ⟨ga, oa + m * 6 + 4, none⟩ = some (.slice va rl vc) ∧ w'.cell? ⟨ga, oa + m * 6 + 5, none⟩ = some (.bool r.lo)) ∧ w'.cell? ⟨gb, ob + m * 6, none⟩ = some (.int .i64 r.a) ∧ w'.cell? ⟨gb, ob + m * 6 + 1, none⟩ = some (.int .i64 r.t) ∧ w'.cell? ⟨gb, ob + m * 6 + 2, none⟩ = some (.int .i64 r.j) ∧ w'.cell? ⟨gb, ob + m * 6 + 3, none⟩ = some (.int .i64 r.n) ∧ w'.cell? ⟨gb, ob + m * 6 + 4, none⟩ = some (.slice vb rl vd) ∧ w'.cell? ⟨gb, ob + m * 6 + 5, none⟩ = some (.bool r.lo)))
        (first | exact hS.out _ fq | exact hS.out _ ((Fr.refl noB _).drewN 1) | fail)
        (first | (go_at_call 100; refine (hpt.out _ (frw.seqN fq)).mono ?_; rintro e w5 ⟨rfl, f5⟩; have fq := fq.seqN f5) | fail)
      all_goals (
        go_wp2_with fail
        go_roundw
        case rel => exact ⟨m + 1, by omega, by go_num, fr.seqN fq⟩
        case measure => simp [RowKit.intOf]; omega)
    · obtain rfl : m = N := by omega
      go_wp2_with fail
      go_ret
      exact ⟨rfl, frw⟩

def zP : Pn := ⟨0, 0, 0, 0, [], false⟩
theorem rdI_nil (w : World) : RdI w (.slice none 0 0) [] := ⟨none, 0, rfl, by simp, by simp, fun i hi => by simp at hi⟩
theorem rdPs_nil (w : World) : RdPs w (.slice none 0 0) [] := ⟨none, 0, rfl, by simp, by simp, fun i p hi => by simp at hi⟩
theorem rdSp_nil (w : World) : RdSp w (.slice none 0 0) [] := ⟨none, 0, rfl, by simp, by simp [maxLen], fun _ => rfl, fun i s hi => by simp at hi⟩
/-- the fields of a message, as Same reads them -/
def RfM (w : World) (v : Value) : Ms → Prop
  | .trigger a t c => RfG w v 1 a t 0 c 0 0 zP [] []
  | .pin t j => RfG w v 2 0 t j 0 0 0 zP [] []
  | .pinned p => RfG w v 3 0 0 0 0 0 0 p [] []
  | .gone a t j => RfG w v 4 a t j 0 0 0 zP [] []
  | .collect t j => RfG w v 5 0 t j 0 0 0 zP [] []
  | .chunk a t j i n sp => RfG w v 6 a t j 0 i n zP [] sp
  | .manifest t j c ps => RfG w v 7 0 t j c 0 0 zP ps []
  | .stored t j => RfG w v 8 0 t j 0 0 0 zP [] []
  | .unpin t j => RfG w v 9 0 t j 0 0 0 zP [] []
  | .unpinned a t j => RfG w v 10 a t j 0 0 0 zP [] []
theorem RfW.gen {w : World} {v : Value} {m : Ms} (h : RfW w v m) : RfM w v m := by
  have n1 := rdI_nil w
  have n2 := rdPs_nil w
  have n3 := rdSp_nil w
  cases m with
  | pinned p => obtain ⟨ua, uc, rfl, h1⟩ := h; exact ⟨ua, uc, none, 0, none, 0, rfl, h1, n2, n3⟩
  | chunk a t j i n sp => obtain ⟨sa, sc, rfl, h1⟩ := h; exact ⟨none, 0, none, 0, sa, sc, rfl, n1, n2, h1⟩
  | manifest t j c ps => obtain ⟨qa, qc, rfl, h1⟩ := h; exact ⟨none, 0, qa, qc, none, 0, rfl, n1, h1, n3⟩
  | _ => obtain rfl := h; exact ⟨none, 0, none, 0, none, 0, rfl, n1, n2, n3⟩
theorem same_ms (v u : Value) (m : Ms) (w : World) (hv : RfW w v m) (hu : RfW w u m) : Calls Tryz.prog 73 #[v, u] w fun e w' => e = .returned (.bool true) ∧ Fr noB w w' := by
  have h1 := hv.gen
  have h2 := hu.gen
  cases m <;> exact same_gen v u _ _ _ _ _ _ _ _ _ _ w h1 h2
end Go.Proofs.YtppmednmcbjafaaGreat
end

section
set_option linter.unusedVariables false
set_option linter.unusedSimpArgs false
set_option maxRecDepth 100000
namespace Go.Proofs.YtppmednmcbjafaaGreat
open Go.RowKit Go Go.Lib

theorem within_any (n lo hi : Int) (w : World) : Calls Tryz.prog 98 #[.int .i64 n, .int .i64 lo, .int .i64 hi] w fun e w' => e = .returned (.bool (inB lo hi n)) ∧ w' = w := by
  unfold inB
  by_cases h1 : lo ≤ n
  · have d1 : decide (lo ≤ n) = true := by simpa using h1
    by_cases h2 : n ≤ hi
    · have d2 : decide (n ≤ hi) = true := by simpa using h2
      rw [d1, d2]
      go_enter Tryz.func98, Tryz.ntmps98
      go_wp2_with fail
      go_ret
      exact ⟨rfl, rfl⟩
    · have d2 : decide (n ≤ hi) = false := by simpa using h2
      rw [d1, d2]
      go_enter Tryz.func98, Tryz.ntmps98
      go_wp2_with fail
      go_ret
      exact ⟨rfl, rfl⟩
  · have d1 : decide (lo ≤ n) = false := by simpa using h1
    rw [d1]
    go_enter Tryz.func98, Tryz.ntmps98
    go_wp2_with fail
    go_ret
    exact ⟨rfl, rfl⟩
theorem risB_len : ∀ (xs : List Int) (l : Int), -1 ≤ l → l ≤ 3 → risB l xs = true → (xs.length : Int) ≤ 3 - l
  | [], l, h0, h1, _ => by simp; omega
  | a :: r, l, h0, h1, h => by
    unfold risB inB at h
    simp only [Bool.and_eq_true, decide_eq_true_eq] at h
    have := risB_len r a (by omega) h.1.1.2 h.2
    simp only [List.length_cons]
    omega
end Go.Proofs.YtppmednmcbjafaaGreat
end

section
set_option linter.unusedVariables false
set_option linter.unusedSimpArgs false
namespace Go.Proofs.YtppmednmcbjafaaGreat
open Go.RowKit Go Go.Lib

theorem risB_big {xs : List Int} (h : 4 < xs.length) : risB (-1) xs = false := by
  cases hq : risB (-1) xs with
  | false => rfl
  | true =>
    have := risB_len xs (-1) (by omega) (by omega) hq
    omega
def prevR (xs : List Int) (k : Nat) : Int := if k = 0 then -1 else xs.getD (k - 1) 0

set_option maxHeartbeats 4000000 in
set_option maxRecDepth 10000 in
theorem rpart_any (ag tr jb ct : Int) (v : Value) (lo : Bool) (xs : List Int) (w : World) (hv : RdI w v xs) :
    Calls Tryz.prog 97 #[.agg #[.int .i64 ag, .int .i64 tr, .int .i64 jb, .int .i64 ct, v, .bool lo]] w fun e w' => e = .returned (.bool (pinB ag tr jb ct xs)) ∧ Fr noB w w' := by
  obtain ⟨a, c, rfl, h1, h2, h3⟩ := hv
  have fX := (Fr.refl noB w).alloc (.cells #[.int .i64 ag, .int .i64 tr, .int .i64 jb, .int .i64 ct, .slice a xs.length c, .bool lo] 69)
  have bX := Blk.new w 69 [.int .i64 ag, .int .i64 tr, .int .i64 jb, .int .i64 ct, .slice a xs.length c, .bool lo]
  have k1 := within_any ag 0 3
  have k2 := within_any tr 1 65535
  have k3 := within_any jb 1 1073741824
  have k4 := within_any ct 0 1000
  have hbig := risB_big (xs := xs)
  rw [show pinB ag tr jb ct xs = (inB 0 3 ag && (inB 1 65535 tr && (inB 1 1073741824 jb && (inB 0 1000 ct && risB (-1) xs)))) from by unfold pinB; rw [← Bool.and_assoc (decide (0 ≤ ct))]; rfl]
  generalize hn : xs.length = n at *
  replace hn := Lib.hid hn
  replace h3 := Lib.hid h3
  replace hbig := Lib.hid hbig
  obtain ⟨wx, hwx⟩ : ∃ wx, wx = w.alloc (.cells #[.int .i64 ag, .int .i64 tr, .int .i64 jb, .int .i64 ct, .slice a n c, .bool lo] 69) := ⟨_, rfl⟩
  go_enter Tryz.func97, Tryz.ntmps97
  go_wp2_with fail
  refine (k1 _).mono ?_
  rintro e w1 ⟨rfl, hw1⟩
  obtain rfl := hw1.symm
  cases hb1 : inB 0 3 ag with
  | false =>
    go_wp2_with fail
    go_ret
    exact ⟨by simp [*], fX⟩
  | true =>
    go_wp2_with fail
    refine (k2 _).mono ?_
    rintro e w1 ⟨rfl, hw1⟩
    obtain rfl := hw1.symm
    cases hb2 : inB 1 65535 tr with
    | false =>
      go_wp2_with fail
      go_ret
      exact ⟨by simp [*], fX⟩
    | true =>
      go_wp2_with fail
      refine (k3 _).mono ?_
      rintro e w1 ⟨rfl, hw1⟩
      obtain rfl := hw1.symm
      cases hb3 : inB 1 1073741824 jb with
      | false =>
        go_wp2_with fail
        go_ret
        exact ⟨by simp [*], fX⟩
      | true =>
        go_wp2_with fail
        refine (k4 _).mono ?_
        rintro e w1 ⟨rfl, hw1⟩
        obtain rfl := hw1.symm
        cases hb4 : inB 0 1000 ct with
        | false =>
          go_wp2_with fail
          go_ret
          exact ⟨by simp [*], fX⟩
        | true =>
          by_cases hn4 : 4 < n
          · have hd : decide (4 < (n : Int)) = true := by simp; omega
            have hr := hbig.out hn4
            replace hr := Lib.hid hr
            go_wp2_with fail
            go_ret
            exact ⟨by rw [hr.out]; simp, fX⟩
          · have hd : decide (4 < (n : Int)) = false := by simp; omega
            replace hb1 := Lib.hid hb1
            replace hb2 := Lib.hid hb2
            replace hb3 := Lib.hid hb3
            replace hb4 := Lib.hid hb4
            have hcell : ∀ w', Fr noB wx w' → w'.cell? ⟨w.heap.size, 4, none⟩ = some (.slice a n c) := fun w' f => (f.blk (by rw [hwx]; exact bX) (fun q => q)).cell 4
            have hrow : ∀ w', Fr noB wx w' → ∀ i, i < n → ∃ g o, a = some ⟨g, o, none⟩ ∧ w'.cell? ⟨g, o + i, none⟩ = some (.int .i64 (xs.getD i 0)) := fun w' f i hi => by
              obtain ⟨g, o, e1, e2⟩ := h3.out i hi
              exact ⟨g, o, e1, ((by rw [hwx] at f; exact fX.seqN f : Fr noB w w')).cell e2 (fun q => q)⟩
            go_wp2_with fail
            rw [← hwx] at fX ⊢
            clear hwx bX h3 hbig
            generalize w.heap.size = pb at *
            replace hcell := Lib.hid hcell
            replace hrow := Lib.hid hrow
            go_loopw [3] (fun i wr => ∃ k : Nat, k ≤ n ∧ i = .int .i64 k ∧ Hid (risB (-1) xs = risB (prevR xs k) (xs.drop k)) ∧ Fr noB wx wr) (fun i _ => n - (RowKit.intOf i).toNat)
            case atStart => exact ⟨0, by omega, rfl, Lib.hid (by simp [prevR]), Fr.refl _ _⟩
            case round =>
              obtain ⟨k, hk, rfl, hE, fr⟩ := hrel
              have c4 := hcell.out _ fr
              by_cases hlt : k < n
              · obtain ⟨g, o, rfl, hc⟩ := hrow.out _ fr k hlt
                have hkx : k < xs.length := by rw [hn.out]; exact hlt
                have hd2 : xs.drop k = xs.getD k 0 :: xs.drop (k + 1) := by
                  rw [List.drop_eq_getElem_cons hkx]; simp [List.getD, hkx]
                have hE2 : risB (-1) xs = (inB 0 3 (xs.getD k 0) && decide (prevR xs k < xs.getD k 0) && risB (xs.getD k 0) (xs.drop (k + 1))) := by rw [hE.out, hd2]; rfl
                have hpn : prevR xs (k + 1) = xs.getD k 0 := by unfold prevR; rw [if_neg (by omega)]; rfl
                rw [← hpn] at hE2
                have hpk : prevR xs (k + 1) = xs.getD k 0 := hpn
                clear hd2 hkx hE
                cases hb : inB 0 3 (xs.getD k 0) with
                | false =>
                  have hres : Hid (risB (-1) xs = false) := Lib.hid (by rw [hE2, hpn, hb]; rfl)
                  have kx := within_any (xs.getD k 0) 0 3
                  rw [hb] at kx
                  generalize xs.getD k 0 = x at *
                  replace kx := Lib.hid kx
                  clear hE2 hpn hpk hb
                  go_wp2_with fail
                  go_quiet ((go_at_call 98; exact Calls.quiet_of_same (kx.out _)))
                  go_wp2_with fail
                  go_ret
                  exact ⟨by rw [hres.out]; simp, (fX.seqN fr).drewN _⟩
                | true =>
                  have kx := within_any (xs.getD k 0) 0 3
                  rw [hb] at kx
                  have hx0 : 0 ≤ xs.getD k 0 := by
                    unfold inB at hb
                    simp only [Bool.and_eq_true, decide_eq_true_eq] at hb
                    exact hb.1
                  rcases Nat.eq_zero_or_pos k with hk0 | hk0
                  · subst hk0
                    have hE3 : Hid (risB (-1) xs = risB (prevR xs (0 + 1)) (xs.drop (0 + 1))) := Lib.hid (by
                      rw [hE2, hpn, hb, decide_eq_true (show prevR xs 0 < xs.getD 0 0 by unfold prevR; rw [if_pos rfl]; omega)]; rfl)
                    generalize xs.getD 0 0 = x at *
                    rw [Nat.add_zero] at hc
                    replace kx := Lib.hid kx
                    clear hE2 hpn hpk hb
                    go_wp2_with fail
                    go_quiet ((go_at_call 98; exact Calls.quiet_of_same (kx.out _)))
                    go_wp2_with fail
                    go_roundw
                    case rel => exact ⟨0 + 1, by omega, by go_num, hE3, fr.drewN _⟩
                    case measure => first | (simp [RowKit.intOf]; done) | (simp [RowKit.intOf]; omega)
                  · obtain ⟨m, rfl⟩ : ∃ m, k = m + 1 := ⟨k - 1, by omega⟩
                    obtain ⟨g', o', e', hc'⟩ := hrow.out _ fr m (by omega)
                    cases e'
                    have hpm : prevR xs (m + 1) = xs.getD m 0 := by unfold prevR; rw [if_neg (by omega)]; rfl
                    by_cases hx : xs.getD m 0 < xs.getD (m + 1) 0
                    · have hE3 : Hid (risB (-1) xs = risB (prevR xs (m + 1 + 1)) (xs.drop (m + 1 + 1))) := Lib.hid (by
                        rw [hE2, hpn, hb, hpm, decide_eq_true hx]; rfl)
                      have hxd : decide (xs.getD (m + 1) 0 ≤ xs.getD m 0) = false := decide_eq_false (by omega)
                      generalize xs.getD (m + 1) 0 = x at *
                      generalize xs.getD m 0 = y at *
                      replace kx := Lib.hid kx
                      clear hE2 hpn hpk hb hpm hx
                      go_wp2_with fail
                      go_quiet ((go_at_call 98; exact Calls.quiet_of_same (kx.out _)))
                      go_wp2_with fail
                      go_roundw
                      case rel => exact ⟨m + 1 + 1, by omega, by go_num, hE3, fr.drewN _⟩
                      case measure => simp [RowKit.intOf]; omega
                    · have hres : Hid (risB (-1) xs = false) := Lib.hid (by rw [hE2, hpn, hpm, decide_eq_false hx]; simp)
                      have hxd : decide (xs.getD (m + 1) 0 ≤ xs.getD m 0) = true := decide_eq_true (by omega)
                      generalize xs.getD (m + 1) 0 = x at *
                      generalize xs.getD m 0 = y at *
                      replace kx := Lib.hid kx
                      clear hE2 hpn hpk hb hpm hx
                      go_wp2_with fail
                      go_quiet ((go_at_call 98; exact Calls.quiet_of_same (kx.out _)))
                      go_wp2_with fail
                      go_ret
                      exact ⟨by rw [hres.out]; simp, (fX.seqN fr).drewN _⟩
              · obtain rfl : k = n := by omega
                have hres : Hid (risB (-1) xs = true) := Lib.hid (by rw [hE.out, List.drop_eq_nil_of_le (by rw [hn.out]; exact Nat.le_refl _)]; rfl)
                go_wp2_with fail
                go_ret
                exact ⟨by rw [hres.out]; first | (simp; done) | (simp [hb1.out, hb2.out, hb3.out, hb4.out]; done) | (rw [hb1.out, hb2.out, hb3.out, hb4.out]; rfl), fX.seqN fr⟩
end Go.Proofs.YtppmednmcbjafaaGreat
end

section
set_option linter.unusedVariables false
set_option linter.unusedSimpArgs false
namespace Go.Proofs.YtppmednmcbjafaaGreat
open Go.RowKit Go Go.Lib

set_option maxHeartbeats 1000000 in
set_option maxRecDepth 10000 in
theorem rr_1 (a t c : Int) (w : World) :
    Calls Tryz.prog 64 #[mrV { k := 1, a := a, t := t, c := c }] w fun e w' => e = .returned (.bool (inB 1 65535 t && (inB 0 3 a && (inB 0 3 c)))) ∧ Fr noB w w' := by
  unfold mrV mrC
  have fX := (Fr.refl noB w).alloc (.cells (mrC { k := 1, a := a, t := t, c := c }).toArray 73)
  unfold mrC at fX
  have k0 := within_any t 1 65535
  have k1 := within_any a 0 3
  have k2 := within_any c 0 3
  go_enter Tryz.func64, Tryz.ntmps64
  go_wp2_with fail
  refine (k0 _).mono ?_
  rintro e w1 ⟨rfl, hw1⟩
  obtain rfl := hw1.symm
  cases hb0 : inB 1 65535 t with
  | false =>
    go_wp2_with fail
    go_ret
    exact ⟨by simp [*], fX⟩
  | true =>
    go_wp2_with fail
    refine (k1 _).mono ?_
    rintro e w1 ⟨rfl, hw1⟩
    obtain rfl := hw1.symm
    cases hb1 : inB 0 3 a with
    | false =>
      go_wp2_with fail
      go_ret
      exact ⟨by simp [*], fX⟩
    | true =>
      go_wp2_with fail
      refine (k2 _).mono ?_
      rintro e w1 ⟨rfl, hw1⟩
      obtain rfl := hw1.symm
      cases hb2 : inB 0 3 c with
      | false =>
        go_wp2_with fail
        go_ret
        exact ⟨by simp [*], fX⟩
      | true =>
        go_wp2_with fail
        go_ret
        exact ⟨by simp [*], fX⟩

set_option maxHeartbeats 1000000 in
set_option maxRecDepth 10000 in
theorem rr_2 (t j : Int) (w : World) :
    Calls Tryz.prog 64 #[mrV { k := 2, t := t, j := j }] w fun e w' => e = .returned (.bool (inB 1 65535 t && (inB 1 1073741824 j))) ∧ Fr noB w w' := by
  unfold mrV mrC
  have fX := (Fr.refl noB w).alloc (.cells (mrC { k := 2, t := t, j := j }).toArray 73)
  unfold mrC at fX
  have k0 := within_any t 1 65535
  have k1 := within_any j 1 1073741824
  go_enter Tryz.func64, Tryz.ntmps64
  go_wp2_with fail
  refine (k0 _).mono ?_
  rintro e w1 ⟨rfl, hw1⟩
  obtain rfl := hw1.symm
  cases hb0 : inB 1 65535 t with
  | false =>
    go_wp2_with fail
    go_ret
    exact ⟨by simp [*], fX⟩
  | true =>
    go_wp2_with fail
    refine (k1 _).mono ?_
    rintro e w1 ⟨rfl, hw1⟩
    obtain rfl := hw1.symm
    cases hb1 : inB 1 1073741824 j with
    | false =>
      go_wp2_with fail
      go_ret
      exact ⟨by simp [*], fX⟩
    | true =>
      go_wp2_with fail
      go_ret
      exact ⟨by simp [*], fX⟩

set_option maxHeartbeats 1000000 in
set_option maxRecDepth 10000 in
theorem rr_5 (t j : Int) (w : World) :
    Calls Tryz.prog 64 #[mrV { k := 5, t := t, j := j }] w fun e w' => e = .returned (.bool (inB 1 65535 t && (inB 1 1073741824 j))) ∧ Fr noB w w' := by
  unfold mrV mrC
  have fX := (Fr.refl noB w).alloc (.cells (mrC { k := 5, t := t, j := j }).toArray 73)
  unfold mrC at fX
  have k0 := within_any t 1 65535
  have k1 := within_any j 1 1073741824
  go_enter Tryz.func64, Tryz.ntmps64
  go_wp2_with fail
  refine (k0 _).mono ?_
  rintro e w1 ⟨rfl, hw1⟩
  obtain rfl := hw1.symm
  cases hb0 : inB 1 65535 t with
  | false =>
    go_wp2_with fail
    go_ret
    exact ⟨by simp [*], fX⟩
  | true =>
    go_wp2_with fail
    refine (k1 _).mono ?_
    rintro e w1 ⟨rfl, hw1⟩
    obtain rfl := hw1.symm
    cases hb1 : inB 1 1073741824 j with
    | false =>
      go_wp2_with fail
      go_ret
      exact ⟨by simp [*], fX⟩
    | true =>
      go_wp2_with fail
      go_ret
      exact ⟨by simp [*], fX⟩

set_option maxHeartbeats 1000000 in
set_option maxRecDepth 10000 in
theorem rr_8 (t j : Int) (w : World) :
    Calls Tryz.prog 64 #[mrV { k := 8, t := t, j := j }] w fun e w' => e = .returned (.bool (inB 1 65535 t && (inB 1 1073741824 j))) ∧ Fr noB w w' := by
  unfold mrV mrC
  have fX := (Fr.refl noB w).alloc (.cells (mrC { k := 8, t := t, j := j }).toArray 73)
  unfold mrC at fX
  have k0 := within_any t 1 65535
  have k1 := within_any j 1 1073741824
  go_enter Tryz.func64, Tryz.ntmps64
  go_wp2_with fail
  refine (k0 _).mono ?_
  rintro e w1 ⟨rfl, hw1⟩
  obtain rfl := hw1.symm
  cases hb0 : inB 1 65535 t with
  | false =>
    go_wp2_with fail
    go_ret
    exact ⟨by simp [*], fX⟩
  | true =>
    go_wp2_with fail
    refine (k1 _).mono ?_
    rintro e w1 ⟨rfl, hw1⟩
    obtain rfl := hw1.symm
    cases hb1 : inB 1 1073741824 j with
    | false =>
      go_wp2_with fail
      go_ret
      exact ⟨by simp [*], fX⟩
    | true =>
      go_wp2_with fail
      go_ret
      exact ⟨by simp [*], fX⟩

set_option maxHeartbeats 1000000 in
set_option maxRecDepth 10000 in
theorem rr_9 (t j : Int) (w : World) :
    Calls Tryz.prog 64 #[mrV { k := 9, t := t, j := j }] w fun e w' => e = .returned (.bool (inB 1 65535 t && (inB 1 1073741824 j))) ∧ Fr noB w w' := by
  unfold mrV mrC
  have fX := (Fr.refl noB w).alloc (.cells (mrC { k := 9, t := t, j := j }).toArray 73)
  unfold mrC at fX
  have k0 := within_any t 1 65535
  have k1 := within_any j 1 1073741824
  go_enter Tryz.func64, Tryz.ntmps64
  go_wp2_with fail
  refine (k0 _).mono ?_
  rintro e w1 ⟨rfl, hw1⟩
  obtain rfl := hw1.symm
  cases hb0 : inB 1 65535 t with
  | false =>
    go_wp2_with fail
    go_ret
    exact ⟨by simp [*], fX⟩
  | true =>
    go_wp2_with fail
    refine (k1 _).mono ?_
    rintro e w1 ⟨rfl, hw1⟩
    obtain rfl := hw1.symm
    cases hb1 : inB 1 1073741824 j with
    | false =>
      go_wp2_with fail
      go_ret
      exact ⟨by simp [*], fX⟩
    | true =>
      go_wp2_with fail
      go_ret
      exact ⟨by simp [*], fX⟩

set_option maxHeartbeats 1000000 in
set_option maxRecDepth 10000 in
theorem rr_4 (a t j : Int) (w : World) :
    Calls Tryz.prog 64 #[mrV { k := 4, a := a, t := t, j := j }] w fun e w' => e = .returned (.bool (inB 1 65535 t && (inB 1 1073741824 j && (inB 0 3 a)))) ∧ Fr noB w w' := by
  unfold mrV mrC
  have fX := (Fr.refl noB w).alloc (.cells (mrC { k := 4, a := a, t := t, j := j }).toArray 73)
  unfold mrC at fX
  have k0 := within_any t 1 65535
  have k1 := within_any j 1 1073741824
  have k2 := within_any a 0 3
  go_enter Tryz.func64, Tryz.ntmps64
  go_wp2_with fail
  refine (k0 _).mono ?_
  rintro e w1 ⟨rfl, hw1⟩
  obtain rfl := hw1.symm
  cases hb0 : inB 1 65535 t with
  | false =>
    go_wp2_with fail
    go_ret
    exact ⟨by simp [*], fX⟩
  | true =>
    go_wp2_with fail
    refine (k1 _).mono ?_
    rintro e w1 ⟨rfl, hw1⟩
    obtain rfl := hw1.symm
    cases hb1 : inB 1 1073741824 j with
    | false =>
      go_wp2_with fail
      go_ret
      exact ⟨by simp [*], fX⟩
    | true =>
      go_wp2_with fail
      refine (k2 _).mono ?_
      rintro e w1 ⟨rfl, hw1⟩
      obtain rfl := hw1.symm
      cases hb2 : inB 0 3 a with
      | false =>
        go_wp2_with fail
        go_ret
        exact ⟨by simp [*], fX⟩
      | true =>
        go_wp2_with fail
        go_ret
        exact ⟨by simp [*], fX⟩

set_option maxHeartbeats 1000000 in
set_option maxRecDepth 10000 in
theorem rr_10 (a t j : Int) (w : World) :
    Calls Tryz.prog 64 #[mrV { k := 10, a := a, t := t, j := j }] w fun e w' => e = .returned (.bool (inB 1 65535 t && (inB 1 1073741824 j && (inB 0 3 a)))) ∧ Fr noB w w' := by
  unfold mrV mrC
  have fX := (Fr.refl noB w).alloc (.cells (mrC { k := 10, a := a, t := t, j := j }).toArray 73)
  unfold mrC at fX
  have k0 := within_any t 1 65535
  have k1 := within_any j 1 1073741824
  have k2 := within_any a 0 3
  go_enter Tryz.func64, Tryz.ntmps64
  go_wp2_with fail
  refine (k0 _).mono ?_
  rintro e w1 ⟨rfl, hw1⟩
  obtain rfl := hw1.symm
  cases hb0 : inB 1 65535 t with
  | false =>
    go_wp2_with fail
    go_ret
    exact ⟨by simp [*], fX⟩
  | true =>
    go_wp2_with fail
    refine (k1 _).mono ?_
    rintro e w1 ⟨rfl, hw1⟩
    obtain rfl := hw1.symm
    cases hb1 : inB 1 1073741824 j with
    | false =>
      go_wp2_with fail
      go_ret
      exact ⟨by simp [*], fX⟩
    | true =>
      go_wp2_with fail
      refine (k2 _).mono ?_
      rintro e w1 ⟨rfl, hw1⟩
      obtain rfl := hw1.symm
      cases hb2 : inB 0 3 a with
      | false =>
        go_wp2_with fail
        go_ret
        exact ⟨by simp [*], fX⟩
      | true =>
        go_wp2_with fail
        go_ret
        exact ⟨by simp [*], fX⟩

set_option maxHeartbeats 1000000 in
set_option maxRecDepth 10000 in
theorem rr_3 (a t j c : Int) (ua : Option Addr) (un uc : Nat) (lo : Bool) (xs : List Int) (w : World) (hv : RdI w (.slice ua un uc) xs) :
    Calls Tryz.prog 64 #[mrV { k := 3, pa := a, pt := t, pj := j, pc := c, ua := ua, un := un, uc := uc, lo := lo }] w fun e w' => e = .returned (.bool (pinB a t j c xs)) ∧ Fr noB w w' := by
  unfold mrV mrC
  have fX := (Fr.refl noB w).alloc (.cells (mrC { k := 3, pa := a, pt := t, pj := j, pc := c, ua := ua, un := un, uc := uc, lo := lo }).toArray 73)
  have k := rpart_any a t j c (.slice ua un uc) lo xs _ (hv.fr fX (fun _ _ _ _ _ q => q))
  unfold mrC at fX k
  go_enter Tryz.func64, Tryz.ntmps64
  go_wp2_with fail
  refine k.mono ?_
  rintro e w1 ⟨rfl, f1⟩
  have g1 := fX.seqN f1
  clear k fX f1
  go_wp2_with fail
  go_ret
  exact ⟨rfl, g1⟩
end Go.Proofs.YtppmednmcbjafaaGreat
end
