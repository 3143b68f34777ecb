/-
  The document's answer by definition: whether a number is in a list; a number put in order.
-/
import Derived.Test.YtbepkhldgfmmbaaReach
import Derived.Test.YtbepkhldgfmmbaaInts
set_option linter.unusedVariables false
set_option linter.unusedSimpArgs false
namespace Go.Proofs.Ytbepkhldgfmmbaa
open Go.RowKit Go Go.Maps Go.Lib

set_option maxHeartbeats 400000 in
theorem rin_any (v : Value) (xs : List Int) (x : Int) (w : World) (hv : RdI w v xs) :
    Calls Try.prog 21 #[v, .int .i64 x] w fun e w' => e = .returned (.bool (decide (x ∈ xs))) ∧ ∃ q, w' = w.drewN q := by
  obtain ⟨a, c, rfl, h1, h2, h3⟩ := hv
  generalize hn : xs.length = n at *
  replace hn := Lib.hid hn
  replace h3 := Lib.hid h3
  go_enter Try.func21, Try.ntmps21
  go_wp2_with fail
  go_loopw [5] (fun i wr => ∃ k : Nat, k ≤ n ∧ i = .int .i64 k ∧ Hid (x ∉ xs.take k) ∧ ∃ q, wr = w.drewN q) (fun i _ => n - (RowKit.intOf i).toNat)
  case atStart => exact ⟨0, by omega, rfl, Lib.hid (by simp), 0, rfl⟩
  case round =>
    obtain ⟨k, hk, rfl, hkt, q, rfl⟩ := hrel
    by_cases hlt : k < n
    · obtain ⟨g, o, rfl, e1⟩ := h3.out k hlt
      have hkx : k < xs.length := by have := hn.out; omega
      have hx1 : xs.take (k + 1) = xs.take k ++ [xs.getD k 0] := by
        rw [List.take_succ_eq_append_getElem hkx]; simp [List.getD, hkx]
      have hym : xs.getD k 0 ∈ xs := by
        have : xs[k]? = some (xs.getD k 0) := by simp [List.getD, hkx]
        exact List.mem_of_getElem? this
      generalize xs.getD k 0 = y at *
      replace hx1 := Lib.hid hx1
      replace e1 : (w.drewN q).cell? ⟨g, o + k, none⟩ = some (.int .i64 y) := e1
      generalize hw : w.drewN q = wd at *
      replace hw := Lib.hid hw
      by_cases hxy : y = x
      · subst hxy
        have he : decide (y ∈ xs) = true := by simpa using hym
        have hb : (y == y) = true := by simp
        replace he := Lib.hid he
        clear hym hkx
        go_wp2_with fail
        try go_quiet (fail)
        try go_wp2_with fail
        go_ret
        exact ⟨by first | (rw [he.out]; done) | (rw [he.out]; rfl), by first | exact ⟨_, by rw [← hw.out, World.drewN_drewN]⟩ | exact ⟨q, by rw [hw.out]⟩⟩
      · have hb : (y == x) = false := by simpa using hxy
        have hk2 : Hid (x ∉ xs.take (k + 1)) := Lib.hid (by
          rw [hx1.out, List.mem_append]
          exact fun z => z.elim hkt.out (fun z => hxy (List.mem_singleton.1 z).symm))
        clear hym hkx hkt hx1
        go_wp2_with fail
        try go_quiet (fail)
        try go_wp2_with fail
        go_roundw
        case rel => exact ⟨k + 1, by omega, by go_num, hk2, by first | exact ⟨_, by rw [← hw.out, World.drewN_drewN]⟩ | exact ⟨q, by rw [hw.out]⟩⟩
        case measure => simp [RowKit.intOf]; omega
    · obtain rfl : k = n := by omega
      have he : decide (x ∈ xs) = false := by
        have h5 := hkt.out
        rw [List.take_of_length_le (by have := hn.out; omega)] at h5
        simpa using h5
      replace he := Lib.hid he
      go_wp2_with fail
      go_ret
      exact ⟨by first | (rw [he.out]; done) | (rw [he.out]; rfl), q, rfl⟩

/-- a number put ahead of the first that is greater -/
def insG : List Int → Int → List Int
  | [], x => [x]
  | a :: r, x => if x < a then x :: a :: r else a :: insG r x
def anyG (l : List Int) (x : Int) : Bool := l.any fun y => decide (x < y)
theorem insG_none {l : List Int} {x : Int} (h : anyG l x = false) : insG l x = l ++ [x] := by
  induction l with
  | nil => rfl
  | cons a r ih =>
    simp only [anyG, List.any_cons, Bool.or_eq_false_iff, decide_eq_false_iff_not] at h
    unfold insG
    rw [if_neg h.1, ih h.2]; rfl
theorem insG_snoc {l : List Int} {x : Int} (y : Int) (h : anyG l x = true) : insG (l ++ [y]) x = insG l x ++ [y] := by
  induction l with
  | nil => simp [anyG] at h
  | cons a r ih =>
    by_cases ha : x < a
    · simp [insG, ha]
    · simp only [anyG, List.any_cons, Bool.or_eq_true, decide_eq_true_eq] at h
      have := ih (h.resolve_left ha)
      simp only [List.cons_append, insG, if_neg ha, this]
theorem insG_here {l : List Int} {x y : Int} (h : anyG l x = false) (hy : x < y) : insG (l ++ [y]) x = l ++ [x] ++ [y] := by
  induction l with
  | nil => simp [insG, hy]
  | cons a r ih =>
    simp only [anyG, List.any_cons, Bool.or_eq_false_iff, decide_eq_false_iff_not] at h
    have := ih h.2
    simp only [List.cons_append, insG, if_neg h.1, this]
theorem anyG_snoc (l : List Int) (x y : Int) : anyG (l ++ [y]) x = (anyG l x || decide (x < y)) := by simp [anyG]
/-- what has been put so far -/
def outG (l : List Int) (x : Int) : List Int := if anyG l x then insG l x else l
theorem insG_len (l : List Int) (x : Int) : (insG l x).length = l.length + 1 := by
  induction l with
  | nil => rfl
  | cons a r ih => unfold insG; split <;> simp_all
theorem outG_len (l : List Int) (x : Int) : (outG l x).length ≤ l.length + 1 := by
  unfold outG; split
  · exact Nat.le_of_eq (insG_len l x)
  · exact Nat.le_succ _
theorem append_int (B : Nat) (w : World) (v : Value) (O : List Int) (y : Int) (h : w.ownsRow B 3 1 v O.length (rowV O)) : (w.alloc (.cells #[.int .i64 y] 3)).ownsRow B 3 1 v O.length (rowV O) := ownsRow_fr h ((Fr.refl noB w).alloc _) (fun _ _ q => q)

theorem grow_int {w wr w1 : World} {B : Nat} {v v' : Value} {O : List Int} {y : Int} (hB : Hid (w.heap.size = B)) (fr : Fr noB w wr) (hA : (wr.alloc (.cells #[.int .i64 y] 3)).ownsRow B 3 1 v O.length (rowV O))
    (o1 : w1.ownsRow B 3 1 v' (O.length + 1) (rowV O ++ [.int .i64 y])) (gr : (wr.alloc (.cells #[.int .i64 y] 3)).grownBy w1 v.ownBlock) :
    w1.ownsRow B 3 1 v' (O ++ [y]).length (rowV (O ++ [y])) ∧ Fr noB w w1 := by
  refine ⟨by rw [List.length_append]; simpa [rowV] using o1, (fr.alloc _).grown gr (fun q hq hlt => ?_)⟩
  have := (hA.lt q hq).1
  have := hB.out
  omega
theorem outG_yes {l O : List Int} {x : Int} (y : Int) (h : Hid (true = anyG l x ∧ O = outG l x)) : Hid (true = anyG (l ++ [y]) x ∧ O ++ [y] = outG (l ++ [y]) x) := by
  obtain ⟨h1, h2⟩ := h.out
  refine Lib.hid ⟨by rw [anyG_snoc, ← h1]; rfl, ?_⟩
  have h3 : anyG (l ++ [y]) x = true := by rw [anyG_snoc, ← h1]; rfl
  unfold outG at h2 ⊢
  rw [h2, if_pos h1.symm, if_pos h3, insG_snoc y h1.symm]
theorem outG_here {l O : List Int} {x y : Int} (h : Hid (false = anyG l x ∧ O = outG l x)) (hy : x < y) : Hid (true = anyG (l ++ [y]) x ∧ O ++ [x] ++ [y] = outG (l ++ [y]) x) := by
  obtain ⟨h1, h2⟩ := h.out
  have h3 : anyG (l ++ [y]) x = true := by rw [anyG_snoc]; simp [hy]
  refine Lib.hid ⟨h3.symm, ?_⟩
  unfold outG at h2 ⊢
  rw [← h1] at h2
  simp only [Bool.false_eq_true, if_false] at h2
  rw [h2, if_pos h3, insG_here h1.symm hy]
theorem outG_no {l O : List Int} {x y : Int} (h : Hid (false = anyG l x ∧ O = outG l x)) (hy : ¬ x < y) : Hid (false = anyG (l ++ [y]) x ∧ O ++ [y] = outG (l ++ [y]) x) := by
  obtain ⟨h1, h2⟩ := h.out
  have h3 : anyG (l ++ [y]) x = false := by rw [anyG_snoc, ← h1]; simp; omega
  refine Lib.hid ⟨h3.symm, ?_⟩
  unfold outG at h2 ⊢
  rw [← h1] at h2
  rw [h3]
  simp only [Bool.false_eq_true, if_false] at h2 ⊢
  rw [h2]

set_option maxHeartbeats 1000000 in
set_option maxRecDepth 10000 in
theorem rinsert_any (v : Value) (xs : List Int) (x : Int) (w : World) (hv : RdI w v xs) (hl : xs.length ≤ 1000000) :
    Calls Try.prog 22 #[v, .int .i64 x] w fun e w' => ∃ u, e = .returned u ∧ w'.ownsRow w.heap.size 3 1 u (insG xs x).length (rowV (insG xs x)) ∧ Fr noB w w' := by
  obtain ⟨i0, hi0, hz0, hz1, hz2⟩ : ∃ i0, Try.prog.info? 3 = some i0 ∧ i0.zero = some (.int .i64 0) ∧ i0.size = 1 ∧ i0.bytes = 8 := by
    have hI := infoIntR
    cases hq : Try.prog.info? 3 with
    | none => rw [hq] at hI; cases hI
    | some k => rw [hq] at hI; simp at hI; exact ⟨k, rfl, hI⟩
  have hv2 := Lib.hid hv
  obtain ⟨a, c, rfl, h1, h2, h3⟩ := hv
  generalize hn : xs.length = n at *
  replace hn := Lib.hid hn
  replace h3 := Lib.hid h3
  generalize hB : w.heap.size = B at *
  replace hB := Lib.hid hB
  go_enter Try.func22, Try.ntmps22
  go_wp2_with fail
  go_loopw [5, 6, 7] (fun ov dn i wr => ∃ (k : Nat) (O : List Int) (d : Bool), k ≤ n ∧ i = .int .i64 k ∧ dn = .bool d ∧ wr.ownsRow B 3 1 ov O.length (rowV O) ∧ Hid (d = anyG (xs.take k) x ∧ O = outG (xs.take k) x) ∧ Fr noB w wr) (fun _ _ i _ => n - (RowKit.intOf i).toNat)
  case atStart => exact ⟨0, [], false, by omega, rfl, rfl, World.ownsRow_nil _ _ _ _, Lib.hid ⟨by simp [anyG], by simp [outG, anyG]⟩, Fr.refl _ _⟩
  case round =>
    obtain ⟨k, O, d, hk, rfl, rfl, own, hO, fr⟩ := hrel
    have hOl : O.length ≤ k + 1 := by rw [hO.out.2]; exact Nat.le_trans (outG_len _ _) (by have := List.length_take_le k xs; omega)
    by_cases hlt : k < n
    · obtain ⟨g, o, rfl, e0⟩ := h3.out k hlt
      have e1 := fr.cell e0 (fun q => q)
      have hkx : k < xs.length := by have := hn.out; omega
      have hx1 : xs.take (k + 1) = xs.take k ++ [xs.getD k 0] := by
        rw [List.take_succ_eq_append_getElem hkx]; simp [List.getD, hkx]
      generalize xs.getD k 0 = y at *
      replace hx1 := Lib.hid hx1
      have e0' := e0
      replace e0 := Lib.hid e0
      clear hkx
      have hBr : B ≤ wr.heap.size := by rw [← hB.out]; exact fr.size
      cases d with
      | true =>
        have hA := append_int B wr u5 O y own
        have hN := cell_new wr (.int .i64 y) 3
        go_wp2_with (first
          | (at_builtin; go_must (refine wpList_append_at _ rfl (.tmp 28) (.tmp 33) 27 rfl B 3 i0 _ 1 8 Try.underlying27 hi0 hz0 hz1 hz2 rfl (by omega) _ O.length _ rfl hA ⟨wr.heap.size, 0, none⟩ 1 1 [.int .i64 y] rfl rfl hN (one_int _ _) ?_ ?_ ?_ ?_))
          | fail)
        · unfold maxLen; omega
        · omega
        · have := ((Fr.refl noB wr).alloc (.cells #[.int .i64 y] 3)).size; omega
        intro v' w1 o1 gr1 _
        obtain ⟨own1, fr1⟩ := grow_int hB fr hA o1 gr1
        have hO1 := outG_yes y hO
        rw [← hx1.out] at hO1
        clear hA hN o1 gr1 own fr e1 hO
        go_wp2_with fail
        go_roundw
        case rel => exact ⟨k + 1, O ++ [y], true, by omega, by go_num, rfl, own1, hO1, fr1⟩
        case measure => simp [RowKit.intOf]; omega
      | false =>
        by_cases hxy : x < y
        · have hb : decide (x < y) = true := by simpa using hxy
          have hA := append_int B wr u5 O x own
          have hN := cell_new wr (.int .i64 x) 3
          go_wp2_with (first
          | (at_builtin; go_must (refine wpList_append_at _ rfl (.tmp 24) (.tmp 26) 27 rfl B 3 i0 _ 1 8 Try.underlying27 hi0 hz0 hz1 hz2 rfl (by omega) _ O.length _ rfl hA ⟨wr.heap.size, 0, none⟩ 1 1 [.int .i64 x] rfl rfl hN (one_int _ _) ?_ ?_ ?_ ?_))
          | fail)
          · unfold maxLen; omega
          · omega
          · have := ((Fr.refl noB wr).alloc (.cells #[.int .i64 x] 3)).size; omega
          intro v' w1 o1 gr1 _
          obtain ⟨own1, fr1⟩ := grow_int hB fr hA o1 gr1
          have e2 := fr1.cell e0' (fun q => q)
          have hl1 : (O ++ [x]).length ≤ k + 2 := by simp; omega
          have hB1 : B ≤ w1.heap.size := by rw [← hB.out]; exact fr1.size
          clear hA hN o1 gr1 own fr e1
          generalize hP : O ++ [x] = P at *
          replace hP := Lib.hid hP
          have hA := append_int B w1 v' P y own1
          have hN := cell_new w1 (.int .i64 y) 3
          go_wp2_with (first
          | (at_builtin; go_must (refine wpList_append_at _ rfl (.tmp 28) (.tmp 33) 27 rfl B 3 i0 _ 1 8 Try.underlying27 hi0 hz0 hz1 hz2 rfl (by omega) _ P.length _ rfl hA ⟨w1.heap.size, 0, none⟩ 1 1 [.int .i64 y] rfl rfl hN (one_int _ _) ?_ ?_ ?_ ?_))
          | fail)
          · unfold maxLen; omega
          · omega
          · have := ((Fr.refl noB w1).alloc (.cells #[.int .i64 y] 3)).size; omega
          intro v2 w2 o2 gr2 _
          obtain ⟨own2, fr2⟩ := grow_int hB fr1 hA o2 gr2
          have hO1 := outG_here hO hxy
          rw [← hx1.out, hP.out] at hO1
          clear hA hN o2 gr2 own1 fr1 e2 hO
          go_wp2_with fail
          go_roundw
          case rel => exact ⟨k + 1, P ++ [y], true, by omega, by go_num, rfl, own2, hO1, fr2⟩
          case measure => simp [RowKit.intOf]; omega
        · have hb : decide (x < y) = false := by simpa using hxy
          have hA := append_int B wr u5 O y own
          have hN := cell_new wr (.int .i64 y) 3
          go_wp2_with (first
          | (at_builtin; go_must (refine wpList_append_at _ rfl (.tmp 28) (.tmp 33) 27 rfl B 3 i0 _ 1 8 Try.underlying27 hi0 hz0 hz1 hz2 rfl (by omega) _ O.length _ rfl hA ⟨wr.heap.size, 0, none⟩ 1 1 [.int .i64 y] rfl rfl hN (one_int _ _) ?_ ?_ ?_ ?_))
          | fail)
          · unfold maxLen; omega
          · omega
          · have := ((Fr.refl noB wr).alloc (.cells #[.int .i64 y] 3)).size; omega
          intro v' w1 o1 gr1 _
          obtain ⟨own1, fr1⟩ := grow_int hB fr hA o1 gr1
          have hO1 := outG_no hO (y := y) (by omega)
          rw [← hx1.out] at hO1
          clear hA hN o1 gr1 own fr e1 hO
          go_wp2_with fail
          go_roundw
          case rel => exact ⟨k + 1, O ++ [y], false, by omega, by go_num, rfl, own1, hO1, fr1⟩
          case measure => simp [RowKit.intOf]; omega
    · obtain rfl : k = n := by omega
      have hBr : B ≤ wr.heap.size := by rw [← hB.out]; exact fr.size
      have htk : xs.take k = xs := List.take_of_length_le (by have := hn.out; omega)
      rw [htk] at hO
      cases d with
      | true =>
        have hE : O = insG xs x := by
          obtain ⟨h4, h5⟩ := hO.out
          rw [h5]; unfold outG; rw [if_pos h4.symm]
        replace hE := Lib.hid hE
        clear hO htk
        go_wp2_with fail
        go_ret
        exact ⟨_, rfl, by rw [← hE.out]; exact own, fr⟩
      | false =>
        have hE : O ++ [x] = insG xs x := by
          obtain ⟨h4, h5⟩ := hO.out
          rw [insG_none h4.symm, h5]; unfold outG; rw [← h4]; rfl
        replace hE := Lib.hid hE
        clear hO htk
        have hA := append_int B wr u5 O x own
        have hN := cell_new wr (.int .i64 x) 3
        go_wp2_with (first
          | (at_builtin; go_must (refine wpList_append_at _ rfl (.tmp 37) (.tmp 39) 27 rfl B 3 i0 _ 1 8 Try.underlying27 hi0 hz0 hz1 hz2 rfl (by omega) _ O.length _ rfl hA ⟨wr.heap.size, 0, none⟩ 1 1 [.int .i64 x] rfl rfl hN (one_int _ _) ?_ ?_ ?_ ?_))
          | fail)
        · unfold maxLen; omega
        · omega
        · have := ((Fr.refl noB wr).alloc (.cells #[.int .i64 x] 3)).size; omega
        intro v' w1 o1 gr1 _
        obtain ⟨own1, fr1⟩ := grow_int hB fr hA o1 gr1
        clear hA hN o1 gr1 own fr
        go_wp2_with fail
        go_ret
        exact ⟨_, rfl, by rw [← hE.out]; exact own1, fr1⟩
end Go.Proofs.Ytbepkhldgfmmbaa
