import Derived.Test.YtppmednmcbjafaaGreatHashSumN
import Derived.Test.YtppmednmcbjafaaGreatArgs
set_option linter.unusedVariables false
set_option linter.unusedSimpArgs false
set_option maxRecDepth 100000
namespace Go.Proofs.YtppmednmcbjafaaGreat
open Go.RowKit

/-- is a worth less than b? -/
def lessB (seed a b : Int) : Bool := decide (prio seed a < prio seed b) || (prio seed a == prio seed b && decide (a < b))

theorem prio_bd (seed a : Int) : 0 ≤ prio seed a ∧ prio seed a ≤ 18446744073709551615 := sumL_bd _

/-- a number that an int can hold -/
def I64 (n : Int) : Prop := -9223372036854775808 ≤ n ∧ n ≤ 9223372036854775807
def U64 (n : Int) : Prop := 0 ≤ n ∧ n ≤ 18446744073709551615

def CallsP (f : FuncId) (seed a p : Int) : Prop := ∀ w, Calls Tryz.prog f #[.int .u64 seed, .int .i64 a] w fun e w' => e = .returned (.int .u64 p) ∧ Fr noB w w'

set_option maxHeartbeats 400000 in
set_option maxRecDepth 10000 in
theorem less_core (seed a b p q : Int) (w : World) (hp : CallsP 160 seed a p) (hq : CallsP 160 seed b q) :
    Calls Tryz.prog 142 #[.int .u64 seed, .int .i64 a, .int .i64 b] w fun e w' => e = .returned (.bool (decide (p < q) || (p == q && decide (a < b)))) ∧ Fr noB w w' := by
  go_enter Tryz.func142, Tryz.ntmps142
  go_wp2_with fail
  refine (hp _).mono ?_
  rintro e w1 ⟨rfl, f1⟩
  go_wp2_with fail
  refine (hq _).mono ?_
  rintro e w2 ⟨rfl, f2⟩
  have f3 := f1.seqN f2
  clear f1 f2
  by_cases h1 : p < q
  · go_wp2
    go_ret
    exact ⟨by simp [h1], f3⟩
  · by_cases h2 : p = q
    · subst h2
      go_wp2
      go_ret
      exact ⟨by simp, f3⟩
    · have h2' : (p == q) = false := by simpa using h2
      go_wp2
      go_ret
      exact ⟨by simp [h1, h2], f3⟩
set_option maxRecDepth 10000 in
theorem less_any (seed a b : Int) (w : World) (hs : U64 seed) (ha : I64 a) (hb : I64 b) :
    Calls Tryz.prog 142 #[.int .u64 seed, .int .i64 a, .int .i64 b] w fun e w' => e = .returned (.bool (lessB seed a b)) ∧ Fr noB w w' :=
  less_core seed a b (prio seed a) (prio seed b) w (fun w => prio_any seed a w hs ha) (fun w => prio_any seed b w hs hb)

def bsN (n : Int) (k j : Nat) : List UInt8 := (List.range j).map fun i => byteU (n / 2 ^ (8 * (k - 1 - i)))
theorem bsN_snoc (n : Int) (k j : Nat) : bsN n k (j + 1) = bsN n k j ++ [byteU (n / 2 ^ (8 * (k - 1 - j)))] := by simp [bsN, List.range_succ]

set_option maxHeartbeats 400000 in
set_option maxRecDepth 10000 in
theorem rbytes_any (n : Int) (k : Nat) (w : World) (hn : U64 n) (hk : k ≤ 8) :
    Calls Tryz.prog 144 #[.int .u64 n, .int .i64 k] w fun e w' => e = .returned (.string (strB (bsN n k k))) ∧ Fr noB w w' := by
  obtain ⟨i0, hi, hz0, hz1, hz2⟩ := info_parts Tryz.infoByte
  obtain ⟨hs0, hs1⟩ := hn
  go_enter Tryz.func144, Tryz.ntmps144
  go_wp2
  go_loopw [5, 6] (fun v i wr => ∃ j : Nat, j ≤ k ∧ i = .int .i64 (↑k - 1 - ↑j) ∧ wr.ownsRow w.heap.size 5 1 v j ((bsN n k j).map cellB) ∧ Fr noB w wr) (fun v i wr => (intOf i + 1).toNat)
  case atStart => exact ⟨0, by omega, by simp, ⟨rfl, Or.inr ⟨_, 0, _, rfl, Nat.le_refl _, (Blk.new w _ []), Nat.le_refl _, Nat.zero_le _, rfl, rfl⟩⟩, (Fr.refl _ _).alloc _⟩
  case round =>
    obtain ⟨j, hj, rfl, ho, hf⟩ := hrel
    have hz := hf.size
    by_cases hlt : j < k
    · obtain ⟨m, hm⟩ : ∃ m : Nat, (k : Int) - 1 - j = m := ⟨k - 1 - j, by omega⟩
      have hm' : k - 1 - j = m := by omega
      replace hm' := Lib.hid hm'
      have hm7 : m ≤ 7 := by omega
      rw [hm]
      replace hm := Lib.hid hm
      go_wp2_with (first
              | (at_builtin; refine wpList_append_at _ rfl (.tmp 14) (.tmp 20) 216 rfl w.heap.size 5 i0 (.int .u8 0) 1 1 Tryz.underlying216 hi hz0 hz1 hz2 rfl (by decide) _ _ _ rfl (ho.alloc _) ⟨_, 0, none⟩ 1 1 [_] rfl rfl (cell_new _ _ _) (one_int _ _) ?_ ?_ ?_ ?_)
              | fail)
      · unfold maxLen; omega
      · omega
      · simp; omega
      intro v' w1 o1 gr1 _
      rw [← cellB_byteU] at o1
      have f1 := (hf.alloc (Obj.cells #[_] 5)).grown gr1 (fun g h q => by have := (ho.lt g h).1; omega)
      have o2 : w1.ownsRow w.heap.size 5 1 v' (j + 1) ((bsN n k (j + 1)).map cellB) := by rw [bsN_snoc, hm'.out]; simpa using o1
      clear o1 gr1 ho hf
      go_wp2_with fail
      go_roundw
      case rel => exact ⟨j + 1, by omega, by congr 1; have := hm.out; omega, o2, f1⟩
      case measure => first | (simp [intOf]; done) | (simp [intOf]; omega)
    · have hq : (k : Int) - 1 - j = -1 := by omega
      rw [hq]
      clear hq
      obtain rfl : k = j := by omega
      have hcv := string_of_row (P := Tryz.prog) 216 9 5 Tryz.underlying216 Tryz.underlying5 Tryz.underlying9 ho
      go_wp2
      go_ret
      exact ⟨rfl, hf⟩

theorem bsN_seed (seed : Int) : bsN seed 8 8 = seedBs seed 8 := by
  unfold bsN seedBs
  apply List.map_congr_left
  intro i hi
  have := List.mem_range.1 hi
  congr 2
  congr 1
  omega
theorem byteU_wrap (t : Int) (s : Nat) (h : s ≤ 56) : byteU (IntKind.u64.wrap t / 2 ^ s) = byteU (t / 2 ^ s) := by
  rw [IntKind.wrap_u64]
  unfold byteU
  congr 2
  have e : (18446744073709551616 : Int) = 2 ^ s * (256 * 2 ^ (56 - s)) := by
    have e1 : (2 : Int) ^ s * (256 * 2 ^ (56 - s)) = 2 ^ 8 * (2 ^ s * 2 ^ (56 - s)) := by
      rw [Int.mul_left_comm]; rfl
    rw [e1, ← Int.pow_add, ← Int.pow_add, show 8 + (s + (56 - s)) = 64 by omega]; rfl
  have hp : (0 : Int) < 2 ^ s := Int.pow_pos (by omega)
  have hd : t = (t % 18446744073709551616) + 2 ^ s * (256 * 2 ^ (56 - s) * (t / 18446744073709551616)) := by
    have := Int.emod_add_mul_ediv t 18446744073709551616
    rw [← Int.mul_assoc, ← e]
    exact this.symm
  have h2 : t / 2 ^ s = (t % 18446744073709551616) / 2 ^ s + 256 * (2 ^ (56 - s) * (t / 18446744073709551616)) := by
    conv => lhs; rw [hd]
    rw [Int.add_mul_ediv_left _ _ (by omega), Int.mul_assoc]
  rw [h2]
  omega
theorem bsN_trace (t : Int) : bsN (IntKind.u64.wrap t) 4 4 = traceBs t 4 := by
  unfold bsN traceBs
  apply List.map_congr_left
  intro i hi
  have := List.mem_range.1 hi
  rw [show 8 * (4 - 1 - i) = 24 - 8 * i by omega]
  exact byteU_wrap t _ (by omega)

set_option maxHeartbeats 400000 in
set_option maxRecDepth 10000 in
theorem rprio_any (seed trace : Int) (w : World) (hs : U64 seed) (ht : I64 trace) :
    Calls Tryz.prog 112 #[.int .u64 seed, .int .i64 trace] w fun e w' => e = .returned (.int .u64 (prio seed trace)) ∧ Fr noB w w' := by
  have hu : U64 (IntKind.u64.wrap trace) := by rw [IntKind.wrap_u64]; unfold U64; omega
  replace hu := Lib.hid hu
  go_enter Tryz.func112, Tryz.ntmps112
  go_wp2_with fail
  refine (rbytes_any _ 8 _ hs (by omega)).mono ?_
  rintro e w1 ⟨rfl, f1⟩
  rw [bsN_seed]
  go_wp2_with fail
  refine (rbytes_any _ 4 _ hu.out (by omega)).mono ?_
  rintro e w2 ⟨rfl, f2⟩
  rw [bsN_trace]
  go_wp2_with fail
  rw [strB_append]
  refine (rsum_any _ _ (by rw [strB_size]; simp [seedBs, traceBs]; unfold maxLen; omega)).mono ?_
  rintro e w3 ⟨rfl, hw3⟩
  obtain rfl := hw3.symm
  have f3 := f1.seqN f2
  clear f1 f2
  go_wp2
  go_ret
  exact ⟨rfl, f3⟩

set_option maxHeartbeats 400000 in
set_option maxRecDepth 10000 in
theorem rless_core (seed a b p q : Int) (w : World) (hp : CallsP 112 seed a p) (hq : CallsP 112 seed b q) :
    Calls Tryz.prog 86 #[.int .u64 seed, .int .i64 a, .int .i64 b] w fun e w' => e = .returned (.bool (decide (p < q) || (p == q && decide (a < b)))) ∧ Fr noB w w' := by
  go_enter Tryz.func86, Tryz.ntmps86
  go_wp2_with fail
  refine (hp _).mono ?_
  rintro e w1 ⟨rfl, f1⟩
  go_wp2_with fail
  refine (hq _).mono ?_
  rintro e w2 ⟨rfl, f2⟩
  have f3 := f1.seqN f2
  clear f1 f2
  by_cases h1 : p < q
  · go_wp2
    go_ret
    exact ⟨by simp [h1], f3⟩
  · by_cases h2 : p = q
    · subst h2
      go_wp2
      go_ret
      exact ⟨by simp, f3⟩
    · have h2' : (p == q) = false := by simpa using h2
      go_wp2
      go_ret
      exact ⟨by simp [h1, h2], f3⟩
set_option maxRecDepth 10000 in
theorem rless_any (seed a b : Int) (w : World) (hs : U64 seed) (ha : I64 a) (hb : I64 b) :
    Calls Tryz.prog 86 #[.int .u64 seed, .int .i64 a, .int .i64 b] w fun e w' => e = .returned (.bool (lessB seed a b)) ∧ Fr noB w w' :=
  rless_core seed a b (prio seed a) (prio seed b) w (fun w => rprio_any seed a w hs ha) (fun w => rprio_any seed b w hs hb)

/-- the least so far -/
def minP (L : Int → Int → Bool) (m : Int) (l : List Int) : Int := l.foldl (fun m t => if L t m then t else m) m
def leastL (L : Int → Int → Bool) : List Int → Int
  | [] => -1
  | x :: r => minP L x r
theorem minP_snoc (L : Int → Int → Bool) (m : Int) (l : List Int) (t : Int) : minP L m (l ++ [t]) = if L t (minP L m l) then t else minP L m l := by unfold minP; rw [List.foldl_append]; rfl
theorem minP_I64 (L : Int → Int → Bool) (m : Int) (l : List Int) (hm : I64 m) (hl : ∀ t ∈ l, I64 t) : I64 (minP L m l) := by
  induction l generalizing m with
  | nil => exact hm
  | cons t r ih =>
    show I64 (minP L (if L t m then t else m) r)
    refine ih _ ?_ (fun u hu => hl u (by simp [hu]))
    split
    · exact hl t (by simp)
    · exact hm

/-- a []int that can be read -/
def Ints (w : World) (v : Value) (xs : List Int) : Prop := SlR w v 1 (IsI .i64) xs
theorem Ints.form {w : World} {v : Value} {xs : List Int} (h : Ints w v xs) : ∃ a c, v = .slice a xs.length c ∧ xs.length ≤ c ∧ c ≤ maxLen ∧ (∀ t ∈ xs, I64 t) ∧ ∀ i, i < xs.length → ∃ g o, a = some ⟨g, o, none⟩ ∧ w.cell? ⟨g, o + i, none⟩ = some (.int .i64 (xs.getD i 0)) := by
  obtain ⟨a, c, rfl, h1, h2, h3⟩ := h
  refine ⟨a, c, rfl, h1.1, h2, fun t ht => ?_, fun i hi => ?_⟩
  · obtain ⟨i, hi, rfl⟩ := List.getElem_of_mem ht
    obtain ⟨g, o, cs, _, _, hr, _⟩ := h3 i _ (List.getElem?_eq_getElem hi)
    exact wf_i64 hr.2
  · obtain ⟨g, o, cs, ha, hk, hr, hc⟩ := h3 i xs[i] (List.getElem?_eq_getElem hi)
    obtain ⟨hr, _⟩ := hr
    subst hr
    refine ⟨g, o, ha, ?_⟩
    have := hc 0 (.int .i64 xs[i]) rfl
    simpa [List.getD, hi] using this

def CallsL (f : FuncId) (seed : Int) (L : Int → Int → Bool) : Prop := ∀ a b w, I64 a → I64 b → Calls Tryz.prog f #[.int .u64 seed, .int .i64 a, .int .i64 b] w fun e w' => e = .returned (.bool (L a b)) ∧ Fr noB w w'

set_option maxHeartbeats 1000000 in
set_option maxRecDepth 10000 in
theorem least_core (seed : Int) (L : Int → Int → Bool) (v : Value) (xs : List Int) (w : World) (hL : CallsL 142 seed L) (hx : Ints w v xs) :
    Calls Tryz.prog 110 #[.int .u64 seed, v] w fun e w' => e = .returned (.int .i64 (leastL L xs)) ∧ Fr noB w w' := by
  obtain ⟨a, c, rfl, h1, h2, h3, h4⟩ := hx.form
  clear hx
  unfold maxLen at h2
  cases xs with
  | nil =>
    go_enter Tryz.func110, Tryz.ntmps110
    go_wp2
    go_ret
    exact ⟨rfl, Fr.refl _ _⟩
  | cons x r =>
    obtain ⟨g, o, ha, hc⟩ := h4 0 (by simp)
    subst ha
    have hc0 : w.cell? ⟨g, o, none⟩ = some (.int .i64 x) := by simpa using hc
    clear hc
    have hr : ∀ i, i < r.length → w.cell? ⟨g, o + 1 + i, none⟩ = some (.int .i64 (r.getD i 0)) := fun i hi => by
      obtain ⟨g', o', ha, hc⟩ := h4 (i + 1) (by simp; omega)
      cases ha
      simpa [Nat.add_assoc, Nat.add_comm 1 i] using hc
    have hx0 : I64 x := h3 x (by simp)
    have hr0 : ∀ t ∈ r, I64 t := fun t ht => h3 t (by simp [ht])
    clear h3 h4
    simp only [List.length_cons] at h1 ⊢
    generalize hn : r.length = n at *
    have hp : (0 : Int) < (n : Int) + 1 := by omega
    have hne : ((n : Int) + 1 == 0) = false := by simp; omega
    by_cases hn0 : n = 0
    · have hrn : r = [] := List.eq_nil_of_length_eq_zero (by omega)
      subst hrn
      subst hn0
      clear hr hr0 hn hne hp
      go_enter Tryz.func110, Tryz.ntmps110
      go_wp2_with fail
      all_goals
        refine wp_loop_rounds 1 ?_
        rw [rounds_succ]
        go_wp2
        go_ret
        exact ⟨rfl, Fr.refl _ _⟩
    have hc1 : ¬ c = 1 := by omega
    have hn1 : n ≤ 9223372036854775806 := by omega
    replace hr := Lib.hid hr
    replace hr0 := Lib.hid hr0
    replace hn := Lib.hid hn
    go_enter Tryz.func110, Tryz.ntmps110
    go_wp2_with fail
    go_loopw [5, 17] (fun m i wr => ∃ k : Nat, k ≤ n ∧ i = .int .i64 k ∧ m = .int .i64 (minP L x (r.take k)) ∧ Fr noB w wr) (fun _ i _ => n - (intOf i).toNat)
    case atStart => exact ⟨0, by omega, rfl, rfl, Fr.refl _ _⟩
    case round =>
      obtain ⟨k, hk, rfl, rfl, hf⟩ := hrel
      by_cases hlt : k < n
      · have hcell := hf.cell (hr.out k hlt) (fun q => q)
        have hsn : minP L x (r.take (k + 1)) = if L (r.getD k 0) (minP L x (r.take k)) then r.getD k 0 else minP L x (r.take k) := by
          rw [← minP_snoc, List.take_succ_eq_append_getElem (by have := hn.out; omega)]
          simp [List.getD, show k < r.length by rw [hn.out]; exact hlt]
        have hm : I64 (minP L x (r.take k)) := minP_I64 L x _ hx0 (fun t ht => hr0.out t (List.mem_of_mem_take ht))
        have ht : I64 (r.getD k 0) := hr0.out _ (by simp [List.getD, show k < r.length by rw [hn.out]; exact hlt])
        replace hsn := Lib.hid hsn
        generalize hM : minP L x (r.take k) = m at *
        generalize hT : r.getD k 0 = t at *
        replace hM := Lib.hid hM
        replace hT := Lib.hid hT
        go_wp2_with fail
        refine (hL t m _ ht hm).mono ?_
        rintro e w1 ⟨rfl, f1⟩
        have f2 := hf.seqN f1
        clear f1 hf hcell
        cases hLb : L t m with
        | true =>
          replace hLb := Lib.hid hLb
          go_wp2_with fail
          go_roundw
          case rel => exact ⟨k + 1, by omega, by go_num, by rw [hsn.out, hLb.out]; rfl, f2⟩
          case measure => simp [intOf]; omega
        | false =>
          replace hLb := Lib.hid hLb
          go_wp2_with fail
          go_roundw
          case rel => exact ⟨k + 1, by omega, by go_num, by rw [hsn.out, hLb.out]; rfl, f2⟩
          case measure => simp [intOf]; omega
      · go_wp2
        go_ret
        exact ⟨by rw [List.take_of_length_le (by have := hn.out; omega)]; rfl, hf⟩

set_option maxHeartbeats 1000000 in
set_option maxRecDepth 10000 in
theorem rleast_core (seed : Int) (L : Int → Int → Bool) (v : Value) (xs : List Int) (w : World) (hL : CallsL 86 seed L) (hx : Ints w v xs) :
    Calls Tryz.prog 48 #[.int .u64 seed, v] w fun e w' => e = .returned (.int .i64 (leastL L xs)) ∧ Fr noB w w' := by
  obtain ⟨a, c, rfl, h1, h2, h3, h4⟩ := hx.form
  clear hx
  unfold maxLen at h2
  by_cases hn0 : xs = []
  · subst hn0
    go_enter Tryz.func48, Tryz.ntmps48
    go_wp2
    go_ret
    exact ⟨rfl, Fr.refl _ _⟩
  have hpos : 0 < xs.length := List.length_pos_iff.2 hn0
  obtain ⟨g, o, ha, hc⟩ := h4 0 hpos
  subst ha
  have hr : ∀ i, i < xs.length → w.cell? ⟨g, o + i, none⟩ = some (.int .i64 (xs.getD i 0)) := fun i hi => by
    obtain ⟨g', o', ha, hc⟩ := h4 i hi
    cases ha
    exact hc
  have hc0 : w.cell? ⟨g, o, none⟩ = some (.int .i64 (xs.getD 0 0)) := hc
  have hx0 : I64 (xs.getD 0 0) := h3 _ (by simp [List.getD, hpos])
  have hlast : leastL L xs = minP L (xs.getD 0 0) xs := by
    cases xs with
    | nil => exact absurd rfl hn0
    | cons x r =>
      show minP L x r = minP L x (x :: r)
      show _ = minP L (if L x x then x else x) r
      rw [ite_self]
  clear h4 hc hn0
  generalize hX : xs.getD 0 0 = x at *
  replace hX := Lib.hid hX
  generalize hn : xs.length = n at *
  have hne : ((n : Int) == 0) = false := by simp; omega
  have hp : (0 : Int) < (n : Int) := by omega
  replace hr := Lib.hid hr
  replace hn := Lib.hid hn
  replace hlast := Lib.hid hlast
  replace h3 := Lib.hid h3
  go_enter Tryz.func48, Tryz.ntmps48
  go_wp2_with fail
  go_loopw [5, 6] (fun m i wr => ∃ k : Nat, k ≤ n ∧ i = .int .i64 k ∧ m = .int .i64 (minP L x (xs.take k)) ∧ Fr noB w wr) (fun _ i _ => n - (intOf i).toNat)
  case atStart => exact ⟨0, by omega, rfl, rfl, Fr.refl _ _⟩
  case round =>
    obtain ⟨k, hk, rfl, rfl, hf⟩ := hrel
    by_cases hlt : k < n
    · have hcell := hf.cell (hr.out k hlt) (fun q => q)
      have hsn : minP L x (xs.take (k + 1)) = if L (xs.getD k 0) (minP L x (xs.take k)) then xs.getD k 0 else minP L x (xs.take k) := by
        rw [← minP_snoc, List.take_succ_eq_append_getElem (by have := hn.out; omega)]
        simp [List.getD, show k < xs.length by rw [hn.out]; exact hlt]
      have hm : I64 (minP L x (xs.take k)) := minP_I64 L x _ hx0 (fun t ht => h3.out t (List.mem_of_mem_take ht))
      have ht : I64 (xs.getD k 0) := h3.out _ (by simp [List.getD, show k < xs.length by rw [hn.out]; exact hlt])
      replace hsn := Lib.hid hsn
      generalize hM : minP L x (xs.take k) = m at *
      generalize hT : xs.getD k 0 = t at *
      replace hM := Lib.hid hM
      replace hT := Lib.hid hT
      go_wp2_with fail
      refine (hL t m _ ht hm).mono ?_
      rintro e w1 ⟨rfl, f1⟩
      have f2 := hf.seqN f1
      have hcell1 := f1.cell hcell (fun q => q)
      clear f1 hf hcell
      cases hLb : L t m with
      | true =>
        replace hLb := Lib.hid hLb
        go_wp2_with fail
        go_roundw
        case rel => exact ⟨k + 1, by omega, by go_num, by rw [hsn.out, hLb.out]; rfl, f2⟩
        case measure => simp [intOf]; omega
      | false =>
        replace hLb := Lib.hid hLb
        go_wp2_with fail
        go_roundw
        case rel => exact ⟨k + 1, by omega, by go_num, by rw [hsn.out, hLb.out]; rfl, f2⟩
        case measure => simp [intOf]; omega
    · go_wp2
      go_ret
      exact ⟨by rw [hlast.out, List.take_of_length_le (by have := hn.out; omega)]; rfl, hf⟩

def leastS (seed : Int) (xs : List Int) : Int := leastL (lessB seed) xs
set_option maxRecDepth 10000 in
theorem least_any (seed : Int) (v : Value) (xs : List Int) (w : World) (hs : U64 seed) (hx : Ints w v xs) :
    Calls Tryz.prog 110 #[.int .u64 seed, v] w fun e w' => e = .returned (.int .i64 (leastS seed xs)) ∧ Fr noB w w' :=
  least_core seed (lessB seed) v xs w (fun a b w ha hb => less_any seed a b w hs ha hb) hx
set_option maxRecDepth 10000 in
theorem rleast_any (seed : Int) (v : Value) (xs : List Int) (w : World) (hs : U64 seed) (hx : Ints w v xs) :
    Calls Tryz.prog 48 #[.int .u64 seed, v] w fun e w' => e = .returned (.int .i64 (leastS seed xs)) ∧ Fr noB w w' :=
  rleast_core seed (lessB seed) v xs w (fun a b w ha hb => rless_any seed a b w hs ha hb) hx
end Go.Proofs.YtppmednmcbjafaaGreat
