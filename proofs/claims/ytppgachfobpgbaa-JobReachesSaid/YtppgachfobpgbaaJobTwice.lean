/-
  What the law JobTwice walks: a message that a job hears twice changes nothing more.
-/
import Derived.Test.YtppgachfobpgbaaJobLaws
import Derived.Deep.RegionLaw
set_option linter.unusedVariables false
set_option linter.unusedSimpArgs false
namespace Go.Proofs.Ytppgachfobpgbaa
open Go.RowKit Go Go.Lib

theorem umodv (b m : Int) (h0 : 0 < m) (h1 : m ≤ 9223372036854775807) (v : Int) (hv : v = m) : ∃ q, wrap64 ((IntKind.u64.wrap b).tmod (IntKind.u64.wrap v)) = q ∧ 0 ≤ q ∧ q < m := by
  subst hv
  rw [show IntKind.u64.wrap v = v by rw [IntKind.wrap_u64]; omega]
  exact umod b v h0 h1

theorem infoOpJ : (Try.prog.info? 40).map (fun i => (i.zero, i.size, i.bytes)) = some (some (.agg #[.int .i64 0, .int .i64 0, .int .i64 0, .int .i64 0, .slice none 0 0, .bool false]), 6, 64) := by kernel_rfl
theorem opC_len (m : OpJ) : (opC m).length = 6 := rfl
theorem flat_len (xs : List OpJ) : (xs.flatMap opC).length = xs.length * 6 := by
  induction xs with
  | nil => rfl
  | cons m r ih => rw [List.flatMap_cons, List.length_append, ih, opC_len, List.length_cons]; omega
theorem flat_get : ∀ (xs : List OpJ) (i q : Nat) (m : OpJ), xs[i]? = some m → q < 6 → (xs.flatMap opC)[i * 6 + q]? = (opC m)[q]?
  | [], i, q, m, h, _ => by simp at h
  | x :: r, 0, q, m, h, hq => by
    simp at h; subst h
    rw [List.flatMap_cons, List.getElem?_append_left (by rw [opC_len]; omega)]
    congr 1; omega
  | x :: r, i + 1, q, m, h, hq => by
    rw [List.flatMap_cons, List.getElem?_append_right (by rw [opC_len]; omega), opC_len, show (i + 1) * 6 + q - 6 = i * 6 + q by omega]
    exact flat_get r i q m (by simpa using h) hq
theorem flat_src {w w' : World} {va : Option Addr} {n vc : Nat} {xs : List OpJ} (hn : xs.length = n) (h1 : n ≤ vc ∧ (va = none → vc = 0))
    (h3 : ∀ (i : Nat) (m : OpJ), xs[i]? = some m → ∃ g o cs, va = some ⟨g, o, none⟩ ∧ cs.length = 6 ∧ IsOpJ w cs m ∧ ∀ (j : Nat) (u : Value), cs[j]? = some u → w.cell? ⟨g, o + (i * 6 + j), none⟩ = some u) (f : Fr noB w w') :
    (Value.slice va n vc = .slice none 0 0 ∧ n = 0 ∧ xs.flatMap opC = []) ∨ ∃ ad c, Value.slice va n vc = .slice (some ad) n c ∧ ∀ j q, (xs.flatMap opC)[j]? = some q → w'.cell? (ad.add j) = some q := by
  rcases va with _ | ad
  · have := h1.2 rfl
    have hn0 : n = 0 := by omega
    subst hn0
    have : xs = [] := List.eq_nil_of_length_eq_zero hn
    subst this
    rw [h1.2 rfl]
    exact Or.inl ⟨rfl, rfl, rfl⟩
  · refine Or.inr ⟨ad, vc, rfl, fun j q hj => ?_⟩
    have hlt := (List.getElem?_eq_some_iff.1 hj).1
    rw [flat_len] at hlt
    have hi : j / 6 < xs.length := by omega
    have hm : xs[j / 6]? = some xs[j / 6] := List.getElem?_eq_getElem hi
    have hjj : j = j / 6 * 6 + j % 6 := by omega
    rw [hjj, flat_get xs (j / 6) (j % 6) _ hm (by omega)] at hj
    obtain ⟨g, o, cs, e, _, ⟨rfl, _⟩, hc⟩ := h3 _ _ hm
    cases e
    rw [Addr.add_lit, hjj]
    exact f.cell (hc _ _ hj) (fun q => q)
theorem flat_one (xs : List OpJ) : ∀ u ∈ xs.flatMap opC, u.oneCell' = true := fun u hu => by
  obtain ⟨a, _, hu⟩ := List.mem_flatMap.1 hu
  unfold opC at hu
  simp only [List.mem_cons, List.not_mem_nil, or_false] at hu
  rcases hu with rfl | rfl | rfl | rfl | rfl | rfl <;> rfl
/-- the calls, as they lie in a row -/
def OpsAt (w : World) (a : Option Addr) (M : List OpJ) : Prop := ∀ (i : Nat) (m : OpJ), M[i]? = some m → ∃ g, a = some ⟨g, 0, none⟩ ∧ ∀ q u, (opC m)[q]? = some u → w.cell? ⟨g, i * 6 + q, none⟩ = some u
theorem OpsAt.of_own {w : World} {B n c : Nat} {a : Option Addr} {M : List OpJ} (h : w.ownsRow B 40 6 (.slice a n c) n (M.flatMap opC)) : OpsAt w a M := fun i m hm => by
  have hl := h.1
  rw [flat_len] at hl
  have hi := (List.getElem?_eq_some_iff.1 hm).1
  obtain ⟨g, cap, e, _⟩ := ownsRow_some h (by omega)
  injection e with e1 e2 e3
  subst e1
  refine ⟨g, rfl, fun q u hq => ?_⟩
  have hq6 : q < 6 := by
    have := (List.getElem?_eq_some_iff.1 hq).1
    rw [opC_len] at this; exact this
  have := h.cells (g := g) rfl (i * 6 + q) u (by rw [flat_get M i q m hm hq6]; exact hq)
  rwa [Addr.add_lit, Nat.zero_add] at this

theorem OpsAt.fr {w w' : World} {g : Nat} {M : List OpJ} {S : Nat → Prop} (h : OpsAt w (some ⟨g, 0, none⟩) M) (f : Fr S w w') (hg : ¬ S g) : OpsAt w' (some ⟨g, 0, none⟩) M := fun i m hm => by
  obtain ⟨g', e, hc⟩ := h i m hm
  injection e with e
  injection e with e
  subst e
  exact ⟨g, rfl, fun q u hq => f.cell (hc q u hq) hg⟩
theorem OpsAt.frN {w w' : World} {a : Option Addr} {M : List OpJ} (h : OpsAt w a M) (f : Fr noB w w') : OpsAt w' a M := fun i m hm => by
  obtain ⟨g', e, hc⟩ := h i m hm
  exact ⟨g', e, fun q u hq => f.cell (hc q u hq) (fun q => q)⟩
theorem rdi_ne {w : World} {ua : Option Addr} {un uc p : Nat} {xs : List Int} (h : RdI w (.slice ua un uc) xs) (hp : ¬ p < w.heap.size) : xs ≠ [] → ∀ g o, ua = some ⟨g, o, none⟩ → g ≠ p := by
  intro hne g o e q
  obtain ⟨a, c, e1, _, _, h3⟩ := h
  injection e1 with e1 _ _
  subst e1
  have hl : 0 < xs.length := List.length_pos_iff.2 hne
  obtain ⟨g', o', e2, hc⟩ := h3 0 hl
  rw [e] at e2
  injection e2 with e2
  injection e2 with e2
  have := lt_of_cell hc
  omega
theorem rdi_cells {w : World} {v : Value} {xs : List Int} (h : RdI w v xs) : ∃ a c, v = .slice a xs.length c ∧ ∀ i, i < xs.length → ∃ g o, a = some ⟨g, o, none⟩ ∧ w.cell? ⟨g, o + i, none⟩ = some (.int .i64 (xs.getD i 0)) := by
  obtain ⟨a, c, h1, _, _, h2⟩ := h
  exact ⟨a, c, h1, h2⟩
theorem src_blk {w : World} {g : Nat} {t : TypeId} {cs : List Value} (b : Blk w g t cs) : (Value.slice (some ⟨g, 0, none⟩) 1 1 = .slice none 0 0 ∧ 1 = 0 ∧ cs = []) ∨ ∃ ad c, Value.slice (some ⟨g, 0, none⟩) 1 1 = .slice (some ad) 1 c ∧ ∀ j q, cs[j]? = some q → w.cell? (ad.add j) = some q :=
  Or.inr ⟨⟨g, 0, none⟩, 1, rfl, fun j q hj => by rw [Addr.add_lit, Nat.zero_add]; exact (b.cell j).trans hj⟩
set_option maxHeartbeats 4000000 in
set_option maxRecDepth 10000 in
theorem twice_any (n0 a t c : Int) (v : Value) (xs : List OpJ) (m : OpJ) (w : World) (hv : SlR w v 6 (IsOpJ w) xs) (hm : IsOpJ w (opC m) m) :
    Calls Try.prog 7 #[.int .i64 n0, .agg #[.int .i64 a, .int .i64 t, .int .i64 c], v, .agg #[.int .i64 m.k, .int .i64 m.a, .int .i64 m.t, .int .i64 m.j, .slice m.ua m.un m.uc, .bool m.lo]] w fun e w' => e = .returned (.bool true) ∧ Fr noB w w' := by
  obtain ⟨va, vc, rfl, hx1, hx2, hx3⟩ := hv
  obtain ⟨z, hz, z0, z1⟩ := umod n0 4 (by omega) (by omega)
  obtain ⟨y, hy, y0, y1⟩ := umodv a (1 + z) (by omega) (by omega) (1 + z) rfl
  obtain ⟨T, hT⟩ : ∃ T : Nat, 1 + z = T := ⟨(1 + z).toNat, by omega⟩
  obtain ⟨A, rfl⟩ : ∃ A : Nat, y = A := ⟨y.toNat, by omega⟩
  have hu : IntKind.u64.wrap (1 + z) = 1 + z := by rw [IntKind.wrap_u64]; omega
  rw [hu] at hy
  have hnz : ¬ (1 + z = 0) := by omega
  have hnz2 : ((1 : Int) + z == 0) = false := by simp; omega
  generalize hn : xs.length = n at *
  unfold maxLen at hx2
  have hnb : n ≤ 9223372036854775807 := by omega
  replace hn := Lib.hid hn
  replace hx3 := Lib.hid hx3
  replace hT := Lib.hid hT
  replace hm := Lib.hid hm
  go_enter Try.func7, Try.ntmps7
  go_wp2_with fail
  have hT2 := hT.out
  rw [hT2] at hy
  clear hz hu hnz hnz2 hT y0
  rw [hT2, hy]
  clear hy
  have hAT : A < T := by have := hT2.symm; omega
  have hT4 : T ≤ 4 := by omega
  clear hT2 y1 z0 z1
  have fX := (Fr.refl noB w).alloc (.cells #[.int .i64 A, .int .i64 t, .int .i64 c] 23)
  have bX := Blk.new w 23 [.int .i64 A, .int .i64 t, .int .i64 c]
  have fY' := (Fr.refl noB (w.alloc (.cells #[.int .i64 A, .int .i64 t, .int .i64 c] 23))).alloc (.cells #[.int .i64 m.k, .int .i64 m.a, .int .i64 m.t, .int .i64 m.j, .slice m.ua m.un m.uc, .bool m.lo] 40)
  have bY := Blk.new (w.alloc (.cells #[.int .i64 A, .int .i64 t, .int .i64 c] 23)) 40 [.int .i64 m.k, .int .i64 m.a, .int .i64 m.t, .int .i64 m.j, .slice m.ua m.un m.uc, .bool m.lo]
  have hz : (w.alloc (.cells #[.int .i64 A, .int .i64 t, .int .i64 c] 23)).heap.size = w.heap.size + 1 := by simp
  rw [hz] at bY
  have bX := fY'.blk bX (fun q => q)
  have fY := fX.seqN fY'
  clear fX fY' hz
  refine (awake_any _).mono ?_
  rintro e w1 ⟨rfl, f1⟩
  have g1 := fY.seqN f1
  have bX := f1.blk bX (fun q => q)
  have bY := f1.blk bY (fun q => q)
  clear fY f1
  generalize w.heap.size = bt at *
  by_cases hl : 100 < n
  · have hd : decide (100 < (n : Int)) = true := by simp; omega
    clear bX bY hl
    go_wp2_with fail
    refine (awake_any _).mono ?_
    rintro e w2 ⟨rfl, f2⟩
    have g2 := g1.seqN f2
    go_wp2_with fail
    go_ret
    exact ⟨rfl, g2⟩
  have hd : decide (100 < (n : Int)) = false := by simp; omega
  have hbt : ∀ w', Fr noB w1 w' → w'.cell? ⟨bt, 0, none⟩ = some (.int .i64 A) ∧ w'.cell? ⟨bt, 1, none⟩ = some (.int .i64 t) ∧ w'.cell? ⟨bt, 2, none⟩ = some (.int .i64 c) := fun w' f => ⟨(f.blk bX (fun q => q)).cell 0, (f.blk bX (fun q => q)).cell 1, (f.blk bX (fun q => q)).cell 2⟩
  replace hbt := Lib.hid hbt
  replace bY := Lib.hid bY
  replace g1 := Lib.hid g1
  clear bX
  cases hbT : bTrigger A t c with
  | false =>
    have hN := fun w' => new_no 1 T A t c w' hbT
    replace hN := Lib.hid hN
    clear hbT
    go_upto_region 5 with fail
    go_region_held3 (fun w' => w'.cell? ⟨bt, 0, none⟩ = some (.int .i64 A) ∧ w'.cell? ⟨bt, 1, none⟩ = some (.int .i64 t) ∧ w'.cell? ⟨bt, 2, none⟩ = some (.int .i64 c))
      (first | exact hbt.out _ f3 | exact hbt.out _ f2 | exact hbt.out _ ((Fr.refl noB _).drewN 1) | fail)
      (first
        | (go_at_call 10; refine (hN.out w2).mono ?_; rintro e w3 ⟨rfl, f30⟩; have f3 : Fr noB w1 w3 := f2.seqN f30)
        | (go_at_call 10; refine (hN.out _).mono ?_; rintro e w2 ⟨rfl, f20⟩; have f2 : Fr noB w1 w2 := ((Fr.refl noB w1).drewN 1).seqN f20)
        | fail)
    all_goals (
      have g3 := g1.out.seqN f3
      go_wp2_with fail
      go_ret
      exact ⟨rfl, g3⟩)
  | true =>
    have hN := fun w' => new_any 1 t c T A w' hbT (by omega) (by omega) hAT hT4
    replace hN := Lib.hid hN
    clear hbT
    go_upto_region 5 with fail
    go_region_held3 (fun w' => w'.cell? ⟨bt, 0, none⟩ = some (.int .i64 A) ∧ w'.cell? ⟨bt, 1, none⟩ = some (.int .i64 t) ∧ w'.cell? ⟨bt, 2, none⟩ = some (.int .i64 c))
      (first | exact hbt.out _ f3 | exact hbt.out _ f2 | exact hbt.out _ ((Fr.refl noB _).drewN 1) | fail)
      (first
        | (go_at_call 10; refine (hN.out w2).mono ?_; rintro e w3 ⟨pb, rfl, hpb, jb, f30⟩; have f3 : Fr noB w1 w3 := f2.seqN f30)
        | (go_at_call 10; refine (hN.out _).mono ?_; rintro e w2 ⟨pa, rfl, hpa, ja, f20⟩; have f2 : Fr noB w1 w2 := ((Fr.refl noB w1).drewN 1).seqN f20)
        | fail)
    have g3 := g1.out.seqN f3
    have ja3 := (ja w3.heap.size).frN f30
    have jb3 := jb w3.heap.size
    have hpa3 : pa < w3.heap.size := ja3.lt
    have hpb3 : pb < w3.heap.size := jb3.lt
    have hab : pa ≠ pb := by have := (ja 0).lt; omega
    have hwa : ¬ pa < w.heap.size := by have := g1.out.size; have h' : w1.heap.size ≤ pa := hpa; omega
    have hwb : ¬ pb < w.heap.size := by have := g1.out.size; have := f2.size; omega
    have hinv := inv_new 1 t c T A
    have bY3 := f3.blk bY.out (fun q => q)
    have hsrc := fun w' (f : Fr noB w3 w') => flat_src hn.out hx1 hx3.out (g3.seqN f)
    have hnl : (xs.flatMap opC).length = n * 6 := by rw [flat_len, hn.out]
    have hone := flat_one xs
    have hbo : ∀ w', Fr noB w3 w' → w'.cell? ⟨bt + 1, 0, none⟩ = some (.int .i64 m.k) ∧ w'.cell? ⟨bt + 1, 1, none⟩ = some (.int .i64 m.a) ∧ w'.cell? ⟨bt + 1, 2, none⟩ = some (.int .i64 m.t) ∧ w'.cell? ⟨bt + 1, 3, none⟩ = some (.int .i64 m.j) ∧ w'.cell? ⟨bt + 1, 4, none⟩ = some (.slice m.ua m.un m.uc) ∧ w'.cell? ⟨bt + 1, 5, none⟩ = some (.bool m.lo) := fun w' f => ⟨(f.blk bY3 (fun q => q)).cell 0, (f.blk bY3 (fun q => q)).cell 1, (f.blk bY3 (fun q => q)).cell 2, (f.blk bY3 (fun q => q)).cell 3, (f.blk bY3 (fun q => q)).cell 4, (f.blk bY3 (fun q => q)).cell 5⟩
    generalize JS.new 1 t c T A = j0 at *
    obtain ⟨XA, hXA⟩ : ∃ XA, JG w3 pa w3.heap.size j0 XA := ⟨_, ja3⟩
    obtain ⟨XB, hXB⟩ : ∃ XB, JG w3 pb w3.heap.size j0 XB := ⟨_, jb3⟩
    replace hsrc := Lib.hid hsrc
    replace hone := Lib.hid hone
    replace hbo := Lib.hid hbo
    replace hwa := Lib.hid hwa
    replace hwb := Lib.hid hwb
    replace g3 := Lib.hid g3
    clear ja jb ja3 jb3 f3 f2 f20 f30 bY bY3 hbt hN g1 hpa hpb
    obtain ⟨NS, hNS⟩ : ∃ NS, NS = xs.flatMap opC := ⟨_, rfl⟩
    rw [← hNS] at hsrc hone hnl
    replace hNS := Lib.hid hNS
    replace hnl := Lib.hid hnl
    obtain ⟨i0, hi0, hz0, hz1, hz2⟩ : ∃ i0, Try.prog.info? 40 = some i0 ∧ i0.zero = some (.agg #[.int .i64 0, .int .i64 0, .int .i64 0, .int .i64 0, .slice none 0 0, .bool false]) ∧ i0.size = 6 ∧ i0.bytes = 64 := by
      have hI := infoOpJ
      cases hq : Try.prog.info? 40 with
      | none => rw [hq] at hI; cases hI
      | some k => rw [hq] at hI; simp at hI; exact ⟨k, rfl, hI⟩
    have hn100 : n ≤ 100 := by omega
    obtain ⟨N, hNN⟩ : ∃ N, N = 0 + n + 1 := ⟨_, rfl⟩
    have hNb : N ≤ 101 := by omega
    replace hNN := Lib.hid hNN
    have hs1 : 0 + n ≤ maxLen := by unfold maxLen; omega
    have hs2 : (0 + n) * 64 ≤ 140737488355328 := by omega
    have hs3 : 0 + n + 1 ≤ maxLen := by unfold maxLen; omega
    have hs4 : (0 + n + 1) * 64 ≤ 140737488355328 := by omega
    have h06 : 0 < 6 := by omega
    have hzC : (w3.alloc (.cells #[.int .i64 m.k, .int .i64 m.a, .int .i64 m.t, .int .i64 m.j, .slice m.ua m.un m.uc, .bool m.lo] 40)).heap.size = w3.heap.size + 1 := by simp
    have hzE : (w3.alloc (.cells #[] 40)).heap.size = w3.heap.size + 1 := by simp
    have fC := (Fr.refl noB w3).alloc (.cells #[.int .i64 m.k, .int .i64 m.a, .int .i64 m.t, .int .i64 m.j, .slice m.ua m.un m.uc, .bool m.lo] 40)
    have fE := (Fr.refl noB w3).alloc (.cells #[] 40)
    have fCE := fC.alloc (.cells #[] 40)
    have fEC := fE.alloc (.cells #[.int .i64 m.k, .int .i64 m.a, .int .i64 m.t, .int .i64 m.j, .slice m.ua m.un m.uc, .bool m.lo] 40)
    have hE1 := ownsRow_mono (own_new (w3.alloc (.cells #[.int .i64 m.k, .int .i64 m.a, .int .i64 m.t, .int .i64 m.j, .slice m.ua m.un m.uc, .bool m.lo] 40)) 40 [] 6 0 rfl (by unfold maxLen; omega)) fC.size
    have hE3 := own_new w3 40 [] 6 0 rfl (by unfold maxLen; omega)
    have hE2 := ownsRow_fr hE3 ((Fr.refl noB (w3.alloc (.cells #[] 40))).alloc (.cells #[.int .i64 m.k, .int .i64 m.a, .int .i64 m.t, .int .i64 m.j, .slice m.ua m.un m.uc, .bool m.lo] 40)) (fun _ _ q => q)
    have bC1 := ((Fr.refl noB (w3.alloc (.cells #[.int .i64 m.k, .int .i64 m.a, .int .i64 m.t, .int .i64 m.j, .slice m.ua m.un m.uc, .bool m.lo] 40))).alloc (.cells #[] 40)).blk (Blk.new w3 40 (opC m)) (fun q => q)
    have bC2 := Blk.new (w3.alloc (.cells #[] 40)) 40 (opC m)
    rw [hzC] at hE1
    rw [hzE] at bC2
    have hC1 : ∀ u ∈ opC m, u.oneCell' = true := by
      intro u hu
      unfold opC at hu
      simp only [List.mem_cons, List.not_mem_nil, or_false] at hu
      rcases hu with rfl | rfl | rfl | rfl | rfl | rfl <;> rfl
    have hCl : (opC m).length = 1 * 6 := rfl
    have hE1d : (((w3.alloc (.cells #[.int .i64 m.k, .int .i64 m.a, .int .i64 m.t, .int .i64 m.j, .slice m.ua m.un m.uc, .bool m.lo] 40)).alloc (.cells #[] 40)).drew).ownsRow w3.heap.size 40 6 (.slice (some ⟨w3.heap.size + 1, 0, none⟩) 0 0) 0 [] := hE1
    replace hE1 := Lib.hid hE1d
    clear hE1d
    have hE2d : (((w3.alloc (.cells #[] 40)).alloc (.cells #[.int .i64 m.k, .int .i64 m.a, .int .i64 m.t, .int .i64 m.j, .slice m.ua m.un m.uc, .bool m.lo] 40)).drew).ownsRow w3.heap.size 40 6 (.slice (some ⟨w3.heap.size, 0, none⟩) 0 0) 0 [] := hE2
    replace hE2 := Lib.hid hE2d
    clear hE2d
    have hE3d : ((w3.alloc (.cells #[] 40)).drew).ownsRow w3.heap.size 40 6 (.slice (some ⟨w3.heap.size, 0, none⟩) 0 0) 0 [] := hE3
    replace hE3 := Lib.hid hE3d
    clear hE3d
    have bC1d := bC1.drew
    replace bC1 := Lib.hid bC1d
    clear bC1d
    have bC2d := bC2.drew
    replace bC2 := Lib.hid bC2d
    clear bC2d
    replace fCE := Lib.hid fCE.drew
    replace fEC := Lib.hid fEC.drew
    replace fE := Lib.hid fE.drew
    replace hC1 := Lib.hid hC1
    replace hCl := Lib.hid hCl
    clear hzC hzE fC
    go_upto_region 8 with fail
    go_region_held3 (fun w' => w'.cell? ⟨bt + 1, 0, none⟩ = some (.int .i64 m.k) ∧ w'.cell? ⟨bt + 1, 1, none⟩ = some (.int .i64 m.a) ∧ w'.cell? ⟨bt + 1, 2, none⟩ = some (.int .i64 m.t) ∧ w'.cell? ⟨bt + 1, 3, none⟩ = some (.int .i64 m.j) ∧ w'.cell? ⟨bt + 1, 4, none⟩ = some (.slice m.ua m.un m.uc) ∧ w'.cell? ⟨bt + 1, 5, none⟩ = some (.bool m.lo))
      (first | exact hbo.out _ g5 | exact hbo.out _ g4 | exact hbo.out _ (g4.alloc _) | exact hbo.out _ ((((Fr.refl noB w3).alloc _).alloc _).drew) | exact hbo.out _ (((Fr.refl noB w3).alloc _).drew) | exact hbo.out _ ((Fr.refl noB w3).drewN 1) | fail)
      (first
        | (have qq := tokA; clear qq; rw [if_pos (by rfl)]; refine (wp_append_rd (.tmp 49) (.tmp 51) 24 rfl w3.heap.size 40 i0 _ 6 64 Try.underlying24 hi0 hz0 hz1 hz2 rfl h06 v4 (0 + n) ([] ++ NS) (by simp [Act.eval, Act.put]) o4 1 (.slice (some ⟨w3.heap.size, 0, none⟩) 1 1) (opC m) (by simp [Act.eval, Act.put]) (src_blk b4) hCl.out hC1.out hs3 hs4 (g4).size ?_); intro v5 w5 o5 f5; have g5 := fr_own o4 g4 f5; rw [← hNN.out] at o5; obtain ⟨a5, c5, rfl⟩ := ownsRow_slice o5)
        | (have qq := tokB; clear qq; rw [if_pos (by rfl)]; refine (wp_append_rd (.tmp 49) (.tmp 51) 24 rfl w3.heap.size 40 i0 _ 6 64 Try.underlying24 hi0 hz0 hz1 hz2 rfl h06 v4 (0 + n) ([] ++ NS) (by simp [Act.eval, Act.put]) o4 1 (.slice (some ⟨w3.heap.size + 1, 0, none⟩) 1 1) (opC m) (by simp [Act.eval, Act.put]) (src_blk b4) hCl.out hC1.out hs3 hs4 (g4).size ?_); intro v5 w5 o5 f5; have g5 := fr_own o4 g4 f5; rw [← hNN.out] at o5; obtain ⟨a5, c5, rfl⟩ := ownsRow_slice o5)
        | (have qq := tokC; clear qq; rw [if_pos (by rfl)]; refine (wp_append_rd (.tmp 49) (.tmp 51) 24 rfl w3.heap.size 40 i0 _ 6 64 Try.underlying24 hi0 hz0 hz1 hz2 rfl h06 v4 (0 + n) ([] ++ NS) (by simp [Act.eval, Act.put]) (ownsRow_fr o4 ((Fr.refl noB w4).alloc _) (fun _ _ q => q)) 1 (.slice (some ⟨w4.heap.size, 0, none⟩) 1 1) (opC m) (by simp [Act.eval, Act.put]) (src_blk (Blk.new w4 40 (opC m))) hCl.out hC1.out hs3 hs4 ((g4.alloc _)).size ?_); intro v5 w5 o5 f5; have g5 := fr_own (ownsRow_fr o4 ((Fr.refl noB w4).alloc _) (fun _ _ q => q)) (g4.alloc _) f5; rw [← hNN.out] at o5; obtain ⟨a5, c5, rfl⟩ := ownsRow_slice o5)
        | (rw [if_pos (by rfl)]; refine (wp_append_rd (.tmp 47) (.tmp 48) 24 rfl w3.heap.size 40 i0 _ 6 64 Try.underlying24 hi0 hz0 hz1 hz2 rfl h06 (.slice (some ⟨w3.heap.size + 1, 0, none⟩) 0 0) 0 [] (by simp [Act.eval, Act.put]) hE1.out n (.slice va n vc) NS (by simp [Act.eval, Act.put]) (hsrc.out _ fCE.out) hnl.out hone.out hs1 hs2 fCE.out.size ?_); intro v4 w4 o4 f4; have g4 := fr_own hE1.out fCE.out f4; have b4 := f4.blk bC1.out (fun q => by simp [Value.ownBlock] at q); have tokA : True := trivial)
        | (rw [if_pos (by rfl)]; refine (wp_append_rd (.tmp 47) (.tmp 48) 24 rfl w3.heap.size 40 i0 _ 6 64 Try.underlying24 hi0 hz0 hz1 hz2 rfl h06 (.slice (some ⟨w3.heap.size, 0, none⟩) 0 0) 0 [] (by simp [Act.eval, Act.put]) hE2.out n (.slice va n vc) NS (by simp [Act.eval, Act.put]) (hsrc.out _ fEC.out) hnl.out hone.out hs1 hs2 fEC.out.size ?_); intro v4 w4 o4 f4; have g4 := fr_own hE2.out fEC.out f4; have b4 := f4.blk bC2.out (fun q => by simp [Value.ownBlock] at q); have tokB : True := trivial)
        | (rw [if_pos (by rfl)]; refine (wp_append_rd (.tmp 47) (.tmp 48) 24 rfl w3.heap.size 40 i0 _ 6 64 Try.underlying24 hi0 hz0 hz1 hz2 rfl h06 (.slice (some ⟨w3.heap.size, 0, none⟩) 0 0) 0 [] (by simp [Act.eval, Act.put]) hE3.out n (.slice va n vc) NS (by simp [Act.eval, Act.put]) (hsrc.out _ fE.out) hnl.out hone.out hs1 hs2 fE.out.size ?_); intro v4 w4 o4 f4; have g4 := fr_own hE3.out fE.out f4; have tokC : True := trivial)
        | fail)
    all_goals (
      have hM : ([] ++ NS) ++ opC m = (xs ++ [m]).flatMap opC := by rw [hNS.out, List.nil_append, List.flatMap_append]; simp
      have o6 : w5.ownsRow w3.heap.size 40 6 (.slice a5 N c5) N ((xs ++ [m]).flatMap opC) := by rw [← hM]; exact o5
      have hops := OpsAt.of_own o6
      have hLo : ∀ g, a5 = some ⟨g, 0, none⟩ → w3.heap.size ≤ g := fun g e => (o6.lt g (by rw [e]; rfl)).1
      replace hLo := Lib.hid hLo
      have hMn : (xs ++ [m]).length = N := by rw [hNN.out, List.length_append, hn.out]; simp
      have hMr : ∀ (i : Nat) (x : OpJ), (xs ++ [m])[i]? = some x → RdI w (.slice x.ua x.un x.uc) x.xs := by
        intro i x hx
        rcases Nat.lt_or_ge i xs.length with q | q
        · rw [List.getElem?_append_left q] at hx
          obtain ⟨_, _, _, _, _, ⟨_, hr, _⟩, _⟩ := hx3.out i x hx
          exact hr
        · rw [List.getElem?_append_right q] at hx
          have : x = m := by
            match hi : i - xs.length, hx with
            | 0, hx => simpa using hx.symm
            | r + 1, hx => simp at hx
          rw [this]; exact hm.out.2.1
      have hget : ∀ k, k < N → ∃ x, (xs ++ [m])[k]? = some x := fun k hk => ⟨(xs ++ [m])[k]'(by rw [hMn]; exact hk), List.getElem?_eq_getElem _⟩
      generalize xs ++ [m] = M at *
      have gA := hXA.frN g5
      have gB := hXB.frN g5
      have gw := g3.out.seqN g5
      have hL5 := g5.size
      replace hops := Lib.hid hops
      replace hMr := Lib.hid hMr
      replace hget := Lib.hid hget
      generalize w3.heap.size = L at *
      clear o5 f5 o6 hM hMn hXA hXB hE1 hE2 hE3 bC1 bC2 fCE fEC fE hsrc hbo hs1 hs2 hs3 hs4 hx1 hx2 hx3 hnl hone hC1 hCl
      go_wp2_with fail
      go_loopg [54] N (fun gk i wr => ∃ (k : Nat) (j : JS) (XA XB : Nat → List Int), k + gk = N ∧ i = .int .i64 k ∧ JG wr pa L j XA ∧ JG wr pb L j XB ∧ Hid j.inv ∧ Hid (OpsAt wr a5 M) ∧ Hid (Fr noB w wr) ∧ L ≤ wr.heap.size)
      case atStart => exact ⟨0, j0, XA, XB, Nat.zero_add _, rfl, gA, gB, Lib.hid hinv, hops, Lib.hid gw, hL5⟩
      case round =>
        clear gA gB hinv hops gw hL5
        obtain ⟨k, j, XA, XB, hk, rfl, hA, hB, hinv, hops, fr, hL⟩ := hrel
        by_cases hlt : k < N
        · obtain ⟨x, hx⟩ := hget.out k hlt
          have hr := hMr.out k x hx
          obtain ⟨g, rfl, hc⟩ := hops.out k x hx
          have c0 : wr.cell? ⟨g, k * 6, none⟩ = some (.int .i64 x.k) := hc 0 _ rfl
          have c1 : wr.cell? ⟨g, k * 6 + 1, none⟩ = some (.int .i64 x.a) := hc 1 _ rfl
          have c2 : wr.cell? ⟨g, k * 6 + 2, none⟩ = some (.int .i64 x.t) := hc 2 _ rfl
          have c3 : wr.cell? ⟨g, k * 6 + 3, none⟩ = some (.int .i64 x.j) := hc 3 _ rfl
          have c4 : wr.cell? ⟨g, k * 6 + 4, none⟩ = some (.slice x.ua x.un x.uc) := hc 4 _ rfl
          have c5 : wr.cell? ⟨g, k * 6 + 5, none⟩ = some (.bool x.lo) := hc 5 _ rfl
          have hLg : L ≤ g := hLo.out g rfl
          have nea := rdi_ne hr hwa.out
          have neb := rdi_ne hr hwb.out
          have fA := (Fr.refl noB wr).alloc (.cells #[.int .i64 x.k, .int .i64 x.a, .int .i64 x.t, .int .i64 x.j, .slice x.ua x.un x.uc, .bool x.lo] 40)
          have bA := Blk.new wr 40 (opC x)
          have xb : wr.heap.size ≠ pa ∧ wr.heap.size ≠ pb := by omega
          have hAA := hA.frN fA
          have hBA := hB.frN fA
          have frA := fr.out.seqN fA
          have opA := hops.out.frN fA
          have hLA : L ≤ (wr.alloc (.cells #[.int .i64 x.k, .int .i64 x.a, .int .i64 x.t, .int .i64 x.j, .slice x.ua x.un x.uc, .bool x.lo] 40)).heap.size := by have := fA.size; omega
          replace nea := Lib.hid nea
          replace neb := Lib.hid neb
          replace hr := Lib.hid hr
          replace opA := Lib.hid opA
          replace frA := Lib.hid frA
          replace bA := Lib.hid bA
          clear hc hA hB fr hops fA hx
          go_wp2_with fail
          refine (message_any x _).mono ?_
          rintro e w6 ⟨v6, rfl, hv6, f6⟩
          have hA6 := hAA.frN f6
          have hB6 := hBA.frN f6
          have fr6 := frA.out.seqN f6
          have op6 := opA.out.frN f6
          have b6 := f6.blk bA.out (fun q => q)
          have hL6 : L ≤ w6.heap.size := by have := f6.size; omega
          replace hv6 := Lib.hid hv6
          clear c0 c1 c2 c3 c4 c5 hAA hBA frA opA bA f6 hLA
          generalize wr.heap.size = xv at *
          go_wp2_with fail
          refine (hear_any pa L j XA x v6 w6 hA6 hL6 hpa3 hv6.out (hr.out.fr fr6 (fun _ _ _ _ _ q => q)) nea.out).mono ?_
          rintro e w7 ⟨rfl, hA7, f7⟩
          have hB7 := hB6.fr f7 (fun q => hab (by unfold onlyB at q; exact q.symm)) (fun g hg q => by unfold onlyB at q; omega)
          have fr7 := fr6.seqB f7 (fun q => absurd q hwa.out)
          have op7 := op6.fr f7 (fun q => by unfold onlyB at q; omega)
          have b7 := f7.blk b6 (fun q => xb.1 (by unfold onlyB at q; exact q))
          have hL7 : L ≤ w7.heap.size := by have := f7.size; omega
          have c0 : w7.cell? ⟨xv, 0, none⟩ = some (.int .i64 x.k) := b7.cell 0
          have c1 : w7.cell? ⟨xv, 1, none⟩ = some (.int .i64 x.a) := b7.cell 1
          have c2 : w7.cell? ⟨xv, 2, none⟩ = some (.int .i64 x.t) := b7.cell 2
          have c3 : w7.cell? ⟨xv, 3, none⟩ = some (.int .i64 x.j) := b7.cell 3
          have c4 : w7.cell? ⟨xv, 4, none⟩ = some (.slice x.ua x.un x.uc) := b7.cell 4
          have c5 : w7.cell? ⟨xv, 5, none⟩ = some (.bool x.lo) := b7.cell 5
          replace fr7 := Lib.hid fr7
          replace op7 := Lib.hid op7
          replace b7 := Lib.hid b7
          clear hA6 hB6 fr6 op6 b6 hL6 f7 hv6
          go_wp2_with fail
          refine (message_any x _).mono ?_
          rintro e w8 ⟨v8, rfl, hv8, f8⟩
          have hA8 := hA7.frN f8
          have hB8 := hB7.frN f8
          have fr8 := fr7.out.seqN f8
          have op8 := op7.out.frN f8
          have b8 := f8.blk b7.out (fun q => q)
          have hL8 : L ≤ w8.heap.size := by have := f8.size; omega
          replace hv8 := Lib.hid hv8
          clear c0 c1 c2 c3 c4 c5 hA7 hB7 fr7 op7 b7 hL7 f8
          go_wp2_with fail
          refine (hear_any pb L j XB x v8 w8 hB8 hL8 hpb3 hv8.out (hr.out.fr fr8 (fun _ _ _ _ _ q => q)) neb.out).mono ?_
          rintro e w9 ⟨rfl, hB9, f9⟩
          have hA9 := hA8.fr f9 (fun q => hab (by unfold onlyB at q; exact q)) (fun g hg q => by unfold onlyB at q; omega)
          have fr9 := fr8.seqB f9 (fun q => absurd q hwb.out)
          have op9 := op8.fr f9 (fun q => by unfold onlyB at q; omega)
          have b9 := f9.blk b8 (fun q => xb.2 (by unfold onlyB at q; exact q))
          have hL9 : L ≤ w9.heap.size := by have := f9.size; omega
          have c0 : w9.cell? ⟨xv, 0, none⟩ = some (.int .i64 x.k) := b9.cell 0
          have c1 : w9.cell? ⟨xv, 1, none⟩ = some (.int .i64 x.a) := b9.cell 1
          have c2 : w9.cell? ⟨xv, 2, none⟩ = some (.int .i64 x.t) := b9.cell 2
          have c3 : w9.cell? ⟨xv, 3, none⟩ = some (.int .i64 x.j) := b9.cell 3
          have c4 : w9.cell? ⟨xv, 4, none⟩ = some (.slice x.ua x.un x.uc) := b9.cell 4
          have c5 : w9.cell? ⟨xv, 5, none⟩ = some (.bool x.lo) := b9.cell 5
          replace fr9 := Lib.hid fr9
          replace op9 := Lib.hid op9
          clear hA8 hB8 fr8 op8 b8 b9 hL8 f9 hv8
          go_wp2_with fail
          refine (message_any x _).mono ?_
          rintro e wA ⟨vA, rfl, hvA, fA⟩
          have hAA := hA9.frN fA
          have hBA := hB9.frN fA
          have frA := fr9.out.seqN fA
          have opA := op9.out.frN fA
          have hLA : L ≤ wA.heap.size := by have := fA.size; omega
          replace hvA := Lib.hid hvA
          clear c0 c1 c2 c3 c4 c5 hA9 hB9 fr9 op9 hL9 fA
          go_wp2_with fail
          refine (hear_any pb L (j.hear x) (j.hearX x XB) x vA wA hBA hLA hpb3 hvA.out (hr.out.fr frA (fun _ _ _ _ _ q => q)) neb.out).mono ?_
          rintro e wB ⟨rfl, hBB, fB⟩
          rw [hear_hear] at hBB
          have hAB := hAA.fr fB (fun q => hab (by unfold onlyB at q; exact q)) (fun g hg q => by unfold onlyB at q; omega)
          have frB := frA.seqB fB (fun q => absurd q hwb.out)
          have opB := opA.fr fB (fun q => by unfold onlyB at q; omega)
          have hLB : L ≤ wB.heap.size := by have := fB.size; omega
          have hinv1 := inv_hear hinv.out x
          generalize (j.hear x).hearX x (j.hearX x XB) = XB1 at *
          generalize j.hearX x XA = XA1 at *
          generalize j.hear x = j1 at *
          replace frB := Lib.hid frB
          replace opB := Lib.hid opB
          replace hinv1 := Lib.hid hinv1
          clear hAA hBA frA opA hLA fB hvA nea neb hr hinv xb
          go_wp2_with fail
          refine (vis_any pa L j1 XA1 _ hAB).mono ?_
          rintro e wC ⟨vC, rfl, oC, fC⟩
          have rC : RdI wC vC (whichL (fun _ => true) j1 4) := RdI.of_own oC
          have hAC := hAB.frN fC
          have hBC := hBB.frN fC
          have frC := frB.out.seqN fC
          have opC' := opB.out.frN fC
          have hLC : L ≤ wC.heap.size := by have := fC.size; omega
          clear hAB hBB frB opB hLB fC oC
          go_wp2_with fail
          refine (vis_any pb L j1 XB1 _ hBC).mono ?_
          rintro e wD ⟨vD, rfl, oD, fD⟩
          have rD : RdI wD vD (whichL (fun _ => true) j1 4) := RdI.of_own oD
          have rC := rC.fr fD (fun _ _ _ _ _ q => q)
          have hAD := hAC.frN fD
          have hBD := hBC.frN fD
          have frD := frC.seqN fD
          have opD := opC'.frN fD
          have hLD : L ≤ wD.heap.size := by have := fD.size; omega
          clear hAC hBC frC opC' hLC fD oD
          have hVl := whichL_len (fun _ => true) j1 4
          generalize whichL (fun _ => true) j1 4 = V at *
          have qC := rdi_cells rC
          have qD := rdi_cells rD
          obtain ⟨aC, cC, rfl, hcC⟩ := qC
          obtain ⟨aD, cD, rfl, hcD⟩ := qD
          replace rC := Lib.hid rC
          replace rD := Lib.hid rD
          replace frD := Lib.hid frD
          replace opD := Lib.hid opD
          clear hcC hcD
          go_wp2_with fail
          refine (phase_jg pa L j1 XA1 _ hAD).mono ?_
          rintro e wE ⟨rfl, hwE⟩
          obtain rfl := hwE.symm
          go_wp2_with fail
          refine (phase_jg pb L j1 XB1 _ hBD).mono ?_
          rintro e wE ⟨rfl, hwE⟩
          obtain rfl := hwE.symm
          go_wp2_with fail
          refine (stored_jg pa L j1 XA1 _ hAD).mono ?_
          rintro e wE ⟨rfl, hwE⟩
          obtain rfl := hwE.symm
          go_wp2_with fail
          refine (stored_jg pb L j1 XB1 _ hBD).mono ?_
          rintro e wE ⟨rfl, hwE⟩
          obtain rfl := hwE.symm
          go_wp2_with fail
          refine (says_any pa L j1 XA1 _ hAD hinv1.out).mono ?_
          rintro e wE ⟨aE, cE, rfl, fE⟩
          have hAE := hAD.frN fE
          have hBE := hBD.frN fE
          have frE := frD.out.seqN fE
          have opE := opD.out.frN fE
          have rCE := rC.out.fr fE (fun _ _ _ _ _ q => q)
          have rDE := rD.out.fr fE (fun _ _ _ _ _ q => q)
          have hLE : L ≤ wE.heap.size := by have := fE.size; omega
          replace rCE := Lib.hid rCE
          replace rDE := Lib.hid rDE
          replace frE := Lib.hid frE
          replace opE := Lib.hid opE
          clear hAD hBD frD opD rC rD hLD fE
          go_wp2_with fail
          refine (says_any pb L j1 XB1 _ hBE hinv1.out).mono ?_
          rintro e wF ⟨aF, cF, rfl, fF⟩
          have hAF := hAE.frN fF
          have hBF := hBE.frN fF
          have frF := frE.out.seqN fF
          have opF := opE.out.frN fF
          have rCF := rCE.out.fr fF (fun _ _ _ _ _ q => q)
          have rDF := rDE.out.fr fF (fun _ _ _ _ _ q => q)
          have hLF : L ≤ wF.heap.size := by have := fF.size; omega
          obtain ⟨aC', cC', eC, hcC⟩ := rdi_cells rCF
          obtain ⟨aD', cD', eD, hcD⟩ := rdi_cells rDF
          injection eC with eC1 _ eC3
          injection eD with eD1 _ eD3
          subst eC1 eC3 eD1 eD3
          generalize hV : V.length = nv at *
          replace hcC := Lib.hid hcC
          replace hcD := Lib.hid hcD
          replace frF := Lib.hid frF
          replace opF := Lib.hid opF
          clear hAE hBE frE opE rCE rDE hLE fF rCF rDF hV
          go_wp2_with fail
          go_loopw [104] (fun i w4 => ∃ q : Nat, q ≤ nv ∧ i = .int .i64 q ∧ Fr noB wF w4) (fun i _ => nv - (RowKit.intOf i).toNat)
          case atStart => exact ⟨0, Nat.zero_le _, rfl, Fr.refl _ _⟩
          case round =>
            obtain ⟨q, hq, rfl, f4⟩ := hrel
            by_cases hqt : q < nv
            · obtain ⟨g1, o1, rfl, e1⟩ := hcC.out q hqt
              obtain ⟨g2, o2, rfl, e2⟩ := hcD.out q hqt
              have e3 := f4.cell e1 (fun q => q)
              have e4 := f4.cell e2 (fun q => q)
              generalize V.getD q 0 = y at *
              clear e1 e2
              go_wp2_with fail
              go_quiet (fail)
              go_wp2_with fail
              go_roundw
              case rel => exact ⟨q + 1, by omega, by go_num, f4.drewN _⟩
              case measure => simp [RowKit.intOf]; omega
            · obtain rfl : q = nv := by omega
              clear hcC hcD
              go_wp2_with fail
              go_roundg (N - k - 1)
              case rel => exact ⟨k + 1, j1, XA1, XB1, by omega, by go_num, hAF.frN f4, hBF.frN f4, hinv1, Lib.hid (opF.out.frN f4), Lib.hid (frF.out.seqN f4), by have := f4.size; omega⟩
              case measure => omega
        · obtain rfl : k = N := by omega
          go_wp2_with fail
          go_ret
          exact ⟨rfl, fr.out⟩)
/-- a Trigger's cells -/
def IsTr (cs : List Value) (m : Int × Int × Int) : Prop := cs = [.int .i64 m.1, .int .i64 m.2.1, .int .i64 m.2.2] ∧ (Lit.int .i64 m.1).wf = true ∧ (Lit.int .i64 m.2.1).wf = true ∧ (Lit.int .i64 m.2.2).wf = true
theorem tr_open {H : Type} {enc : TypeId × Value → H} {w : World} {base : Nat} {held : Bool} (n : Nat) (cs : List Value) (y : DataW H × List MemPlace) (hl : cs.length = 3)
    (h : DataW.trod enc Try.prog w base (fun _ => true) held n 23 cs = some y) : ∃ m, IsTr cs m := by
  obtain ⟨a, ha, wa⟩ := fld_int (i := 0) (off := 0) Try.underlying23 h rfl (by kernel_rfl) (by omega) Try.underlying3
  obtain ⟨b, hb, wb⟩ := fld_int (i := 1) (off := 1) Try.underlying23 h rfl (by kernel_rfl) (by omega) Try.underlying3
  obtain ⟨c, hc, wc⟩ := fld_int (i := 2) (off := 2) Try.underlying23 h rfl (by kernel_rfl) (by omega) Try.underlying3
  exact ⟨(a, b, c), by rw [list3 hl, ha, hb, hc], wa, wb, wc⟩
theorem twice_cs (n0 : Int) (ct : Array Value) (mt : Int × Int × Int) (v : Value) (xs : List OpJ) (cs : Array Value) (m : OpJ) (w : World) (_ : (Lit.int .i64 n0).wf = true) (ht : IsTr ct.toList mt) (hv : SlR w v 6 (IsOpJ w) xs) (h : IsOpJ w cs.toList m) :
    Calls Try.prog 7 #[.int .i64 n0, .agg ct, v, .agg cs] w fun e w' => e = .returned (.bool true) ∧ Fr noB w w' := by
  have hc : cs = #[.int .i64 m.k, .int .i64 m.a, .int .i64 m.t, .int .i64 m.j, .slice m.ua m.un m.uc, .bool m.lo] := by
    have := h.1
    unfold opC at this
    rw [← Array.toList_inj]; exact this
  have hc2 : ct = #[.int .i64 mt.1, .int .i64 mt.2.1, .int .i64 mt.2.2] := by rw [← Array.toList_inj]; exact ht.1
  have h' : IsOpJ w (opC m) m := ⟨rfl, h.2⟩
  rw [hc, hc2]
  exact twice_any n0 mt.1 mt.2.1 mt.2.2 v xs m w hv h'
end Go.Proofs.Ytppgachfobpgbaa
