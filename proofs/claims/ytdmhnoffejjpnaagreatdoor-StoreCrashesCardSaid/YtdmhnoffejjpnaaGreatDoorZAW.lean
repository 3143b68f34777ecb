/-
  store: what Query lets go; the search for the first of them.
  store: slices.IndexFunc and slices.DeleteFunc at records, with Query's closure.
  store: slices.DeleteFunc at records, with Query's closure: what stays.
-/
import Derived.Test.YtdmhnoffejjpnaaGreatDoorZAV
section
set_option linter.unusedVariables false
set_option linter.unusedSimpArgs false
set_option maxRecDepth 100000
set_option maxRecDepth 100000
namespace Go.Proofs.YtdmhnoffejjpnaaGreatDoor
open Go.RowKit Go Go.Lib

def recZ : List Value := [.int .i64 0, .int .i64 0, .int .i64 0, .bool false, .slice none 0 0]
theorem zeroRec (w : World) : (zeroValue 63).run Tryz.prog w = .ok (.agg recZ.toArray) w := by kernel_rfl
theorem zero_cells (n : Nat) : (Builtin.zeroCells recZ.toArray n).toList = (List.replicate n recZ).flatten := by
  have hl : ((List.replicate n recZ).flatten).length = n * 5 := by simp [recZ]
  apply List.ext_getElem?
  intro i
  unfold Builtin.zeroCells
  rw [Array.toList_map, List.getElem?_map]
  by_cases hi : i < n * 5
  · have h1 : (Array.range (n * recZ.toArray.size)).toList[i]? = some i := by
      rw [Array.getElem?_toList, Array.getElem?_range]
      simp [recZ, hi]
    rw [h1]
    have key : ∀ (m i : Nat), i < m * 5 → ((List.replicate m recZ).flatten)[i]? = recZ[i % 5]? := by
      intro m
      induction m with
      | zero => intro i h; omega
      | succ m ih =>
        intro i h
        rw [List.replicate_succ, List.flatten_cons]
        by_cases h5 : i < 5
        · rw [List.getElem?_append_left (by simpa [recZ] using h5), Nat.mod_eq_of_lt h5]
        · rw [List.getElem?_append_right (by simp [recZ]; omega)]
          have : recZ.length = 5 := rfl
          rw [this, ih (i - 5) (by omega)]
          congr 1
          omega
    rw [key n i hi]
    have h5 : i % 5 < 5 := Nat.mod_lt _ (by omega)
    have hs : recZ.toArray.size = 5 := rfl
    rw [hs]
    simp only [Option.map_some]
    have : recZ.length = 5 := rfl
    rw [List.getElem?_eq_getElem (by omega)]
    congr 1
    simp [recZ, h5]
  · rw [List.getElem?_eq_none (l := (List.replicate n recZ).flatten) (by rw [hl]; omega)]
    have : (Array.range (n * recZ.toArray.size)).toList[i]? = none := by
      rw [Array.getElem?_toList, Array.getElem?_range]
      simp [recZ, hi]
    rw [this]
    rfl
theorem clearQ (w : World) (t ty : TypeId) (ht : Tryz.prog.underlying t = some (.slice 63)) (b o n c : Nat)
    (hc : ∀ j, j < n * 5 → (w.cell? ⟨b, o + j, none⟩).isSome = true) (hf : ∀ j, j < n * 5 → w.frozen? ⟨b, o + j, none⟩ = false) (hn : 0 < n) :
    (Builtin.clear_ #[t] ty #[.slice (some ⟨b, o, none⟩) n c]).run Tryz.prog w = .ok (.tuple #[]) (w.setCells b o ((List.replicate n recZ).flatten)) := by
  have hl : ((List.replicate n recZ).flatten).length = n * 5 := by simp [recZ]
  have hst := run_storeCells_cells (P := Tryz.prog) b o ((List.replicate n recZ).flatten) 0 w (by simpa [hl] using hc) (by simpa [hl] using hf) (by
    intro v hv
    obtain ⟨l, h1, h2⟩ := List.mem_flatten.1 hv
    rw [List.eq_of_mem_replicate h1] at h2
    unfold recZ at h2
    simp only [List.mem_cons, List.not_mem_nil, or_false] at h2
    rcases h2 with rfl | rfl | rfl | rfl | rfl <;> rfl)
  simp only [Nat.add_zero] at hst
  obtain ⟨m, rfl⟩ : ∃ m, n = m + 1 := ⟨n - 1, by omega⟩
  have hzc := zero_cells (m + 1)
  have hz : (Value.agg recZ.toArray).cells = recZ.toArray := rfl
  have hz2 := zeroRec w
  rw [show (Value.agg recZ.toArray) = .agg #[.int .i64 0, .int .i64 0, .int .i64 0, .bool false, .slice none 0 0] from rfl] at hz2
  have hz3 : (Value.agg #[.int .i64 0, .int .i64 0, .int .i64 0, .bool false, .slice none 0 0]).cells = recZ.toArray := rfl
  have hs0 : ¬ (m + 1 = 0) := by omega
  simp [Builtin.clear_, run_underlying ht, hz2, hz3, hzc, hst]
/-- what Query lets go -/
def goneQ (tr cl : Int) (x : RC) : Bool := ((tr != 0) && (x.tr != tr)) || ((cl != -1) && (x.cl != cl))
set_option maxHeartbeats 4000000 in
theorem query1_any (tr cl : Int) (gt gc : Nat) (x : RC) (v : Value) (w : World) (ht : w.cell? ⟨gt, 0, none⟩ = some (.int .i64 tr)) (hc : w.cell? ⟨gc, 0, none⟩ = some (.int .i64 cl)) :
    Calls Tryz.prog 51 #[rcV x v, .pointer (some ⟨gt, 0, none⟩), .pointer (some ⟨gc, 0, none⟩)] w fun e w' => e = .returned (.bool (goneQ tr cl x)) ∧ Fr noB w w' := by
  obtain ⟨xt, xj, xc, xw, L⟩ := x
  unfold rcV goneQ
  simp only
  have fX := (Fr.refl noB w).alloc (.cells #[.int .i64 xt, .int .i64 xj, .int .i64 xc, .bool xw, v] 63)
  have bX := Blk.new w 63 [.int .i64 xt, .int .i64 xj, .int .i64 xc, .bool xw, v]
  have i0 := bX.cell 0
  have i2 := bX.cell 2
  have ht2 := fX.cell ht (fun q => q)
  have hc2 := fX.cell hc (fun q => q)
  simp only [List.getElem?_cons_zero, List.getElem?_cons_succ] at i0 i2
  replace bX := Lib.hid bX
  obtain ⟨b1, h1⟩ : ∃ b, (tr != 0) = b := ⟨_, rfl⟩
  obtain ⟨b2, h2⟩ : ∃ b, (xt != tr) = b := ⟨_, rfl⟩
  obtain ⟨b3, h3⟩ : ∃ b, (cl != -1) = b := ⟨_, rfl⟩
  obtain ⟨b4, h4⟩ : ∃ b, (xc != cl) = b := ⟨_, rfl⟩
  rw [h1, h2, h3, h4]
  cases b1 <;> cases b2 <;> cases b3 <;> cases b4
  all_goals (
    go_enter Tryz.func51, Tryz.ntmps51
    go_wp2_with fail
    go_ret
    exact ⟨rfl, fX⟩)
end Go.Proofs.YtdmhnoffejjpnaaGreatDoor
end

section
set_option linter.unusedVariables false
set_option linter.unusedSimpArgs false
set_option maxRecDepth 100000
set_option maxRecDepth 100000
namespace Go.Proofs.YtdmhnoffejjpnaaGreatDoor
open Go.RowKit Go Go.Lib

/-- what Query's closure is given -/
def qcl (gt gc : Nat) : Value := .func (.func 51) #[] #[.pointer (some ⟨gt, 0, none⟩), .pointer (some ⟨gc, 0, none⟩)]
set_option maxHeartbeats 4000000 in
theorem indexq_any (B g c n gt gc : Nat) (tr cl : Int) (X : List QU) (w : World) (h : w.ownsRow B 63 5 (.slice (some ⟨g, 0, none⟩) n c) n (X.flatMap QU.cs)) (hX : X.length = n) (hn : n ≤ 1000000)
    (ht : w.cell? ⟨gt, 0, none⟩ = some (.int .i64 tr)) (hc : w.cell? ⟨gc, 0, none⟩ = some (.int .i64 cl)) :
    Calls Tryz.prog 71 #[.slice (some ⟨g, 0, none⟩) n c, qcl gt gc] w fun e w' => ∃ r : Int, e = .returned (.int .i64 r) ∧ ((r = -1 ∧ ∀ x ∈ X, goneQ tr cl x.x = false) ∨ ∃ (i : Nat) (x : QU), X[i]? = some x ∧ r = i ∧ goneQ tr cl x.x = true ∧ ∀ x ∈ X.take i, goneQ tr cl x.x = false) ∧ Fr noB w w' := by
  have hget : ∀ k, k < n → ∃ m, X[k]? = some m := fun k hk => ⟨X[k]'(by omega), List.getElem?_eq_getElem (by omega)⟩
  have hcell : ∀ i x, X[i]? = some x → ∀ w', Fr noB w w' → w'.cell? ⟨g, i * 5, none⟩ = some (.int .i64 x.x.tr) ∧ w'.cell? ⟨g, i * 5 + 1, none⟩ = some (.int .i64 x.x.jb) ∧ w'.cell? ⟨g, i * 5 + 2, none⟩ = some (.int .i64 x.x.cl) ∧ w'.cell? ⟨g, i * 5 + 3, none⟩ = some (.bool x.x.wh) ∧ w'.cell? ⟨g, i * 5 + 4, none⟩ = some x.v := fun i x hi w' f => ⟨f.cell (own_cellQ (q := 0) h hi rfl) (fun q => q), f.cell (own_cellQ (q := 1) h hi rfl) (fun q => q), f.cell (own_cellQ (q := 2) h hi rfl) (fun q => q), f.cell (own_cellQ (q := 3) h hi rfl) (fun q => q), f.cell (own_cellQ (q := 4) h hi rfl) (fun q => q)⟩
  have ht2 : ∀ (x : QU) w', Fr noB w w' → Calls Tryz.prog 51 #[.agg #[.int .i64 x.x.tr, .int .i64 x.x.jb, .int .i64 x.x.cl, .bool x.x.wh, x.v], .pointer (some ⟨gt, 0, none⟩), .pointer (some ⟨gc, 0, none⟩)] w' fun e w'' => e = .returned (.bool (goneQ tr cl x.x)) ∧ Fr noB w' w'' := fun x w' f => query1_any tr cl gt gc x.x x.v w' (f.cell ht (fun q => q)) (f.cell hc (fun q => q))
  have hstep : ∀ (i : Nat) (x : QU), X[i]? = some x → (∀ x ∈ X.take i, goneQ tr cl x.x = false) → goneQ tr cl x.x = false → ∀ x ∈ X.take (i + 1), goneQ tr cl x.x = false := by
    intro i x hi h1 h2 y hy
    rw [take_suc hi] at hy
    rcases List.mem_append.1 hy with q | q
    · exact h1 y q
    · simp at q; subst q; exact h2
  have hall : X.take n = X := List.take_of_length_le (by omega)
  unfold qcl
  replace hcell := Lib.hid hcell
  replace ht2 := Lib.hid ht2
  replace hstep := Lib.hid hstep
  replace hget := Lib.hid hget
  replace hall := Lib.hid hall
  clear h ht hc hX
  go_enter Tryz.func71, Tryz.ntmps71
  go_wp2_with fail
  go_loopw [8] (fun i wr => ∃ k : Nat, k ≤ n ∧ i = .int .i64 k ∧ Hid (∀ x ∈ X.take k, goneQ tr cl x.x = false) ∧ Fr noB w wr) (fun i _ => n - (RowKit.intOf i).toNat)
  case atStart => exact ⟨0, by omega, rfl, Lib.hid (by simp), Fr.refl _ _⟩
  case round =>
    obtain ⟨k, hk, rfl, hZ, fr⟩ := hrel
    by_cases hlt : k < n
    · obtain ⟨x, hx⟩ := hget.out k hlt
      obtain ⟨c0, c1, c2, c3, c4⟩ := hcell.out k x hx _ fr
      have hb1 : (k : Int) < n := by omega
      have hb0 : (0 : Int) ≤ k := by omega
      have hc := ht2.out x _ fr
      have hst := hstep.out k x hx hZ.out
      obtain ⟨b, hb⟩ : ∃ b, goneQ tr cl x.x = b := ⟨_, rfl⟩
      rw [hb] at hc hst
      replace hb := Lib.hid hb
      replace hx := Lib.hid hx
      replace hc := Lib.hid hc
      replace hst := Lib.hid hst
      generalize x.v = xv at *
      go_wp2_with fail
      go_fit hc.out
      rintro e w3 ⟨rfl, f3⟩
      have f4 := fr.seqN f3
      clear fr f3 c0 c1 c2 c3 c4 hc
      cases b
      · have hZ2 := Lib.hid (hst.out rfl)
        clear hZ hst
        go_wp2_with fail
        go_roundw
        case rel => exact ⟨k + 1, by omega, by go_num, hZ2, f4⟩
        case measure => simp [RowKit.intOf]; omega
      · clear hst
        go_wp2_with fail
        go_ret
        exact ⟨k, rfl, Or.inr ⟨k, x, hx.out, rfl, hb.out, hZ.out⟩, f4⟩
    · obtain rfl : k = n := by omega
      have hno := hZ.out
      rw [hall.out] at hno
      replace hno := Lib.hid hno
      go_wp2_with fail
      go_ret
      exact ⟨-1, rfl, Or.inl ⟨rfl, hno.out⟩, fr⟩
end Go.Proofs.YtdmhnoffejjpnaaGreatDoor
end

section
set_option linter.unusedVariables false
set_option linter.unusedSimpArgs false
set_option maxRecDepth 100000
set_option maxRecDepth 100000
namespace Go.Proofs.YtdmhnoffejjpnaaGreatDoor
open Go.RowKit Go Go.Lib

theorem own_thereS {w : World} {B g n c i m s : Nat} {e : TypeId} {xs : List Value} (h : w.ownsRow B e s (.slice (some ⟨g, 0, none⟩) n c) n xs) (hi : i + m ≤ n * s) : w.there g i m := fun j hj => by
  have hl := h.1
  have h1 := h.cells (g := g) rfl (i + j) (xs[i + j]'(by omega)) (List.getElem?_eq_getElem (by omega))
  rw [add_none, Nat.zero_add] at h1
  refine ⟨by rw [h1]; rfl, ?_⟩
  rcases h.2 with ⟨h1, _⟩ | ⟨g', cap, cur, h1, hb, hg, hn, hm2, hs, ht⟩
  · cases h1
  · cases h1
    simp [World.frozen?, hg]
theorem fr_setCells (b : Nat) : ∀ (vs : List Value) (i : Nat) (w : World), Fr (onlyB b) w (w.setCells b i vs)
  | [], i, w => Fr.refl _ _
  | v :: r, i, w => by
    rw [World.setCells]
    exact ((Fr.refl (onlyB b) w).store rfl).onl (fr_setCells b r (i + 1) _)
set_option maxHeartbeats 8000000 in
theorem delq_any (B g c n gt gc : Nat) (tr cl : Int) (X : List QU) (w : World) (h : w.ownsRow B 63 5 (.slice (some ⟨g, 0, none⟩) n c) n (X.flatMap QU.cs)) (hX : X.length = n) (hn : n ≤ 1000000)
    (ht : w.cell? ⟨gt, 0, none⟩ = some (.int .i64 tr)) (hc : w.cell? ⟨gc, 0, none⟩ = some (.int .i64 cl)) (hgt : gt ≠ g) (hgc : gc ≠ g) :
    Calls Tryz.prog 50 #[.slice (some ⟨g, 0, none⟩) n c, qcl gt gc] w fun e w' => e = .returned (.slice (some ⟨g, 0, none⟩) (X.filter fun x => !goneQ tr cl x.x).length c) ∧ w'.ownsRow B 63 5 (.slice (some ⟨g, 0, none⟩) (X.filter fun x => !goneQ tr cl x.x).length c) (X.filter fun x => !goneQ tr cl x.x).length ((X.filter fun x => !goneQ tr cl x.x).flatMap QU.cs) ∧ Fr (onlyB g) w w' := by
  have hnc : n ≤ c := by
    rcases h.2 with ⟨h1, _⟩ | ⟨g', cap, cur, h1, hb, hg, hn, hm2, hs, ht⟩
    · cases h1
    · cases h1; exact hn
  have hcm : c ≤ maxLen := by
    rcases h.2 with ⟨h1, _⟩ | ⟨g', cap, cur, h1, hb, hg, hn, hm2, hs, ht⟩
    · cases h1
    · cases h1; exact hm2
  have hix := indexq_any B g c n gt gc tr cl X w h hX hn ht hc
  have hget : ∀ k, k < n → ∃ m, X[k]? = some m := fun k hk => ⟨X[k]'(by omega), List.getElem?_eq_getElem (by omega)⟩
  have ht2 : ∀ (x : QU) w', Fr (onlyB g) w w' → Calls Tryz.prog 51 #[.agg #[.int .i64 x.x.tr, .int .i64 x.x.jb, .int .i64 x.x.cl, .bool x.x.wh, x.v], .pointer (some ⟨gt, 0, none⟩), .pointer (some ⟨gc, 0, none⟩)] w' fun e w'' => e = .returned (.bool (goneQ tr cl x.x)) ∧ Fr noB w' w'' := fun x w' f => query1_any tr cl gt gc x.x x.v w' (f.cell ht (fun q => hgt q)) (f.cell hc (fun q => hgc q))
  unfold qcl at *
  obtain ⟨p, hp0⟩ : ∃ p : QU → Bool, (fun x : QU => goneQ tr cl x.x) = p := ⟨_, rfl⟩
  have hpx : ∀ x : QU, goneQ tr cl x.x = p x := fun x => by rw [← hp0]
  simp only [hpx] at hix ht2 ⊢
  clear hp0 hpx
  replace h := Lib.hid h
  replace ht2 := Lib.hid ht2
  replace hget := Lib.hid hget
  clear ht hc hgt hgc
  unfold maxLen at hcm
  go_enter Tryz.func50, Tryz.ntmps50
  go_wp2_with fail
  go_fit hix
  rintro e w1 ⟨r, rfl, hr, f1⟩
  clear hix
  have h1 := Lib.hid (ownsRow_fr h.out f1 (fun _ _ q => q))
  have fr0 : Fr (onlyB g) w w1 := f1.mono (fun _ _ q => False.elim q)
  rcases hr with ⟨rfl, hno⟩ | ⟨i, x0, hi, rfl, hp, hno⟩
  · have hall : X.filter (fun x => !p x) = X := List.filter_eq_self.2 (fun x hx => by rw [hno x hx]; rfl)
    replace hall := Lib.hid hall
    replace hno := Lib.hid hno
    replace hX := Lib.hid hX
    go_wp2_with fail
    go_ret
    rw [hall.out, hX.out]
    exact ⟨rfl, h1.out, fr0⟩
  · have d0 := DelQ.start hi hp hno
    have hin : i < n := by have := (List.getElem?_eq_some_iff.1 hi).1; omega
    have hne : ((i : Int) == -1) = false := beq_eq_false_iff_ne.2 (by omega)
    replace d0 := Lib.hid d0
    replace hp := Lib.hid hp
    replace hno := Lib.hid hno
    replace hX := Lib.hid hX
    replace hi := Lib.hid hi
    clear h f1
    go_wp2_with fail
    go_loopg [5, 6] (n - (i + 1)) (fun gk iv jv wr => ∃ (i j : Nat) (Z : List QU), j + gk = n ∧ iv = .int .i64 i ∧ jv = .int .i64 j ∧ i < j ∧ Hid (DelQ X Z p i j) ∧ Hid (wr.ownsRow B 63 5 (.slice (some ⟨g, 0, none⟩) n c) n (Z.flatMap QU.cs)) ∧ Fr (onlyB g) w wr)
    case atStart => exact ⟨i, i + 1, X, by omega, rfl, by go_num, by omega, d0, h1, fr0⟩
    case round =>
      clear d0 h1 fr0 hp hno hne hi hin
      obtain ⟨i, j, Z, hk, rfl, rfl, hij, dl, ow, fr⟩ := hrel
      by_cases hjn : j < n
      · obtain ⟨x, hx⟩ := hget.out j hjn
        have hz : Z[j]? = some x := by rw [dl.out.high j (Nat.le_refl _)]; exact hx
        have c0 : wr.cell? ⟨g, j * 5, none⟩ = some (.int .i64 x.x.tr) := own_cellQ (q := 0) ow.out hz rfl
        have c1 : wr.cell? ⟨g, j * 5 + 1, none⟩ = some (.int .i64 x.x.jb) := own_cellQ (q := 1) ow.out hz rfl
        have c2 : wr.cell? ⟨g, j * 5 + 2, none⟩ = some (.int .i64 x.x.cl) := own_cellQ (q := 2) ow.out hz rfl
        have c3 : wr.cell? ⟨g, j * 5 + 3, none⟩ = some (.bool x.x.wh) := own_cellQ (q := 3) ow.out hz rfl
        have c4 : wr.cell? ⟨g, j * 5 + 4, none⟩ = some x.v := own_cellQ (q := 4) ow.out hz rfl
        have fZ := (Fr.refl noB wr).alloc (.cells #[.int .i64 0, .int .i64 0, .int .i64 0, .bool false, .slice none 0 0] 63)
        have bZ := Blk.new wr 63 [.int .i64 0, .int .i64 0, .int .i64 0, .bool false, .slice none 0 0]
        have tZ := there6m (i := 0) (n := 5) bZ (by simp)
        obtain ⟨wA, hwA, fA0, hA0⟩ := store5m (wr.alloc (.cells #[.int .i64 0, .int .i64 0, .int .i64 0, .bool false, .slice none 0 0] 63)) wr.heap.size 0 (.int .i64 x.x.tr) (.int .i64 x.x.jb) (.int .i64 x.x.cl) (.bool x.x.wh) x.v
        have bA : Blk wA wr.heap.size 63 [.int .i64 x.x.tr, .int .i64 x.x.jb, .int .i64 x.x.cl, .bool x.x.wh, x.v] := hA0 _ _ bZ
        have fA : Fr noB wr wA := fZ.trans fA0 (fun _ _ q => q) (fun i hi q => by unfold onlyB at q; omega)
        have hone : (#[.int .i64 x.x.tr, .int .i64 x.x.jb, .int .i64 x.x.cl, .bool x.x.wh, x.v] : Array Value).all (·.oneCell') = true := rec5_one _ _ _ _ _ _ _
        have hcl := ht2.out x wA (fr.seqN fA)
        clear hA0 fA0 bZ fZ
        have hsk := dl.out.skip hx
        have hke := dl.out.keep hx
        have hb0 : (0 : Int) ≤ j := by omega
        have hb1 : (j : Int) < n := by omega
        have hb2 : (0 : Int) ≤ i := by omega
        have hb3 : (i : Int) < n := by omega
        obtain ⟨b, hb⟩ : ∃ b, p x = b := ⟨_, rfl⟩
        have hset := fun (w' : World) (hw : w'.ownsRow B 63 5 (.slice (some ⟨g, 0, none⟩) n c) n (Z.flatMap QU.cs)) => own_setQ (i := i) hw x (by have := dl.out.len; have := hX.out; omega)
        rw [hb] at hcl hsk hke
        have oA := ownsRow_fr ow.out fA (fun _ _ q => q)
        have frA := fr.seqN fA
        generalize x.x.tr = xt at *
        generalize x.x.jb = xj at *
        generalize x.x.cl = xc at *
        generalize x.x.wh = xw at *
        generalize x.v = xv at *
        replace hset := Lib.hid hset
        replace hcl := Lib.hid hcl
        replace bA := Lib.hid bA
        replace oA := Lib.hid oA
        replace frA := Lib.hid frA
        replace hx := Lib.hid hx
        replace hz := Lib.hid hz
        replace hb := Lib.hid hb
        replace hsk := Lib.hid hsk
        replace hke := Lib.hid hke
        replace fr := Lib.hid fr
        replace fA := Lib.hid fA
        replace hone := Lib.hid hone
        replace tZ := Lib.hid tZ
        obtain ⟨gA, hgA⟩ : ∃ q, wr.heap.size = q := ⟨_, rfl⟩
        rw [hgA] at tZ bA hwA
        go_upto_region 8 with (first
          | (refine wpList_store_mid rfl 63 (.tmp 7) (.tmp 25) rfl gA 0 #[.int .i64 xt, .int .i64 xj, .int .i64 xc, .bool xw, xv] (by simp only [Act.eval]; rw [← hgA]; rfl) rfl tZ.out size_rec5 hone.out ?_; rw [← hwA]; clear hwA)
          | fail)
        have a0 := bA.out.cell 0
        have a1 := bA.out.cell 1
        have a2 := bA.out.cell 2
        have a3 := bA.out.cell 3
        have a4 := bA.out.cell 4
        simp only [List.getElem?_cons_zero, List.getElem?_cons_succ] at a0 a1 a2 a3 a4
        replace hgA := Lib.hid hgA
        clear c0 c1 c2 c3 c4 fA fr ow
        go_wp2_with fail
        go_fit hcl.out
        rintro e w3 ⟨rfl, f3⟩
        have b3 := f3.blk bA.out (fun q => q)
        have fr3 := frA.out.seqN f3
        have o3 := ownsRow_fr oA.out f3 (fun _ _ q => q)
        clear a0 a1 a2 a3 a4 hcl bA frA oA f3
        cases b
        · have hke2 := Lib.hid (hke.out rfl)
          have t3 := own_thereS (i := i * 5) (m := 5) o3 (by omega)
          have o4 := hset.out w3 o3
          have fr4 : Fr (onlyB g) w (w3.setCells g (i * 5) [.int .i64 xt, .int .i64 xj, .int .i64 xc, .bool xw, xv]) := fr3.onl (fr_setCells _ _ _ _)
          have a0 := b3.cell 0
          have a1 := b3.cell 1
          have a2 := b3.cell 2
          have a3 := b3.cell 3
          have a4 := b3.cell 4
          simp only [List.getElem?_cons_zero, List.getElem?_cons_succ] at a0 a1 a2 a3 a4
          replace t3 := Lib.hid t3
          replace b3 := Lib.hid b3
          replace o3 := Lib.hid o3
          replace o4 := Lib.hid o4
          replace fr4 := Lib.hid fr4
          replace fr3 := Lib.hid fr3
          clear hset hsk hke dl
          obtain ⟨w4, hw4⟩ : ∃ w4, w3.setCells g (i * 5) (#[.int .i64 xt, .int .i64 xj, .int .i64 xc, .bool xw, xv] : Array Value).toList = w4 := ⟨_, rfl⟩
          rw [show w3.setCells g (i * 5) [.int .i64 xt, .int .i64 xj, .int .i64 xc, .bool xw, xv] = w4 from hw4] at o4 fr4
          go_wp2_with (first
            | (refine wpList_store_mid rfl 63 (.tmp 33) (.tmp 32) rfl g (i * 5) #[.int .i64 xt, .int .i64 xj, .int .i64 xc, .bool xw, xv] rfl rfl t3.out size_rec5 hone.out ?_; rw [hw4]; clear hw4)
            | fail)
          go_roundg (n - j - 1)
          case rel => exact ⟨i + 1, j + 1, Z.set i x, by omega, by go_num, by go_num, by omega, hke2, o4, fr4.out⟩
          case measure => omega
        · have hsk2 := Lib.hid (hsk.out rfl)
          replace o3 := Lib.hid o3
          replace b3 := Lib.hid b3
          clear hset hsk hke dl
          go_wp2_with fail
          go_roundg (n - j - 1)
          case rel => exact ⟨i, j + 1, Z, by omega, rfl, by go_num, by omega, hsk2, o3, fr3⟩
          case measure => omega
      · obtain rfl : j = n := by have := dl.out.le; have := hX.out; omega
        have dlo := dl.out
        have hF : X.filter (fun x => !p x) = Z.take i := by
          rw [dlo.low, List.take_of_length_le (by rw [hX.out]; exact Nat.le_refl _)]
        have hFl : (X.filter fun x => !p x).length = i := by
          have := dlo.cnt
          rwa [List.take_of_length_le (by rw [hX.out]; exact Nat.le_refl _)] at this
        have th := own_thereS (i := i * 5) (m := (j - i) * 5) ow.out (by have := Nat.add_mul i (j - i) 5; omega)
        have hcl := fun ty => clearQ wr 51 ty Tryz.underlying51 g (i * 5) (j - i) (c - i) (fun q hq => (th q hq).1) (fun q hq => (th q hq).2) (by omega)
        have ow2 : Hid ((wr.setCells g (i * 5) ((List.replicate (j - i) recZ).flatten)).ownsRow B 63 5 (.slice (some ⟨g, 0, none⟩) i c) i ((Z.take i).flatMap QU.cs)) := Lib.hid (by
          have := own_pastsS ((List.replicate (j - i) recZ).flatten) (i * 5) wr (own_cutS ow.out (show i ≤ j by omega)) (Nat.le_refl _)
          rwa [flat_take] at this)
        have fr2 : Hid (Fr (onlyB g) w (wr.setCells g (i * 5) ((List.replicate (j - i) recZ).flatten))) := Lib.hid (fr.onl (fr_setCells _ _ _ _))
        have hb2 : (0 : Int) ≤ i := by omega
        have hb3 : (i : Int) ≤ j := by omega
        replace hF := Lib.hid hF
        replace hFl := Lib.hid hFl
        clear dlo dl ow fr th
        go_wp2_with (simp only [hcl])
        go_ret
        rw [hFl.out, hF.out]
        exact ⟨rfl, ow2.out, fr2.out⟩
end Go.Proofs.YtdmhnoffejjpnaaGreatDoor
end
