/-
  What a job of the program's says, whole: Outs, and the parts of its manifest.
-/
import Derived.Test.YtidcoddefebdpaaGreatJobM
import Derived.Test.YtidcoddefebdpaaGreatJobShipF
import Derived.Test.YtidcoddefebdpaaGreatPUB
import Derived.Test.YtidcoddefebdpaaGreatLikeStore
set_option linter.unusedVariables false
set_option linter.unusedSimpArgs false
set_option maxRecDepth 100000
set_option maxRecDepth 100000
namespace Go.Proofs.YtidcoddefebdpaaGreat
open Go.RowKit Go Go.Lib

theorem RdI.len {w : World} {a : Option Addr} {n c : Nat} {xs : List Int} (h : RdI w (.slice a n c) xs) : n = xs.length := by
  obtain ⟨b, d, e, _⟩ := h
  injection e
theorem RdPs.frN {w w' : World} {v : Value} {ps : List Pn} (h : RdPs w v ps) (f : Fr noB w w') : RdPs w' v ps := h.frH f.toH
/-- the parts of a job's manifest -/
def JS.psl (j : JS) (X : Nat → List Int) (L : List Int) : List Pn := L.map fun x => ⟨(j.at x.toNat).t.ag, (j.at x.toNat).t.tr, (j.at x.toNat).t.jb, (j.at x.toNat).t.ct, X x.toNat, (j.at x.toNat).t.lo⟩
theorem psl_len (j : JS) (X : Nat → List Int) (L : List Int) : (j.psl X L).length = L.length := by unfold JS.psl; simp
theorem psl_get {j : JS} {X : Nat → List Int} {L : List Int} {i : Nat} {p : Pn} (h : (j.psl X L)[i]? = some p) : i < L.length ∧ p = ⟨(j.at (L.getD i 0).toNat).t.ag, (j.at (L.getD i 0).toNat).t.tr, (j.at (L.getD i 0).toNat).t.jb, (j.at (L.getD i 0).toNat).t.ct, X (L.getD i 0).toNat, (j.at (L.getD i 0).toNat).t.lo⟩ := by
  unfold JS.psl at h
  rw [List.getElem?_map] at h
  cases hx : L[i]? with
  | none => rw [hx] at h; cases h
  | some x =>
    rw [hx] at h
    injection h with h
    have hi := (List.getElem?_eq_some_iff.1 hx).1
    refine ⟨hi, ?_⟩
    rw [show L.getD i 0 = x by simp [List.getD, hx]]
    exact h.symm
theorem PartsAt.rd {w : World} {B B' : Nat} {row : Option Nat} {j : JS} {X : Nat → List Int} {L : List Int} {cs : List Value} {pa : Option Addr} {pc : Nat} (ho : w.ownsRow B' 67 6 (.slice pa L.length pc) L.length cs) (h : PartsAt w B row j X L L.length cs) (hl : L.length ≤ 1000000) : RdPs w (.slice pa L.length pc) (j.psl X L) := by
  refine ⟨pa, pc, by rw [psl_len], ?_, by rw [psl_len]; omega, fun i p hp => ?_⟩
  · rw [psl_len]
    rcases ho.2 with ⟨h1, h2⟩ | ⟨g, cap, cur, h1, _, _, h3, _⟩
    · omega
    · injection h1 with _ _ h4; omega
  · obtain ⟨hi, rfl⟩ := psl_get hp
    obtain ⟨ta, tc, h1, h2, _⟩ := h i hi
    have hlen := h2.len
    obtain ⟨g, cap, hg, _⟩ := ownsRow_some ho (by omega)
    injection hg with hg1 _ _
    subst hg1
    refine ⟨g, 0, ta, tc, rfl, fun q x hq => ?_, by rw [← hlen]; exact h2⟩
    have := ho.cells (g := g) rfl (i * 6 + q) x (h1 q x (by unfold toldC; unfold pnC at hq; simp only at hq ⊢; rw [hlen]; exact hq))
    rw [add_none] at this
    exact this
def JS.zg (j : JS) (pv : Value) : List (Int × Value) :=
  if j.ph = 1 then (whichL (fun v => !v.p) j 4).map fun x => (x, mPin j.tr j.id)
  else if j.ph = 2 then (-1, mManifest j.tr j.id j.cl pv) :: (whichL (fun _ => true) j 4).map fun x => (x, mCollect j.tr j.id)
  else if j.ph = 3 then (whichL (fun v => !v.f) j 4).map fun x => (x, mUnpin j.tr j.id)
  else []
def zgC (G : List (Int × Value)) : List Value := G.flatMap fun x => [.int .i64 x.1, x.2]
theorem zgC_map (L : List Int) (m : Value) : zgC (L.map fun x => (x, m)) = outC L m := by
  unfold zgC outC
  rw [List.flatMap_map]
set_option maxHeartbeats 1000000 in
theorem manifest_no2 (p : Nat) (j : JS) (w : World) (h : Jb w p j) (hph : 2 ≤ j.ph) (hno : noneL (fun v => !v.p) j = false) : Calls Tryz.prog 45 #[.pointer (some ⟨p, 0, none⟩)] w fun e w' => e = .returned (.tuple #[.agg #[.int .i64 0, .int .i64 0, .int .i64 0, .slice none 0 0], .bool false]) ∧ Fr noB w w' := by
  have fX := (Fr.refl noB w).alloc (.cells #[.int .i64 0, .int .i64 0, .int .i64 0, .slice none 0 0] 101)
  have hJX := h.frN fX
  have bX := Blk.new w 101 [.int .i64 0, .int .i64 0, .int .i64 0, .slice none 0 0]
  have c40 : (w.alloc (.cells #[.int .i64 0, .int .i64 0, .int .i64 0, .slice none 0 0] 101)).cell? ⟨p, 40, none⟩ = some (.int .i64 j.ph) := hJX.cell 40
  have hd : decide (j.ph < 2) = false := by simp; omega
  have hal := allPinned_any p j _ hJX
  rw [hno] at hal
  replace bX := Lib.hid bX
  clear hJX h
  go_enter Tryz.func45, Tryz.ntmps45
  go_wp2_with fail
  go_fit hal
  rintro e w1 ⟨rfl, f1⟩
  have f12 := fX.seqN f1
  have b1 := f1.blk bX.out (fun q => q)
  have hsz4 : (Tryz.prog.info? 101).map (·.size) = some (#[Value.int .i64 0, .int .i64 0, .int .i64 0, .slice none 0 0] : Array Value).size := by kernel_rfl
  have hon4 : (#[Value.int .i64 0, .int .i64 0, .int .i64 0, .slice none 0 0] : Array Value).all (·.oneCell') = true :=
    all_oneCell_toArray (cs := [Value.int .i64 0, .int .i64 0, .int .i64 0, .slice none 0 0]) (fun v hv => by
      simp only [List.mem_cons, List.not_mem_nil, or_false] at hv
      rcases hv with rfl | rfl | rfl | rfl <;> rfl)
  obtain ⟨g, hg⟩ : ∃ g, w.heap.size = g := ⟨_, rfl⟩
  rw [hg] at b1
  have hth : w1.there g 0 (#[Value.int .i64 0, .int .i64 0, .int .i64 0, .slice none 0 0] : Array Value).size := there6m b1 (by simp)
  try rw [hg]
  have hgB := Lib.hid hg
  replace b1 := Lib.hid b1
  replace hth := Lib.hid hth
  replace hsz4 := Lib.hid hsz4
  replace hon4 := Lib.hid hon4
  clear hg hal c40 hd bX fX f1
  go_wp2_with (first
    | (refine wpList_store_mid rfl 101 (.tmp 2) (.tmp 22) rfl g 0 #[.int .i64 0, .int .i64 0, .int .i64 0, .slice none 0 0] rfl rfl hth.out hsz4.out hon4.out ?_; obtain ⟨w10, hw10, f10, h10⟩ := store_all w1 g #[.int .i64 0, .int .i64 0, .int .i64 0, .slice none 0 0]; rw [← hw10]; clear hw10; have h10 := h10 _ _ b1.out rfl; have f10 := Lib.hid f10)
    | fail)
  have r0 : w10.cell? ⟨g, 0, none⟩ = some (.int .i64 0) := h10.cell 0
  have r1 : w10.cell? ⟨g, 1, none⟩ = some (.int .i64 0) := h10.cell 1
  have r2 : w10.cell? ⟨g, 2, none⟩ = some (.int .i64 0) := h10.cell 2
  have r3 : w10.cell? ⟨g, 3, none⟩ = some (.slice none 0 0) := h10.cell 3
  have frA : Fr noB w w10 := f12.trans f10.out (fun _ _ q => q) (fun i hi q => by unfold onlyB at q; have := hgB.out; omega)
  clear h10 f10
  try go_wp2_with fail
  refine bodyPost_ret (by simp [results, Tryz.results45, go_sem, r0, r1, r2, r3]; try rfl) rfl ?_
  exact ⟨rfl, frA⟩
/-- the program's Outs -/
theorem pouts_any (p : Nat) (L : Nat → Prop) (j : JS) (X : Nat → List Int) (w : World) (h : JG w p L j X) (hi : j.inv) :
    Calls Tryz.prog 25 #[.pointer (some ⟨p, 0, none⟩)] w fun e w' => ∃ u pv, e = .returned u ∧ w'.ownsRow w.heap.size 76 2 u (j.zg pv).length (zgC (j.zg pv)) ∧ (j.ph = 2 → RdPs w' pv (j.psl X j.all)) ∧ Fr noB w w' := by
  obtain ⟨j', hJ, rfl, hag, hT⟩ := h
  have w1 := which_nm (fun v => !v.p) (fun v => rfl) j'
  have w2 := which_nm (fun _ => true) (fun v => rfl) j'
  have w3 := which_nm (fun v => !v.f) (fun v => rfl) j'
  rcases hi.1 with hp | hp | hp | hp
  · refine (outs_1 p j' w hJ hp).mono ?_
    rintro e w' ⟨u, rfl, o, f⟩
    refine ⟨u, .nilIface, rfl, ?_, fun e => by omega, f⟩
    unfold JS.zg; rw [if_pos hp, zgC_map, w1]
    simpa [show j'.nm.tr = j'.tr from rfl, show j'.nm.id = j'.id from rfl, show j'.nm.cl = j'.cl from rfl] using o
  · have hn := hi.2 hp
    rw [none_nm _ (fun v => rfl)] at hn
    refine (outs_2F p j' X w hJ hp hn (fun a ha => ⟨(hT a ha).1, by have := (hT a ha).2.1; omega⟩)).mono ?_
    rintro e w' ⟨u, pa, pc, wm, cs, rfl, o, f, fm, fmw, oP, hpt⟩
    have hl4 : (whichL (fun _ => true) j' 4).length ≤ 4 := whichL_len (fun _ => true) j' 4
    refine ⟨u, .slice pa (whichL (fun _ => true) j' 4).length pc, rfl, ?_, fun _ => ?_, f⟩
    · unfold JS.zg; rw [if_neg (by omega), if_pos hp]
      show w'.ownsRow _ _ _ _ _ ([.int .i64 (-1), _] ++ zgC (List.map _ _))
      rw [zgC_map, w2]
      simpa [show j'.nm.tr = j'.tr from rfl, show j'.nm.id = j'.id from rfl, show j'.nm.cl = j'.cl from rfl] using o
    · unfold JS.all
      rw [w2]
      have hpt2 : PartsAt wm w.heap.size (Value.slice pa (whichL (fun _ => true) j' 4).length pc).ownBlock j'.nm X (whichL (fun _ => true) j' 4) (whichL (fun _ => true) j' 4).length cs := fun i hi => by
        obtain ⟨ta, tc, k1, k2, k3⟩ := hpt i hi
        rw [at_nm]
        exact ⟨ta, tc, k1, k2, k3⟩
      exact (PartsAt.rd oP hpt2 (by omega)).frN fmw
  · refine (outs_3 p j' w hJ hp).mono ?_
    rintro e w' ⟨u, rfl, o, f⟩
    refine ⟨u, .nilIface, rfl, ?_, fun e => by omega, f⟩
    unfold JS.zg; rw [if_neg (by omega), if_neg (by omega), if_pos hp, zgC_map, w3]
    simpa [show j'.nm.tr = j'.tr from rfl, show j'.nm.id = j'.id from rfl, show j'.nm.cl = j'.cl from rfl] using o
  · refine (outs_4 p j' w hJ hp).mono ?_
    rintro e w' ⟨rfl, rfl⟩
    refine ⟨_, .nilIface, rfl, ?_, fun e => by omega, Fr.refl _ _⟩
    unfold JS.zg; rw [if_neg (by omega), if_neg (by omega), if_neg (by omega)]
    exact World.ownsRow_nil _ _ _ _
end Go.Proofs.YtidcoddefebdpaaGreat
