/-
  What both jobs say is the same: Outs and Manifest of both, compared by the law's Like and Same.
-/
import Derived.Test.YtppgachfobpgbaaJobMs
import Derived.Test.YtppgachfobpgbaaJobShipF
set_option linter.unusedVariables false
set_option linter.unusedSimpArgs false
set_option maxRecDepth 100000
set_option maxRecDepth 100000
namespace Go.Proofs.Ytppgachfobpgbaa
open Go.RowKit Go Go.Lib

/-- Like of m is, to the law's Same, the reference's message r -/
def SameAt (w : World) (m r : Value) : Prop := ∀ w1, Fr noB w w1 → Calls Try.prog 12 #[m] w1 fun e w2 => ∃ u, e = .returned u ∧ Fr noB w1 w2 ∧ ∀ w3, Fr noB w2 w3 → Calls Try.prog 24 #[u, r] w3 fun e w4 => e = .returned (.bool true) ∧ Fr noB w3 w4
theorem SameAt.frN {w w' : World} {m r : Value} (h : SameAt w m r) (f : Fr noB w w') : SameAt w' m r := fun w1 f1 => h w1 (f.seqN f1)
theorem RdPs.frN {w w' : World} {v : Value} {ps : List Pn} (h : RdPs w v ps) (f : Fr noB w w') : RdPs w' v ps := h.frH f.toH
theorem rfg_2 (w : World) (k t j : Int) : RfG w (mrV { k := k, t := t, j := j }) k 0 t j 0 0 0 zP [] [] := ⟨none, 0, none, 0, none, 0, rfl, rdI_nil w, rdPs_nil w, rdSp_nil w⟩
theorem rfg_m (w : World) (t j c : Int) (qa : Option Addr) (qc : Nat) (ps : List Pn) (h : RdPs w (.slice qa ps.length qc) ps) : RfG w (mrV { k := 7, t := t, j := j, c := c, qa := qa, qn := ps.length, qc := qc }) 7 0 t j c 0 0 zP ps [] := ⟨none, 0, qa, qc, none, 0, rfl, rdI_nil w, h, rdSp_nil w⟩
theorem sameAt_pin (w : World) (t j : Int) : SameAt w (mPin t j) (mrV { k := 2, t := t, j := j }) := fun w1 _ =>
  (like_Pin t j w1).mono fun e w2 ⟨h1, f⟩ => ⟨_, h1, f, fun w3 _ => same_gen _ _ 2 0 t j 0 0 0 zP [] [] w3 (rfg_2 w3 2 t j) (rfg_2 w3 2 t j)⟩
theorem sameAt_collect (w : World) (t j : Int) : SameAt w (mCollect t j) (mrV { k := 5, t := t, j := j }) := fun w1 _ =>
  (like_Collect t j w1).mono fun e w2 ⟨h1, f⟩ => ⟨_, h1, f, fun w3 _ => same_gen _ _ 5 0 t j 0 0 0 zP [] [] w3 (rfg_2 w3 5 t j) (rfg_2 w3 5 t j)⟩
theorem sameAt_unpin (w : World) (t j : Int) : SameAt w (mUnpin t j) (mrV { k := 9, t := t, j := j }) := fun w1 _ =>
  (like_Unpin t j w1).mono fun e w2 ⟨h1, f⟩ => ⟨_, h1, f, fun w3 _ => same_gen _ _ 9 0 t j 0 0 0 zP [] [] w3 (rfg_2 w3 9 t j) (rfg_2 w3 9 t j)⟩
theorem sameAt_man (w : World) (t j c : Int) (pv : Value) (qa : Option Addr) (qn qc : Nat) (ps : List Pn) (hn : qn = ps.length) (hl : ps.length ≤ 100) (hp : RdPs w pv ps) (hq : RdPs w (.slice qa qn qc) ps) : SameAt w (mManifest t j c pv) (mrV { k := 7, t := t, j := j, c := c, qa := qa, qn := qn, qc := qc }) := by
  subst hn
  intro w1 f1
  refine (like_Manifest t j c pv ps w1 (hp.frN f1) hl).mono ?_
  rintro e w2 ⟨a, cc, rfl, h2, f2⟩
  exact ⟨_, rfl, f2, fun w3 f3 => same_gen _ _ 7 0 t j c 0 0 zP ps [] w3 (rfg_m w3 t j c a cc ps (h2.frN f3)) (rfg_m w3 t j c qa qc ps (hq.frN ((f1.seqN f2).seqN f3)))⟩

/-- the parts of a job's manifest -/
def JS.psl (j : JS) (X : Nat → List Int) (L : List Int) : List Pn := L.map fun x => ⟨(j.at x.toNat).t.ag, (j.at x.toNat).t.tr, (j.at x.toNat).t.jb, (j.at x.toNat).t.ct, X x.toNat, (j.at x.toNat).t.lo⟩
theorem psl_len (j : JS) (X : Nat → List Int) (L : List Int) : (j.psl X L).length = L.length := by unfold JS.psl; simp
theorem psl_get {j : JS} {X : Nat → List Int} {L : List Int} {i : Nat} {p : Pn} (h : (j.psl X L)[i]? = some p) : i < L.length ∧ p = ⟨(j.at (L.getD i 0).toNat).t.ag, (j.at (L.getD i 0).toNat).t.tr, (j.at (L.getD i 0).toNat).t.jb, (j.at (L.getD i 0).toNat).t.ct, X (L.getD i 0).toNat, (j.at (L.getD i 0).toNat).t.lo⟩ := by
  unfold JS.psl at h
  rw [List.getElem?_map] at h
  cases hx : L[i]? with
  | none => rw [hx] at h; cases h
  | some x =>
    rw [hx] at h
    injection h with h
    have hi := (List.getElem?_eq_some_iff.1 hx).1
    refine ⟨hi, ?_⟩
    rw [show L.getD i 0 = x by simp [List.getD, hx]]
    exact h.symm
theorem PartsAt.rd {w : World} {B B' : Nat} {row : Option Nat} {j : JS} {X : Nat → List Int} {L : List Int} {cs : List Value} {pa : Option Addr} {pc : Nat} (ho : w.ownsRow B' 72 6 (.slice pa L.length pc) L.length cs) (h : PartsAt w B row j X L L.length cs) (hl : L.length ≤ 1000000) : RdPs w (.slice pa L.length pc) (j.psl X L) := by
  refine ⟨pa, pc, by rw [psl_len], ?_, by rw [psl_len]; omega, fun i p hp => ?_⟩
  · rw [psl_len]
    rcases ho.2 with ⟨h1, h2⟩ | ⟨g, cap, cur, h1, _, _, h3, _⟩
    · omega
    · injection h1 with _ _ h4; omega
  · obtain ⟨hi, rfl⟩ := psl_get hp
    obtain ⟨ta, tc, h1, h2, _⟩ := h i hi
    have hlen := h2.len
    obtain ⟨g, cap, hg, _⟩ := ownsRow_some ho (by omega)
    injection hg with hg1 _ _
    subst hg1
    refine ⟨g, 0, ta, tc, rfl, fun q x hq => ?_, by rw [← hlen]; exact h2⟩
    have := ho.cells (g := g) rfl (i * 6 + q) x (h1 q x (by unfold toldC; unfold pnC at hq; simp only at hq ⊢; rw [hlen]; exact hq))
    rw [add_none] at this
    exact this
theorem parts_rd {w : World} {B M0 : Nat} {j : JS} {q : RJ} {X : Nat → List Int} {L : List Int} {qa : Option Addr} {qc : Nat} (hr : JRl j q) (hX : RdX w M0 q X) (hL : ∀ x ∈ L, ∃ i : Nat, i < 4 ∧ x = (i : Int) ∧ (j.at i).p = true)
    (ho : w.ownsRow B 33 6 (.slice qa L.length qc) L.length ((L.map fun x => q.P.getD x.toNat pt0).flatMap RPt.cs)) (hl : L.length ≤ 1000000) : RdPs w (.slice qa L.length qc) (j.psl X L) := by
  refine ⟨qa, qc, by rw [psl_len], ?_, by rw [psl_len]; omega, fun i p hp => ?_⟩
  · rw [psl_len]
    rcases ho.2 with ⟨h1, h2⟩ | ⟨g, cap, cur, h1, _, _, h3, _⟩
    · omega
    · injection h1 with _ _ h4; omega
  · obtain ⟨hi, rfl⟩ := psl_get hp
    obtain ⟨n, hn, hx, hpn⟩ := hL (L.getD i 0) (by simp [List.getD, hi])
    have hx2 : (L.getD i 0).toNat = n := by omega
    rw [hx2]
    obtain ⟨hrd, _⟩ := hX n hn
    have ht := hr.pt n hn hpn
    have hlen := hrd.len
    obtain ⟨g, cap, hg, _⟩ := ownsRow_some ho (by omega)
    injection hg with hg1 _ _
    subst hg1
    rw [hlen] at hrd
    refine ⟨g, 0, (q.P.getD n pt0).ua, (q.P.getD n pt0).uc, rfl, fun k x hk => ?_, hrd⟩
    have hk6 : k < 6 := (List.getElem?_eq_some_iff.1 hk).1
    have hget : ((L.map fun x => q.P.getD x.toNat pt0).flatMap RPt.cs)[i * 6 + k]? = (q.P.getD n pt0).cs[k]? := by
      rw [flat6_get _ i k (by simpa using hi) hk6]
      congr 1
      rw [show (L.map fun x => q.P.getD x.toNat pt0).getD i pt0 = q.P.getD (L.getD i 0).toNat pt0 by simp [List.getD, hi], hx2]
    have hcs : (q.P.getD n pt0).cs = pnC ⟨(j.at n).t.ag, (j.at n).t.tr, (j.at n).t.jb, (j.at n).t.ct, X n, (j.at n).t.lo⟩ (.slice (q.P.getD n pt0).ua (X n).length (q.P.getD n pt0).uc) := by
      unfold RPt.cs pnC
      rw [ht.a, ht.t, ht.j, ht.c, ht.lo, hlen]
    have := ho.cells (g := g) rfl (i * 6 + k) x (by rw [hget, hcs]; exact hk)
    rw [add_none] at this
    exact this

/-! ### Outs -/
def JS.zr (j : JS) (qa : Option Addr) (qc : Nat) : List (Int × MR) :=
  if j.ph = 1 then (whichL (fun v => !v.p) j 4).map fun x => (x, { k := 2, t := j.tr, j := j.id })
  else if j.ph = 2 then (-1, { k := 7, t := j.tr, j := j.id, c := j.cl, qa := qa, qn := (whichL (fun _ => true) j 4).length, qc := qc }) :: (whichL (fun _ => true) j 4).map fun x => (x, { k := 5, t := j.tr, j := j.id })
  else if j.ph = 3 then (whichL (fun v => !v.f) j 4).map fun x => (x, { k := 9, t := j.tr, j := j.id })
  else []
def JS.zg (j : JS) (pv : Value) : List (Int × Value) :=
  if j.ph = 1 then (whichL (fun v => !v.p) j 4).map fun x => (x, mPin j.tr j.id)
  else if j.ph = 2 then (-1, mManifest j.tr j.id j.cl pv) :: (whichL (fun _ => true) j 4).map fun x => (x, mCollect j.tr j.id)
  else if j.ph = 3 then (whichL (fun v => !v.f) j 4).map fun x => (x, mUnpin j.tr j.id)
  else []
def zgC (G : List (Int × Value)) : List Value := G.flatMap fun x => [.int .i64 x.1, x.2]
def zrT (Z : List (Int × MR)) : List Value := Z.map fun x => .int .i64 x.1
def zrM (Z : List (Int × MR)) : List Value := Z.flatMap fun x => mrC x.2
def JS.all (j : JS) : List Int := whichL (fun _ => true) j 4
theorem zlen (j : JS) (qa : Option Addr) (qc : Nat) (pv : Value) : (j.zr qa qc).length = (j.zg pv).length ∧ (j.zg pv).length ≤ 5 := by
  have h1 := whichL_len (fun v => !v.p) j 4
  have h2 := whichL_len (fun _ => true) j 4
  have h3 := whichL_len (fun v => !v.f) j 4
  unfold JS.zr JS.zg
  split
  · simp; omega
  · split
    · simp; omega
    · split
      · simp; omega
      · simp
theorem zgC_map (L : List Int) (m : Value) : zgC (L.map fun x => (x, m)) = outC L m := by
  unfold zgC outC
  rw [List.flatMap_map]
theorem zrT_map (L : List Int) (K : Int) (M : MR) : zrT (L.map fun x => (x, M)) = RJ.toL (L.map fun x => (x, K)) := by
  unfold zrT RJ.toL
  rw [List.map_map, List.map_map]
  rfl
theorem zrM_map (q : RJ) (L : List Int) (K : Int) : zrM (L.map fun x => (x, { k := K, t := q.tr, j := q.id })) = q.msL (L.map fun x => (x, K)) := by
  unfold zrM RJ.msL
  rw [List.flatMap_map, List.flatMap_map]
theorem all_pinned {j : JS} {q : RJ} (h : JRl j q) (hn : noneL (fun v => !v.p) j = true) : ∀ x ∈ j.all, ∃ i : Nat, i < 4 ∧ x = (i : Int) ∧ (j.at i).p = true := by
  intro x hx
  obtain ⟨i, hi, e, hv, _⟩ := which_mem.1 hx
  refine ⟨i, hi, e, ?_⟩
  have := none_iff.1 hn i hi hv
  simpa using this
/-- the reference's Outs -/
theorem routs_any (r gs gp gf M0 : Nat) (j : JS) (q : RJ) (X : Nat → List Int) (w : World) (h : Rj w r gs gp gf q) (hr : JRl j q) (hX : RdX w M0 q X) :
    Calls Try.prog 16 #[.pointer (some ⟨r, 0, none⟩)] w fun e w' => ∃ ut uo qa qc, e = .returned (.tuple #[ut, uo]) ∧ w'.ownsRow w.heap.size 3 1 ut (j.zr qa qc).length (zrT (j.zr qa qc)) ∧ w'.ownsRow w.heap.size 37 15 uo (j.zr qa qc).length (zrM (j.zr qa qc)) ∧ (j.ph = 2 → RdPs w' (.slice qa j.all.length qc) (j.psl X j.all)) ∧ Fr noB w w' := by
  have hph := hr.r.ph
  rcases hr.inv.1 with hp | hp | hp | hp
  · refine (routs_1 r gs gp gf q w h (hph.trans hp)).mono ?_
    rintro e w' ⟨ut, uo, rfl, oT, oM, f⟩
    refine ⟨ut, uo, none, 0, rfl, ?_, ?_, fun e => by omega, f⟩
    · unfold JS.zr; rw [if_pos hp, zrT_map _ 2]
      rw [ks_1 hr hp] at oT
      simpa using oT
    · unfold JS.zr; rw [if_pos hp, ← hr.r.tr, ← hr.r.id, zrM_map q _ 2]
      rw [ks_1 hr hp] at oM
      simpa using oM
  · refine (routs_2 r gs gp gf q w h (hph.trans hp)).mono ?_
    rintro e w' ⟨ut, uo, qa, qc, rfl, oT, oM, oP, f⟩
    rw [ks_2 hr hp] at oT oM
    rw [parts_which hr] at oP oM
    have hlen : (j.all.map fun x => q.P.getD x.toNat pt0).length = j.all.length := by simp
    have hl4 : j.all.length ≤ 4 := whichL_len (fun _ => true) j 4
    refine ⟨ut, uo, qa, qc, rfl, ?_, ?_, fun _ => ?_, f⟩
    · unfold JS.zr; rw [if_neg (by omega), if_pos hp]
      show w'.ownsRow _ _ _ _ _ (.int .i64 (-1) :: zrT (List.map _ _))
      rw [zrT_map _ 5]
      simpa using oT
    · unfold JS.zr; rw [if_neg (by omega), if_pos hp, ← hr.r.tr, ← hr.r.id, ← hr.r.cl]
      show w'.ownsRow _ _ _ _ _ (mrC _ ++ zrM (List.map _ _))
      rw [zrM_map q _ 5]
      simpa using oM
    · refine parts_rd (B := w.heap.size) hr (hX.fr f (fun _ _ q => q)) (all_pinned hr (hr.inv.2 hp)) ?_ (by omega)
      have := oP
      rw [show (List.map (fun x => q.P.getD x.toNat pt0) (whichL (fun x => true) j 4)).length = j.all.length by simp [JS.all]] at this
      exact this
  · refine (routs_3 r gs gp gf q w h (hph.trans hp)).mono ?_
    rintro e w' ⟨ut, uo, rfl, oT, oM, f⟩
    refine ⟨ut, uo, none, 0, rfl, ?_, ?_, fun e => by omega, f⟩
    · unfold JS.zr; rw [if_neg (by omega), if_neg (by omega), if_pos hp, zrT_map _ 9]
      rw [ks_3 hr hp] at oT
      simpa using oT
    · unfold JS.zr; rw [if_neg (by omega), if_neg (by omega), if_pos hp, ← hr.r.tr, ← hr.r.id, zrM_map q _ 9]
      rw [ks_3 hr hp] at oM
      simpa using oM
  · refine (routs_4 r gs gp gf q w h (hph.trans hp)).mono ?_
    rintro e w' ⟨ut, uo, rfl, oT, oM, f⟩
    refine ⟨ut, uo, none, 0, rfl, ?_, ?_, fun e => by omega, f⟩
    · unfold JS.zr; rw [if_neg (by omega), if_neg (by omega), if_neg (by omega)]
      rw [ks_4 hr hp] at oT
      exact oT
    · unfold JS.zr; rw [if_neg (by omega), if_neg (by omega), if_neg (by omega)]
      rw [ks_4 hr hp] at oM
      exact oM
/-- the program's Outs -/
theorem pouts_any (p L : Nat) (j : JS) (X : Nat → List Int) (w : World) (h : JG w p L j X) (hi : j.inv) :
    Calls Try.prog 17 #[.pointer (some ⟨p, 0, none⟩)] w fun e w' => ∃ u pv, e = .returned u ∧ w'.ownsRow w.heap.size 58 2 u (j.zg pv).length (zgC (j.zg pv)) ∧ (j.ph = 2 → RdPs w' pv (j.psl X j.all)) ∧ Fr noB w w' := by
  obtain ⟨j', hJ, rfl, hag, hT⟩ := h
  have w1 := which_nm (fun v => !v.p) (fun v => rfl) j'
  have w2 := which_nm (fun _ => true) (fun v => rfl) j'
  have w3 := which_nm (fun v => !v.f) (fun v => rfl) j'
  rcases hi.1 with hp | hp | hp | hp
  · refine (outs_1 p j' w hJ hp).mono ?_
    rintro e w' ⟨u, rfl, o, f⟩
    refine ⟨u, .nilIface, rfl, ?_, fun e => by omega, f⟩
    unfold JS.zg; rw [if_pos hp, zgC_map, w1]
    simpa [show j'.nm.tr = j'.tr from rfl, show j'.nm.id = j'.id from rfl, show j'.nm.cl = j'.cl from rfl] using o
  · have hn := hi.2 hp
    rw [none_nm _ (fun v => rfl)] at hn
    refine (outs_2F p j' X w hJ hp hn (fun a ha => ⟨(hT a ha).1, by have := (hT a ha).2.1; omega⟩)).mono ?_
    rintro e w' ⟨u, pa, pc, wm, cs, rfl, o, f, fm, fmw, oP, hpt⟩
    have hl4 : (whichL (fun _ => true) j' 4).length ≤ 4 := whichL_len (fun _ => true) j' 4
    refine ⟨u, .slice pa (whichL (fun _ => true) j' 4).length pc, rfl, ?_, fun _ => ?_, f⟩
    · unfold JS.zg; rw [if_neg (by omega), if_pos hp]
      show w'.ownsRow _ _ _ _ _ ([.int .i64 (-1), _] ++ zgC (List.map _ _))
      rw [zgC_map, w2]
      simpa [show j'.nm.tr = j'.tr from rfl, show j'.nm.id = j'.id from rfl, show j'.nm.cl = j'.cl from rfl] using o
    · unfold JS.all
      rw [w2]
      have hpt2 : PartsAt wm w.heap.size (Value.slice pa (whichL (fun _ => true) j' 4).length pc).ownBlock j'.nm X (whichL (fun _ => true) j' 4) (whichL (fun _ => true) j' 4).length cs := fun i hi => by
        obtain ⟨ta, tc, k1, k2, k3⟩ := hpt i hi
        rw [at_nm]
        exact ⟨ta, tc, k1, k2, k3⟩
      exact (PartsAt.rd oP hpt2 (by omega)).frN fmw
  · refine (outs_3 p j' w hJ hp).mono ?_
    rintro e w' ⟨u, rfl, o, f⟩
    refine ⟨u, .nilIface, rfl, ?_, fun e => by omega, f⟩
    unfold JS.zg; rw [if_neg (by omega), if_neg (by omega), if_pos hp, zgC_map, w3]
    simpa [show j'.nm.tr = j'.tr from rfl, show j'.nm.id = j'.id from rfl, show j'.nm.cl = j'.cl from rfl] using o
  · refine (outs_4 p j' w hJ hp).mono ?_
    rintro e w' ⟨rfl, rfl⟩
    refine ⟨_, .nilIface, rfl, ?_, fun e => by omega, Fr.refl _ _⟩
    unfold JS.zg; rw [if_neg (by omega), if_neg (by omega), if_neg (by omega)]
    exact World.ownsRow_nil _ _ _ _
/-- what both say, one by one -/
theorem sameZ {w : World} {j : JS} {X : Nat → List Int} {pv : Value} {qa : Option Addr} {qc : Nat} (hi : j.inv) (hp : j.ph = 2 → RdPs w pv (j.psl X j.all)) (hq : j.ph = 2 → RdPs w (.slice qa j.all.length qc) (j.psl X j.all)) :
    ∀ i, i < (j.zg pv).length → ∃ x m M, (j.zg pv)[i]? = some (x, m) ∧ (j.zr qa qc)[i]? = some (x, M) ∧ SameAt w m (mrV M) := by
  have key : ∀ (L : List Int) (m : Value) (M : MR), SameAt w m (mrV M) → ∀ i, i < L.length → ∃ x m' M', (L.map fun x => (x, m))[i]? = some (x, m') ∧ (L.map fun x => (x, M))[i]? = some (x, M') ∧ SameAt w m' (mrV M') := fun L m M hs i hi =>
    ⟨L[i], m, M, by simp [hi], by simp [hi], hs⟩
  unfold JS.zg JS.zr
  rcases hi.1 with h | h | h | h
  · rw [if_pos h, if_pos h]
    intro i hi
    exact key _ _ _ (sameAt_pin w _ _) i (by simpa using hi)
  · rw [if_neg (by omega), if_pos h, if_neg (by omega), if_pos h]
    intro i hi
    match i with
    | 0 => exact ⟨_, _, _, rfl, rfl, sameAt_man w _ _ _ _ _ _ _ _ (by rw [psl_len]; rfl) (by rw [psl_len]; have := whichL_len (fun _ => true) j 4; unfold JS.all; omega) (hp h) (hq h)⟩
    | i + 1 =>
      obtain ⟨x, m, M, h1, h2, h3⟩ := key (whichL (fun _ => true) j 4) _ _ (sameAt_collect w j.tr j.id) i (by simpa using hi)
      exact ⟨x, m, M, by simpa using h1, by simpa using h2, h3⟩
  · rw [if_neg (by omega), if_neg (by omega), if_pos h, if_neg (by omega), if_neg (by omega), if_pos h]
    intro i hi
    exact key _ _ _ (sameAt_unpin w _ _) i (by simpa using hi)
  · rw [if_neg (by omega), if_neg (by omega), if_neg (by omega)]
    intro i hi
    simp at hi

/-! ### Manifest -/
set_option maxHeartbeats 1000000 in
theorem manifest_no2 (p : Nat) (j : JS) (w : World) (h : Jb w p j) (hph : 2 ≤ j.ph) (hno : noneL (fun v => !v.p) j = false) : Calls Try.prog 25 #[.pointer (some ⟨p, 0, none⟩)] w fun e w' => e = .returned (.tuple #[.agg #[.int .i64 0, .int .i64 0, .int .i64 0, .slice none 0 0], .bool false]) ∧ Fr noB w w' := by
  have fX := (Fr.refl noB w).alloc (.cells #[.int .i64 0, .int .i64 0, .int .i64 0, .slice none 0 0] 62)
  have hJX := h.frN fX
  have bX := Blk.new w 62 [.int .i64 0, .int .i64 0, .int .i64 0, .slice none 0 0]
  have c40 : (w.alloc (.cells #[.int .i64 0, .int .i64 0, .int .i64 0, .slice none 0 0] 62)).cell? ⟨p, 40, none⟩ = some (.int .i64 j.ph) := hJX.cell 40
  have hd : decide (j.ph < 2) = false := by simp; omega
  have hal := allPinned_any p j _ hJX
  rw [hno] at hal
  replace bX := Lib.hid bX
  clear hJX h
  go_enter Try.func25, Try.ntmps25
  go_wp2_with fail
  go_fit hal
  rintro e w1 ⟨rfl, f1⟩
  have f12 := fX.seqN f1
  have b1 := f1.blk bX.out (fun q => q)
  have hsz4 : (Try.prog.info? 62).map (·.size) = some (#[Value.int .i64 0, .int .i64 0, .int .i64 0, .slice none 0 0] : Array Value).size := by kernel_rfl
  have hon4 : (#[Value.int .i64 0, .int .i64 0, .int .i64 0, .slice none 0 0] : Array Value).all (·.oneCell') = true :=
    all_oneCell_toArray (cs := [Value.int .i64 0, .int .i64 0, .int .i64 0, .slice none 0 0]) (fun v hv => by
      simp only [List.mem_cons, List.not_mem_nil, or_false] at hv
      rcases hv with rfl | rfl | rfl | rfl <;> rfl)
  obtain ⟨g, hg⟩ : ∃ g, w.heap.size = g := ⟨_, rfl⟩
  rw [hg] at b1
  have hth : w1.there g 0 (#[Value.int .i64 0, .int .i64 0, .int .i64 0, .slice none 0 0] : Array Value).size := there6m b1 (by simp)
  try rw [hg]
  have hgB := Lib.hid hg
  replace b1 := Lib.hid b1
  replace hth := Lib.hid hth
  replace hsz4 := Lib.hid hsz4
  replace hon4 := Lib.hid hon4
  clear hg hal c40 hd bX fX f1
  go_wp2_with (first
    | (refine wpList_store_mid rfl 62 (.tmp 2) (.tmp 22) rfl g 0 #[.int .i64 0, .int .i64 0, .int .i64 0, .slice none 0 0] rfl rfl hth.out hsz4.out hon4.out ?_; obtain ⟨w10, hw10, f10, h10⟩ := store_all w1 g #[.int .i64 0, .int .i64 0, .int .i64 0, .slice none 0 0]; rw [← hw10]; clear hw10; have h10 := h10 _ _ b1.out rfl; have f10 := Lib.hid f10)
    | fail)
  have r0 : w10.cell? ⟨g, 0, none⟩ = some (.int .i64 0) := h10.cell 0
  have r1 : w10.cell? ⟨g, 1, none⟩ = some (.int .i64 0) := h10.cell 1
  have r2 : w10.cell? ⟨g, 2, none⟩ = some (.int .i64 0) := h10.cell 2
  have r3 : w10.cell? ⟨g, 3, none⟩ = some (.slice none 0 0) := h10.cell 3
  have frA : Fr noB w w10 := f12.trans f10.out (fun _ _ q => q) (fun i hi q => by unfold onlyB at q; have := hgB.out; omega)
  clear h10 f10
  try go_wp2_with fail
  refine bodyPost_ret (by simp [results, Try.results25, go_sem, r0, r1, r2, r3]; try rfl) rfl ?_
  exact ⟨rfl, frA⟩
end Go.Proofs.Ytppgachfobpgbaa
