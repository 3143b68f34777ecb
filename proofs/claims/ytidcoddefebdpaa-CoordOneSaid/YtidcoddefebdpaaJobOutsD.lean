/-
  What a job says, with where the parts of its manifest lie.
-/
import Derived.Test.YtidcoddefebdpaaJobOutsM
set_option linter.unusedVariables false
set_option linter.unusedSimpArgs false
set_option maxRecDepth 100000
set_option maxRecDepth 100000
namespace Go.Proofs.Ytidcoddefebdpaa
open Go.RowKit Go Go.Lib

/-- parts that lie among the blocks of D -/
def RdPsD (w : World) (D : Nat → Prop) (v : Value) (ps : List Pn) : Prop :=
  ∃ a c, v = .slice a ps.length c ∧ ps.length ≤ c ∧ ps.length ≤ 1000000 ∧ ∀ i p, ps[i]? = some p → ∃ g ua uc, a = some ⟨g, 0, none⟩ ∧ D g ∧ (∀ q x, (pnC p (.slice ua p.cr.length uc))[q]? = some x → w.cell? ⟨g, i * 6 + q, none⟩ = some x) ∧ RdI w (.slice ua p.cr.length uc) p.cr ∧ (p.cr ≠ [] → ∀ g' o', ua = some ⟨g', o', none⟩ → D g')
theorem RdPsD.fr {w w' : World} {D S : Nat → Prop} {v : Value} {ps : List Pn} (h : RdPsD w D v ps) (hf : Fr S w w') (hS : ∀ g, D g → ¬ S g) : RdPsD w' D v ps := by
  obtain ⟨a, c, rfl, h1, h2, h3⟩ := h
  refine ⟨a, c, rfl, h1, h2, fun i p hi => ?_⟩
  obtain ⟨g, ua, uc, e, hd, h4, h5, h6⟩ := h3 i p hi
  exact ⟨g, ua, uc, e, hd, fun q x hq => hf.cell (h4 q x hq) (hS g hd), h5.fr1 hf (fun hne g' o n c e => hS g' (h6 hne g' o (by injection e))), h6⟩
theorem RdPsD.mono {w : World} {D D' : Nat → Prop} {v : Value} {ps : List Pn} (h : RdPsD w D v ps) (hD : ∀ g, D g → D' g) : RdPsD w D' v ps := by
  obtain ⟨a, c, rfl, h1, h2, h3⟩ := h
  refine ⟨a, c, rfl, h1, h2, fun i p hi => ?_⟩
  obtain ⟨g, ua, uc, e, hd, h4, h5, h6⟩ := h3 i p hi
  exact ⟨g, ua, uc, e, hD g hd, h4, h5, fun hne g' o' e => hD g' (h6 hne g' o' e)⟩
theorem RdPsD.ps {w : World} {D : Nat → Prop} {v : Value} {ps : List Pn} (h : RdPsD w D v ps) : RdPs w v ps := by
  obtain ⟨a, c, rfl, h1, h2, h3⟩ := h
  refine ⟨a, c, rfl, h1, by omega, fun i p hi => ?_⟩
  obtain ⟨g, ua, uc, e, hd, h4, h5, h6⟩ := h3 i p hi
  exact ⟨g, 0, ua, uc, e, fun q x hq => by rw [Nat.zero_add]; exact h4 q x hq, h5⟩
theorem PartsAt.rdD {w : World} {B : Nat} {D : Nat → Prop} {row : Option Nat} {j : JS} {X : Nat → List Int} {L : List Int} {cs : List Value} {pa : Option Addr} {pc : Nat} (ho : w.ownsRow B 56 6 (.slice pa L.length pc) L.length cs) (h : PartsAt w B row j X L L.length cs) (hl : L.length ≤ 1000000) (hD : ∀ g, B ≤ g → g < w.heap.size → D g) : RdPsD w D (.slice pa L.length pc) (j.psl X L) := by
  refine ⟨pa, pc, by rw [psl_len], ?_, by rw [psl_len]; omega, fun i p hp => ?_⟩
  · rw [psl_len]
    rcases ho.2 with ⟨h1, h2⟩ | ⟨g, cap, cur, h1, _, _, h3, _⟩
    · omega
    · injection h1 with _ _ h4; omega
  · obtain ⟨hi, rfl⟩ := psl_get hp
    obtain ⟨ta, tc, h1, h2, h3⟩ := h i hi
    have hlen := h2.len
    obtain ⟨g, cap, hg, hbg⟩ := ownsRow_some ho (by omega)
    injection hg with hg1 _ _
    subst hg1
    refine ⟨g, ta, tc, rfl, hD g hbg (ho.lt g rfl).2, fun q x hq => ?_, by rw [← hlen]; exact h2, fun hne g' o' e => ?_⟩
    · have := ho.cells (g := g) rfl (i * 6 + q) x (h1 q x (by unfold toldC; unfold pnC at hq; simp only at hq ⊢; rw [hlen]; exact hq))
      rw [add_none, Nat.zero_add] at this
      exact this
    · have := h3 hne g' o' e
      exact hD g' this.1 this.2.1
/-- the program's Outs -/
theorem pouts_D (p : Nat) (L : Nat → Prop) (j : JS) (X : Nat → List Int) (w : World) (h : JG w p L j X) (hi : j.inv) :
    Calls Try.prog 24 #[.pointer (some ⟨p, 0, none⟩)] w fun e w' => ∃ u pv, e = .returned u ∧ w'.ownsRow w.heap.size 47 2 u (j.zg pv).length (zgC (j.zg pv)) ∧ (j.ph = 2 → RdPsD w' (fun g => w.heap.size ≤ g ∧ g < w'.heap.size) pv (j.psl X j.all)) ∧ Fr noB w w' := by
  obtain ⟨j', hJ, rfl, hag, hT⟩ := h
  have w1 := which_nm (fun v => !v.p) (fun v => rfl) j'
  have w2 := which_nm (fun _ => true) (fun v => rfl) j'
  have w3 := which_nm (fun v => !v.f) (fun v => rfl) j'
  rcases hi.1 with hp | hp | hp | hp
  · refine (outs_1 p j' w hJ hp).mono ?_
    rintro e w' ⟨u, rfl, o, f⟩
    refine ⟨u, .nilIface, rfl, ?_, fun e => by omega, f⟩
    unfold JS.zg; rw [if_pos hp, zgC_map, w1]
    simpa [show j'.nm.tr = j'.tr from rfl, show j'.nm.id = j'.id from rfl, show j'.nm.cl = j'.cl from rfl] using o
  · have hn := hi.2 hp
    rw [none_nm _ (fun v => rfl)] at hn
    refine (outs_2F p j' X w hJ hp hn (fun a ha => ⟨(hT a ha).1, by have := (hT a ha).2.1; omega⟩)).mono ?_
    rintro e w' ⟨u, pa, pc, wm, cs, rfl, o, f, fm, fmw, oP, hpt⟩
    have hl4 : (whichL (fun _ => true) j' 4).length ≤ 4 := whichL_len (fun _ => true) j' 4
    refine ⟨u, .slice pa (whichL (fun _ => true) j' 4).length pc, rfl, ?_, fun _ => ?_, f⟩
    · unfold JS.zg; rw [if_neg (by omega), if_pos hp]
      show w'.ownsRow _ _ _ _ _ ([.int .i64 (-1), _] ++ zgC (List.map _ _))
      rw [zgC_map, w2]
      simpa [show j'.nm.tr = j'.tr from rfl, show j'.nm.id = j'.id from rfl, show j'.nm.cl = j'.cl from rfl] using o
    · unfold JS.all
      rw [w2]
      have hpt2 : PartsAt wm w.heap.size (Value.slice pa (whichL (fun _ => true) j' 4).length pc).ownBlock j'.nm X (whichL (fun _ => true) j' 4) (whichL (fun _ => true) j' 4).length cs := fun i hi => by
        obtain ⟨ta, tc, k1, k2, k3⟩ := hpt i hi
        rw [at_nm]
        exact ⟨ta, tc, k1, k2, k3⟩
      exact ((PartsAt.rdD (D := fun g => w.heap.size ≤ g ∧ g < wm.heap.size) oP hpt2 (by omega) (fun g h1 h2 => ⟨h1, h2⟩)).fr fmw (fun _ _ q => q)).mono (fun g hg => ⟨hg.1, by have := fmw.size; omega⟩)
  · refine (outs_3 p j' w hJ hp).mono ?_
    rintro e w' ⟨u, rfl, o, f⟩
    refine ⟨u, .nilIface, rfl, ?_, fun e => by omega, f⟩
    unfold JS.zg; rw [if_neg (by omega), if_neg (by omega), if_pos hp, zgC_map, w3]
    simpa [show j'.nm.tr = j'.tr from rfl, show j'.nm.id = j'.id from rfl, show j'.nm.cl = j'.cl from rfl] using o
  · refine (outs_4 p j' w hJ hp).mono ?_
    rintro e w' ⟨rfl, rfl⟩
    refine ⟨_, .nilIface, rfl, ?_, fun e => by omega, Fr.refl _ _⟩
    unfold JS.zg; rw [if_neg (by omega), if_neg (by omega), if_neg (by omega)]
    exact World.ownsRow_nil _ _ _ _
end Go.Proofs.Ytidcoddefebdpaa
