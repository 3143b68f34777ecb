/-
  The reference's Tick: what all jobs say.
  The reference's coordinator hears: what may not be, and a trigger.
  A job of the reference's coordinator changed: plain.
  Visits only grow: as many as before are the same.
-/
import Derived.Test.YtidcoddefebdpaaGreatRjB
import Derived.Deep.LoopGhost
section
set_option linter.unusedVariables false
set_option linter.unusedSimpArgs false
set_option maxRecDepth 100000
set_option maxRecDepth 100000
namespace Go.Proofs.YtidcoddefebdpaaGreat
open Go.RowKit Go Go.Maps Go.Lib

theorem RdPsD.lt {w : World} {D : Nat → Prop} {v : Value} {ps : List Pn} (h : RdPsD w D v ps) : RdPsD w (fun g => D g ∧ g < w.heap.size) v ps := by
  obtain ⟨a, c, rfl, h1, h2, h3⟩ := h
  refine ⟨a, c, rfl, h1, h2, fun i p hi => ?_⟩
  obtain ⟨g, ua, uc, e, hd, h4, h5, h6⟩ := h3 i p hi
  exact ⟨g, ua, uc, e, ⟨hd, lt_of_cell (h4 0 _ rfl)⟩, h4, h5, fun hne g' o' e => ⟨h6 hne g' o' e, rdi_old h5 hne g' o' e⟩⟩
theorem zrT_len (Z : List (Int × MR)) : (zrT Z).length = Z.length := by unfold zrT; rw [List.length_map]
theorem zrM_len (Z : List (Int × MR)) : (zrM Z).length = Z.length * 15 := by
  unfold zrM
  induction Z with
  | nil => rfl
  | cons x r ih =>
    rw [List.flatMap_cons, List.length_append, ih]
    have : (mrC x.2).length = 15 := rfl
    rw [this, List.length_cons]; omega
theorem zrT_app (Y Z : List (Int × MR)) : zrT (Y ++ Z) = zrT Y ++ zrT Z := by unfold zrT; rw [List.map_append]
theorem zrM_app (Y Z : List (Int × MR)) : zrM (Y ++ Z) = zrM Y ++ zrM Z := by unfold zrM; rw [List.flatMap_append]
theorem zrT_one (Z : List (Int × MR)) : ∀ u ∈ zrT Z, u.oneCell' = true := by
  intro u hu
  unfold zrT at hu
  obtain ⟨x, _, rfl⟩ := List.mem_map.1 hu
  rfl
theorem zrM_one (Z : List (Int × MR)) : ∀ u ∈ zrM Z, u.oneCell' = true := by
  intro u hu
  unfold zrM at hu
  obtain ⟨x, _, hu⟩ := List.mem_flatMap.1 hu
  exact mrc_one x.2 u hu
theorem tickZ_len (Q : List JE) (P : List QP) : (tickZ Q P).length ≤ 5 * Q.length := by
  induction Q generalizing P with
  | nil => simp [tickZ]
  | cons x r ih =>
    cases P with
    | nil => simp [tickZ]
    | cons y s =>
      show (x.j.zr y.1 y.2 ++ tickZ r s).length ≤ _
      rw [List.length_append, List.length_cons]
      have h1 := zlen x.j y.1 y.2 .nilIface
      have := ih s
      omega
/-- amid the reference's Tick -/
structure TkI (w wr : World) (M0 : Nat) (Q : List JE) (k : Nat) (P : List QP) (D : Nat → Prop) (vt vo : Value) : Prop where
  len : k = P.length
  t : wr.ownsRow w.heap.size 3 1 vt (tickZ (Q.take k) P).length (zrT (tickZ (Q.take k) P))
  o : wr.ownsRow w.heap.size 54 15 vo (tickZ (Q.take k) P).length (zrM (tickZ (Q.take k) P))
  rd : ∀ (i : Nat) (e : JE) (p : QP), Q[i]? = some e → P[i]? = some p → e.j.ph = 2 → RdPsD wr D (.slice p.1 e.j.all.length p.2) (e.j.psl e.X e.j.all)
  d : ∀ g, D g → (g < M0 ∨ w.heap.size ≤ g) ∧ g < wr.heap.size ∧ vt.ownBlock ≠ some g ∧ vo.ownBlock ≠ some g
  ap : ∀ g, vt.ownBlock = some g → vo.ownBlock ≠ some g
theorem moved_no {w : World} {v v' : Value} {g : Nat} (h : Moved w v v') (h1 : v.ownBlock ≠ some g) (h2 : g < w.heap.size) : v'.ownBlock ≠ some g := fun q => by
  rcases h with h | h
  · exact h1 (by rw [← h]; exact q)
  · rw [h] at q
    injection q with q
    omega
theorem TkI.next {w wr w5 w6 w7 : World} {M0 : Nat} {Q : List JE} {k : Nat} {P : List QP} {D : Nat → Prop} {vt vo : Value} (I : TkI w wr M0 Q k P D vt vo) (hM : M0 ≤ w.heap.size) (hwr : w.heap.size ≤ wr.heap.size) {e : JE} (he : Q[k]? = some e) {ut uo : Value} {qa : Option Addr} {qc : Nat}
    (h5 : RoutP wr w5 M0 e.j e.X ut uo qa qc) {vt' vo' : Value}
    (o6 : w6.ownsRow w.heap.size 3 1 vt' ((tickZ (Q.take k) P).length + (e.j.zr qa qc).length) (zrT (tickZ (Q.take k) P) ++ zrT (e.j.zr qa qc))) (f6 : Fr (rowB vt) w5 w6) (m6 : Moved w5 vt vt')
    (o7 : w7.ownsRow w.heap.size 54 15 vo' ((tickZ (Q.take k) P).length + (e.j.zr qa qc).length) (zrM (tickZ (Q.take k) P) ++ zrM (e.j.zr qa qc))) (f7 : Fr (rowB vo) w6 w7) (m7 : Moved w6 vo vo') : ∃ D', TkI w w7 M0 Q (k + 1) (P ++ [(qa, qc)]) D' vt' vo' := by
  obtain ⟨h1, h2, h3, f5⟩ := h5
  have htk : Q.take (k + 1) = Q.take k ++ [e] := by rw [List.take_add_one, he]; rfl
  have hkl : (Q.take k).length = P.length := by rw [List.length_take]; have := (List.getElem?_eq_some_iff.1 he).1; have := I.len; omega
  have hsn := tickZ_snoc (Q.take k) P e (qa, qc) hkl
  rw [← htk] at hsn
  have hs5 := f5.size
  have hs6 := f6.size
  have hs7 := f7.size
  have hvt : ∀ g, vt.ownBlock = some g → w.heap.size ≤ g ∧ g < wr.heap.size := fun g hg => I.t.lt g hg
  have hvo : ∀ g, vo.ownBlock = some g → w.heap.size ≤ g ∧ g < wr.heap.size := fun g hg => I.o.lt g hg
  obtain ⟨D2, hD2⟩ : ∃ D2 : Nat → Prop, D2 = fun g => D g ∨ (nearB M0 wr.heap.size g ∧ g < w5.heap.size) := ⟨_, rfl⟩
  have hd2 : ∀ g, D2 g → (g < M0 ∨ w.heap.size ≤ g) ∧ g < w5.heap.size ∧ vt.ownBlock ≠ some g ∧ vo.ownBlock ≠ some g := fun g hg => by
    rw [hD2] at hg
    rcases hg with hg | ⟨hg, h9⟩
    · obtain ⟨a1, a2, a3, a4⟩ := I.d g hg
      exact ⟨a1, by omega, a3, a4⟩
    · refine ⟨?_, h9, fun q => ?_, fun q => ?_⟩
      · rcases hg with q | q
        · exact Or.inl q
        · exact Or.inr (by omega)
      · have := hvt g q
        rcases hg with q | q <;> omega
      · have := hvo g q
        rcases hg with q | q <;> omega
  have hrd5 : ∀ (i : Nat) (e' : JE) (p' : QP), Q[i]? = some e' → (P ++ [(qa, qc)])[i]? = some p' → e'.j.ph = 2 → RdPsD w5 D2 (.slice p'.1 e'.j.all.length p'.2) (e'.j.psl e'.X e'.j.all) := fun i e' p' k1 k2 k3 => by
    rcases Nat.lt_or_ge i P.length with q | q
    · rw [List.getElem?_append_left q] at k2
      exact ((I.rd i e' p' k1 k2 k3).fr f5 (fun _ _ q => q)).mono (fun g hg => by rw [hD2]; exact Or.inl hg)
    · have hik : i = P.length := by
        have := (List.getElem?_eq_some_iff.1 k2).1
        rw [List.length_append] at this
        simp at this
        omega
      subst hik
      rw [List.getElem?_append_right (Nat.le_refl _), Nat.sub_self] at k2
      simp at k2
      subst k2
      have hee : e' = e := by
        rw [← I.len, he] at k1
        injection k1 with k1
        exact k1.symm
      subst hee
      exact (h3 k3).lt.mono (fun g hg => by rw [hD2]; exact Or.inr hg)
  have n5 : ∀ g, D2 g → vt'.ownBlock ≠ some g := fun g hg => moved_no m6 (hd2 g hg).2.2.1 (hd2 g hg).2.1
  have n6 : ∀ g, D2 g → vo'.ownBlock ≠ some g := fun g hg => moved_no m7 (hd2 g hg).2.2.2 (by have := (hd2 g hg).2.1; omega)
  have hap2 : ∀ g, vt'.ownBlock = some g → vo.ownBlock ≠ some g := fun g hg q => by
    rcases m6 with h | h
    · exact I.ap g (by rw [← h]; exact hg) q
    · rw [h] at hg
      injection hg with hg
      have := hvo g q
      omega
  have hap3 : ∀ g, vt'.ownBlock = some g → vo'.ownBlock ≠ some g := fun g hg q => by
    rcases m7 with h | h
    · exact hap2 g hg (by rw [← h]; exact q)
    · rw [h] at q
      injection q with q
      have := (o6.lt g hg).2
      omega
  refine ⟨D2, by rw [List.length_append, I.len]; rfl, ?_, ?_, fun i e' p' k1 k2 k3 => ((hrd5 i e' p' k1 k2 k3).fr f6 (fun g hg q => (hd2 g hg).2.2.1 q)).fr f7 (fun g hg q => (hd2 g hg).2.2.2 q), fun g hg => ⟨(hd2 g hg).1, by have := (hd2 g hg).2.1; omega, n5 g hg, n6 g hg⟩, hap3⟩
  · rw [hsn, zrT_app, List.length_append]
    exact ownsRow_fr o6 f7 (fun g hg q => hap2 g hg q)
  · rw [hsn, zrM_app, List.length_append]
    exact o7
theorem TkI.said {w wr : World} {M0 : Nat} {Q : List JE} {P : List QP} {D : Nat → Prop} {vt vo : Value} (I : TkI w wr M0 Q Q.length P D vt vo) : SaidR w.heap.size M0 wr vt vo Q := by
  have t := I.t
  have o := I.o
  rw [List.take_length] at t o
  exact ⟨P, I.len, t, o, fun i e p k1 k2 k3 => (I.rd i e p k1 k2 k3).mono (fun g hg => (I.d g hg).1)⟩
set_option maxHeartbeats 8000000 in
theorem tick_r {w : World} {z B : Nat} {E : Nat → Prop} {ja : Option Addr} {jc : Nat} {ag mo la rf : Int} {R : List QE} {M0 : Nat} {C : CS} (h : Rc w z B E ja jc ag mo la rf R) (hl : Rl w M0 C R) (h8 : R.length ≤ 8) (hM : M0 ≤ w.heap.size) :
    Calls Tryz.prog 7 #[.pointer (some ⟨z, 0, none⟩)] w fun e w' => ∃ ut uo, e = .returned (.tuple #[ut, uo]) ∧ SaidR w.heap.size M0 w' ut uo C.Q ∧ Fr noB w w' := by
  have c2 : w.cell? ⟨z, 2, none⟩ = some (.slice ja R.length jc) := h.blk.cell 2
  obtain ⟨n, hn⟩ : ∃ n, R.length = n := ⟨_, rfl⟩
  have hlen := hl.len
  rw [hn] at c2 h8 hlen
  have hget : ∀ k, k < n → ∃ (e : JE) (x : QE) (g : Nat), C.Q[k]? = some e ∧ ja = some ⟨g, 0, none⟩ ∧ w.cell? ⟨g, k, none⟩ = some (.pointer (some ⟨x.r, 0, none⟩)) ∧ Rj w x.r x.gs x.gp x.gf x.q ∧ JRl e.j x.q ∧ RdX w M0 x.q e.X := fun k hk => by
    obtain ⟨x, g, h1, h2, h3, _, _, h4⟩ := h.job (k := k) (by omega)
    have he : C.Q[k]? = some (C.Q[k]'(by omega)) := List.getElem?_eq_getElem (by omega)
    obtain ⟨r1, r2⟩ := hl.rel k _ x he h1
    exact ⟨_, x, g, he, h2, h3, h4, r1, r2⟩
  obtain ⟨i1, hi1, hz1, hs1, hb1⟩ := info_of infoIntK
  obtain ⟨i2, hi2, hz2, hs2, hb2⟩ := info_of infoMsgK
  replace hget := Lib.hid hget
  replace hM := Lib.hid hM
  replace hlen := Lib.hid hlen
  clear h hl hn
  go_enter Tryz.func7, Tryz.ntmps7
  go_wp2_with fail
  go_loopg [4, 5, 6] n (fun gk vt vo vi wr => ∃ (k : Nat) (P : List QP) (D : Nat → Prop), k + gk = n ∧ vi = .int .i64 k ∧ Hid (TkI w wr M0 C.Q k P D vt vo) ∧ Fr noB w wr)
  case atStart => exact ⟨0, [], noB, Nat.zero_add _, rfl, Lib.hid ⟨rfl, World.ownsRow_nil _ _ _ _, World.ownsRow_nil _ _ _ _, fun i e p _ hi => by simp at hi, fun g hg => hg.elim, fun g hg => by simp [Value.ownBlock] at hg⟩, Fr.refl _ _⟩
  case round =>
    obtain ⟨k, P, D, hk, rfl, hI, fr⟩ := hrel
    have c2 := fr.cell c2 (fun q => q)
    by_cases hlt : k < n
    · obtain ⟨e, x, g, he, rfl, c0, hj, hr1, hr2⟩ := hget.out k hlt
      have c0 := fr.cell c0 (fun q => q)
      have hout := routs_D x.r x.gs x.gp x.gf M0 e.j x.q e.X wr (hj.frN fr) hr1 (hr2.fr fr (fun _ _ q => q))
      have hbk : (k : Int) < n := by omega
      have hmeas : n - (k + 1) < gk := by omega
      have hkn2 : k + 1 + (n - (k + 1)) = n := by omega
      replace hout := Lib.hid hout
      replace hmeas := Lib.hid hmeas
      replace hkn2 := Lib.hid hkn2
      replace he := Lib.hid he
      clear hj hr1 hr2 hk
      go_wp2_with fail
      go_fit hout.out
      rintro e' w5 ⟨ut, uo, qa, qc, rfl, h5⟩
      obtain ⟨h51, h52, h53, f5⟩ := h5
      have h5 : RoutP wr w5 M0 e.j e.X ut uo qa qc := ⟨h51, h52, h53, f5⟩
      have hwB : w.heap.size ≤ w5.heap.size := Nat.le_trans fr.size f5.size
      have fr5 := fr.seqN f5
      have oT := ownsRow_fr hI.out.t f5 (fun _ _ q => q)
      have hl5 := zlen e.j qa qc .nilIface
      have hGl := tickZ_len (C.Q.take k) P
      have htk : (C.Q.take k).length ≤ k := by rw [List.length_take]; omega
      have hT1 := zrT_one (e.j.zr qa qc)
      have hT2 := zrT_len (e.j.zr qa qc)
      have horT : (ut = .slice none 0 0 ∧ (e.j.zr qa qc).length = 0 ∧ zrT (e.j.zr qa qc) = []) ∨ ∃ ad c, ut = .slice (some ad) (e.j.zr qa qc).length c ∧ ∀ j q, (zrT (e.j.zr qa qc))[j]? = some q → w5.cell? (ad.add j) = some q := by
        rcases h51.2 with ⟨h1, h2⟩ | ⟨g', cap, cur, h1, _⟩
        · exact Or.inl ⟨h1, h2, List.eq_nil_of_length_eq_zero (by rw [hT2, h2])⟩
        · exact Or.inr ⟨⟨g', 0, none⟩, cap, h1, fun j q hj => h51.cells (g := g') (by rw [h1]; rfl) j q hj⟩
      obtain ⟨n1, hn1⟩ : ∃ n1, (tickZ (C.Q.take k) P).length = n1 := ⟨_, rfl⟩
      obtain ⟨m1, hm1⟩ : ∃ m1, (e.j.zr qa qc).length = m1 := ⟨_, rfl⟩
      rw [hn1] at oT
      rw [hm1] at horT hT2
      have hn60 : n1 ≤ 40 := by omega
      have hm5 : m1 ≤ 5 := by omega
      obtain ⟨XT, hXT⟩ : ∃ X, zrT (e.j.zr qa qc) = X := ⟨_, rfl⟩
      obtain ⟨YT, hYT⟩ : ∃ X, zrT (tickZ (C.Q.take k) P) = X := ⟨_, rfl⟩
      rw [hXT] at horT hT1 hT2
      rw [hYT] at oT
      have hT2' : XT.length = m1 * 1 := by omega
      replace horT := Lib.hid horT
      replace hT1 := Lib.hid hT1
      replace hT2' := Lib.hid hT2'
      replace h5 := Lib.hid h5
      replace hn1 := Lib.hid hn1
      replace hm1 := Lib.hid hm1
      replace hXT := Lib.hid hXT
      replace hYT := Lib.hid hYT
      replace f5 := Lib.hid f5
      replace fr5 := Lib.hid fr5
      clear hout h51 h52 h53 c0 hl5 hGl htk hT2
      go_wp2_with (first
        | (at_builtin; go_must (refine wpList_append_rd2 _ rfl (.tmp 29) (.tmp 30) 36 rfl w.heap.size 3 i1 _ 1 8 Tryz.underlying36 hi1 hz1 hs1 hb1 rfl (by decide) _ n1 YT rfl oT m1 ut XT rfl horT.out hT2'.out hT1.out ?_ ?_ hwB ?_))
        | fail)
      · unfold maxLen; omega
      · omega
      intro v6 w6 o6 f6 m6
      have oO := ownsRow_fr (ownsRow_fr hI.out.o f5.out (fun _ _ q => q)) f6 (fun g hg q => hI.out.ap g q hg)
      have hwB6 : w.heap.size ≤ w6.heap.size := Nat.le_trans hwB f6.size
      have h52 := ownsRow_fr h5.out.2.1 f6 (fun g hg q => by have h1 := (h5.out.2.1.lt g hg).1; have h2 := (hI.out.t.lt g q).2; omega)
      have hM1 := zrM_one (e.j.zr qa qc)
      have hM2 := zrM_len (e.j.zr qa qc)
      have horM : (uo = .slice none 0 0 ∧ (e.j.zr qa qc).length = 0 ∧ zrM (e.j.zr qa qc) = []) ∨ ∃ ad c, uo = .slice (some ad) (e.j.zr qa qc).length c ∧ ∀ j q, (zrM (e.j.zr qa qc))[j]? = some q → w6.cell? (ad.add j) = some q := by
        rcases h52.2 with ⟨h1, h2⟩ | ⟨g', cap, cur, h1, _⟩
        · exact Or.inl ⟨h1, h2, List.eq_nil_of_length_eq_zero (by rw [hM2, h2])⟩
        · exact Or.inr ⟨⟨g', 0, none⟩, cap, h1, fun j q hj => h52.cells (g := g') (by rw [h1]; rfl) j q hj⟩
      rw [hm1.out] at horM hM2
      rw [hn1.out] at oO
      obtain ⟨XM, hXM⟩ : ∃ X, zrM (e.j.zr qa qc) = X := ⟨_, rfl⟩
      obtain ⟨YM, hYM⟩ : ∃ X, zrM (tickZ (C.Q.take k) P) = X := ⟨_, rfl⟩
      rw [hXM] at horM hM1 hM2
      rw [hYM] at oO
      replace horM := Lib.hid horM
      replace hM1 := Lib.hid hM1
      replace hM2 := Lib.hid hM2
      replace hXM := Lib.hid hXM
      replace hYM := Lib.hid hYM
      replace o6 := Lib.hid o6
      replace f6 := Lib.hid f6
      replace m6 := Lib.hid m6
      clear h52 horT hT1 hT2' oT
      go_wp2_with (first
        | (at_builtin; go_must (refine wpList_append_rd2 _ rfl (.tmp 32) (.tmp 33) 39 rfl w.heap.size 54 i2 _ 15 168 Tryz.underlying39 hi2 hz2 hs2 hb2 rfl (by decide) _ n1 YM rfl oO m1 uo XM rfl horM.out hM2.out hM1.out ?_ ?_ hwB6 ?_))
        | fail)
      · unfold maxLen; omega
      · omega
      intro v7 w7 o7 f7 m7
      have hN := hI.out.next hM.out fr.size he.out h5.out (by rw [hn1.out, hm1.out, hXT.out, hYT.out]; exact o6.out) f6.out m6.out (by rw [hn1.out, hm1.out, hXM.out, hYM.out]; exact o7) f7 m7
      obtain ⟨D', hN⟩ := hN
      have fr7 : Fr noB w w7 := (fr5.out.trans f6.out (fun _ _ q => q) (fun i hi q => by have h1 := (hI.out.t.lt i q).1; omega)).trans f7 (fun _ _ q => q) (fun i hi q => by have h1 := (hI.out.o.lt i q).1; omega)
      replace hN := Lib.hid hN
      clear o7 f7 m7 oO horM hM1 hM2 o6 f6 m6 h5 f5 fr5 hI fr
      go_wp2_with fail
      go_roundg (n - (k + 1))
      case rel => exact ⟨k + 1, _, _, hkn2.out, by go_num, hN, fr7⟩
      case measure => exact hmeas.out
    · obtain rfl : k = n := by omega
      have hq : C.Q.length = k := hlen.out
      have hI := hI.out
      rw [← hq] at hI
      have hs := hI.said
      replace hs := Lib.hid hs
      clear hI
      go_wp2_with fail
      go_returns
      exact ⟨_, _, rfl, hs.out, fr⟩
end Go.Proofs.YtidcoddefebdpaaGreat
end

section
set_option linter.unusedVariables false
set_option linter.unusedSimpArgs false
set_option maxRecDepth 100000
set_option maxRecDepth 100000
namespace Go.Proofs.YtidcoddefebdpaaGreat
open Go.RowKit Go Go.Maps Go.Lib

def Rr (w : World) (z B M0 : Nat) (E : Nat → Prop) (C : CS) : Prop := ∃ ja jc R, Rc w z B E ja jc C.ag C.mo C.la C.rf R ∧ Rl w M0 C R
theorem Rr.frN {w w' : World} {z B M0 : Nat} {E : Nat → Prop} {C : CS} (h : Rr w z B M0 E C) (f : Fr noB w w') : Rr w' z B M0 E C := by
  obtain ⟨ja, jc, R, h1, h2⟩ := h
  exact ⟨ja, jc, R, h1.frN f, h2.fr f (fun _ _ q => q)⟩
theorem Rr.fr {w w' : World} {z B M0 : Nat} {E S : Nat → Prop} {C : CS} (h : Rr w z B M0 E C) (f : Fr S w w') (hS : ∀ g, E g ∨ g < M0 → ¬ S g) : Rr w' z B M0 E C := by
  obtain ⟨ja, jc, R, h1, h2⟩ := h
  exact ⟨ja, jc, R, h1.fr f (fun g hg => hS g (Or.inl hg)), h2.fr f (fun g hg => hS g (Or.inr hg))⟩
def RHearTo (e : Ending) (w w' : World) (z B M0 : Nat) (E : Nat → Prop) (f : Nat → CS × Option JE) : Prop := ∃ ut uo E', e = .returned (.tuple #[ut, uo]) ∧ (∀ pn, SaidR w.heap.size M0 w' ut uo (f pn).2.toList ∧ Rr w' z B M0 E' (f pn).1) ∧ (∀ g, E' g → E g ∨ w.heap.size ≤ g) ∧ Fr E w w'
theorem RHearTo.no {w w' : World} {z B M0 : Nat} {E : Nat → Prop} {C : CS} {f : Nat → CS × Option JE} (h : Rr w z B M0 E C) (hf : ∀ pn, f pn = (C, none)) (fr : Fr noB w w') : RHearTo (.returned (.tuple #[.slice none 0 0, .slice none 0 0])) w w' z B M0 E f :=
  ⟨_, _, E, rfl, fun pn => by rw [hf]; exact ⟨SaidR.no _ _ _, h.frN fr⟩, fun g hg => Or.inl hg, fr.mono (fun _ _ q => q.elim)⟩
theorem at_rl {w : World} {M0 : Nat} {C : CS} {R : List QE} (h : Rl w M0 C R) (hw : C.wf) {k : Nat} {x : QE} (hx : R[k]? = some x) : ∃ e, C.Q[k]? = some e ∧ C.at x.q.tr = some e ∧ JRl e.j x.q ∧ RdX w M0 x.q e.X := by
  have hk := (List.getElem?_eq_some_iff.1 hx).1
  have hk2 : k < C.Q.length := by rw [h.len]; exact hk
  have he : C.Q[k]? = some C.Q[k] := List.getElem?_eq_getElem hk2
  obtain ⟨r1, r2⟩ := h.rel k _ x he hx
  refine ⟨_, he, ?_, r1, r2⟩
  rw [r1.r.tr]
  exact at_unique hw (List.getElem_mem hk2)
theorem at_rl_no {w : World} {M0 : Nat} {C : CS} {R : List QE} (h : Rl w M0 C R) {t : Int} (hno : ∀ x ∈ R, x.q.tr ≠ t) : C.at t = none := by
  cases hq : C.at t with
  | none => rfl
  | some e =>
    exfalso
    obtain ⟨he, ht⟩ := at_some hq
    obtain ⟨k, hk, e1⟩ := List.getElem_of_mem he
    have hk2 : k < R.length := by rw [← h.len]; exact hk
    have h1 : C.Q[k]? = some e := by rw [List.getElem?_eq_getElem hk, e1]
    obtain ⟨r1, _⟩ := h.rel k e R[k] h1 (List.getElem?_eq_getElem hk2)
    exact hno R[k] (List.getElem_mem hk2) (by rw [r1.r.tr]; exact ht)
theorem Rc.setRf {w : World} {z B : Nat} {E : Nat → Prop} {ja : Option Addr} {jc : Nat} {ag mo la rf : Int} {R : List QE} (h : Rc w z B E ja jc ag mo la rf R) (x : Int) : Rc (w.setCell ⟨z, 4, none⟩ (.int .i64 x)) z B E ja jc ag mo la x R := by
  have f : Fr (onlyB z) w (w.setCell ⟨z, 4, none⟩ (.int .i64 x)) := (Fr.refl _ _).store rfl
  exact ⟨h.blk.set 4 _, ownsRow_fr h.own f (fun g hg e => by unfold onlyB at e; subst e; exact h.az2 hg), fun y hy => (h.jobs y hy).fr f (fun g hg e => (h.az y hy g hg).1 e), h.ap, h.az, h.az2, h.ine, fun g hg => ⟨(h.lo g hg).1, Nat.lt_of_lt_of_le (h.lo g hg).2 f.size⟩⟩
set_option maxHeartbeats 8000000 in
theorem rhear_bad (z : Nat) (M : MR) (w : World) (hr : ∀ w', Fr noB w w' → Calls Tryz.prog 27 #[mrV M] w' fun e w'' => e = .returned (.bool false) ∧ Fr noB w' w'') :
    Calls Tryz.prog 11 #[.pointer (some ⟨z, 0, none⟩), mrV M] w fun e w' => e = .returned (.tuple #[.slice none 0 0, .slice none 0 0]) ∧ Fr noB w w' := by
  obtain ⟨k, a, t, j, cl, ix, tt, p1, p2, p3, p4, ua, un, uc, lo, va, vn, vc, sa, sn, sc⟩ := M
  unfold mrV mrC at *
  simp only at hr ⊢
  have fX := (Fr.refl noB w).alloc (.cells #[.int .i64 k, .int .i64 a, .int .i64 t, .int .i64 j, .int .i64 cl, .int .i64 ix, .int .i64 tt, .int .i64 p1, .int .i64 p2, .int .i64 p3, .int .i64 p4, .slice ua un uc, .bool lo, .slice va vn vc, .slice sa sn sc] 54)
  replace hr := Lib.hid hr
  go_enter Tryz.func11, Tryz.ntmps11
  go_wp2_with fail
  go_fit (hr.out _ fX)
  rintro e w2 ⟨rfl, f2⟩
  have f12 := fX.seqN f2
  clear fX f2 hr
  go_wp2_with fail
  go_returns
  exact ⟨rfl, f12⟩
end Go.Proofs.YtidcoddefebdpaaGreat
end

section
set_option linter.unusedVariables false
set_option linter.unusedSimpArgs false
set_option maxRecDepth 100000
set_option maxRecDepth 100000
namespace Go.Proofs.YtidcoddefebdpaaGreat
open Go.RowKit Go Go.Maps Go.Lib

theorem set_map {α β : Type} (f : α → β) (R : List α) (k : Nat) (x x' : α) (hx : R[k]? = some x) (hf : f x' = f x) : (R.set k x').map f = R.map f := by
  apply List.ext_getElem?
  intro i
  rw [List.getElem?_map, List.getElem?_map, List.getElem?_set]
  by_cases hi : k = i
  · subst hi
    have hk := (List.getElem?_eq_some_iff.1 hx).1
    rw [if_pos rfl, if_pos hk, hx]
    show some (f x') = some (f x)
    rw [hf]
  · rw [if_neg hi]
theorem map_ap {R : List QE} : R.Pairwise (fun x y => ∀ g, x.B g → ¬ y.B g) ↔ (R.map QE.B).Pairwise (fun X Y => ∀ g, X g → ¬ Y g) := by rw [List.pairwise_map]
theorem map_all {R : List QE} {P : (Nat → Prop) → Prop} : (∀ x ∈ R, P x.B) ↔ ∀ X ∈ R.map QE.B, P X := by
  constructor
  · intro h X hX
    obtain ⟨x, hx, rfl⟩ := List.mem_map.1 hX
    exact h x hx
  · intro h x hx
    exact h x.B (List.mem_map.2 ⟨x, hx, rfl⟩)
theorem ap_ne {R : List QE} (h : R.Pairwise (fun x y => ∀ g, x.B g → ¬ y.B g)) {i k : Nat} {x y : QE} (hx : R[k]? = some x) (hy : R[i]? = some y) (hne : i ≠ k) : ∀ g, y.B g → ¬ x.B g := by
  rw [List.pairwise_iff_getElem] at h
  obtain ⟨hk, ek⟩ := List.getElem?_eq_some_iff.1 hx
  obtain ⟨hi, ei⟩ := List.getElem?_eq_some_iff.1 hy
  intro g hg hg2
  rcases Nat.lt_or_gt_of_ne hne with q | q
  · have := h i k hi hk q g
    rw [ei, ek] at this
    exact this hg hg2
  · have := h k i hk hi q g
    rw [ei, ek] at this
    exact this hg2 hg
def QE.to (x : QE) (q' : RJ) : QE := ⟨x.r, x.gs, x.gp, x.gf, q'⟩
theorem Rc.upd {w w1 : World} {z B : Nat} {E : Nat → Prop} {ja : Option Addr} {jc : Nat} {ag mo la rf : Int} {R : List QE} (h : Rc w z B E ja jc ag mo la rf R) {k : Nat} {x : QE} {q' : RJ} (hx : R[k]? = some x) (hj : Rj w1 x.r x.gs x.gp x.gf q') (f : Fr x.B w w1) : Rc w1 z B E ja jc ag mo la rf (R.set k (x.to q')) := by
  have hxm := List.mem_of_getElem? hx
  have hl : (R.set k (x.to q')).length = R.length := List.length_set
  have eB := set_map QE.B R k x (x.to q') hx rfl
  have ev := set_map QE.v R k x (x.to q') hx rfl
  refine ⟨?_, ?_, ?_, ?_, ?_, ?_, ⟨h.ine.1, ?_, ?_⟩, fun g hg => ⟨(h.lo g hg).1, Nat.lt_of_lt_of_le (h.lo g hg).2 f.size⟩⟩
  · rw [hl]; exact f.blk h.blk (fun e => (h.az x hxm z e).1 rfl)
  · rw [hl, ev]; exact ownsRow_fr h.own f (fun g hg e => (h.az x hxm g e).2 hg)
  · intro y hy
    obtain ⟨i, hi, e⟩ := List.getElem_of_mem hy
    have hg : (R.set k (x.to q'))[i]? = some y := by rw [List.getElem?_eq_getElem hi, e]
    rw [List.getElem?_set] at hg
    by_cases hik : k = i
    · rw [if_pos hik] at hg
      split at hg
      · injection hg with hg; subst hg; exact hj
      · cases hg
    · rw [if_neg hik] at hg
      exact (h.jobs y (List.mem_of_getElem? hg)).fr f (fun g hg2 => ap_ne h.ap hx hg (fun e => hik e.symm) g hg2)
  · rw [map_ap, eB, ← map_ap]; exact h.ap
  · rw [hl]
    have := h.az
    rw [map_all (P := fun X => ∀ g, X g → g ≠ z ∧ (Value.slice ja R.length jc).ownBlock ≠ some g)] at this ⊢
    rw [eB]; exact this
  · rw [hl]; exact h.az2
  · rw [hl]; exact h.ine.2.1
  · have := h.ine.2.2
    rw [map_all (P := fun X => ∀ g, X g → E g)] at this ⊢
    rw [eB]; exact this
theorem put_get {C : CS} (hw : C.wf) {k : Nat} {e e' : JE} (he : C.Q[k]? = some e) (ht : e'.j.tr = e.j.tr) (i : Nat) : (C.put e').Q[i]? = if i = k then some e' else C.Q[i]? := by
  show (C.Q.map fun x => if x.j.tr = e'.j.tr then e' else x)[i]? = _
  rw [List.getElem?_map]
  by_cases hik : i = k
  · subst hik
    rw [if_pos rfl, he]
    show some (if e.j.tr = e'.j.tr then e' else e) = _
    rw [if_pos ht.symm]
  · rw [if_neg hik]
    cases hq : C.Q[i]? with
    | none => rfl
    | some y =>
      show some (if y.j.tr = e'.j.tr then e' else y) = _
      rw [if_neg]
      intro q
      have h1 : (C.Q.map fun e => e.j.tr)[i]? = (C.Q.map fun e => e.j.tr)[k]? := by
        rw [List.getElem?_map, List.getElem?_map, hq, he]
        show some y.j.tr = some e.j.tr
        rw [q, ht]
      exact hik ((List.getElem?_inj (by rw [List.length_map]; exact (List.getElem?_eq_some_iff.1 hq).1) hw.nt).1 h1)
theorem Rl.upd {w w1 : World} {M0 : Nat} {C : CS} {R : List QE} (h : Rl w M0 C R) (hw : C.wf) {S : Nat → Prop} (f : Fr S w w1) (hS : ∀ g, g < M0 → ¬ S g) {k : Nat} {e e' : JE} {x : QE} {q' : RJ} (he : C.Q[k]? = some e) (ht : e'.j.tr = e.j.tr) (hx : R[k]? = some x) (h1 : JRl e'.j q') (h2 : RdX w1 M0 q' e'.X) : Rl w1 M0 (C.put e') (R.set k (x.to q')) := by
  refine ⟨?_, fun i y u k1 k2 => ?_⟩
  · show (C.Q.map _).length = _
    rw [List.length_map, List.length_set, h.len]
  · rw [put_get hw he ht i] at k1
    rw [List.getElem?_set] at k2
    by_cases hik : i = k
    · subst hik
      rw [if_pos rfl] at k1 k2
      rw [if_pos (List.getElem?_eq_some_iff.1 hx).1] at k2
      injection k1 with k1
      injection k2 with k2
      subst k1; subst k2
      exact ⟨h1, h2⟩
    · rw [if_neg hik] at k1
      rw [if_neg (fun e => hik e.symm)] at k2
      obtain ⟨r1, r2⟩ := h.rel i y u k1 k2
      exact ⟨r1, r2.fr f hS⟩
end Go.Proofs.YtidcoddefebdpaaGreat
end

section
set_option linter.unusedVariables false
set_option linter.unusedSimpArgs false
set_option maxRecDepth 100000
set_option maxRecDepth 100000
namespace Go.Proofs.YtidcoddefebdpaaGreat
open Go.RowKit Go Go.Maps Go.Lib

theorem filt_eq (p q : Nat → Bool) : ∀ L : List Nat, (∀ a ∈ L, p a = true → q a = true) → (L.filter p).length ≤ (L.filter q).length ∧ ((L.filter p).length = (L.filter q).length → L.filter p = L.filter q)
  | [], _ => ⟨Nat.le_refl _, fun _ => rfl⟩
  | a :: r, h => by
    obtain ⟨i1, i2⟩ := filt_eq p q r (fun x hx => h x (List.mem_cons_of_mem _ hx))
    have ha := h a (List.mem_cons_self ..)
    cases hp : p a with
    | true =>
      have hq := ha hp
      rw [List.filter_cons_of_pos hp, List.filter_cons_of_pos hq, List.length_cons, List.length_cons]
      exact ⟨by omega, fun e => by rw [i2 (by omega)]⟩
    | false =>
      rw [List.filter_cons_of_neg (by rw [hp]; simp)]
      cases hq : q a with
      | true =>
        rw [List.filter_cons_of_pos hq, List.length_cons]
        exact ⟨by omega, fun e => by omega⟩
      | false =>
        rw [List.filter_cons_of_neg (by rw [hq]; simp)]
        exact ⟨i1, i2⟩
theorem all_eq {j j' : JS} (h : ∀ i, i < 4 → (j.at i).v = true → (j'.at i).v = true) (hl : j'.all.length = j.all.length) : j'.all = j.all := by
  unfold JS.all whichL at *
  rw [List.length_map, List.length_map] at hl
  have := (filt_eq (fun i => (j.vis.getD i vis0).v && true) (fun i => (j'.vis.getD i vis0).v && true) (List.range 4) (fun a ha hp => by
    have h4 : a < 4 := List.mem_range.1 ha
    rw [vis_at j a h4, Bool.and_true] at hp
    rw [vis_at j' a h4, Bool.and_true]
    exact h a h4 hp)).2 hl.symm
  rw [this]
theorem hearM_v (j : JS) (m : Ms) (i : Nat) (hi : i < 4) (h : (j.at i).v = true) : ((j.hearM m).at i).v = true := by
  cases m with
  | pinned p =>
    show ((if j.pinsM p = true then j.pin p.a.toNat p.told p.cr else j).at i).v = true
    split
    · rename_i hp
      obtain ⟨_, _, hb, _, _, _⟩ := pinsM_facts hp
      obtain ⟨⟨ha0, ha3⟩, hin, _⟩ := pinB_facts hb
      rw [pin_at, (pin1_at j p.a.toNat i p.told p.cr (by omega) hi hin).1, h]
      rfl
    · exact h
  | gone a t n =>
    show ((if (t = j.tr ∧ n = j.id) ∧ bGone a t n = true then j.gon a.toNat else j).at i).v = true
    split
    · unfold JS.gon; split <;> exact h
    · exact h
  | stored t n =>
    show ((if (t = j.tr ∧ n = j.id) ∧ bStored t n = true then j.sto else j).at i).v = true
    split
    · unfold JS.sto; split <;> exact h
    · exact h
  | unpinned a t n =>
    show ((if (t = j.tr ∧ n = j.id) ∧ bUnpinned a t n = true then j.unp a.toNat else j).at i).v = true
    split
    · rename_i hb
      have hf := bUnp_facts hb.2
      unfold JS.unp
      have key : ((j.upd a.toNat fun v => { v with f := true }).at i).v = true := by
        rw [at_upd j a.toNat i _ (by omega) hi]
        split
        · rename_i e; subst e; exact h
        · exact h
      split
      · split
        · exact key
        · exact key
      · exact h
    · exact h
  | _ => exact h
end Go.Proofs.YtidcoddefebdpaaGreat
end
