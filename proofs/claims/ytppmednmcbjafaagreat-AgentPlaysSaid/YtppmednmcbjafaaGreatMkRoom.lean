/-
  A keeper's makeRoom.
-/
import Derived.Test.YtppmednmcbjafaaGreatDelF2
set_option linter.unusedVariables false
set_option linter.unusedSimpArgs false
set_option maxRecDepth 100000
namespace Go.Proofs.YtppmednmcbjafaaGreat
open Go.RowKit Go Go.Maps Go.Lib

/-- those that may go -/
def mayL (K : KS) : List Int := (K.P.map (·.1)).filter fun x => !decide (x ∈ K.pins)
theorem mayL_mem {K : KS} {x : Int} (h : x ∈ mayL K) : x ∈ K.P.map (·.1) ∧ x ∉ K.pins := by
  unfold mayL at h
  simpa using h
theorem mayL_len {w : World} {g N : Nat} {K : KS} (h : Po w g N K.P) : (mayL K).length ≤ 16 := by
  unfold mayL
  have := List.length_filter_le (fun x => !decide (x ∈ K.pins)) (K.P.map (·.1))
  rw [List.length_map] at this
  have := h.pl
  omega
theorem key_rng {w : World} {g N : Nat} {P : TP} (h : Po w g N P) {x : Int} (hx : x ∈ P.map (·.1)) : 1 ≤ x ∧ x ≤ 65535 := by
  obtain ⟨p, hp, rfl⟩ := List.mem_map.1 hx
  exact h.rng p hp
theorem key_txt {w : World} {g N : Nat} {P : TP} (h : Po w g N P) {x : Int} (hx : x ∈ P.map (·.1)) : txt P x ≠ [] := by
  obtain ⟨p, hp, rfl⟩ := List.mem_map.1 hx
  rw [txt_of_mem h.ris (show (p.1, p.2) ∈ P from hp)]
  exact h.ne p hp
/-- the closure that tells who stays -/
theorem tells_any {k g bp bl B N wc : Nat} {wa : Option Addr} {K : KS} {w : World} (h : Kp w k g bp bl B N wa wc K) (qb r : Nat) (hq : Blk w qb 102 [.pointer (some ⟨k, 0, none⟩)]) (hr : ¬ kpS k g bp bl wa r) (hqr : qb ≠ r) (X : List Int) (hX : ∀ x ∈ X, okI x) :
    Tells w r (.pointer (some ⟨qb, 0, none⟩)) (fun x => decide (x ∈ K.pins)) X := by
  intro x hx w' hf
  show Calls _ _ _ _ fun e w'' => e = .returned (.bool (decide (x ∈ K.pins))) ∧ Fr noB w' w''
  have h' := h.fr hf (fun q hq e => hr (by unfold onlyB at e; subst e; exact hq))
  have c0 : w'.cell? ⟨qb, 0, none⟩ = some (.pointer (some ⟨k, 0, none⟩)) := (hf.blk hq hqr).cell 0
  have hp := kpinned_any k g bp bl B N wc wa K x w' h' (hX x hx)
  clear h h' hf hq
  generalize decide (x ∈ K.pins) = b at *
  go_enter Tryz.func107, Tryz.ntmps107
  go_wp2_with fail
  refine hp.mono ?_
  rintro e w2 ⟨rfl, f2⟩
  clear hp
  go_wp2_with fail
  go_ret
  exact ⟨rfl, f2⟩
/-- DeleteFunc of whatever row. -/
theorem delf_row (B : Nat) (v : Value) (n : Nat) (X : List Int) (cb : Value) (p : Int → Bool) (w : World) (h : w.ownsRow B 3 1 v n (rowV X)) (hn : n ≤ 1000) (ht : ∀ g, v.ownBlock = some g → Tells w g cb p X) :
    Calls Tryz.prog 108 #[v, .func (.func 107) #[] #[cb]] w fun e w' => ∃ u, e = .returned u ∧ w'.ownsRow B 3 1 u (X.filter fun x => !p x).length (rowV (X.filter fun x => !p x)) ∧ Fr (fun q => v.ownBlock = some q) w w' := by
  have hl : X.length = n := by simpa [rowV] using h.1
  rcases h.2 with ⟨h1, h2⟩ | ⟨g, cap, cur, h1, hb, hg, hnc, hm, hs, htk⟩
  · subst h1 h2
    have : X = [] := List.eq_nil_of_length_eq_zero hl
    subst this
    refine (delf_nil 0 cb w).mono ?_
    rintro e w' ⟨rfl, rfl⟩
    exact ⟨_, rfl, h, Fr.refl _ _⟩
  · subst h1
    refine (delf_any B g cap n X cb p w h hn (ht g rfl)).mono ?_
    rintro e w' ⟨rfl, o, f⟩
    exact ⟨_, rfl, o, f.mono (fun q _ e => by unfold onlyB at e; rw [e]; rfl)⟩

set_option maxHeartbeats 2000000 in
set_option maxRecDepth 10000 in
theorem mroom_none (k g bp bl B N wc : Nat) (wa : Option Addr) (K : KS) (t : Int) (w : World) (h : Kp w k g bp bl B N wa wc K) (ht : 1 ≤ t ∧ t ≤ 65535) (h0 : mayL K = []) (htx : txt K.P t = []) (hnl : t ∉ K.loss) (hz : K.loss.length < 1000000) :
    Calls Tryz.prog 85 #[.pointer (some ⟨k, 0, none⟩), .int .i64 t] w fun e w' => e = .returned (.int .i64 6) ∧ KTo w w' k g bp bl B N wa { K with loss := K.loss ++ [t] } := by
  have okt : okI t := okI_of (by omega) (by omega)
  have fX := (Fr.refl noB w).alloc (.cells #[.pointer (some ⟨k, 0, none⟩)] 102)
  have bX := Blk.new w 102 [.pointer (some ⟨k, 0, none⟩)]
  have h1 := h.frN fX
  have c0 : (w.alloc (.cells #[.pointer (some ⟨k, 0, none⟩)] 102)).cell? ⟨k, 0, none⟩ = some (.pointer (some ⟨g, 0, none⟩)) := h1.blk.cell 0
  have htr := ptraces_p g N K.P _ h1.po
  have hlow := fun q => h.low (q := q)
  have hkr : ∀ x ∈ K.P.map (·.1), okI x := fun x hx => by have := key_rng h.po hx; exact okI_of (by omega) (by omega)
  have hpl : (K.P.map (·.1)).length ≤ 16 := by rw [List.length_map]; exact h.po.pl
  replace hkr := Lib.hid hkr
  replace hlow := Lib.hid hlow
  replace h1 := Lib.hid h1
  replace h := Lib.hid h
  replace h0 := Lib.hid h0
  go_enter Tryz.func85, Tryz.ntmps85
  go_wp2_with fail
  refine htr.mono ?_
  rintro e w1 ⟨u, rfl, o1, f1⟩
  clear htr
  have b1 := f1.blk bX (fun q => q)
  have h2 := h1.out.frN f1
  have hd := delf_row _ u _ (K.P.map (·.1)) (.pointer (some ⟨w.heap.size, 0, none⟩)) (fun x => decide (x ∈ K.pins)) w1 o1 (by omega) (fun r hr => by
    have hrl := (o1.lt r hr).1
    refine tells_any h2 w.heap.size r b1 (fun q => ?_) (fun e => ?_) _ hkr.out
    · have := hlow.out r q; simp at hrl; omega
    · simp at hrl; omega)
  replace h2 := Lib.hid h2
  replace o1 := Lib.hid o1
  go_wp2_with fail
  refine hd.mono ?_
  rintro e w2 ⟨v, rfl, o2, f2⟩
  clear hd
  have hF : (K.P.map (·.1)).filter (fun x => !decide (x ∈ K.pins)) = [] := h0.out
  rw [hF] at o2
  obtain ⟨va, vc, rfl⟩ := ownsRow_slice o2
  simp only [List.length_nil] at o2
  have hgrow : ∀ q, u.ownBlock = some q → w.heap.size < q := fun q hq => by have := (o1.out.lt q hq).1; simp at this; omega
  have h3 := h2.out.fr f2 (fun q hq e => by have := hlow.out q hq; have := hgrow q e; omega)
  have b2 := f2.blk b1 (fun e => by have := hgrow _ e; omega)
  have c1 : w2.cell? ⟨w.heap.size, 0, none⟩ = some (.pointer (some ⟨k, 0, none⟩)) := b2.cell 0
  have c3 : w2.cell? ⟨k, 3, none⟩ = some (.map (some bl)) := h3.blk.cell 3
  have ml := h3.ml
  have fw : Fr noB w w2 := (fX.seqN f1).trans f2 (fun _ _ q => q) (fun q hq e => by have := hgrow q e; omega)
  replace h3 := Lib.hid h3
  clear hF o2 hgrow b1 b2 o1 f1 f2 h2 h1 bX
  go_wp2_with (first
    | (at_mapUpdate; refine wpList_put_mp _ rfl _ _ _ 151 rfl KI Tryz.underlying151 mkU_inj ml (by unfold maxLen; omega) t () okt rfl rfl rfl ?_; intro w5 m5 f5)
    | fail)
  go_wp2
  go_ret
  have h := h.out
  have h3 := h3.out
  have m6 := (m5.perm (withKey_perm K.loss t)).tight (m := (outL K.loss t ++ [t]).length) (by unfold keysU; simp)
  rw [outL_no hnl] at m6
  have key : Kp w5 k g bp bl B N wa wc { K with loss := K.loss ++ [t] } := ⟨f5.blk h3.blk h.kl, ownsRow_fr h3.row f5 (fun q hq e => by have := (h3.row.lt q hq).1; have := h.lB; unfold onlyB at e; omega), h3.po.fr f5 h.gl, h3.mp.fr f5 h.pl, m6, h.kB, h.gB, h.pB, h.lB, Nat.le_trans h3.Bw f5.size, h.kg, h.kp, h.kl, h.gp, h.gl, h.pl, h.sd, fun u hu => by
    rcases List.mem_append.1 hu with q | q
    · exact h.lost u q
    · simp at q; subst q; exact ⟨htx, ht⟩⟩
  exact ⟨rfl, wa, wc, key, fw.trans f5 (fun _ _ q => False.elim q) (fun q _ e => Or.inr (Or.inr (Or.inr (Or.inl e)))), fun q _ e => e⟩
end Go.Proofs.YtppmednmcbjafaaGreat
