/-
  A manifest comes: take; any message comes: Hear.
-/
import Derived.Test.YtdfkjigkpcgngaaAsmMan
import Derived.Test.YtdfkjigkpcgngaaMsMayB
set_option linter.unusedVariables false
set_option linter.unusedSimpArgs false
set_option maxRecDepth 100000
set_option maxRecDepth 100000
namespace Go.Proofs.Ytdfkjigkpcgngaa
open Go.RowKit Go Go.Maps Go.Lib

theorem risB_l : ∀ (xs : List Int) (last : Int), -1 ≤ last → last ≤ 3 → risB last xs = true → (xs.length : Int) ≤ 3 - last
  | [], last, h1, h2, _ => by simp; omega
  | x :: r, last, h1, h2, h => by
    unfold risB inB at h
    simp only [Bool.and_eq_true, decide_eq_true_eq] at h
    have := risB_l r x (by omega) (by omega) h.2
    rw [List.length_cons]; omega
theorem pn_in {p : Pn} (h : pnB p = true) : 0 ≤ p.a ∧ p.a ≤ 3 ∧ 0 ≤ p.n ∧ p.n ≤ 1000 ∧ p.cr.length ≤ 4 := by
  unfold pnB pinB inB at h
  simp only [Bool.and_eq_true, decide_eq_true_eq] at h
  have := risB_l p.cr (-1) (by omega) (by omega) h.2.2.2.2.2
  omega
theorem manF_in (t j : Int) : ∀ (ps : List Pn) (last : Int), -1 ≤ last → last ≤ 3 → manF t j last ps = true → (ps.length : Int) ≤ 3 - last ∧ ∀ p ∈ ps, pnB p = true
  | [], last, h1, h2, _ => ⟨by simp; omega, fun p hp => by cases hp⟩
  | p :: r, last, h1, h2, h => by
    unfold manF at h
    simp only [Bool.and_eq_true, decide_eq_true_eq] at h
    have hp := pn_in h.1
    obtain ⟨k1, k2⟩ := manF_in t j r p.a (by omega) (by omega) h.2.2.2.2
    refine ⟨by rw [List.length_cons]; omega, fun q hq => ?_⟩
    rcases List.mem_cons.1 hq with rfl | hq
    · exact h.1
    · exact k2 q hq
theorem man_in {t j c : Int} {ps : List Pn} (h : manB t j c ps = true) : 0 ≤ c ∧ c ≤ 3 ∧ ps ≠ [] ∧ ps.length ≤ 4 ∧ ∀ p ∈ ps, pnB p = true := by
  unfold manB inB at h
  simp only [Bool.and_eq_true, decide_eq_true_eq] at h
  obtain ⟨k1, k2⟩ := manF_in t j ps (-1) (by omega) (by omega) h.2.2.2.2
  exact ⟨h.2.2.1.1, h.2.2.1.2, fun e => by rw [e] at h; simp at h, by omega, k2⟩
/-- what a call makes of it, wherever its manifest comes to lie -/
def AsmTo2 (w w' : World) (p bm : Nat) (D : Nat → Prop) (A' : AP) : Prop := ∃ mb' D', AsmP w' p bm mb' D' A' ∧ (∀ g, D g → D' g) ∧ (∀ g, D' g → D g ∨ w.heap.size ≤ g) ∧ Fr D w w'
theorem AsmTo.to2 {w w' : World} {p bm mb : Nat} {D : Nat → Prop} {A' : AP} (h : AsmTo w w' p bm mb D A') : AsmTo2 w w' p bm D A' := by obtain ⟨D', h⟩ := h; exact ⟨mb, D', h⟩
theorem AsmTo2.pre {w w1 w' : World} {p bm : Nat} {D : Nat → Prop} {A' : AP} (h : AsmTo2 w1 w' p bm D A') (f : Fr noB w w1) : AsmTo2 w w' p bm D A' := by
  obtain ⟨mb, D', h1, h2, h3, h4⟩ := h
  refine ⟨mb, D', h1, h2, fun g hg => (h3 g hg).elim Or.inl (fun q => Or.inr (Nat.le_trans f.size q)), f.trans h4 (fun _ _ q => False.elim q) (fun _ _ q => q)⟩
theorem AsmP.same {w w' : World} {p bm mb : Nat} {D : Nat → Prop} {A : AP} (h : AsmP w p bm mb D A) (f : Fr noB w w') : AsmTo2 w w' p bm D A := ⟨mb, D, h.frN f, fun _ q => q, fun _ q => Or.inl q, f.mono (fun _ _ q => False.elim q)⟩

theorem RdSp.set_ptr {w : World} {g0 o0 : Nat} {q : Option Addr} {v : Value} {L : List Sp} (h : RdSp w v L) (hc : w.cell? ⟨g0, o0, none⟩ = some (.pointer q)) (x : Value) : RdSp (w.setCell ⟨g0, o0, none⟩ x) v L := by
  obtain ⟨a, c, rfl, hl, hc', hn, h1⟩ := h
  have go : ∀ p u, w.cell? p = some u → (∀ q, u ≠ .pointer q) → (w.setCell ⟨g0, o0, none⟩ x).cell? p = some u := by
    intro p u hp hu
    refine (World.cell?_setCell_other w _ p x (fun e => ?_)).trans hp
    subst e
    rw [hc] at hp
    injection hp with hp
    exact hu q hp.symm
  refine ⟨a, c, rfl, hl, hc', hn, fun i s hi => ?_⟩
  obtain ⟨g, o, rfl, c0, c1, c2⟩ := h1 i s hi
  exact ⟨g, o, rfl, go _ _ c0 (by intro q e; cases e), go _ _ c1 (by intro q e; cases e), go _ _ c2 (by intro q e; cases e)⟩
set_option maxHeartbeats 8000000 in
theorem take_man_no (p bm mb : Nat) (D : Nat → Prop) (A : AP) (t j c : Int) (va : Option Addr) (vn vc : Nat) (x : Int × List Pn) (w : World) (h : AsmP w p bm mb D A) (hm : A.man = some x) :
    Calls Try.prog 25 #[.pointer (some ⟨p, 0, none⟩), mManifest t j c (.slice va vn vc)] w fun e w' => e = .returned (.bool false) ∧ AsmTo2 w w' p bm D A := by
  unfold mManifest
  have q0 := as_Manifest_Manifest
  have f1 : Fr noB w (w.alloc (.cells #[.int .i64 t, .int .i64 j, .int .i64 c, .slice va vn vc] 59)) := (Fr.refl _ _).alloc _
  have c2 : (w.alloc (.cells #[.int .i64 t, .int .i64 j, .int .i64 c, .slice va vn vc] 59)).cell? ⟨p, 2, none⟩ = some (.pointer (some ⟨mb, 0, none⟩)) := by
    have := (h.frN f1).blk.cell 2
    rw [show A.mp mb = some ⟨mb, 0, none⟩ by unfold AP.mp; rw [hm]] at this
    exact this
  have hx := Lib.hid (h.same f1)
  clear h f1 hm
  go_enter Try.func25, Try.ntmps25
  go_wp2_with fail
  go_ret
  exact ⟨rfl, hx.out⟩

set_option maxHeartbeats 8000000 in
theorem take_man (p bm mb : Nat) (D : Nat → Prop) (A : AP) (c : Int) (v : Value) (ps : List Pn) (w : World) (h : AsmP w p bm mb D A) (hm : A.man = none) (hv : RdPs w v ps) (hb : manB A.tr A.jb c ps = true) :
    Calls Try.prog 25 #[.pointer (some ⟨p, 0, none⟩), mManifest A.tr A.jb c v] w fun e w' => e = .returned (.bool true) ∧ AsmTo2 w w' p bm D { A with man := some (c, ps) } := by
  obtain ⟨va, vn, vc, rfl⟩ : ∃ va vn vc, v = .slice va vn vc := by obtain ⟨a, c, e, _⟩ := hv; exact ⟨_, _, _, e⟩
  unfold mManifest
  obtain ⟨_, _, hne, h4, hpn⟩ := man_in hb
  have hc4 : ∀ p ∈ ps, p.cr.length ≤ 4 := fun p hp => (pn_in (hpn p hp)).2.2.2.2
  have q0 := as_Manifest_Manifest
  obtain ⟨cb, hcb⟩ : ∃ cb, w.heap.size = cb := ⟨_, rfl⟩
  have f1 : Fr noB w (w.alloc (.cells #[.int .i64 A.tr, .int .i64 A.jb, .int .i64 c, .slice va vn vc] 59)) := (Fr.refl _ _).alloc _
  have b1 := Blk.new w 59 [.int .i64 A.tr, .int .i64 A.jb, .int .i64 c, .slice va vn vc]
  have hs1 : (w.alloc (.cells #[.int .i64 A.tr, .int .i64 A.jb, .int .i64 c, .slice va vn vc] 59)).heap.size = cb + 1 := by rw [size_alloc, hcb]
  rw [hcb] at b1
  have c2 : (w.alloc (.cells #[.int .i64 A.tr, .int .i64 A.jb, .int .i64 c, .slice va vn vc] 59)).cell? ⟨p, 2, none⟩ = some (.pointer none) := by
    have := (h.frN f1).blk.cell 2
    rw [show A.mp mb = none by unfold AP.mp; rw [hm]] at this
    exact this
  have hlt := h.lt
  rw [hcb] at hlt
  have hpc : p < cb := hlt _ h.dp
  have hbc : bm < cb := hlt _ h.db
  have h1 := h.frN f1
  have hv1 := hv.frH f1.toH
  have hcl := copy_any (.slice va vn vc) ps _ hv1 hne h4 hc4
  clear hv hv1
  go_enter Try.func25, Try.ntmps25
  go_upto_region 4 with fail
  try rw [hcb]
  replace h := Lib.hid h
  replace hcb := Lib.hid hcb
  generalize (w.alloc (.cells #[.int .i64 A.tr, .int .i64 A.jb, .int .i64 c, .slice va vn vc] 59)) = w1 at *
  have k3 : w1.cell? ⟨cb, 3, none⟩ = some (.slice va vn vc) := b1.cell 3
  replace h1 := Lib.hid h1
  replace b1 := Lib.hid b1
  replace f1 := Lib.hid f1
  replace hs1 := Lib.hid hs1
  replace hcl := Lib.hid hcl
  replace hpn := Lib.hid hpn
  replace hlt := Lib.hid hlt
  replace hm := Lib.hid hm
  go_wp2_with fail
  go_fit hcl.out
  rintro e w2 ⟨v2', rfl, hrd, f2⟩
  obtain ⟨a2, n2, k2, rfl⟩ : ∃ a n c, v2' = .slice a n c := by obtain ⟨a, c, e, _⟩ := hrd; exact ⟨_, _, _, e⟩
  have b2 := f2.blk b1.out (fun q => q)
  have k32 : w2.cell? ⟨cb, 3, none⟩ = some (.slice va vn vc) := b2.cell 3
  have z32 := b2.frozen 3
  have h2 := h1.out.frN f2
  have b2p := h2.blk
  rw [show A.mp mb = none by unfold AP.mp; rw [hm.out]] at b2p
  have s1 : Fr (onlyB cb) w2 (w2.setCell ⟨cb, 3, none⟩ (.slice a2 n2 k2)) := (Fr.refl _ _).store (onlyB_self cb)
  have p3 := s1.blk b2p (by unfold onlyB; omega)
  have c23 : (w2.setCell ⟨cb, 3, none⟩ (.slice a2 n2 k2)).cell? ⟨p, 2, none⟩ = some (.pointer none) := p3.cell 2
  have z23 := p3.frozen 2
  have b3 := b2.set 3 (.slice a2 n2 k2)
  simp only [List.set_cons_zero, List.set_cons_succ] at b3
  replace h2 := Lib.hid h2
  replace b3 := Lib.hid b3
  replace p3 := Lib.hid p3
  replace s1 := Lib.hid s1
  replace f2 := Lib.hid f2
  replace hrd := Lib.hid hrd
  clear b2 b2p c2 k3 hcl b1
  go_wp2_with fail
  go_ret
  have hs1' := hs1.out
  have hcb' := hcb.out
  have f12 := f1.out.seqN f2.out
  have s2 : Fr (onlyB p) (w2.setCell ⟨cb, 3, none⟩ (.slice a2 n2 k2)) ((w2.setCell ⟨cb, 3, none⟩ (.slice a2 n2 k2)).setCell ⟨p, 2, none⟩ (.pointer (some ⟨cb, 0, none⟩))) := (Fr.refl _ _).store (onlyB_self p)
  have p4 := p3.out.set 2 (.pointer (some ⟨cb, 0, none⟩))
  simp only [List.set_cons_zero, List.set_cons_succ] at p4
  have b4 := s2.blk b3.out (by unfold onlyB; omega)
  have f24 : Fr (fun g => g = cb ∨ g = p) w2 ((w2.setCell ⟨cb, 3, none⟩ (.slice a2 n2 k2)).setCell ⟨p, 2, none⟩ (.pointer (some ⟨cb, 0, none⟩))) := s1.out.trans s2 (fun _ _ q => Or.inl q) (fun _ _ q => Or.inr q)
  have hsz : cb + 1 ≤ w2.heap.size := by have := f2.out.size; omega
  have hszF := f24.size
  have hD2 : ∀ g, cb + 1 ≤ g ∧ g < w2.heap.size → ¬ (g = cb ∨ g = p) := fun g hg q => by omega
  have hrd2 : RdPsD w2 (fun g => cb + 1 ≤ g ∧ g < w2.heap.size) (.slice a2 n2 k2) ps := hrd.out.mono (fun g hg => by omega)
  have hrd4 := hrd2.fr f24 hD2
  have hoo : ∀ o ∈ A.O, OAp w2 D o ∧ o.m ≠ p ∧ o.m ≠ bm ∧ o.m ≠ mb ∧ 0 ≤ o.a ∧ o.a ≤ 3 := h2.out.inn
  refine ⟨rfl, cb, fun g => D g ∨ (cb ≤ g ∧ g < w2.heap.size), ⟨?_, fun c' ps' e => ?_, ?_, fun o ho => ?_, h2.out.nm, Or.inl h2.out.dp, Or.inl h2.out.db, ⟨h2.out.nb.1, by omega, Or.inr ⟨by omega, by omega⟩⟩, fun g hg => ?_⟩, fun g hg => Or.inl hg, fun g hg => hg.elim Or.inl (fun q => Or.inr (by omega)), ?_⟩
  · exact p4
  · injection e with e
    injection e with e1 e2
    subst e1 e2
    exact ⟨⟨_, b4, hrd4.mono (fun g hg => Or.inr (by omega))⟩, Or.inr ⟨by omega, by omega⟩, by omega, h4, hpn.out⟩
  · exact h2.out.om.fr f24 (by have := h2.out.nb.1; omega)
  · obtain ⟨k1, k2, k3, k4, k5⟩ := hoo o ho
    have kk := k1.fr s1.out (fun g hg q => by have := hlt.out g hg; unfold onlyB at q; omega)
    have hom := hlt.out _ (h.out.inn o ho).1.dm
    exact ⟨OAp.mono ⟨k1.mp.fr f24 (by omega), fun e he => ⟨(kk.rd e he).1.set_ptr c23 _, (k1.rd e he).2⟩, k1.dm, k1.t0, k1.t5, k1.ix⟩ (fun g hg => Or.inl hg), k2, k3, by omega, k5⟩
  · rcases hg with hg | hg
    · have := hlt.out g hg; omega
    · omega
  · exact f12.trans f24 (fun _ _ q => False.elim q) (fun g hg q => by
      rcases q with q | q
      · exact absurd hg (by omega)
      · rw [q]; exact h.out.dp)

def Ms.tj : Ms → Int × Int
  | .trigger _ t _ => (t, 0)
  | .pin t j => (t, j)
  | .pinned p => (p.t, p.j)
  | .gone _ t j => (t, j)
  | .collect t j => (t, j)
  | .chunk _ t j _ _ _ => (t, j)
  | .manifest t j _ _ => (t, j)
  | .stored t j => (t, j)
  | .unpin t j => (t, j)
  | .unpinned _ t j => (t, j)
theorem of_ms (v : Value) (m : Ms) (w : World) (h : MsW w v m) : Calls Try.prog 24 #[v] w fun e w' => e = .returned (.tuple #[.int .i64 m.tj.1, .int .i64 m.tj.2, .bool true]) ∧ Fr noB w w' := by
  cases m with
  | trigger a t c => obtain rfl := h; exact of_of (v := .nilIface) (of_Trigger a t c w)
  | pin t j => obtain rfl := h; exact of_of (v := .nilIface) (of_Pin t j w)
  | pinned p => obtain ⟨u, rfl, h1⟩ := h; obtain ⟨ua, uc, rfl, _⟩ := h1; exact of_of (v := .nilIface) (of_Pinned p.a p.t p.j p.n ua _ uc p.lo w)
  | gone a t j => obtain rfl := h; exact of_of (v := .nilIface) (of_Gone a t j w)
  | collect t j => obtain rfl := h; exact of_of (v := .nilIface) (of_Collect t j w)
  | chunk a t j i n sp => obtain ⟨u, rfl, h1⟩ := h; obtain ⟨ua, uc, rfl, _⟩ := h1; exact of_of (v := .nilIface) (of_Chunk a t j i n ua _ uc w)
  | manifest t j c ps => obtain ⟨u, rfl, h1⟩ := h; obtain ⟨ua, uc, rfl, _⟩ := h1; exact of_of (v := .nilIface) (of_Manifest t j c ua _ uc w)
  | stored t j => obtain rfl := h; exact of_of (v := .nilIface) (of_Stored t j w)
  | unpin t j => obtain rfl := h; exact of_of (v := .nilIface) (of_Unpin t j w)
  | unpinned a t j => obtain rfl := h; exact of_of (v := .nilIface) (of_Unpinned a t j w)
abbrev CH := List (Int × Int × List (Int × List Sp))
/-- what a message that may be, of this trace and job, makes of what came -/
def takeM (man : Option (Int × List Pn)) (C : CH) : Ms → Bool × Option (Int × List Pn) × CH
  | .manifest _ _ c ps => if man.isSome then (false, man, C) else (true, some (c, ps), C)
  | .chunk a _ _ i n sp => ((chunkC C a i n sp).1, man, (chunkC C a i n sp).2)
  | _ => (false, man, C)
def AP.hears (A : AP) (m : Ms) : Bool := m.ok && (decide (m.tj.1 = A.tr) && decide (m.tj.2 = A.jb))
def AP.hearM (A : AP) (m : Ms) : Bool × Option (Int × List Pn) × CH := if A.hears m = true then takeM A.man A.C m else (false, A.man, A.C)
def Is (A A' : AP) (x : Option (Int × List Pn) × CH) : Prop := A'.tr = A.tr ∧ A'.jb = A.jb ∧ A'.man = x.1 ∧ A'.C = x.2

set_option maxHeartbeats 4000000 in
theorem take_chunk (p bm mb : Nat) (D : Nat → Prop) (A : AP) (a t j i n : Int) (v : Value) (sp : List Sp) (w : World) (h : AsmP w p bm mb D A) (hb : chunkB a t j i n sp = true) (hs : RdSp w v sp) :
    Calls Try.prog 25 #[.pointer (some ⟨p, 0, none⟩), mChunk a t j i n v] w fun e w' => e = .returned (.bool (chunkC A.C a i n sp).1) ∧ ∃ A', Is A A' (A.man, (chunkC A.C a i n sp).2) ∧ AsmTo2 w w' p bm D A' := by
  obtain ⟨va, vc, rfl⟩ : ∃ va vc, v = .slice va sp.length vc := by obtain ⟨a, c, e, _⟩ := hs; exact ⟨_, _, e⟩
  obtain ⟨vn, hvn⟩ : ∃ vn, sp.length = vn := ⟨_, rfl⟩
  rw [hvn] at hs ⊢
  clear hvn
  have key : ∀ w', Fr noB w w' → Calls Try.prog 35 #[.pointer (some ⟨p, 0, none⟩), .agg #[.int .i64 a, .int .i64 t, .int .i64 j, .int .i64 i, .int .i64 n, .slice va vn vc]] w' fun e w'' => e = .returned (.bool (chunkC A.C a i n sp).1) ∧ ∃ A', Is A A' (A.man, (chunkC A.C a i n sp).2) ∧ AsmTo2 w' w'' p bm D A' := by
    intro w' f
    cases hl : A.at a with
    | none =>
      have e0 : chunkC A.C a i n sp = (true, (a, n, [(i, sp)]) :: A.C) := by unfold chunkC; rw [c_look, hl]; rfl
      rw [e0]
      refine (chunk_new p bm mb D A a t j i n _ sp w' (h.frN f) hb (hs.frN f) hl).mono ?_
      rintro e w'' ⟨rfl, A', h1, h2, h3, h4, h5⟩
      exact ⟨rfl, A', ⟨h1, h2, h3, h4⟩, h5.to2⟩
    | some o =>
      refine (chunk_old p bm mb D A a t j i n _ sp o w' (h.frN f) hb (hs.frN f) hl).mono ?_
      rintro e w'' ⟨h1, h2⟩
      by_cases hq : (look (enS o.E) i).isSome = true ∨ n ≠ o.t
      · have e0 : chunkC A.C a i n sp = (false, A.C) := by unfold chunkC; rw [c_look, hl]; show (if _ then _ else _) = _; rw [if_pos hq]
        rw [e0]
        obtain ⟨rfl, k⟩ := h1 hq
        exact ⟨rfl, A, ⟨rfl, rfl, rfl, rfl⟩, k.to2⟩
      · have e0 : chunkC A.C a i n sp = (true, A.C.map fun c => if c.1 = a then (c.1, c.2.1, (i, sp) :: c.2.2) else c) := by unfold chunkC; rw [c_look, hl]; show (if _ then _ else _) = _; rw [if_neg hq]
        rw [e0]
        obtain ⟨rfl, A', k1, k2, k3, k4, k5⟩ := h2 hq
        exact ⟨rfl, A', ⟨k1, k2, k3, k4⟩, k5.to2⟩
  obtain ⟨r, hr⟩ : ∃ r, chunkC A.C a i n sp = r := ⟨_, rfl⟩
  rw [hr] at key ⊢
  have f1 : Fr noB w (w.alloc (.cells #[.int .i64 a, .int .i64 t, .int .i64 j, .int .i64 i, .int .i64 n, .slice va vn vc] 67)) := (Fr.refl _ _).alloc _
  have k1 := key _ f1
  replace f1 := Lib.hid f1
  replace k1 := Lib.hid k1
  clear key hr hs hb h
  unfold mChunk
  have q0 := as_Chunk_Manifest
  have q1 := as_Chunk_Chunk
  go_enter Try.func25, Try.ntmps25
  go_wp2_with fail
  go_fit k1.out
  rintro e w2 ⟨rfl, A', h1, h2⟩
  have hp := Lib.hid (h2.pre f1.out)
  clear k1 h2
  go_wp2_with fail
  go_ret
  exact ⟨rfl, A', h1, hp.out⟩

theorem atake_Trigger (p : Nat) (a t c : Int) (w : World) : Calls Try.prog 25 #[.pointer (some ⟨p, 0, none⟩), mTrigger a t c] w fun e w' => e = .returned (.bool false) ∧ w' = w := by
  unfold mTrigger
  have q0 := as_Trigger_Manifest
  have q1 := as_Trigger_Chunk
  go_enter Try.func25, Try.ntmps25
  go_wp2_with fail
  go_ret
  exact ⟨rfl, rfl⟩
theorem atake_Pin (p : Nat) (t j : Int) (w : World) : Calls Try.prog 25 #[.pointer (some ⟨p, 0, none⟩), mPin t j] w fun e w' => e = .returned (.bool false) ∧ w' = w := by
  unfold mPin
  have q0 := as_Pin_Manifest
  have q1 := as_Pin_Chunk
  go_enter Try.func25, Try.ntmps25
  go_wp2_with fail
  go_ret
  exact ⟨rfl, rfl⟩
theorem atake_Pinned (p : Nat) (a t j c : Int) (ua : Option Addr) (un uc : Nat) (l : Bool) (w : World) : Calls Try.prog 25 #[.pointer (some ⟨p, 0, none⟩), mPinned a t j c (.slice ua un uc) l] w fun e w' => e = .returned (.bool false) ∧ w' = w := by
  unfold mPinned
  have q0 := as_Pinned_Manifest
  have q1 := as_Pinned_Chunk
  go_enter Try.func25, Try.ntmps25
  go_wp2_with fail
  go_ret
  exact ⟨rfl, rfl⟩
theorem atake_Gone (p : Nat) (a t j : Int) (w : World) : Calls Try.prog 25 #[.pointer (some ⟨p, 0, none⟩), mGone a t j] w fun e w' => e = .returned (.bool false) ∧ w' = w := by
  unfold mGone
  have q0 := as_Gone_Manifest
  have q1 := as_Gone_Chunk
  go_enter Try.func25, Try.ntmps25
  go_wp2_with fail
  go_ret
  exact ⟨rfl, rfl⟩
theorem atake_Collect (p : Nat) (t j : Int) (w : World) : Calls Try.prog 25 #[.pointer (some ⟨p, 0, none⟩), mCollect t j] w fun e w' => e = .returned (.bool false) ∧ w' = w := by
  unfold mCollect
  have q0 := as_Collect_Manifest
  have q1 := as_Collect_Chunk
  go_enter Try.func25, Try.ntmps25
  go_wp2_with fail
  go_ret
  exact ⟨rfl, rfl⟩
theorem atake_Stored (p : Nat) (t j : Int) (w : World) : Calls Try.prog 25 #[.pointer (some ⟨p, 0, none⟩), mStored t j] w fun e w' => e = .returned (.bool false) ∧ w' = w := by
  unfold mStored
  have q0 := as_Stored_Manifest
  have q1 := as_Stored_Chunk
  go_enter Try.func25, Try.ntmps25
  go_wp2_with fail
  go_ret
  exact ⟨rfl, rfl⟩
theorem atake_Unpin (p : Nat) (t j : Int) (w : World) : Calls Try.prog 25 #[.pointer (some ⟨p, 0, none⟩), mUnpin t j] w fun e w' => e = .returned (.bool false) ∧ w' = w := by
  unfold mUnpin
  have q0 := as_Unpin_Manifest
  have q1 := as_Unpin_Chunk
  go_enter Try.func25, Try.ntmps25
  go_wp2_with fail
  go_ret
  exact ⟨rfl, rfl⟩
theorem atake_Unpinned (p : Nat) (a t j : Int) (w : World) : Calls Try.prog 25 #[.pointer (some ⟨p, 0, none⟩), mUnpinned a t j] w fun e w' => e = .returned (.bool false) ∧ w' = w := by
  unfold mUnpinned
  have q0 := as_Unpinned_Manifest
  have q1 := as_Unpinned_Chunk
  go_enter Try.func25, Try.ntmps25
  go_wp2_with fail
  go_ret
  exact ⟨rfl, rfl⟩
def HearPost (e : Ending) (w w' : World) (p bm : Nat) (D : Nat → Prop) (A : AP) (ok : Prop) (r : Bool) (N : AP → Prop) : Prop := (ok → e = .returned (.bool r) ∧ ∃ A', N A' ∧ AsmTo2 w w' p bm D A') ∧ (¬ ok → e = .returned (.bool false) ∧ AsmTo2 w w' p bm D A)
set_option maxHeartbeats 4000000 in
theorem ahear_gen (p bm mb : Nat) (D : Nat → Prop) (A : AP) (m : Value) (b : Bool) (t jb : Int) (r : Bool) (N : AP → Prop) (w : World) (h : AsmP w p bm mb D A)
    (hr0 : Calls Try.prog 23 #[m] w fun e w'' => e = .returned (.bool b) ∧ Fr noB w w'')
    (ho : ∀ w', Fr noB w w' → Calls Try.prog 24 #[m] w' fun e w'' => e = .returned (.tuple #[.int .i64 t, .int .i64 jb, .bool true]) ∧ Fr noB w' w'')
    (hk : b = true → t = A.tr → jb = A.jb → ∀ w', Fr noB w w' → Calls Try.prog 25 #[.pointer (some ⟨p, 0, none⟩), m] w' fun e w'' => e = .returned (.bool r) ∧ ∃ A', N A' ∧ AsmTo2 w' w'' p bm D A') :
    Calls Try.prog 10 #[.pointer (some ⟨p, 0, none⟩), m] w fun e w' => HearPost e w w' p bm D A (b = true ∧ t = A.tr ∧ jb = A.jb) r N := by
  obtain ⟨ok, hok⟩ : ∃ ok : Prop, ok ↔ (b = true ∧ t = A.tr ∧ jb = A.jb) := ⟨_, Iff.rfl⟩
  rw [← propext hok]
  replace hk : Hid (ok → ∀ w', Fr noB w w' → Calls Try.prog 25 #[.pointer (some ⟨p, 0, none⟩), m] w' fun e w'' => e = .returned (.bool r) ∧ ∃ A', N A' ∧ AsmTo2 w' w'' p bm D A') := Lib.hid fun q => hk (hok.1 q).1 (hok.1 q).2.1 (hok.1 q).2.2
  replace ho := Lib.hid ho
  replace hok := Lib.hid hok
  replace h := Lib.hid h
  go_enter Try.func10, Try.ntmps10
  go_wp2_with fail
  refine hr0.mono ?_
  rintro e w1 ⟨rfl, f1⟩
  clear hr0
  cases b with
  | false =>
    go_wp2_with fail
    go_ret
    exact ⟨fun q => absurd (hok.out.1 q).1 (by decide), fun _ => ⟨rfl, h.out.same f1⟩⟩
  | true =>
    go_wp2_with fail
    refine (ho.out w1 f1).mono ?_
    rintro e w2 ⟨rfl, f2⟩
    have g2 := f1.seqN f2
    have h2 := h.out.frN g2
    have c0 : w2.cell? ⟨p, 0, none⟩ = some (.int .i64 A.tr) := h2.blk.cell 0
    have c1 : w2.cell? ⟨p, 1, none⟩ = some (.int .i64 A.jb) := h2.blk.cell 1
    replace h2 := Lib.hid h2
    have hno := Lib.hid (h.out.same g2)
    replace g2 := Lib.hid g2
    clear ho f1 f2
    by_cases ht : t = A.tr
    · by_cases hj : jb = A.jb
      · have hyes := hok.out.2 ⟨by trivial, ht, hj⟩
        have k := Lib.hid (hk.out hyes w2 g2.out)
        replace hyes := Lib.hid hyes
        subst ht hj
        go_wp2_with fail
        go_fit k.out
        rintro e w3 ⟨rfl, A', k1, k2⟩
        have k3 := Lib.hid (k2.pre g2.out)
        clear k2 k hk
        go_wp2_with fail
        go_ret
        exact ⟨fun _ => ⟨rfl, A', k1, k3.out⟩, fun q => absurd hyes.out q⟩
      · have e1 : decide (jb = A.jb) = false := decide_eq_false hj
        have e2 : (jb == A.jb) = false := by simpa using hj
        replace hj := Lib.hid hj
        subst ht
        go_wp2_with fail
        go_ret
        exact ⟨fun q => absurd (hok.out.1 q).2.2 hj.out, fun _ => ⟨rfl, hno.out⟩⟩
    · have e1 : decide (t = A.tr) = false := decide_eq_false ht
      have e2 : (t == A.tr) = false := by simpa using ht
      replace ht := Lib.hid ht
      go_wp2_with fail
      go_ret
      exact ⟨fun q => absurd (hok.out.1 q).2.1 ht.out, fun _ => ⟨rfl, hno.out⟩⟩
theorem ahear_any (p bm mb : Nat) (D : Nat → Prop) (A : AP) (m : Ms) (v : Value) (w : World) (h : AsmP w p bm mb D A) (hm : MsW w v m) :
    Calls Try.prog 10 #[.pointer (some ⟨p, 0, none⟩), v] w fun e w' => e = .returned (.bool (A.hearM m).1) ∧ ∃ A', Is A A' (A.hearM m).2 ∧ AsmTo2 w w' p bm D A' := by
  have hk : m.ok = true → m.tj.1 = A.tr → m.tj.2 = A.jb → ∀ w', Fr noB w w' → Calls Try.prog 25 #[.pointer (some ⟨p, 0, none⟩), v] w' fun e w'' => e = .returned (.bool (takeM A.man A.C m).1) ∧ ∃ A', Is A A' (takeM A.man A.C m).2 ∧ AsmTo2 w' w'' p bm D A' := by
    intro hb ht hj w' f
    have no : ∀ {Q : Ending → World → Prop}, (∀ e w'', Q e w'' → e = .returned (.bool false) ∧ w'' = w') → Calls Try.prog 25 #[.pointer (some ⟨p, 0, none⟩), v] w' Q → Calls Try.prog 25 #[.pointer (some ⟨p, 0, none⟩), v] w' fun e w'' => e = .returned (.bool false) ∧ ∃ A', Is A A' (A.man, A.C) ∧ AsmTo2 w' w'' p bm D A' := by
      intro Q hQ hc
      refine hc.mono fun e w'' hq => ?_
      obtain ⟨rfl, rfl⟩ := hQ e w'' hq
      exact ⟨rfl, A, ⟨rfl, rfl, rfl, rfl⟩, (h.frN f).same (Fr.refl _ _)⟩
    have hm' := hm.frN f
    cases m with
    | trigger a t c => obtain rfl := hm'; exact no (fun _ _ q => q) (atake_Trigger p a t c w')
    | pin t j => obtain rfl := hm'; exact no (fun _ _ q => q) (atake_Pin p t j w')
    | pinned q => obtain ⟨u, rfl, h1⟩ := hm'; obtain ⟨ua, uc, rfl, _⟩ := h1; exact no (fun _ _ q => q) (atake_Pinned p q.a q.t q.j q.n ua _ uc q.lo w')
    | gone a t j => obtain rfl := hm'; exact no (fun _ _ q => q) (atake_Gone p a t j w')
    | collect t j => obtain rfl := hm'; exact no (fun _ _ q => q) (atake_Collect p t j w')
    | stored t j => obtain rfl := hm'; exact no (fun _ _ q => q) (atake_Stored p t j w')
    | unpin t j => obtain rfl := hm'; exact no (fun _ _ q => q) (atake_Unpin p t j w')
    | unpinned a t j => obtain rfl := hm'; exact no (fun _ _ q => q) (atake_Unpinned p a t j w')
    | chunk a t j i n sp =>
      obtain ⟨u, rfl, h1⟩ := hm'
      exact take_chunk p bm mb D A a t j i n u sp w' (h.frN f) hb h1
    | manifest t j c ps =>
      obtain ⟨u, rfl, h1⟩ := hm'
      obtain rfl : t = A.tr := ht
      obtain rfl : j = A.jb := hj
      cases hman : A.man with
      | none =>
        refine (take_man p bm mb D A c u ps w' (h.frN f) hman h1 hb).mono ?_
        rintro e w'' ⟨rfl, k⟩
        exact ⟨by unfold takeM; rfl, { A with man := some (c, ps) }, ⟨rfl, rfl, rfl, rfl⟩, k⟩
      | some x =>
        obtain ⟨ua, uc, rfl, _⟩ := h1
        refine (take_man_no p bm mb D A A.tr A.jb c ua _ uc x w' (h.frN f) hman).mono ?_
        rintro e w'' ⟨rfl, k⟩
        exact ⟨rfl, A, ⟨rfl, rfl, hman, rfl⟩, k⟩
  refine (ahear_gen p bm mb D A v m.ok m.tj.1 m.tj.2 _ _ w h (right_ms v m w hm) (fun w' f => of_ms v m w' (hm.frN f)) hk).mono ?_
  rintro e w' ⟨h1, h2⟩
  unfold AP.hearM AP.hears
  by_cases hq : m.ok = true ∧ m.tj.1 = A.tr ∧ m.tj.2 = A.jb
  · rw [if_pos (by rw [hq.1, hq.2.1, hq.2.2]; simp)]
    exact h1 hq
  · rw [if_neg (by simpa using hq)]
    obtain ⟨rfl, k⟩ := h2 hq
    exact ⟨rfl, A, ⟨rfl, rfl, rfl, rfl⟩, k⟩
end Go.Proofs.Ytdfkjigkpcgngaa
