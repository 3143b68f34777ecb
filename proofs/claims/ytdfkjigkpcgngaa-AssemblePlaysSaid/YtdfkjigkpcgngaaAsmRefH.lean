/-
  The reference hears a message.
-/
import Derived.Test.YtdfkjigkpcgngaaAsmRefS
set_option linter.unusedVariables false
set_option linter.unusedSimpArgs false
set_option maxRecDepth 100000
namespace Go.Proofs.Ytdfkjigkpcgngaa
open Go.RowKit Go Go.Maps Go.Lib

/-- is it none of the reference's business? -/
def RS.bad (r : RS) (b : Bool) (M : MR) : Bool := !b || (decide (M.k ≠ 6) && decide (M.k ≠ 7)) || decide (M.t ≠ r.tr) || decide (M.j ≠ r.jb)
theorem msg_size : (Try.prog.info? 34).map (·.size) = some 15 := by kernel_rfl
theorem infoMsgR : (Try.prog.info? 34).map (fun i => (i.zero, i.size, i.bytes)) = some (some (.agg (mrC {}).toArray), 15, 168) := by kernel_rfl

/-- what the reference makes of a message (ps: its parts; x: its chunk) -/
def RS.hearB (r : RS) (b : Bool) (M : MR) (ps : List Pn) (x : Kq) : Bool × RS :=
  if r.bad b M = true then (false, r) else if M.k = 7 then (if r.man.isSome = true then (false, r) else (true, ⟨r.tr, r.jb, some (M.c, ps), r.K⟩)) else (if refuses (r.K.map Kq.kp) x.a x.i x.n = true then (false, r) else (true, ⟨r.tr, r.jb, r.man, r.K ++ [x]⟩))
theorem bad_no {r : RS} {b : Bool} {M : MR} (h : r.bad b M = false) : b = true ∧ (M.k = 6 ∨ M.k = 7) ∧ M.t = r.tr ∧ M.j = r.jb := by
  unfold RS.bad at h
  simp only [Bool.or_eq_false_iff, Bool.not_eq_false', Bool.and_eq_false_iff, decide_eq_false_iff_not, ne_eq, Classical.not_not] at h
  exact ⟨h.1.1.1, h.1.1.2, h.1.2, h.2⟩
theorem refuses_take {K : List Kp} {a i n : Int} {k : Nat} {c : Kp} (hc : K[k]? = some c) (h : refuses (K.take k) a i n = false) (hn : ¬ (c.a = a ∧ (c.n ≠ n ∨ c.i = i))) : refuses (K.take (k + 1)) a i n = false := by
  rw [Bool.eq_false_iff]
  intro q
  obtain ⟨d, hd, h1, h2⟩ := (refuses_iff _ a i n).1 q
  rw [List.take_add_one, hc] at hd
  rcases List.mem_append.1 hd with hd | hd
  · have : refuses (K.take k) a i n = true := (refuses_iff _ a i n).2 ⟨d, hd, h1, h2⟩
    rw [h] at this; cases this
  · obtain rfl : d = c := by simpa using hd
    exact hn ⟨h1, h2⟩
theorem refuses_hit {K : List Kp} {a i n : Int} {k : Nat} {c : Kp} (hc : K[k]? = some c) (h1 : c.a = a) (h2 : c.n ≠ n ∨ c.i = i) : refuses K a i n = true := (refuses_iff _ a i n).2 ⟨c, List.mem_of_getElem? hc, h1, h2⟩
theorem store_at (w : World) (g i : Nat) (vs : Array Value) : ∃ w2, w2 = w.setCells g i vs.toList ∧ Fr (onlyB g) w w2 ∧ ∀ t cs, Blk w g t cs → i + vs.size ≤ cs.length → Blk w2 g t (cs.take i ++ vs.toList ++ cs.drop (i + vs.size)) :=
  ⟨_, rfl, setCells_fr _ _ _ _, fun t cs h hl => by
    have h1 := setCells_blk vs.toList w g i t cs h (by simpa using hl)
    simpa using h1⟩
def HearR (e : Ending) (w w' : World) (q : Nat) (E F : Nat → Prop) (M0 : Nat) (b : Bool) (r' : RS) : Prop :=
  e = .returned (.bool b) ∧ (∃ M' ca' cc' E', AR w' q E' M0 r' M' ca' cc' ∧ ∀ g, E' g → E g ∨ F g ∨ w.heap.size ≤ g) ∧ Fr E w w'

theorem mr_size : (Value.agg (mrC {}).toArray).cells.size = 15 := by kernel_rfl
theorem mrc_oneA (m : MR) : ∀ u ∈ mrC m, u.oneCell' = true := by
  intro v hv
  unfold mrC at hv
  simp only [List.mem_cons, List.not_mem_nil, or_false] at hv
  rcases hv with rfl | rfl | rfl | rfl | rfl | rfl | rfl | rfl | rfl | rfl | rfl | rfl | rfl | rfl | rfl <;> rfl
/-- a chunk was kept -/
theorem hear_end {w wc wr wA w9 : World} {q : Nat} {E F : Nat → Prop} {M0 : Nat} {r : RS} {M : MR} {ca a9 : Option Addr} {cc c9 n : Nat} {x : Kq} (h : AR wr q E M0 r M ca cc) (hn : r.K.length = n) (fr : Fr noB wc wr) (f01 : Fr noB w wc) (fA : Fr noB wr wA)
    (f9 : Fr (rowB (.slice ca n cc)) wA w9) (o9 : w9.ownsRow M0 34 15 (.slice a9 (n + 1) c9) (n + 1) (r.KC ++ mrC (x.mr r.tr r.jb)))
    (bq9 : Blk w9 q 37 [.int .i64 r.tr, .int .i64 r.jb, .int .i64 M.k, .int .i64 M.a, .int .i64 M.t, .int .i64 M.j, .int .i64 M.c, .int .i64 M.i, .int .i64 M.n, .int .i64 M.pa, .int .i64 M.pt, .int .i64 M.pj, .int .i64 M.pc, .slice M.ua M.un M.uc, .bool M.lo, .slice M.qa M.qn M.qc, .slice M.sa M.sn M.sc, .bool r.man.isSome, .slice ca n cc])
    (p2 : RdSp w (.slice x.sa x.sp.length x.sc) x.sp) (p3 : x.sp ≠ [] → ∀ g o, x.sa = some ⟨g, o, none⟩ → g < M0) (p4 : n < 1000) (mv9 : Moved wA (.slice ca n cc) (.slice a9 (n + 1) c9)) (hEw : ∀ g, E g → g < w.heap.size) :
    HearR (.returned (.bool true)) w (w9.setCell ⟨q, 18, none⟩ (.slice a9 (n + 1) c9)) q E F M0 true ⟨r.tr, r.jb, r.man, r.K ++ [x]⟩ := by
  have fs : Fr (onlyB q) w9 (w9.setCell ⟨q, 18, none⟩ (.slice a9 (n + 1) c9)) := (Fr.refl _ _).store (onlyB_self q)
  have hl : (r.K ++ [x]).length = n + 1 := by rw [List.length_append, hn]; rfl
  have hrowE : ∀ g, rowB (.slice ca n cc) g → E g := fun g hg => h.er g (by rw [hn]; exact hg)
  have nq : ∀ g, (Value.slice a9 (n + 1) c9).ownBlock = some g → ¬ onlyB q g := fun g hg e => by
    unfold onlyB at e
    subst e
    exact row_not o9 bq9 (by decide) hg
  have frw := f01.seqN fr
  have hwA := fA.size
  have hw9 := f9.size
  have hw10 := fs.size
  have hE0 : ∀ g, E g → M0 ≤ g := fun g hg => (h.lo g hg).1
  have hnew : ∀ g, (Value.slice a9 (n + 1) c9).ownBlock = some g → E g ∨ w.heap.size ≤ g := fun g hg => by
    rcases mv9 with e | e
    · exact Or.inl (hrowE g (by unfold rowB; rw [← e]; exact hg))
    · rw [e] at hg
      injection hg with hg
      have := frw.size
      omega
  refine ⟨rfl, ⟨M, a9, c9, fun g => E g ∨ (w.heap.size ≤ g ∧ g < (w9.setCell ⟨q, 18, none⟩ (.slice a9 (n + 1) c9)).heap.size), ⟨?_, ?_, ?_, ?_, Or.inl h.eq, ?_, ?_, ?_⟩, ?_⟩, ?_⟩
  · have := bq9.set 18 (.slice a9 (n + 1) c9)
    simp only [List.set_cons_zero, List.set_cons_succ] at this
    unfold arC
    dsimp only
    rw [hl]
    exact this
  · intro c ps e
    obtain ⟨m1, m2, m3, G, m4, m5, m6⟩ := h.man c ps e
    refine ⟨m1, m2, m3, G, ((m4.fr fA (fun _ _ q => q)).fr f9 (fun g hg e => (m6 g hg).2 (by rw [hn]; exact e))).fr fs (fun g hg e => (m6 g hg).1 e), fun g hg => Or.inl (m5 g hg), fun g hg => ⟨(m6 g hg).1, fun e => ?_⟩⟩
    dsimp only at e
    rw [hl] at e
    rcases mv9 with e9 | e9
    · exact (m6 g hg).2 (by rw [hn, ← e9]; exact e)
    · rw [e9] at e
      injection e with e
      have := (h.lo g (m5 g hg)).2
      omega
  · have o10 := ownsRow_fr o9 fs nq
    dsimp only
    rw [hl]
    have e : (⟨r.tr, r.jb, r.man, r.K ++ [x]⟩ : RS).KC = r.KC ++ mrC (x.mr r.tr r.jb) := by unfold RS.KC; rw [List.flatMap_append]; simp
    rw [e]
    exact o10
  · intro k hk
    have key : ∀ g, g < M0 → ¬ rowB (.slice ca n cc) g ∧ ¬ onlyB q g := fun g hg => ⟨fun e => by have := hE0 g (hrowE g e); omega, fun e => by unfold onlyB at e; subst e; have := hE0 _ h.eq; omega⟩
    have hx : RdSp wr (.slice k.sa k.sp.length k.sc) k.sp ∧ (k.sp ≠ [] → ∀ g o, k.sa = some ⟨g, o, none⟩ → g < M0) := by
      rcases List.mem_append.1 hk with hk | hk
      · exact h.sps k hk
      · obtain rfl := List.mem_singleton.1 hk
        exact ⟨p2.frN frw, p3⟩
    exact ⟨((hx.1.frN fA).fr1 f9 (fun hne g o n c e => (key g (hx.2 hne g o (by injection e))).1)).fr1 fs (fun hne g o n c e => (key g (hx.2 hne g o (by injection e))).2), hx.2⟩
  · intro g hg
    dsimp only at hg
    rw [hl] at hg
    rcases hnew g hg with q | q
    · exact Or.inl q
    · exact Or.inr ⟨q, by have := (o9.lt g hg).2; omega⟩
  · intro g hg
    rcases hg with hg | hg
    · have := h.lo g hg; omega
    · have := h.lo q h.eq
      have := hEw q h.eq
      omega
  · dsimp only; omega
  · intro g hg
    rcases hg with hg | hg
    · exact Or.inl hg
    · exact Or.inr (Or.inr hg.1)
  · exact (((frw.seqN fA).trans f9 (T := rowB (.slice ca n cc)) (U := E) (fun _ _ q => q.elim) (fun i _ q => hrowE i q))).trans fs (fun _ _ q => q) (fun i _ q => by unfold onlyB at q; subst q; exact h.eq)

set_option maxHeartbeats 16000000 in
theorem rhear_any (q : Nat) (E F : Nat → Prop) (M0 : Nat) (r : RS) (Mm : MR) (ca : Option Addr) (cc : Nat) (M : MR) (b : Bool) (ps : List Pn) (x : Kq) (w : World) (h : AR w q E M0 r Mm ca cc)
    (hr : ∀ w', Fr noB w w' → Calls Try.prog 26 #[mrV M] w' fun e w'' => e = .returned (.bool b) ∧ Fr noB w' w'')
    (hF : ∀ g, F g → M0 ≤ g ∧ g < w.heap.size) (hFE : ∀ g, F g → ¬ E g)
    (hm7 : r.bad b M = false → M.k = 7 → M.qn = ps.length ∧ RdPsD w F (.slice M.qa M.qn M.qc) ps ∧ ps.length ≤ 100)
    (hm6 : r.bad b M = false → M.k = 6 → M = x.mr r.tr r.jb ∧ RdSp w (.slice x.sa x.sp.length x.sc) x.sp ∧ (x.sp ≠ [] → ∀ g o, x.sa = some ⟨g, o, none⟩ → g < M0) ∧ r.K.length < 1000) :
    Calls Try.prog 11 #[.pointer (some ⟨q, 0, none⟩), mrV M] w fun e w' => HearR e w w' q E F M0 (r.hearB b M ps x).1 (r.hearB b M ps x).2 := by
  obtain ⟨R, hR⟩ : ∃ R, r.hearB b M ps x = R := ⟨_, rfl⟩
  rw [hR]
  obtain ⟨v, hv⟩ : ∃ v, r.bad b M = v := ⟨_, rfl⟩
  unfold mrV mrC at hr ⊢
  have fX := (Fr.refl noB w).alloc (.cells #[.int .i64 M.k, .int .i64 M.a, .int .i64 M.t, .int .i64 M.j, .int .i64 M.c, .int .i64 M.i, .int .i64 M.n, .int .i64 M.pa, .int .i64 M.pt, .int .i64 M.pj, .int .i64 M.pc, .slice M.ua M.un M.uc, .bool M.lo, .slice M.qa M.qn M.qc, .slice M.sa M.sn M.sc] 34)
  have bX := Blk.new w 34 [.int .i64 M.k, .int .i64 M.a, .int .i64 M.t, .int .i64 M.j, .int .i64 M.c, .int .i64 M.i, .int .i64 M.n, .int .i64 M.pa, .int .i64 M.pt, .int .i64 M.pj, .int .i64 M.pc, .slice M.ua M.un M.uc, .bool M.lo, .slice M.qa M.qn M.qc, .slice M.sa M.sn M.sc]
  obtain ⟨gX, hgX⟩ : ∃ g, w.heap.size = g := ⟨_, rfl⟩
  rw [hgX] at bX
  have hEw : ∀ g, E g → g < w.heap.size := fun g hg => (h.lo g hg).2
  replace hEw := Lib.hid hEw
  have hqX : q < gX := by rw [← hgX]; exact h.blk.lt
  replace hr := Lib.hid hr
  replace hR := Lib.hid hR
  replace hv := Lib.hid hv
  replace hm7 := Lib.hid hm7
  replace hm6 := Lib.hid hm6
  replace hF := Lib.hid hF
  replace hFE := Lib.hid hFE
  replace h := Lib.hid h
  go_enter Try.func11, Try.ntmps11
  go_upto_region 1 with fail
  try rw [hgX]
  replace hgX := Lib.hid hgX
  generalize (w.alloc (.cells #[.int .i64 M.k, .int .i64 M.a, .int .i64 M.t, .int .i64 M.j, .int .i64 M.c, .int .i64 M.i, .int .i64 M.n, .int .i64 M.pa, .int .i64 M.pt, .int .i64 M.pj, .int .i64 M.pc, .slice M.ua M.un M.uc, .bool M.lo, .slice M.qa M.qn M.qc, .slice M.sa M.sn M.sc] 34)) = wX at *
  have hS : ∀ w', Fr noB wX w' → (w'.cell? ⟨gX, 0, none⟩ = some (.int .i64 M.k) ∧ w'.cell? ⟨gX, 1, none⟩ = some (.int .i64 M.a) ∧ w'.cell? ⟨gX, 2, none⟩ = some (.int .i64 M.t) ∧ w'.cell? ⟨gX, 3, none⟩ = some (.int .i64 M.j) ∧ w'.cell? ⟨gX, 4, none⟩ = some (.int .i64 M.c) ∧ w'.cell? ⟨gX, 5, none⟩ = some (.int .i64 M.i) ∧ w'.cell? ⟨gX, 6, none⟩ = some (.int .i64 M.n) ∧ w'.cell? ⟨gX, 7, none⟩ = some (.int .i64 M.pa) ∧ w'.cell? ⟨gX, 8, none⟩ = some (.int .i64 M.pt) ∧ w'.cell? ⟨gX, 9, none⟩ = some (.int .i64 M.pj) ∧ w'.cell? ⟨gX, 10, none⟩ = some (.int .i64 M.pc) ∧ w'.cell? ⟨gX, 11, none⟩ = some (.slice M.ua M.un M.uc) ∧ w'.cell? ⟨gX, 12, none⟩ = some (.bool M.lo) ∧ w'.cell? ⟨gX, 13, none⟩ = some (.slice M.qa M.qn M.qc) ∧ w'.cell? ⟨gX, 14, none⟩ = some (.slice M.sa M.sn M.sc)) ∧ w'.cell? ⟨q, 0, none⟩ = some (.int .i64 r.tr) ∧ w'.cell? ⟨q, 1, none⟩ = some (.int .i64 r.jb) := fun w' f => by
    have bb := f.blk bX (fun q => q)
    have hA := (h.out.frN (fX.seqN f)).blk
    exact ⟨⟨bb.cell 0, bb.cell 1, bb.cell 2, bb.cell 3, bb.cell 4, bb.cell 5, bb.cell 6, bb.cell 7, bb.cell 8, bb.cell 9, bb.cell 10, bb.cell 11, bb.cell 12, bb.cell 13, bb.cell 14⟩, hA.cell 0, hA.cell 1⟩
  replace hS := Lib.hid hS
  replace fX := Lib.hid fX
  replace bX := Lib.hid bX
  go_cut [36] from 6 to 36 (fun cv wx => cv = .bool v ∧ Fr noB wX wx)
  case first =>
    cases hb : b with
    | false =>
      subst hb
      obtain rfl : v = true := by rw [← hv.out]; unfold RS.bad; rfl
      try replace ht := Lib.hid ht
      try replace hj := Lib.hid hj
      try replace hk6 := Lib.hid hk6
      try replace hk7 := Lib.hid hk7
      go_wp2_with fail
      refine wp_region_held_drew (S := fun w' => (w'.cell? ⟨gX, 0, none⟩ = some (.int .i64 M.k) ∧ w'.cell? ⟨gX, 1, none⟩ = some (.int .i64 M.a) ∧ w'.cell? ⟨gX, 2, none⟩ = some (.int .i64 M.t) ∧ w'.cell? ⟨gX, 3, none⟩ = some (.int .i64 M.j) ∧ w'.cell? ⟨gX, 4, none⟩ = some (.int .i64 M.c) ∧ w'.cell? ⟨gX, 5, none⟩ = some (.int .i64 M.i) ∧ w'.cell? ⟨gX, 6, none⟩ = some (.int .i64 M.n) ∧ w'.cell? ⟨gX, 7, none⟩ = some (.int .i64 M.pa) ∧ w'.cell? ⟨gX, 8, none⟩ = some (.int .i64 M.pt) ∧ w'.cell? ⟨gX, 9, none⟩ = some (.int .i64 M.pj) ∧ w'.cell? ⟨gX, 10, none⟩ = some (.int .i64 M.pc) ∧ w'.cell? ⟨gX, 11, none⟩ = some (.slice M.ua M.un M.uc) ∧ w'.cell? ⟨gX, 12, none⟩ = some (.bool M.lo) ∧ w'.cell? ⟨gX, 13, none⟩ = some (.slice M.qa M.qn M.qc) ∧ w'.cell? ⟨gX, 14, none⟩ = some (.slice M.sa M.sn M.sc)) ∧ w'.cell? ⟨q, 0, none⟩ = some (.int .i64 r.tr) ∧ w'.cell? ⟨q, 1, none⟩ = some (.int .i64 r.jb)) (by kernel_rfl) (hS.out _ ((Fr.refl noB wX).drewN 1)) (fun hHeld => ?_)
      (refine wpAnyH_take (i := 0) (oi := ?_) (v := ?_) ?_ (by kernel_rfl) (by kernel_rfl) (by kernel_rfl) ?_ ?_ (by assumption) ?_; rotate_left 2; (focus ((simp only [List.getElem?_toArray, List.getElem?_cons_succ, List.getElem?_cons_zero]); try rfl)); (focus (exact (fun _ _ _ h => h))); (focus (refine Or.inl ⟨by rfl, ?_⟩; intro w hSw; (try dsimp only at hSw); go_simp; try with_reducible rfl)); try simp only [Act.put, List.setIfInBounds_toArray, List.set_cons_zero, List.set_cons_succ])
      refine wpAnyH_ready (rs := [1]) (by kernel_rfl) (by simp) (AllReadyH.cons rfl (fun K hK => ?_) AllReadyH.nil)
      go_simp
      go_at_call 26; refine (hr.out _ (fX.out.seqN ((Fr.refl noB _).drewN 1))).mono ?_; rintro e w5 ⟨rfl, f5⟩; have fq := ((Fr.refl noB wX).drewN 1).seqN f5
      go_wp2_with fail
      refine hK.out _ _ (hS.out _ fq) (fun hHeld => ?_)
      clear hK K
      try simp only [Act.put, List.setIfInBounds_toArray, List.set_cons_zero, List.set_cons_succ]
      (refine wpAnyH_take (i := 2) (oi := ?_) (v := ?_) ?_ (by kernel_rfl) (by kernel_rfl) (by kernel_rfl) ?_ ?_ (by assumption) ?_; rotate_left 2; (focus ((simp only [List.getElem?_toArray, List.getElem?_cons_succ, List.getElem?_cons_zero]); try rfl)); (focus (exact (fun _ _ _ h => h))); (focus (refine Or.inl ⟨by rfl, ?_⟩; intro w hSw; (try dsimp only at hSw); go_simp; try with_reducible rfl)); try simp only [Act.put, List.setIfInBounds_toArray, List.set_cons_zero, List.set_cons_succ])
      (refine wpAnyH_take (i := 3) (oi := ?_) (v := ?_) ?_ (by kernel_rfl) (by kernel_rfl) (by kernel_rfl) ?_ ?_ (by assumption) ?_; rotate_left 2; (focus ((simp only [List.getElem?_toArray, List.getElem?_cons_succ, List.getElem?_cons_zero]); try rfl)); (focus (exact (fun _ _ _ h => h))); (focus (refine Or.inl ⟨by rfl, ?_⟩; intro w hSw; (try dsimp only at hSw); go_simp; try with_reducible rfl)); try simp only [Act.put, List.setIfInBounds_toArray, List.set_cons_zero, List.set_cons_succ])
      (refine wpAnyH_take (i := 4) (oi := ?_) (v := undef) ?_ (by kernel_rfl) (by kernel_rfl) (by kernel_rfl) ?_ ?_ (by assumption) ?_; rotate_left 1; (focus ((simp only [List.getElem?_toArray, List.getElem?_cons_succ, List.getElem?_cons_zero]); try rfl)); (focus (exact (fun _ _ _ h => h))); (focus (exact Or.inr ⟨by rfl, rfl⟩)); try simp only [Act.put, List.setIfInBounds_toArray, List.set_cons_zero, List.set_cons_succ])
      (refine wpAnyH_take (i := 5) (oi := ?_) (v := undef) ?_ (by kernel_rfl) (by kernel_rfl) (by kernel_rfl) ?_ ?_ (by assumption) ?_; rotate_left 1; (focus ((simp only [List.getElem?_toArray, List.getElem?_cons_succ, List.getElem?_cons_zero]); try rfl)); (focus (exact (fun _ _ _ h => h))); (focus (exact Or.inr ⟨by rfl, rfl⟩)); try simp only [Act.put, List.setIfInBounds_toArray, List.set_cons_zero, List.set_cons_succ])
      (refine wpAnyH_take (i := 6) (oi := ?_) (v := undef) ?_ (by kernel_rfl) (by kernel_rfl) (by kernel_rfl) ?_ ?_ (by assumption) ?_; rotate_left 1; (focus ((simp only [List.getElem?_toArray, List.getElem?_cons_succ, List.getElem?_cons_zero]); try rfl)); (focus (exact (fun _ _ _ h => h))); (focus (exact Or.inr ⟨by rfl, rfl⟩)); try simp only [Act.put, List.setIfInBounds_toArray, List.set_cons_zero, List.set_cons_succ])
      (refine wpAnyH_take (i := 7) (oi := ?_) (v := undef) ?_ (by kernel_rfl) (by kernel_rfl) (by kernel_rfl) ?_ ?_ (by assumption) ?_; rotate_left 1; (focus ((simp only [List.getElem?_toArray, List.getElem?_cons_succ, List.getElem?_cons_zero]); try rfl)); (focus (exact (fun _ _ _ h => h))); (focus (exact Or.inr ⟨by rfl, rfl⟩)); try simp only [Act.put, List.setIfInBounds_toArray, List.set_cons_zero, List.set_cons_succ])
      (refine wpAnyH_take (i := 8) (oi := ?_) (v := undef) ?_ (by kernel_rfl) (by kernel_rfl) (by kernel_rfl) ?_ ?_ (by assumption) ?_; rotate_left 1; (focus ((simp only [List.getElem?_toArray, List.getElem?_cons_succ, List.getElem?_cons_zero]); try rfl)); (focus (exact (fun _ _ _ h => h))); (focus (exact Or.inr ⟨by rfl, rfl⟩)); try simp only [Act.put, List.setIfInBounds_toArray, List.set_cons_zero, List.set_cons_succ])
      (refine wpAnyH_take (i := 9) (oi := ?_) (v := undef) ?_ (by kernel_rfl) (by kernel_rfl) (by kernel_rfl) ?_ ?_ (by assumption) ?_; rotate_left 1; (focus ((simp only [List.getElem?_toArray, List.getElem?_cons_succ, List.getElem?_cons_zero]); try rfl)); (focus (exact (fun _ _ _ h => h))); (focus (exact Or.inr ⟨by rfl, rfl⟩)); try simp only [Act.put, List.setIfInBounds_toArray, List.set_cons_zero, List.set_cons_succ])
      (refine wpAnyH_take (i := 10) (oi := ?_) (v := undef) ?_ (by kernel_rfl) (by kernel_rfl) (by kernel_rfl) ?_ ?_ (by assumption) ?_; rotate_left 1; (focus ((simp only [List.getElem?_toArray, List.getElem?_cons_succ, List.getElem?_cons_zero]); try rfl)); (focus (exact (fun _ _ _ h => h))); (focus (exact Or.inr ⟨by rfl, rfl⟩)); try simp only [Act.put, List.setIfInBounds_toArray, List.set_cons_zero, List.set_cons_succ])
      (refine wpAnyH_take (i := 11) (oi := ?_) (v := undef) ?_ (by kernel_rfl) (by kernel_rfl) (by kernel_rfl) ?_ ?_ (by assumption) ?_; rotate_left 1; (focus ((simp only [List.getElem?_toArray, List.getElem?_cons_succ, List.getElem?_cons_zero]); try rfl)); (focus (exact (fun _ _ _ h => h))); (focus (exact Or.inr ⟨by rfl, rfl⟩)); try simp only [Act.put, List.setIfInBounds_toArray, List.set_cons_zero, List.set_cons_succ])
      (refine wpAnyH_take (i := 12) (oi := ?_) (v := ?_) ?_ (by kernel_rfl) (by kernel_rfl) (by kernel_rfl) ?_ ?_ (by assumption) ?_; rotate_left 2; (focus ((simp only [List.getElem?_toArray, List.getElem?_cons_succ, List.getElem?_cons_zero]); try rfl)); (focus (exact (fun _ _ _ h => h))); (focus (refine Or.inl ⟨by rfl, ?_⟩; intro w hSw; (try dsimp only at hSw); go_simp; try with_reducible rfl)); try simp only [Act.put, List.setIfInBounds_toArray, List.set_cons_zero, List.set_cons_succ])
      (refine wpAnyH_take (i := 13) (oi := ?_) (v := ?_) ?_ (by kernel_rfl) (by kernel_rfl) (by kernel_rfl) ?_ ?_ (by assumption) ?_; rotate_left 2; (focus ((simp only [List.getElem?_toArray, List.getElem?_cons_succ, List.getElem?_cons_zero]); try rfl)); (focus (exact (fun _ _ _ h => h))); (focus (refine Or.inl ⟨by rfl, ?_⟩; intro w hSw; (try dsimp only at hSw); go_simp; try with_reducible rfl)); try simp only [Act.put, List.setIfInBounds_toArray, List.set_cons_zero, List.set_cons_succ])
      (refine wpAnyH_take (i := 14) (oi := ?_) (v := undef) ?_ (by kernel_rfl) (by kernel_rfl) (by kernel_rfl) ?_ ?_ (by assumption) ?_; rotate_left 1; (focus ((simp only [List.getElem?_toArray, List.getElem?_cons_succ, List.getElem?_cons_zero]); try rfl)); (focus (exact (fun _ _ _ h => h))); (focus (exact Or.inr ⟨by rfl, rfl⟩)); try simp only [Act.put, List.setIfInBounds_toArray, List.set_cons_zero, List.set_cons_succ])
      (refine wpAnyH_take (i := 15) (oi := ?_) (v := undef) ?_ (by kernel_rfl) (by kernel_rfl) (by kernel_rfl) ?_ ?_ (by assumption) ?_; rotate_left 1; (focus ((simp only [List.getElem?_toArray, List.getElem?_cons_succ, List.getElem?_cons_zero]); try rfl)); (focus (exact (fun _ _ _ h => h))); (focus (exact Or.inr ⟨by rfl, rfl⟩)); try simp only [Act.put, List.setIfInBounds_toArray, List.set_cons_zero, List.set_cons_succ])
      (refine wpAnyH_take (i := 16) (oi := ?_) (v := undef) ?_ (by kernel_rfl) (by kernel_rfl) (by kernel_rfl) ?_ ?_ (by assumption) ?_; rotate_left 1; (focus ((simp only [List.getElem?_toArray, List.getElem?_cons_succ, List.getElem?_cons_zero]); try rfl)); (focus (exact (fun _ _ _ h => h))); (focus (exact Or.inr ⟨by rfl, rfl⟩)); try simp only [Act.put, List.setIfInBounds_toArray, List.set_cons_zero, List.set_cons_succ])
      (refine wpAnyH_take (i := 17) (oi := ?_) (v := undef) ?_ (by kernel_rfl) (by kernel_rfl) (by kernel_rfl) ?_ ?_ (by assumption) ?_; rotate_left 1; (focus ((simp only [List.getElem?_toArray, List.getElem?_cons_succ, List.getElem?_cons_zero]); try rfl)); (focus (exact (fun _ _ _ h => h))); (focus (exact Or.inr ⟨by rfl, rfl⟩)); try simp only [Act.put, List.setIfInBounds_toArray, List.set_cons_zero, List.set_cons_succ])
      (refine wpAnyH_take (i := 18) (oi := ?_) (v := undef) ?_ (by kernel_rfl) (by kernel_rfl) (by kernel_rfl) ?_ ?_ (by assumption) ?_; rotate_left 1; (focus ((simp only [List.getElem?_toArray, List.getElem?_cons_succ, List.getElem?_cons_zero]); try rfl)); (focus (exact (fun _ _ _ h => h))); (focus (exact Or.inr ⟨by rfl, rfl⟩)); try simp only [Act.put, List.setIfInBounds_toArray, List.set_cons_zero, List.set_cons_succ])
      (refine wpAnyH_take (i := 19) (oi := ?_) (v := undef) ?_ (by kernel_rfl) (by kernel_rfl) (by kernel_rfl) ?_ ?_ (by assumption) ?_; rotate_left 1; (focus ((simp only [List.getElem?_toArray, List.getElem?_cons_succ, List.getElem?_cons_zero]); try rfl)); (focus (exact (fun _ _ _ h => h))); (focus (exact Or.inr ⟨by rfl, rfl⟩)); try simp only [Act.put, List.setIfInBounds_toArray, List.set_cons_zero, List.set_cons_succ])
      (refine wpAnyH_take (i := 20) (oi := ?_) (v := undef) ?_ (by kernel_rfl) (by kernel_rfl) (by kernel_rfl) ?_ ?_ (by assumption) ?_; rotate_left 1; (focus ((simp only [List.getElem?_toArray, List.getElem?_cons_succ, List.getElem?_cons_zero]); try rfl)); (focus (exact (fun _ _ _ h => h))); (focus (exact Or.inr ⟨by rfl, rfl⟩)); try simp only [Act.put, List.setIfInBounds_toArray, List.set_cons_zero, List.set_cons_succ])
      (refine wpAnyH_take (i := 21) (oi := ?_) (v := ?_) ?_ (by kernel_rfl) (by kernel_rfl) (by kernel_rfl) ?_ ?_ (by assumption) ?_; rotate_left 2; (focus ((simp only [List.getElem?_toArray, List.getElem?_cons_succ, List.getElem?_cons_zero]); try rfl)); (focus (exact (fun _ _ _ h => h))); (focus (refine Or.inl ⟨by rfl, ?_⟩; intro w hSw; (try dsimp only at hSw); go_simp; try with_reducible rfl)); try simp only [Act.put, List.setIfInBounds_toArray, List.set_cons_zero, List.set_cons_succ])
      (refine wpAnyH_take (i := 22) (oi := ?_) (v := ?_) ?_ (by kernel_rfl) (by kernel_rfl) (by kernel_rfl) ?_ ?_ (by assumption) ?_; rotate_left 2; (focus ((simp only [List.getElem?_toArray, List.getElem?_cons_succ, List.getElem?_cons_zero]); try rfl)); (focus (exact (fun _ _ _ h => h))); (focus (refine Or.inl ⟨by rfl, ?_⟩; intro w hSw; (try dsimp only at hSw); go_simp; try with_reducible rfl)); try simp only [Act.put, List.setIfInBounds_toArray, List.set_cons_zero, List.set_cons_succ])
      (refine wpAnyH_take (i := 23) (oi := ?_) (v := undef) ?_ (by kernel_rfl) (by kernel_rfl) (by kernel_rfl) ?_ ?_ (by assumption) ?_; rotate_left 1; (focus ((simp only [List.getElem?_toArray, List.getElem?_cons_succ, List.getElem?_cons_zero]); try rfl)); (focus (exact (fun _ _ _ h => h))); (focus (exact Or.inr ⟨by rfl, rfl⟩)); try simp only [Act.put, List.setIfInBounds_toArray, List.set_cons_zero, List.set_cons_succ])
      (refine wpAnyH_take (i := 24) (oi := ?_) (v := undef) ?_ (by kernel_rfl) (by kernel_rfl) (by kernel_rfl) ?_ ?_ (by assumption) ?_; rotate_left 1; (focus ((simp only [List.getElem?_toArray, List.getElem?_cons_succ, List.getElem?_cons_zero]); try rfl)); (focus (exact (fun _ _ _ h => h))); (focus (exact Or.inr ⟨by rfl, rfl⟩)); try simp only [Act.put, List.setIfInBounds_toArray, List.set_cons_zero, List.set_cons_succ])
      (refine wpAnyH_take (i := 25) (oi := ?_) (v := undef) ?_ (by kernel_rfl) (by kernel_rfl) (by kernel_rfl) ?_ ?_ (by assumption) ?_; rotate_left 1; (focus ((simp only [List.getElem?_toArray, List.getElem?_cons_succ, List.getElem?_cons_zero]); try rfl)); (focus (exact (fun _ _ _ h => h))); (focus (exact Or.inr ⟨by rfl, rfl⟩)); try simp only [Act.put, List.setIfInBounds_toArray, List.set_cons_zero, List.set_cons_succ])
      (refine wpAnyH_take (i := 26) (oi := ?_) (v := undef) ?_ (by kernel_rfl) (by kernel_rfl) (by kernel_rfl) ?_ ?_ (by assumption) ?_; rotate_left 1; (focus ((simp only [List.getElem?_toArray, List.getElem?_cons_succ, List.getElem?_cons_zero]); try rfl)); (focus (exact (fun _ _ _ h => h))); (focus (exact Or.inr ⟨by rfl, rfl⟩)); try simp only [Act.put, List.setIfInBounds_toArray, List.set_cons_zero, List.set_cons_succ])
      (refine wpAnyH_take (i := 27) (oi := ?_) (v := undef) ?_ (by kernel_rfl) (by kernel_rfl) (by kernel_rfl) ?_ ?_ (by assumption) ?_; rotate_left 1; (focus ((simp only [List.getElem?_toArray, List.getElem?_cons_succ, List.getElem?_cons_zero]); try rfl)); (focus (exact (fun _ _ _ h => h))); (focus (exact Or.inr ⟨by rfl, rfl⟩)); try simp only [Act.put, List.setIfInBounds_toArray, List.set_cons_zero, List.set_cons_succ])
      (refine wpAnyH_take (i := 28) (oi := ?_) (v := undef) ?_ (by kernel_rfl) (by kernel_rfl) (by kernel_rfl) ?_ ?_ (by assumption) ?_; rotate_left 1; (focus ((simp only [List.getElem?_toArray, List.getElem?_cons_succ, List.getElem?_cons_zero]); try rfl)); (focus (exact (fun _ _ _ h => h))); (focus (exact Or.inr ⟨by rfl, rfl⟩)); try simp only [Act.put, List.setIfInBounds_toArray, List.set_cons_zero, List.set_cons_succ])
      (refine wpAnyH_take (i := 29) (oi := ?_) (v := undef) ?_ (by kernel_rfl) (by kernel_rfl) (by kernel_rfl) ?_ ?_ (by assumption) ?_; rotate_left 1; (focus ((simp only [List.getElem?_toArray, List.getElem?_cons_succ, List.getElem?_cons_zero]); try rfl)); (focus (exact (fun _ _ _ h => h))); (focus (exact Or.inr ⟨by rfl, rfl⟩)); try simp only [Act.put, List.setIfInBounds_toArray, List.set_cons_zero, List.set_cons_succ])
      (refine wpAnyH_take (i := 30) (oi := ?_) (v := ?_) ?_ (by kernel_rfl) (by kernel_rfl) (by kernel_rfl) ?_ ?_ (by assumption) ?_; rotate_left 2; (focus ((simp only [List.getElem?_toArray, List.getElem?_cons_succ, List.getElem?_cons_zero]); try rfl)); (focus (exact (fun _ _ _ h => h))); (focus (refine Or.inl ⟨by rfl, ?_⟩; intro w hSw; (try dsimp only at hSw); go_simp; try with_reducible rfl)); try simp only [Act.put, List.setIfInBounds_toArray, List.set_cons_zero, List.set_cons_succ])
      refine wpAnyH_done (by kernel_rfl) ?_ _
      go_wp2_with fail
      go_meet
      exact ⟨rfl, fq⟩
    | true =>
      subst hb
      by_cases hk6 : M.k = 6
      · have e6 : (M.k != 6) = false := by rw [hk6]; rfl
        by_cases ht : M.t = r.tr
        · have et : (M.t != r.tr) = false := by rw [ht]; simp
          by_cases hj : M.j = r.jb
          · have ej : (M.j != r.jb) = false := by rw [hj]; simp
            obtain rfl : v = false := by rw [← hv.out]; unfold RS.bad; simp [hk6, ht, hj]
            try replace ht := Lib.hid ht
            try replace hj := Lib.hid hj
            try replace hk6 := Lib.hid hk6
            try replace hk7 := Lib.hid hk7
            go_wp2_with fail
            refine wp_region_held_drew (S := fun w' => (w'.cell? ⟨gX, 0, none⟩ = some (.int .i64 M.k) ∧ w'.cell? ⟨gX, 1, none⟩ = some (.int .i64 M.a) ∧ w'.cell? ⟨gX, 2, none⟩ = some (.int .i64 M.t) ∧ w'.cell? ⟨gX, 3, none⟩ = some (.int .i64 M.j) ∧ w'.cell? ⟨gX, 4, none⟩ = some (.int .i64 M.c) ∧ w'.cell? ⟨gX, 5, none⟩ = some (.int .i64 M.i) ∧ w'.cell? ⟨gX, 6, none⟩ = some (.int .i64 M.n) ∧ w'.cell? ⟨gX, 7, none⟩ = some (.int .i64 M.pa) ∧ w'.cell? ⟨gX, 8, none⟩ = some (.int .i64 M.pt) ∧ w'.cell? ⟨gX, 9, none⟩ = some (.int .i64 M.pj) ∧ w'.cell? ⟨gX, 10, none⟩ = some (.int .i64 M.pc) ∧ w'.cell? ⟨gX, 11, none⟩ = some (.slice M.ua M.un M.uc) ∧ w'.cell? ⟨gX, 12, none⟩ = some (.bool M.lo) ∧ w'.cell? ⟨gX, 13, none⟩ = some (.slice M.qa M.qn M.qc) ∧ w'.cell? ⟨gX, 14, none⟩ = some (.slice M.sa M.sn M.sc)) ∧ w'.cell? ⟨q, 0, none⟩ = some (.int .i64 r.tr) ∧ w'.cell? ⟨q, 1, none⟩ = some (.int .i64 r.jb)) (by kernel_rfl) (hS.out _ ((Fr.refl noB wX).drewN 1)) (fun hHeld => ?_)
            (refine wpAnyH_take (i := 0) (oi := ?_) (v := ?_) ?_ (by kernel_rfl) (by kernel_rfl) (by kernel_rfl) ?_ ?_ (by assumption) ?_; rotate_left 2; (focus ((simp only [List.getElem?_toArray, List.getElem?_cons_succ, List.getElem?_cons_zero]); try rfl)); (focus (exact (fun _ _ _ h => h))); (focus (refine Or.inl ⟨by rfl, ?_⟩; intro w hSw; (try dsimp only at hSw); go_simp; try with_reducible rfl)); try simp only [Act.put, List.setIfInBounds_toArray, List.set_cons_zero, List.set_cons_succ])
            refine wpAnyH_ready (rs := [1]) (by kernel_rfl) (by simp) (AllReadyH.cons rfl (fun K hK => ?_) AllReadyH.nil)
            go_simp
            go_at_call 26; refine (hr.out _ (fX.out.seqN ((Fr.refl noB _).drewN 1))).mono ?_; rintro e w5 ⟨rfl, f5⟩; have fq := ((Fr.refl noB wX).drewN 1).seqN f5
            go_wp2_with fail
            refine hK.out _ _ (hS.out _ fq) (fun hHeld => ?_)
            clear hK K
            try simp only [Act.put, List.setIfInBounds_toArray, List.set_cons_zero, List.set_cons_succ]
            (refine wpAnyH_take (i := 2) (oi := ?_) (v := ?_) ?_ (by kernel_rfl) (by kernel_rfl) (by kernel_rfl) ?_ ?_ (by assumption) ?_; rotate_left 2; (focus ((simp only [List.getElem?_toArray, List.getElem?_cons_succ, List.getElem?_cons_zero]); try rfl)); (focus (exact (fun _ _ _ h => h))); (focus (refine Or.inl ⟨by rfl, ?_⟩; intro w hSw; (try dsimp only at hSw); go_simp; try with_reducible rfl)); try simp only [Act.put, List.setIfInBounds_toArray, List.set_cons_zero, List.set_cons_succ])
            (refine wpAnyH_take (i := 3) (oi := ?_) (v := ?_) ?_ (by kernel_rfl) (by kernel_rfl) (by kernel_rfl) ?_ ?_ (by assumption) ?_; rotate_left 2; (focus ((simp only [List.getElem?_toArray, List.getElem?_cons_succ, List.getElem?_cons_zero]); try rfl)); (focus (exact (fun _ _ _ h => h))); (focus (refine Or.inl ⟨by rfl, ?_⟩; intro w hSw; (try dsimp only at hSw); go_simp; try with_reducible rfl)); try simp only [Act.put, List.setIfInBounds_toArray, List.set_cons_zero, List.set_cons_succ])
            (refine wpAnyH_take (i := 4) (oi := ?_) (v := ?_) ?_ (by kernel_rfl) (by kernel_rfl) (by kernel_rfl) ?_ ?_ (by assumption) ?_; rotate_left 2; (focus ((simp only [List.getElem?_toArray, List.getElem?_cons_succ, List.getElem?_cons_zero]); try rfl)); (focus (exact (fun _ _ _ h => h))); (focus (refine Or.inl ⟨by rfl, ?_⟩; intro w hSw; (try dsimp only at hSw); go_simp; try with_reducible rfl)); try simp only [Act.put, List.setIfInBounds_toArray, List.set_cons_zero, List.set_cons_succ])
            (refine wpAnyH_take (i := 5) (oi := ?_) (v := ?_) ?_ (by kernel_rfl) (by kernel_rfl) (by kernel_rfl) ?_ ?_ (by assumption) ?_; rotate_left 2; (focus ((simp only [List.getElem?_toArray, List.getElem?_cons_succ, List.getElem?_cons_zero]); try rfl)); (focus (exact (fun _ _ _ h => h))); (focus (refine Or.inl ⟨by rfl, ?_⟩; intro w hSw; (try dsimp only at hSw); go_simp; try with_reducible rfl)); try simp only [Act.put, List.setIfInBounds_toArray, List.set_cons_zero, List.set_cons_succ])
            (refine wpAnyH_take (i := 6) (oi := ?_) (v := ?_) ?_ (by kernel_rfl) (by kernel_rfl) (by kernel_rfl) ?_ ?_ (by assumption) ?_; rotate_left 2; (focus ((simp only [List.getElem?_toArray, List.getElem?_cons_succ, List.getElem?_cons_zero]); try rfl)); (focus (exact (fun _ _ _ h => h))); (focus (refine Or.inl ⟨by rfl, ?_⟩; intro w hSw; (try dsimp only at hSw); go_simp; try with_reducible rfl)); try simp only [Act.put, List.setIfInBounds_toArray, List.set_cons_zero, List.set_cons_succ])
            (refine wpAnyH_take (i := 7) (oi := ?_) (v := ?_) ?_ (by kernel_rfl) (by kernel_rfl) (by kernel_rfl) ?_ ?_ (by assumption) ?_; rotate_left 2; (focus ((simp only [List.getElem?_toArray, List.getElem?_cons_succ, List.getElem?_cons_zero]); try rfl)); (focus (exact (fun _ _ _ h => h))); (focus (refine Or.inl ⟨by rfl, ?_⟩; intro w hSw; (try dsimp only at hSw); go_simp; try with_reducible rfl)); try simp only [Act.put, List.setIfInBounds_toArray, List.set_cons_zero, List.set_cons_succ])
            (refine wpAnyH_take (i := 8) (oi := ?_) (v := undef) ?_ (by kernel_rfl) (by kernel_rfl) (by kernel_rfl) ?_ ?_ (by assumption) ?_; rotate_left 1; (focus ((simp only [List.getElem?_toArray, List.getElem?_cons_succ, List.getElem?_cons_zero]); try rfl)); (focus (exact (fun _ _ _ h => h))); (focus (exact Or.inr ⟨by rfl, rfl⟩)); try simp only [Act.put, List.setIfInBounds_toArray, List.set_cons_zero, List.set_cons_succ])
            (refine wpAnyH_take (i := 9) (oi := ?_) (v := undef) ?_ (by kernel_rfl) (by kernel_rfl) (by kernel_rfl) ?_ ?_ (by assumption) ?_; rotate_left 1; (focus ((simp only [List.getElem?_toArray, List.getElem?_cons_succ, List.getElem?_cons_zero]); try rfl)); (focus (exact (fun _ _ _ h => h))); (focus (exact Or.inr ⟨by rfl, rfl⟩)); try simp only [Act.put, List.setIfInBounds_toArray, List.set_cons_zero, List.set_cons_succ])
            (refine wpAnyH_take (i := 10) (oi := ?_) (v := undef) ?_ (by kernel_rfl) (by kernel_rfl) (by kernel_rfl) ?_ ?_ (by assumption) ?_; rotate_left 1; (focus ((simp only [List.getElem?_toArray, List.getElem?_cons_succ, List.getElem?_cons_zero]); try rfl)); (focus (exact (fun _ _ _ h => h))); (focus (exact Or.inr ⟨by rfl, rfl⟩)); try simp only [Act.put, List.setIfInBounds_toArray, List.set_cons_zero, List.set_cons_succ])
            (refine wpAnyH_take (i := 11) (oi := ?_) (v := ?_) ?_ (by kernel_rfl) (by kernel_rfl) (by kernel_rfl) ?_ ?_ (by assumption) ?_; rotate_left 2; (focus ((simp only [List.getElem?_toArray, List.getElem?_cons_succ, List.getElem?_cons_zero]); try rfl)); (focus (exact (fun _ _ _ h => h))); (focus (refine Or.inl ⟨by rfl, ?_⟩; intro w hSw; (try dsimp only at hSw); go_simp; try with_reducible rfl)); try simp only [Act.put, List.setIfInBounds_toArray, List.set_cons_zero, List.set_cons_succ])
            (refine wpAnyH_take (i := 12) (oi := ?_) (v := ?_) ?_ (by kernel_rfl) (by kernel_rfl) (by kernel_rfl) ?_ ?_ (by assumption) ?_; rotate_left 2; (focus ((simp only [List.getElem?_toArray, List.getElem?_cons_succ, List.getElem?_cons_zero]); try rfl)); (focus (exact (fun _ _ _ h => h))); (focus (refine Or.inl ⟨by rfl, ?_⟩; intro w hSw; (try dsimp only at hSw); go_simp; try with_reducible rfl)); try simp only [Act.put, List.setIfInBounds_toArray, List.set_cons_zero, List.set_cons_succ])
            (refine wpAnyH_take (i := 13) (oi := ?_) (v := ?_) ?_ (by kernel_rfl) (by kernel_rfl) (by kernel_rfl) ?_ ?_ (by assumption) ?_; rotate_left 2; (focus ((simp only [List.getElem?_toArray, List.getElem?_cons_succ, List.getElem?_cons_zero]); try rfl)); (focus (exact (fun _ _ _ h => h))); (focus (refine Or.inl ⟨by rfl, ?_⟩; intro w hSw; (try dsimp only at hSw); go_simp; try with_reducible rfl)); try simp only [Act.put, List.setIfInBounds_toArray, List.set_cons_zero, List.set_cons_succ])
            (refine wpAnyH_take (i := 14) (oi := ?_) (v := ?_) ?_ (by kernel_rfl) (by kernel_rfl) (by kernel_rfl) ?_ ?_ (by assumption) ?_; rotate_left 2; (focus ((simp only [List.getElem?_toArray, List.getElem?_cons_succ, List.getElem?_cons_zero]); try rfl)); (focus (exact (fun _ _ _ h => h))); (focus (refine Or.inl ⟨by rfl, ?_⟩; intro w hSw; (try dsimp only at hSw); go_simp; try with_reducible rfl)); try simp only [Act.put, List.setIfInBounds_toArray, List.set_cons_zero, List.set_cons_succ])
            (refine wpAnyH_take (i := 15) (oi := ?_) (v := ?_) ?_ (by kernel_rfl) (by kernel_rfl) (by kernel_rfl) ?_ ?_ (by assumption) ?_; rotate_left 2; (focus ((simp only [List.getElem?_toArray, List.getElem?_cons_succ, List.getElem?_cons_zero]); try rfl)); (focus (exact (fun _ _ _ h => h))); (focus (refine Or.inl ⟨by rfl, ?_⟩; intro w hSw; (try dsimp only at hSw); go_simp; try with_reducible rfl)); try simp only [Act.put, List.setIfInBounds_toArray, List.set_cons_zero, List.set_cons_succ])
            (refine wpAnyH_take (i := 16) (oi := ?_) (v := ?_) ?_ (by kernel_rfl) (by kernel_rfl) (by kernel_rfl) ?_ ?_ (by assumption) ?_; rotate_left 2; (focus ((simp only [List.getElem?_toArray, List.getElem?_cons_succ, List.getElem?_cons_zero]); try rfl)); (focus (exact (fun _ _ _ h => h))); (focus (refine Or.inl ⟨by rfl, ?_⟩; intro w hSw; (try dsimp only at hSw); go_simp; try with_reducible rfl)); try simp only [Act.put, List.setIfInBounds_toArray, List.set_cons_zero, List.set_cons_succ])
            (refine wpAnyH_take (i := 17) (oi := ?_) (v := ?_) ?_ (by kernel_rfl) (by kernel_rfl) (by kernel_rfl) ?_ ?_ (by assumption) ?_; rotate_left 2; (focus ((simp only [List.getElem?_toArray, List.getElem?_cons_succ, List.getElem?_cons_zero]); try rfl)); (focus (exact (fun _ _ _ h => h))); (focus (refine Or.inl ⟨by rfl, ?_⟩; intro w hSw; (try dsimp only at hSw); go_simp; try with_reducible rfl)); try simp only [Act.put, List.setIfInBounds_toArray, List.set_cons_zero, List.set_cons_succ])
            (refine wpAnyH_take (i := 18) (oi := ?_) (v := ?_) ?_ (by kernel_rfl) (by kernel_rfl) (by kernel_rfl) ?_ ?_ (by assumption) ?_; rotate_left 2; (focus ((simp only [List.getElem?_toArray, List.getElem?_cons_succ, List.getElem?_cons_zero]); try rfl)); (focus (exact (fun _ _ _ h => h))); (focus (refine Or.inl ⟨by rfl, ?_⟩; intro w hSw; (try dsimp only at hSw); go_simp; try with_reducible rfl)); try simp only [Act.put, List.setIfInBounds_toArray, List.set_cons_zero, List.set_cons_succ])
            (refine wpAnyH_take (i := 19) (oi := ?_) (v := ?_) ?_ (by kernel_rfl) (by kernel_rfl) (by kernel_rfl) ?_ ?_ (by assumption) ?_; rotate_left 2; (focus ((simp only [List.getElem?_toArray, List.getElem?_cons_succ, List.getElem?_cons_zero]); try rfl)); (focus (exact (fun _ _ _ h => h))); (focus (refine Or.inl ⟨by rfl, ?_⟩; intro w hSw; (try dsimp only at hSw); go_simp; try with_reducible rfl)); try simp only [Act.put, List.setIfInBounds_toArray, List.set_cons_zero, List.set_cons_succ])
            (refine wpAnyH_take (i := 20) (oi := ?_) (v := ?_) ?_ (by kernel_rfl) (by kernel_rfl) (by kernel_rfl) ?_ ?_ (by assumption) ?_; rotate_left 2; (focus ((simp only [List.getElem?_toArray, List.getElem?_cons_succ, List.getElem?_cons_zero]); try rfl)); (focus (exact (fun _ _ _ h => h))); (focus (refine Or.inl ⟨by rfl, ?_⟩; intro w hSw; (try dsimp only at hSw); go_simp; try with_reducible rfl)); try simp only [Act.put, List.setIfInBounds_toArray, List.set_cons_zero, List.set_cons_succ])
            (refine wpAnyH_take (i := 21) (oi := ?_) (v := ?_) ?_ (by kernel_rfl) (by kernel_rfl) (by kernel_rfl) ?_ ?_ (by assumption) ?_; rotate_left 2; (focus ((simp only [List.getElem?_toArray, List.getElem?_cons_succ, List.getElem?_cons_zero]); try rfl)); (focus (exact (fun _ _ _ h => h))); (focus (refine Or.inl ⟨by rfl, ?_⟩; intro w hSw; (try dsimp only at hSw); go_simp; try with_reducible rfl)); try simp only [Act.put, List.setIfInBounds_toArray, List.set_cons_zero, List.set_cons_succ])
            (refine wpAnyH_take (i := 22) (oi := ?_) (v := ?_) ?_ (by kernel_rfl) (by kernel_rfl) (by kernel_rfl) ?_ ?_ (by assumption) ?_; rotate_left 2; (focus ((simp only [List.getElem?_toArray, List.getElem?_cons_succ, List.getElem?_cons_zero]); try rfl)); (focus (exact (fun _ _ _ h => h))); (focus (refine Or.inl ⟨by rfl, ?_⟩; intro w hSw; (try dsimp only at hSw); go_simp; try with_reducible rfl)); try simp only [Act.put, List.setIfInBounds_toArray, List.set_cons_zero, List.set_cons_succ])
            (refine wpAnyH_take (i := 23) (oi := ?_) (v := ?_) ?_ (by kernel_rfl) (by kernel_rfl) (by kernel_rfl) ?_ ?_ (by assumption) ?_; rotate_left 2; (focus ((simp only [List.getElem?_toArray, List.getElem?_cons_succ, List.getElem?_cons_zero]); try rfl)); (focus (exact (fun _ _ _ h => h))); (focus (refine Or.inl ⟨by rfl, ?_⟩; intro w hSw; (try dsimp only at hSw); go_simp; try with_reducible rfl)); try simp only [Act.put, List.setIfInBounds_toArray, List.set_cons_zero, List.set_cons_succ])
            (refine wpAnyH_take (i := 24) (oi := ?_) (v := ?_) ?_ (by kernel_rfl) (by kernel_rfl) (by kernel_rfl) ?_ ?_ (by assumption) ?_; rotate_left 2; (focus ((simp only [List.getElem?_toArray, List.getElem?_cons_succ, List.getElem?_cons_zero]); try rfl)); (focus (exact (fun _ _ _ h => h))); (focus (refine Or.inl ⟨by rfl, ?_⟩; intro w hSw; (try dsimp only at hSw); go_simp; try with_reducible rfl)); try simp only [Act.put, List.setIfInBounds_toArray, List.set_cons_zero, List.set_cons_succ])
            (refine wpAnyH_take (i := 25) (oi := ?_) (v := ?_) ?_ (by kernel_rfl) (by kernel_rfl) (by kernel_rfl) ?_ ?_ (by assumption) ?_; rotate_left 2; (focus ((simp only [List.getElem?_toArray, List.getElem?_cons_succ, List.getElem?_cons_zero]); try rfl)); (focus (exact (fun _ _ _ h => h))); (focus (refine Or.inl ⟨by rfl, ?_⟩; intro w hSw; (try dsimp only at hSw); go_simp; try with_reducible rfl)); try simp only [Act.put, List.setIfInBounds_toArray, List.set_cons_zero, List.set_cons_succ])
            (refine wpAnyH_take (i := 26) (oi := ?_) (v := ?_) ?_ (by kernel_rfl) (by kernel_rfl) (by kernel_rfl) ?_ ?_ (by assumption) ?_; rotate_left 2; (focus ((simp only [List.getElem?_toArray, List.getElem?_cons_succ, List.getElem?_cons_zero]); try rfl)); (focus (exact (fun _ _ _ h => h))); (focus (refine Or.inl ⟨by rfl, ?_⟩; intro w hSw; (try dsimp only at hSw); go_simp; try with_reducible rfl)); try simp only [Act.put, List.setIfInBounds_toArray, List.set_cons_zero, List.set_cons_succ])
            (refine wpAnyH_take (i := 27) (oi := ?_) (v := ?_) ?_ (by kernel_rfl) (by kernel_rfl) (by kernel_rfl) ?_ ?_ (by assumption) ?_; rotate_left 2; (focus ((simp only [List.getElem?_toArray, List.getElem?_cons_succ, List.getElem?_cons_zero]); try rfl)); (focus (exact (fun _ _ _ h => h))); (focus (refine Or.inl ⟨by rfl, ?_⟩; intro w hSw; (try dsimp only at hSw); go_simp; try with_reducible rfl)); try simp only [Act.put, List.setIfInBounds_toArray, List.set_cons_zero, List.set_cons_succ])
            (refine wpAnyH_take (i := 28) (oi := ?_) (v := ?_) ?_ (by kernel_rfl) (by kernel_rfl) (by kernel_rfl) ?_ ?_ (by assumption) ?_; rotate_left 2; (focus ((simp only [List.getElem?_toArray, List.getElem?_cons_succ, List.getElem?_cons_zero]); try rfl)); (focus (exact (fun _ _ _ h => h))); (focus (refine Or.inl ⟨by rfl, ?_⟩; intro w hSw; (try dsimp only at hSw); go_simp; try with_reducible rfl)); try simp only [Act.put, List.setIfInBounds_toArray, List.set_cons_zero, List.set_cons_succ])
            (refine wpAnyH_take (i := 29) (oi := ?_) (v := ?_) ?_ (by kernel_rfl) (by kernel_rfl) (by kernel_rfl) ?_ ?_ (by assumption) ?_; rotate_left 2; (focus ((simp only [List.getElem?_toArray, List.getElem?_cons_succ, List.getElem?_cons_zero]); try rfl)); (focus (exact (fun _ _ _ h => h))); (focus (refine Or.inl ⟨by rfl, ?_⟩; intro w hSw; (try dsimp only at hSw); go_simp; try with_reducible rfl)); try simp only [Act.put, List.setIfInBounds_toArray, List.set_cons_zero, List.set_cons_succ])
            (refine wpAnyH_take (i := 30) (oi := ?_) (v := ?_) ?_ (by kernel_rfl) (by kernel_rfl) (by kernel_rfl) ?_ ?_ (by assumption) ?_; rotate_left 2; (focus ((simp only [List.getElem?_toArray, List.getElem?_cons_succ, List.getElem?_cons_zero]); try rfl)); (focus (exact (fun _ _ _ h => h))); (focus (refine Or.inl ⟨by rfl, ?_⟩; intro w hSw; (try dsimp only at hSw); go_simp; try with_reducible rfl)); try simp only [Act.put, List.setIfInBounds_toArray, List.set_cons_zero, List.set_cons_succ])
            refine wpAnyH_done (by kernel_rfl) ?_ _
            go_wp2_with fail
            go_meet
            exact ⟨rfl, fq⟩
          · have ej : (M.j != r.jb) = true := by simpa using hj
            obtain rfl : v = true := by rw [← hv.out]; unfold RS.bad; simp [hj]
            try replace ht := Lib.hid ht
            try replace hj := Lib.hid hj
            try replace hk6 := Lib.hid hk6
            try replace hk7 := Lib.hid hk7
            go_wp2_with fail
            refine wp_region_held_drew (S := fun w' => (w'.cell? ⟨gX, 0, none⟩ = some (.int .i64 M.k) ∧ w'.cell? ⟨gX, 1, none⟩ = some (.int .i64 M.a) ∧ w'.cell? ⟨gX, 2, none⟩ = some (.int .i64 M.t) ∧ w'.cell? ⟨gX, 3, none⟩ = some (.int .i64 M.j) ∧ w'.cell? ⟨gX, 4, none⟩ = some (.int .i64 M.c) ∧ w'.cell? ⟨gX, 5, none⟩ = some (.int .i64 M.i) ∧ w'.cell? ⟨gX, 6, none⟩ = some (.int .i64 M.n) ∧ w'.cell? ⟨gX, 7, none⟩ = some (.int .i64 M.pa) ∧ w'.cell? ⟨gX, 8, none⟩ = some (.int .i64 M.pt) ∧ w'.cell? ⟨gX, 9, none⟩ = some (.int .i64 M.pj) ∧ w'.cell? ⟨gX, 10, none⟩ = some (.int .i64 M.pc) ∧ w'.cell? ⟨gX, 11, none⟩ = some (.slice M.ua M.un M.uc) ∧ w'.cell? ⟨gX, 12, none⟩ = some (.bool M.lo) ∧ w'.cell? ⟨gX, 13, none⟩ = some (.slice M.qa M.qn M.qc) ∧ w'.cell? ⟨gX, 14, none⟩ = some (.slice M.sa M.sn M.sc)) ∧ w'.cell? ⟨q, 0, none⟩ = some (.int .i64 r.tr) ∧ w'.cell? ⟨q, 1, none⟩ = some (.int .i64 r.jb)) (by kernel_rfl) (hS.out _ ((Fr.refl noB wX).drewN 1)) (fun hHeld => ?_)
            (refine wpAnyH_take (i := 0) (oi := ?_) (v := ?_) ?_ (by kernel_rfl) (by kernel_rfl) (by kernel_rfl) ?_ ?_ (by assumption) ?_; rotate_left 2; (focus ((simp only [List.getElem?_toArray, List.getElem?_cons_succ, List.getElem?_cons_zero]); try rfl)); (focus (exact (fun _ _ _ h => h))); (focus (refine Or.inl ⟨by rfl, ?_⟩; intro w hSw; (try dsimp only at hSw); go_simp; try with_reducible rfl)); try simp only [Act.put, List.setIfInBounds_toArray, List.set_cons_zero, List.set_cons_succ])
            refine wpAnyH_ready (rs := [1]) (by kernel_rfl) (by simp) (AllReadyH.cons rfl (fun K hK => ?_) AllReadyH.nil)
            go_simp
            go_at_call 26; refine (hr.out _ (fX.out.seqN ((Fr.refl noB _).drewN 1))).mono ?_; rintro e w5 ⟨rfl, f5⟩; have fq := ((Fr.refl noB wX).drewN 1).seqN f5
            go_wp2_with fail
            refine hK.out _ _ (hS.out _ fq) (fun hHeld => ?_)
            clear hK K
            try simp only [Act.put, List.setIfInBounds_toArray, List.set_cons_zero, List.set_cons_succ]
            (refine wpAnyH_take (i := 2) (oi := ?_) (v := ?_) ?_ (by kernel_rfl) (by kernel_rfl) (by kernel_rfl) ?_ ?_ (by assumption) ?_; rotate_left 2; (focus ((simp only [List.getElem?_toArray, List.getElem?_cons_succ, List.getElem?_cons_zero]); try rfl)); (focus (exact (fun _ _ _ h => h))); (focus (refine Or.inl ⟨by rfl, ?_⟩; intro w hSw; (try dsimp only at hSw); go_simp; try with_reducible rfl)); try simp only [Act.put, List.setIfInBounds_toArray, List.set_cons_zero, List.set_cons_succ])
            (refine wpAnyH_take (i := 3) (oi := ?_) (v := ?_) ?_ (by kernel_rfl) (by kernel_rfl) (by kernel_rfl) ?_ ?_ (by assumption) ?_; rotate_left 2; (focus ((simp only [List.getElem?_toArray, List.getElem?_cons_succ, List.getElem?_cons_zero]); try rfl)); (focus (exact (fun _ _ _ h => h))); (focus (refine Or.inl ⟨by rfl, ?_⟩; intro w hSw; (try dsimp only at hSw); go_simp; try with_reducible rfl)); try simp only [Act.put, List.setIfInBounds_toArray, List.set_cons_zero, List.set_cons_succ])
            (refine wpAnyH_take (i := 4) (oi := ?_) (v := ?_) ?_ (by kernel_rfl) (by kernel_rfl) (by kernel_rfl) ?_ ?_ (by assumption) ?_; rotate_left 2; (focus ((simp only [List.getElem?_toArray, List.getElem?_cons_succ, List.getElem?_cons_zero]); try rfl)); (focus (exact (fun _ _ _ h => h))); (focus (refine Or.inl ⟨by rfl, ?_⟩; intro w hSw; (try dsimp only at hSw); go_simp; try with_reducible rfl)); try simp only [Act.put, List.setIfInBounds_toArray, List.set_cons_zero, List.set_cons_succ])
            (refine wpAnyH_take (i := 5) (oi := ?_) (v := ?_) ?_ (by kernel_rfl) (by kernel_rfl) (by kernel_rfl) ?_ ?_ (by assumption) ?_; rotate_left 2; (focus ((simp only [List.getElem?_toArray, List.getElem?_cons_succ, List.getElem?_cons_zero]); try rfl)); (focus (exact (fun _ _ _ h => h))); (focus (refine Or.inl ⟨by rfl, ?_⟩; intro w hSw; (try dsimp only at hSw); go_simp; try with_reducible rfl)); try simp only [Act.put, List.setIfInBounds_toArray, List.set_cons_zero, List.set_cons_succ])
            (refine wpAnyH_take (i := 6) (oi := ?_) (v := ?_) ?_ (by kernel_rfl) (by kernel_rfl) (by kernel_rfl) ?_ ?_ (by assumption) ?_; rotate_left 2; (focus ((simp only [List.getElem?_toArray, List.getElem?_cons_succ, List.getElem?_cons_zero]); try rfl)); (focus (exact (fun _ _ _ h => h))); (focus (refine Or.inl ⟨by rfl, ?_⟩; intro w hSw; (try dsimp only at hSw); go_simp; try with_reducible rfl)); try simp only [Act.put, List.setIfInBounds_toArray, List.set_cons_zero, List.set_cons_succ])
            (refine wpAnyH_take (i := 7) (oi := ?_) (v := ?_) ?_ (by kernel_rfl) (by kernel_rfl) (by kernel_rfl) ?_ ?_ (by assumption) ?_; rotate_left 2; (focus ((simp only [List.getElem?_toArray, List.getElem?_cons_succ, List.getElem?_cons_zero]); try rfl)); (focus (exact (fun _ _ _ h => h))); (focus (refine Or.inl ⟨by rfl, ?_⟩; intro w hSw; (try dsimp only at hSw); go_simp; try with_reducible rfl)); try simp only [Act.put, List.setIfInBounds_toArray, List.set_cons_zero, List.set_cons_succ])
            (refine wpAnyH_take (i := 8) (oi := ?_) (v := undef) ?_ (by kernel_rfl) (by kernel_rfl) (by kernel_rfl) ?_ ?_ (by assumption) ?_; rotate_left 1; (focus ((simp only [List.getElem?_toArray, List.getElem?_cons_succ, List.getElem?_cons_zero]); try rfl)); (focus (exact (fun _ _ _ h => h))); (focus (exact Or.inr ⟨by rfl, rfl⟩)); try simp only [Act.put, List.setIfInBounds_toArray, List.set_cons_zero, List.set_cons_succ])
            (refine wpAnyH_take (i := 9) (oi := ?_) (v := undef) ?_ (by kernel_rfl) (by kernel_rfl) (by kernel_rfl) ?_ ?_ (by assumption) ?_; rotate_left 1; (focus ((simp only [List.getElem?_toArray, List.getElem?_cons_succ, List.getElem?_cons_zero]); try rfl)); (focus (exact (fun _ _ _ h => h))); (focus (exact Or.inr ⟨by rfl, rfl⟩)); try simp only [Act.put, List.setIfInBounds_toArray, List.set_cons_zero, List.set_cons_succ])
            (refine wpAnyH_take (i := 10) (oi := ?_) (v := undef) ?_ (by kernel_rfl) (by kernel_rfl) (by kernel_rfl) ?_ ?_ (by assumption) ?_; rotate_left 1; (focus ((simp only [List.getElem?_toArray, List.getElem?_cons_succ, List.getElem?_cons_zero]); try rfl)); (focus (exact (fun _ _ _ h => h))); (focus (exact Or.inr ⟨by rfl, rfl⟩)); try simp only [Act.put, List.setIfInBounds_toArray, List.set_cons_zero, List.set_cons_succ])
            (refine wpAnyH_take (i := 11) (oi := ?_) (v := ?_) ?_ (by kernel_rfl) (by kernel_rfl) (by kernel_rfl) ?_ ?_ (by assumption) ?_; rotate_left 2; (focus ((simp only [List.getElem?_toArray, List.getElem?_cons_succ, List.getElem?_cons_zero]); try rfl)); (focus (exact (fun _ _ _ h => h))); (focus (refine Or.inl ⟨by rfl, ?_⟩; intro w hSw; (try dsimp only at hSw); go_simp; try with_reducible rfl)); try simp only [Act.put, List.setIfInBounds_toArray, List.set_cons_zero, List.set_cons_succ])
            (refine wpAnyH_take (i := 12) (oi := ?_) (v := ?_) ?_ (by kernel_rfl) (by kernel_rfl) (by kernel_rfl) ?_ ?_ (by assumption) ?_; rotate_left 2; (focus ((simp only [List.getElem?_toArray, List.getElem?_cons_succ, List.getElem?_cons_zero]); try rfl)); (focus (exact (fun _ _ _ h => h))); (focus (refine Or.inl ⟨by rfl, ?_⟩; intro w hSw; (try dsimp only at hSw); go_simp; try with_reducible rfl)); try simp only [Act.put, List.setIfInBounds_toArray, List.set_cons_zero, List.set_cons_succ])
            (refine wpAnyH_take (i := 13) (oi := ?_) (v := ?_) ?_ (by kernel_rfl) (by kernel_rfl) (by kernel_rfl) ?_ ?_ (by assumption) ?_; rotate_left 2; (focus ((simp only [List.getElem?_toArray, List.getElem?_cons_succ, List.getElem?_cons_zero]); try rfl)); (focus (exact (fun _ _ _ h => h))); (focus (refine Or.inl ⟨by rfl, ?_⟩; intro w hSw; (try dsimp only at hSw); go_simp; try with_reducible rfl)); try simp only [Act.put, List.setIfInBounds_toArray, List.set_cons_zero, List.set_cons_succ])
            (refine wpAnyH_take (i := 14) (oi := ?_) (v := ?_) ?_ (by kernel_rfl) (by kernel_rfl) (by kernel_rfl) ?_ ?_ (by assumption) ?_; rotate_left 2; (focus ((simp only [List.getElem?_toArray, List.getElem?_cons_succ, List.getElem?_cons_zero]); try rfl)); (focus (exact (fun _ _ _ h => h))); (focus (refine Or.inl ⟨by rfl, ?_⟩; intro w hSw; (try dsimp only at hSw); go_simp; try with_reducible rfl)); try simp only [Act.put, List.setIfInBounds_toArray, List.set_cons_zero, List.set_cons_succ])
            (refine wpAnyH_take (i := 15) (oi := ?_) (v := ?_) ?_ (by kernel_rfl) (by kernel_rfl) (by kernel_rfl) ?_ ?_ (by assumption) ?_; rotate_left 2; (focus ((simp only [List.getElem?_toArray, List.getElem?_cons_succ, List.getElem?_cons_zero]); try rfl)); (focus (exact (fun _ _ _ h => h))); (focus (refine Or.inl ⟨by rfl, ?_⟩; intro w hSw; (try dsimp only at hSw); go_simp; try with_reducible rfl)); try simp only [Act.put, List.setIfInBounds_toArray, List.set_cons_zero, List.set_cons_succ])
            (refine wpAnyH_take (i := 16) (oi := ?_) (v := ?_) ?_ (by kernel_rfl) (by kernel_rfl) (by kernel_rfl) ?_ ?_ (by assumption) ?_; rotate_left 2; (focus ((simp only [List.getElem?_toArray, List.getElem?_cons_succ, List.getElem?_cons_zero]); try rfl)); (focus (exact (fun _ _ _ h => h))); (focus (refine Or.inl ⟨by rfl, ?_⟩; intro w hSw; (try dsimp only at hSw); go_simp; try with_reducible rfl)); try simp only [Act.put, List.setIfInBounds_toArray, List.set_cons_zero, List.set_cons_succ])
            (refine wpAnyH_take (i := 17) (oi := ?_) (v := ?_) ?_ (by kernel_rfl) (by kernel_rfl) (by kernel_rfl) ?_ ?_ (by assumption) ?_; rotate_left 2; (focus ((simp only [List.getElem?_toArray, List.getElem?_cons_succ, List.getElem?_cons_zero]); try rfl)); (focus (exact (fun _ _ _ h => h))); (focus (refine Or.inl ⟨by rfl, ?_⟩; intro w hSw; (try dsimp only at hSw); go_simp; try with_reducible rfl)); try simp only [Act.put, List.setIfInBounds_toArray, List.set_cons_zero, List.set_cons_succ])
            (refine wpAnyH_take (i := 18) (oi := ?_) (v := ?_) ?_ (by kernel_rfl) (by kernel_rfl) (by kernel_rfl) ?_ ?_ (by assumption) ?_; rotate_left 2; (focus ((simp only [List.getElem?_toArray, List.getElem?_cons_succ, List.getElem?_cons_zero]); try rfl)); (focus (exact (fun _ _ _ h => h))); (focus (refine Or.inl ⟨by rfl, ?_⟩; intro w hSw; (try dsimp only at hSw); go_simp; try with_reducible rfl)); try simp only [Act.put, List.setIfInBounds_toArray, List.set_cons_zero, List.set_cons_succ])
            (refine wpAnyH_take (i := 19) (oi := ?_) (v := ?_) ?_ (by kernel_rfl) (by kernel_rfl) (by kernel_rfl) ?_ ?_ (by assumption) ?_; rotate_left 2; (focus ((simp only [List.getElem?_toArray, List.getElem?_cons_succ, List.getElem?_cons_zero]); try rfl)); (focus (exact (fun _ _ _ h => h))); (focus (refine Or.inl ⟨by rfl, ?_⟩; intro w hSw; (try dsimp only at hSw); go_simp; try with_reducible rfl)); try simp only [Act.put, List.setIfInBounds_toArray, List.set_cons_zero, List.set_cons_succ])
            (refine wpAnyH_take (i := 20) (oi := ?_) (v := ?_) ?_ (by kernel_rfl) (by kernel_rfl) (by kernel_rfl) ?_ ?_ (by assumption) ?_; rotate_left 2; (focus ((simp only [List.getElem?_toArray, List.getElem?_cons_succ, List.getElem?_cons_zero]); try rfl)); (focus (exact (fun _ _ _ h => h))); (focus (refine Or.inl ⟨by rfl, ?_⟩; intro w hSw; (try dsimp only at hSw); go_simp; try with_reducible rfl)); try simp only [Act.put, List.setIfInBounds_toArray, List.set_cons_zero, List.set_cons_succ])
            (refine wpAnyH_take (i := 21) (oi := ?_) (v := ?_) ?_ (by kernel_rfl) (by kernel_rfl) (by kernel_rfl) ?_ ?_ (by assumption) ?_; rotate_left 2; (focus ((simp only [List.getElem?_toArray, List.getElem?_cons_succ, List.getElem?_cons_zero]); try rfl)); (focus (exact (fun _ _ _ h => h))); (focus (refine Or.inl ⟨by rfl, ?_⟩; intro w hSw; (try dsimp only at hSw); go_simp; try with_reducible rfl)); try simp only [Act.put, List.setIfInBounds_toArray, List.set_cons_zero, List.set_cons_succ])
            (refine wpAnyH_take (i := 22) (oi := ?_) (v := ?_) ?_ (by kernel_rfl) (by kernel_rfl) (by kernel_rfl) ?_ ?_ (by assumption) ?_; rotate_left 2; (focus ((simp only [List.getElem?_toArray, List.getElem?_cons_succ, List.getElem?_cons_zero]); try rfl)); (focus (exact (fun _ _ _ h => h))); (focus (refine Or.inl ⟨by rfl, ?_⟩; intro w hSw; (try dsimp only at hSw); go_simp; try with_reducible rfl)); try simp only [Act.put, List.setIfInBounds_toArray, List.set_cons_zero, List.set_cons_succ])
            (refine wpAnyH_take (i := 23) (oi := ?_) (v := ?_) ?_ (by kernel_rfl) (by kernel_rfl) (by kernel_rfl) ?_ ?_ (by assumption) ?_; rotate_left 2; (focus ((simp only [List.getElem?_toArray, List.getElem?_cons_succ, List.getElem?_cons_zero]); try rfl)); (focus (exact (fun _ _ _ h => h))); (focus (refine Or.inl ⟨by rfl, ?_⟩; intro w hSw; (try dsimp only at hSw); go_simp; try with_reducible rfl)); try simp only [Act.put, List.setIfInBounds_toArray, List.set_cons_zero, List.set_cons_succ])
            (refine wpAnyH_take (i := 24) (oi := ?_) (v := ?_) ?_ (by kernel_rfl) (by kernel_rfl) (by kernel_rfl) ?_ ?_ (by assumption) ?_; rotate_left 2; (focus ((simp only [List.getElem?_toArray, List.getElem?_cons_succ, List.getElem?_cons_zero]); try rfl)); (focus (exact (fun _ _ _ h => h))); (focus (refine Or.inl ⟨by rfl, ?_⟩; intro w hSw; (try dsimp only at hSw); go_simp; try with_reducible rfl)); try simp only [Act.put, List.setIfInBounds_toArray, List.set_cons_zero, List.set_cons_succ])
            (refine wpAnyH_take (i := 25) (oi := ?_) (v := ?_) ?_ (by kernel_rfl) (by kernel_rfl) (by kernel_rfl) ?_ ?_ (by assumption) ?_; rotate_left 2; (focus ((simp only [List.getElem?_toArray, List.getElem?_cons_succ, List.getElem?_cons_zero]); try rfl)); (focus (exact (fun _ _ _ h => h))); (focus (refine Or.inl ⟨by rfl, ?_⟩; intro w hSw; (try dsimp only at hSw); go_simp; try with_reducible rfl)); try simp only [Act.put, List.setIfInBounds_toArray, List.set_cons_zero, List.set_cons_succ])
            (refine wpAnyH_take (i := 26) (oi := ?_) (v := ?_) ?_ (by kernel_rfl) (by kernel_rfl) (by kernel_rfl) ?_ ?_ (by assumption) ?_; rotate_left 2; (focus ((simp only [List.getElem?_toArray, List.getElem?_cons_succ, List.getElem?_cons_zero]); try rfl)); (focus (exact (fun _ _ _ h => h))); (focus (refine Or.inl ⟨by rfl, ?_⟩; intro w hSw; (try dsimp only at hSw); go_simp; try with_reducible rfl)); try simp only [Act.put, List.setIfInBounds_toArray, List.set_cons_zero, List.set_cons_succ])
            (refine wpAnyH_take (i := 27) (oi := ?_) (v := ?_) ?_ (by kernel_rfl) (by kernel_rfl) (by kernel_rfl) ?_ ?_ (by assumption) ?_; rotate_left 2; (focus ((simp only [List.getElem?_toArray, List.getElem?_cons_succ, List.getElem?_cons_zero]); try rfl)); (focus (exact (fun _ _ _ h => h))); (focus (refine Or.inl ⟨by rfl, ?_⟩; intro w hSw; (try dsimp only at hSw); go_simp; try with_reducible rfl)); try simp only [Act.put, List.setIfInBounds_toArray, List.set_cons_zero, List.set_cons_succ])
            (refine wpAnyH_take (i := 28) (oi := ?_) (v := ?_) ?_ (by kernel_rfl) (by kernel_rfl) (by kernel_rfl) ?_ ?_ (by assumption) ?_; rotate_left 2; (focus ((simp only [List.getElem?_toArray, List.getElem?_cons_succ, List.getElem?_cons_zero]); try rfl)); (focus (exact (fun _ _ _ h => h))); (focus (refine Or.inl ⟨by rfl, ?_⟩; intro w hSw; (try dsimp only at hSw); go_simp; try with_reducible rfl)); try simp only [Act.put, List.setIfInBounds_toArray, List.set_cons_zero, List.set_cons_succ])
            (refine wpAnyH_take (i := 29) (oi := ?_) (v := ?_) ?_ (by kernel_rfl) (by kernel_rfl) (by kernel_rfl) ?_ ?_ (by assumption) ?_; rotate_left 2; (focus ((simp only [List.getElem?_toArray, List.getElem?_cons_succ, List.getElem?_cons_zero]); try rfl)); (focus (exact (fun _ _ _ h => h))); (focus (refine Or.inl ⟨by rfl, ?_⟩; intro w hSw; (try dsimp only at hSw); go_simp; try with_reducible rfl)); try simp only [Act.put, List.setIfInBounds_toArray, List.set_cons_zero, List.set_cons_succ])
            (refine wpAnyH_take (i := 30) (oi := ?_) (v := ?_) ?_ (by kernel_rfl) (by kernel_rfl) (by kernel_rfl) ?_ ?_ (by assumption) ?_; rotate_left 2; (focus ((simp only [List.getElem?_toArray, List.getElem?_cons_succ, List.getElem?_cons_zero]); try rfl)); (focus (exact (fun _ _ _ h => h))); (focus (refine Or.inl ⟨by rfl, ?_⟩; intro w hSw; (try dsimp only at hSw); go_simp; try with_reducible rfl)); try simp only [Act.put, List.setIfInBounds_toArray, List.set_cons_zero, List.set_cons_succ])
            refine wpAnyH_done (by kernel_rfl) ?_ _
            go_wp2_with fail
            go_meet
            exact ⟨rfl, fq⟩
        · have et : (M.t != r.tr) = true := by simpa using ht
          obtain rfl : v = true := by rw [← hv.out]; unfold RS.bad; simp [ht]
          try replace ht := Lib.hid ht
          try replace hj := Lib.hid hj
          try replace hk6 := Lib.hid hk6
          try replace hk7 := Lib.hid hk7
          go_wp2_with fail
          refine wp_region_held_drew (S := fun w' => (w'.cell? ⟨gX, 0, none⟩ = some (.int .i64 M.k) ∧ w'.cell? ⟨gX, 1, none⟩ = some (.int .i64 M.a) ∧ w'.cell? ⟨gX, 2, none⟩ = some (.int .i64 M.t) ∧ w'.cell? ⟨gX, 3, none⟩ = some (.int .i64 M.j) ∧ w'.cell? ⟨gX, 4, none⟩ = some (.int .i64 M.c) ∧ w'.cell? ⟨gX, 5, none⟩ = some (.int .i64 M.i) ∧ w'.cell? ⟨gX, 6, none⟩ = some (.int .i64 M.n) ∧ w'.cell? ⟨gX, 7, none⟩ = some (.int .i64 M.pa) ∧ w'.cell? ⟨gX, 8, none⟩ = some (.int .i64 M.pt) ∧ w'.cell? ⟨gX, 9, none⟩ = some (.int .i64 M.pj) ∧ w'.cell? ⟨gX, 10, none⟩ = some (.int .i64 M.pc) ∧ w'.cell? ⟨gX, 11, none⟩ = some (.slice M.ua M.un M.uc) ∧ w'.cell? ⟨gX, 12, none⟩ = some (.bool M.lo) ∧ w'.cell? ⟨gX, 13, none⟩ = some (.slice M.qa M.qn M.qc) ∧ w'.cell? ⟨gX, 14, none⟩ = some (.slice M.sa M.sn M.sc)) ∧ w'.cell? ⟨q, 0, none⟩ = some (.int .i64 r.tr) ∧ w'.cell? ⟨q, 1, none⟩ = some (.int .i64 r.jb)) (by kernel_rfl) (hS.out _ ((Fr.refl noB wX).drewN 1)) (fun hHeld => ?_)
          (refine wpAnyH_take (i := 0) (oi := ?_) (v := ?_) ?_ (by kernel_rfl) (by kernel_rfl) (by kernel_rfl) ?_ ?_ (by assumption) ?_; rotate_left 2; (focus ((simp only [List.getElem?_toArray, List.getElem?_cons_succ, List.getElem?_cons_zero]); try rfl)); (focus (exact (fun _ _ _ h => h))); (focus (refine Or.inl ⟨by rfl, ?_⟩; intro w hSw; (try dsimp only at hSw); go_simp; try with_reducible rfl)); try simp only [Act.put, List.setIfInBounds_toArray, List.set_cons_zero, List.set_cons_succ])
          refine wpAnyH_ready (rs := [1]) (by kernel_rfl) (by simp) (AllReadyH.cons rfl (fun K hK => ?_) AllReadyH.nil)
          go_simp
          go_at_call 26; refine (hr.out _ (fX.out.seqN ((Fr.refl noB _).drewN 1))).mono ?_; rintro e w5 ⟨rfl, f5⟩; have fq := ((Fr.refl noB wX).drewN 1).seqN f5
          go_wp2_with fail
          refine hK.out _ _ (hS.out _ fq) (fun hHeld => ?_)
          clear hK K
          try simp only [Act.put, List.setIfInBounds_toArray, List.set_cons_zero, List.set_cons_succ]
          (refine wpAnyH_take (i := 2) (oi := ?_) (v := ?_) ?_ (by kernel_rfl) (by kernel_rfl) (by kernel_rfl) ?_ ?_ (by assumption) ?_; rotate_left 2; (focus ((simp only [List.getElem?_toArray, List.getElem?_cons_succ, List.getElem?_cons_zero]); try rfl)); (focus (exact (fun _ _ _ h => h))); (focus (refine Or.inl ⟨by rfl, ?_⟩; intro w hSw; (try dsimp only at hSw); go_simp; try with_reducible rfl)); try simp only [Act.put, List.setIfInBounds_toArray, List.set_cons_zero, List.set_cons_succ])
          (refine wpAnyH_take (i := 3) (oi := ?_) (v := ?_) ?_ (by kernel_rfl) (by kernel_rfl) (by kernel_rfl) ?_ ?_ (by assumption) ?_; rotate_left 2; (focus ((simp only [List.getElem?_toArray, List.getElem?_cons_succ, List.getElem?_cons_zero]); try rfl)); (focus (exact (fun _ _ _ h => h))); (focus (refine Or.inl ⟨by rfl, ?_⟩; intro w hSw; (try dsimp only at hSw); go_simp; try with_reducible rfl)); try simp only [Act.put, List.setIfInBounds_toArray, List.set_cons_zero, List.set_cons_succ])
          (refine wpAnyH_take (i := 4) (oi := ?_) (v := ?_) ?_ (by kernel_rfl) (by kernel_rfl) (by kernel_rfl) ?_ ?_ (by assumption) ?_; rotate_left 2; (focus ((simp only [List.getElem?_toArray, List.getElem?_cons_succ, List.getElem?_cons_zero]); try rfl)); (focus (exact (fun _ _ _ h => h))); (focus (refine Or.inl ⟨by rfl, ?_⟩; intro w hSw; (try dsimp only at hSw); go_simp; try with_reducible rfl)); try simp only [Act.put, List.setIfInBounds_toArray, List.set_cons_zero, List.set_cons_succ])
          (refine wpAnyH_take (i := 5) (oi := ?_) (v := ?_) ?_ (by kernel_rfl) (by kernel_rfl) (by kernel_rfl) ?_ ?_ (by assumption) ?_; rotate_left 2; (focus ((simp only [List.getElem?_toArray, List.getElem?_cons_succ, List.getElem?_cons_zero]); try rfl)); (focus (exact (fun _ _ _ h => h))); (focus (refine Or.inl ⟨by rfl, ?_⟩; intro w hSw; (try dsimp only at hSw); go_simp; try with_reducible rfl)); try simp only [Act.put, List.setIfInBounds_toArray, List.set_cons_zero, List.set_cons_succ])
          (refine wpAnyH_take (i := 6) (oi := ?_) (v := ?_) ?_ (by kernel_rfl) (by kernel_rfl) (by kernel_rfl) ?_ ?_ (by assumption) ?_; rotate_left 2; (focus ((simp only [List.getElem?_toArray, List.getElem?_cons_succ, List.getElem?_cons_zero]); try rfl)); (focus (exact (fun _ _ _ h => h))); (focus (refine Or.inl ⟨by rfl, ?_⟩; intro w hSw; (try dsimp only at hSw); go_simp; try with_reducible rfl)); try simp only [Act.put, List.setIfInBounds_toArray, List.set_cons_zero, List.set_cons_succ])
          (refine wpAnyH_take (i := 7) (oi := ?_) (v := ?_) ?_ (by kernel_rfl) (by kernel_rfl) (by kernel_rfl) ?_ ?_ (by assumption) ?_; rotate_left 2; (focus ((simp only [List.getElem?_toArray, List.getElem?_cons_succ, List.getElem?_cons_zero]); try rfl)); (focus (exact (fun _ _ _ h => h))); (focus (refine Or.inl ⟨by rfl, ?_⟩; intro w hSw; (try dsimp only at hSw); go_simp; try with_reducible rfl)); try simp only [Act.put, List.setIfInBounds_toArray, List.set_cons_zero, List.set_cons_succ])
          (refine wpAnyH_take (i := 8) (oi := ?_) (v := undef) ?_ (by kernel_rfl) (by kernel_rfl) (by kernel_rfl) ?_ ?_ (by assumption) ?_; rotate_left 1; (focus ((simp only [List.getElem?_toArray, List.getElem?_cons_succ, List.getElem?_cons_zero]); try rfl)); (focus (exact (fun _ _ _ h => h))); (focus (exact Or.inr ⟨by rfl, rfl⟩)); try simp only [Act.put, List.setIfInBounds_toArray, List.set_cons_zero, List.set_cons_succ])
          (refine wpAnyH_take (i := 9) (oi := ?_) (v := undef) ?_ (by kernel_rfl) (by kernel_rfl) (by kernel_rfl) ?_ ?_ (by assumption) ?_; rotate_left 1; (focus ((simp only [List.getElem?_toArray, List.getElem?_cons_succ, List.getElem?_cons_zero]); try rfl)); (focus (exact (fun _ _ _ h => h))); (focus (exact Or.inr ⟨by rfl, rfl⟩)); try simp only [Act.put, List.setIfInBounds_toArray, List.set_cons_zero, List.set_cons_succ])
          (refine wpAnyH_take (i := 10) (oi := ?_) (v := undef) ?_ (by kernel_rfl) (by kernel_rfl) (by kernel_rfl) ?_ ?_ (by assumption) ?_; rotate_left 1; (focus ((simp only [List.getElem?_toArray, List.getElem?_cons_succ, List.getElem?_cons_zero]); try rfl)); (focus (exact (fun _ _ _ h => h))); (focus (exact Or.inr ⟨by rfl, rfl⟩)); try simp only [Act.put, List.setIfInBounds_toArray, List.set_cons_zero, List.set_cons_succ])
          (refine wpAnyH_take (i := 11) (oi := ?_) (v := ?_) ?_ (by kernel_rfl) (by kernel_rfl) (by kernel_rfl) ?_ ?_ (by assumption) ?_; rotate_left 2; (focus ((simp only [List.getElem?_toArray, List.getElem?_cons_succ, List.getElem?_cons_zero]); try rfl)); (focus (exact (fun _ _ _ h => h))); (focus (refine Or.inl ⟨by rfl, ?_⟩; intro w hSw; (try dsimp only at hSw); go_simp; try with_reducible rfl)); try simp only [Act.put, List.setIfInBounds_toArray, List.set_cons_zero, List.set_cons_succ])
          (refine wpAnyH_take (i := 12) (oi := ?_) (v := ?_) ?_ (by kernel_rfl) (by kernel_rfl) (by kernel_rfl) ?_ ?_ (by assumption) ?_; rotate_left 2; (focus ((simp only [List.getElem?_toArray, List.getElem?_cons_succ, List.getElem?_cons_zero]); try rfl)); (focus (exact (fun _ _ _ h => h))); (focus (refine Or.inl ⟨by rfl, ?_⟩; intro w hSw; (try dsimp only at hSw); go_simp; try with_reducible rfl)); try simp only [Act.put, List.setIfInBounds_toArray, List.set_cons_zero, List.set_cons_succ])
          (refine wpAnyH_take (i := 13) (oi := ?_) (v := ?_) ?_ (by kernel_rfl) (by kernel_rfl) (by kernel_rfl) ?_ ?_ (by assumption) ?_; rotate_left 2; (focus ((simp only [List.getElem?_toArray, List.getElem?_cons_succ, List.getElem?_cons_zero]); try rfl)); (focus (exact (fun _ _ _ h => h))); (focus (refine Or.inl ⟨by rfl, ?_⟩; intro w hSw; (try dsimp only at hSw); go_simp; try with_reducible rfl)); try simp only [Act.put, List.setIfInBounds_toArray, List.set_cons_zero, List.set_cons_succ])
          (refine wpAnyH_take (i := 14) (oi := ?_) (v := ?_) ?_ (by kernel_rfl) (by kernel_rfl) (by kernel_rfl) ?_ ?_ (by assumption) ?_; rotate_left 2; (focus ((simp only [List.getElem?_toArray, List.getElem?_cons_succ, List.getElem?_cons_zero]); try rfl)); (focus (exact (fun _ _ _ h => h))); (focus (refine Or.inl ⟨by rfl, ?_⟩; intro w hSw; (try dsimp only at hSw); go_simp; try with_reducible rfl)); try simp only [Act.put, List.setIfInBounds_toArray, List.set_cons_zero, List.set_cons_succ])
          (refine wpAnyH_take (i := 15) (oi := ?_) (v := ?_) ?_ (by kernel_rfl) (by kernel_rfl) (by kernel_rfl) ?_ ?_ (by assumption) ?_; rotate_left 2; (focus ((simp only [List.getElem?_toArray, List.getElem?_cons_succ, List.getElem?_cons_zero]); try rfl)); (focus (exact (fun _ _ _ h => h))); (focus (refine Or.inl ⟨by rfl, ?_⟩; intro w hSw; (try dsimp only at hSw); go_simp; try with_reducible rfl)); try simp only [Act.put, List.setIfInBounds_toArray, List.set_cons_zero, List.set_cons_succ])
          (refine wpAnyH_take (i := 16) (oi := ?_) (v := ?_) ?_ (by kernel_rfl) (by kernel_rfl) (by kernel_rfl) ?_ ?_ (by assumption) ?_; rotate_left 2; (focus ((simp only [List.getElem?_toArray, List.getElem?_cons_succ, List.getElem?_cons_zero]); try rfl)); (focus (exact (fun _ _ _ h => h))); (focus (refine Or.inl ⟨by rfl, ?_⟩; intro w hSw; (try dsimp only at hSw); go_simp; try with_reducible rfl)); try simp only [Act.put, List.setIfInBounds_toArray, List.set_cons_zero, List.set_cons_succ])
          (refine wpAnyH_take (i := 17) (oi := ?_) (v := ?_) ?_ (by kernel_rfl) (by kernel_rfl) (by kernel_rfl) ?_ ?_ (by assumption) ?_; rotate_left 2; (focus ((simp only [List.getElem?_toArray, List.getElem?_cons_succ, List.getElem?_cons_zero]); try rfl)); (focus (exact (fun _ _ _ h => h))); (focus (refine Or.inl ⟨by rfl, ?_⟩; intro w hSw; (try dsimp only at hSw); go_simp; try with_reducible rfl)); try simp only [Act.put, List.setIfInBounds_toArray, List.set_cons_zero, List.set_cons_succ])
          (refine wpAnyH_take (i := 18) (oi := ?_) (v := ?_) ?_ (by kernel_rfl) (by kernel_rfl) (by kernel_rfl) ?_ ?_ (by assumption) ?_; rotate_left 2; (focus ((simp only [List.getElem?_toArray, List.getElem?_cons_succ, List.getElem?_cons_zero]); try rfl)); (focus (exact (fun _ _ _ h => h))); (focus (refine Or.inl ⟨by rfl, ?_⟩; intro w hSw; (try dsimp only at hSw); go_simp; try with_reducible rfl)); try simp only [Act.put, List.setIfInBounds_toArray, List.set_cons_zero, List.set_cons_succ])
          (refine wpAnyH_take (i := 19) (oi := ?_) (v := ?_) ?_ (by kernel_rfl) (by kernel_rfl) (by kernel_rfl) ?_ ?_ (by assumption) ?_; rotate_left 2; (focus ((simp only [List.getElem?_toArray, List.getElem?_cons_succ, List.getElem?_cons_zero]); try rfl)); (focus (exact (fun _ _ _ h => h))); (focus (refine Or.inl ⟨by rfl, ?_⟩; intro w hSw; (try dsimp only at hSw); go_simp; try with_reducible rfl)); try simp only [Act.put, List.setIfInBounds_toArray, List.set_cons_zero, List.set_cons_succ])
          (refine wpAnyH_take (i := 20) (oi := ?_) (v := ?_) ?_ (by kernel_rfl) (by kernel_rfl) (by kernel_rfl) ?_ ?_ (by assumption) ?_; rotate_left 2; (focus ((simp only [List.getElem?_toArray, List.getElem?_cons_succ, List.getElem?_cons_zero]); try rfl)); (focus (exact (fun _ _ _ h => h))); (focus (refine Or.inl ⟨by rfl, ?_⟩; intro w hSw; (try dsimp only at hSw); go_simp; try with_reducible rfl)); try simp only [Act.put, List.setIfInBounds_toArray, List.set_cons_zero, List.set_cons_succ])
          (refine wpAnyH_take (i := 21) (oi := ?_) (v := ?_) ?_ (by kernel_rfl) (by kernel_rfl) (by kernel_rfl) ?_ ?_ (by assumption) ?_; rotate_left 2; (focus ((simp only [List.getElem?_toArray, List.getElem?_cons_succ, List.getElem?_cons_zero]); try rfl)); (focus (exact (fun _ _ _ h => h))); (focus (refine Or.inl ⟨by rfl, ?_⟩; intro w hSw; (try dsimp only at hSw); go_simp; try with_reducible rfl)); try simp only [Act.put, List.setIfInBounds_toArray, List.set_cons_zero, List.set_cons_succ])
          (refine wpAnyH_take (i := 22) (oi := ?_) (v := ?_) ?_ (by kernel_rfl) (by kernel_rfl) (by kernel_rfl) ?_ ?_ (by assumption) ?_; rotate_left 2; (focus ((simp only [List.getElem?_toArray, List.getElem?_cons_succ, List.getElem?_cons_zero]); try rfl)); (focus (exact (fun _ _ _ h => h))); (focus (refine Or.inl ⟨by rfl, ?_⟩; intro w hSw; (try dsimp only at hSw); go_simp; try with_reducible rfl)); try simp only [Act.put, List.setIfInBounds_toArray, List.set_cons_zero, List.set_cons_succ])
          (refine wpAnyH_take (i := 23) (oi := ?_) (v := undef) ?_ (by kernel_rfl) (by kernel_rfl) (by kernel_rfl) ?_ ?_ (by assumption) ?_; rotate_left 1; (focus ((simp only [List.getElem?_toArray, List.getElem?_cons_succ, List.getElem?_cons_zero]); try rfl)); (focus (exact (fun _ _ _ h => h))); (focus (exact Or.inr ⟨by rfl, rfl⟩)); try simp only [Act.put, List.setIfInBounds_toArray, List.set_cons_zero, List.set_cons_succ])
          (refine wpAnyH_take (i := 24) (oi := ?_) (v := undef) ?_ (by kernel_rfl) (by kernel_rfl) (by kernel_rfl) ?_ ?_ (by assumption) ?_; rotate_left 1; (focus ((simp only [List.getElem?_toArray, List.getElem?_cons_succ, List.getElem?_cons_zero]); try rfl)); (focus (exact (fun _ _ _ h => h))); (focus (exact Or.inr ⟨by rfl, rfl⟩)); try simp only [Act.put, List.setIfInBounds_toArray, List.set_cons_zero, List.set_cons_succ])
          (refine wpAnyH_take (i := 25) (oi := ?_) (v := undef) ?_ (by kernel_rfl) (by kernel_rfl) (by kernel_rfl) ?_ ?_ (by assumption) ?_; rotate_left 1; (focus ((simp only [List.getElem?_toArray, List.getElem?_cons_succ, List.getElem?_cons_zero]); try rfl)); (focus (exact (fun _ _ _ h => h))); (focus (exact Or.inr ⟨by rfl, rfl⟩)); try simp only [Act.put, List.setIfInBounds_toArray, List.set_cons_zero, List.set_cons_succ])
          (refine wpAnyH_take (i := 26) (oi := ?_) (v := undef) ?_ (by kernel_rfl) (by kernel_rfl) (by kernel_rfl) ?_ ?_ (by assumption) ?_; rotate_left 1; (focus ((simp only [List.getElem?_toArray, List.getElem?_cons_succ, List.getElem?_cons_zero]); try rfl)); (focus (exact (fun _ _ _ h => h))); (focus (exact Or.inr ⟨by rfl, rfl⟩)); try simp only [Act.put, List.setIfInBounds_toArray, List.set_cons_zero, List.set_cons_succ])
          (refine wpAnyH_take (i := 27) (oi := ?_) (v := undef) ?_ (by kernel_rfl) (by kernel_rfl) (by kernel_rfl) ?_ ?_ (by assumption) ?_; rotate_left 1; (focus ((simp only [List.getElem?_toArray, List.getElem?_cons_succ, List.getElem?_cons_zero]); try rfl)); (focus (exact (fun _ _ _ h => h))); (focus (exact Or.inr ⟨by rfl, rfl⟩)); try simp only [Act.put, List.setIfInBounds_toArray, List.set_cons_zero, List.set_cons_succ])
          (refine wpAnyH_take (i := 28) (oi := ?_) (v := undef) ?_ (by kernel_rfl) (by kernel_rfl) (by kernel_rfl) ?_ ?_ (by assumption) ?_; rotate_left 1; (focus ((simp only [List.getElem?_toArray, List.getElem?_cons_succ, List.getElem?_cons_zero]); try rfl)); (focus (exact (fun _ _ _ h => h))); (focus (exact Or.inr ⟨by rfl, rfl⟩)); try simp only [Act.put, List.setIfInBounds_toArray, List.set_cons_zero, List.set_cons_succ])
          (refine wpAnyH_take (i := 29) (oi := ?_) (v := undef) ?_ (by kernel_rfl) (by kernel_rfl) (by kernel_rfl) ?_ ?_ (by assumption) ?_; rotate_left 1; (focus ((simp only [List.getElem?_toArray, List.getElem?_cons_succ, List.getElem?_cons_zero]); try rfl)); (focus (exact (fun _ _ _ h => h))); (focus (exact Or.inr ⟨by rfl, rfl⟩)); try simp only [Act.put, List.setIfInBounds_toArray, List.set_cons_zero, List.set_cons_succ])
          (refine wpAnyH_take (i := 30) (oi := ?_) (v := ?_) ?_ (by kernel_rfl) (by kernel_rfl) (by kernel_rfl) ?_ ?_ (by assumption) ?_; rotate_left 2; (focus ((simp only [List.getElem?_toArray, List.getElem?_cons_succ, List.getElem?_cons_zero]); try rfl)); (focus (exact (fun _ _ _ h => h))); (focus (refine Or.inl ⟨by rfl, ?_⟩; intro w hSw; (try dsimp only at hSw); go_simp; try with_reducible rfl)); try simp only [Act.put, List.setIfInBounds_toArray, List.set_cons_zero, List.set_cons_succ])
          refine wpAnyH_done (by kernel_rfl) ?_ _
          go_wp2_with fail
          go_meet
          exact ⟨rfl, fq⟩
      · have e6 : (M.k != 6) = true := by simpa using hk6
        by_cases hk7 : M.k = 7
        · have e7 : (M.k != 7) = false := by rw [hk7]; rfl
          by_cases ht : M.t = r.tr
          · have et : (M.t != r.tr) = false := by rw [ht]; simp
            by_cases hj : M.j = r.jb
            · have ej : (M.j != r.jb) = false := by rw [hj]; simp
              obtain rfl : v = false := by rw [← hv.out]; unfold RS.bad; simp [hk7, ht, hj]
              try replace ht := Lib.hid ht
              try replace hj := Lib.hid hj
              try replace hk6 := Lib.hid hk6
              try replace hk7 := Lib.hid hk7
              go_wp2_with fail
              refine wp_region_held_drew (S := fun w' => (w'.cell? ⟨gX, 0, none⟩ = some (.int .i64 M.k) ∧ w'.cell? ⟨gX, 1, none⟩ = some (.int .i64 M.a) ∧ w'.cell? ⟨gX, 2, none⟩ = some (.int .i64 M.t) ∧ w'.cell? ⟨gX, 3, none⟩ = some (.int .i64 M.j) ∧ w'.cell? ⟨gX, 4, none⟩ = some (.int .i64 M.c) ∧ w'.cell? ⟨gX, 5, none⟩ = some (.int .i64 M.i) ∧ w'.cell? ⟨gX, 6, none⟩ = some (.int .i64 M.n) ∧ w'.cell? ⟨gX, 7, none⟩ = some (.int .i64 M.pa) ∧ w'.cell? ⟨gX, 8, none⟩ = some (.int .i64 M.pt) ∧ w'.cell? ⟨gX, 9, none⟩ = some (.int .i64 M.pj) ∧ w'.cell? ⟨gX, 10, none⟩ = some (.int .i64 M.pc) ∧ w'.cell? ⟨gX, 11, none⟩ = some (.slice M.ua M.un M.uc) ∧ w'.cell? ⟨gX, 12, none⟩ = some (.bool M.lo) ∧ w'.cell? ⟨gX, 13, none⟩ = some (.slice M.qa M.qn M.qc) ∧ w'.cell? ⟨gX, 14, none⟩ = some (.slice M.sa M.sn M.sc)) ∧ w'.cell? ⟨q, 0, none⟩ = some (.int .i64 r.tr) ∧ w'.cell? ⟨q, 1, none⟩ = some (.int .i64 r.jb)) (by kernel_rfl) (hS.out _ ((Fr.refl noB wX).drewN 1)) (fun hHeld => ?_)
              (refine wpAnyH_take (i := 0) (oi := ?_) (v := ?_) ?_ (by kernel_rfl) (by kernel_rfl) (by kernel_rfl) ?_ ?_ (by assumption) ?_; rotate_left 2; (focus ((simp only [List.getElem?_toArray, List.getElem?_cons_succ, List.getElem?_cons_zero]); try rfl)); (focus (exact (fun _ _ _ h => h))); (focus (refine Or.inl ⟨by rfl, ?_⟩; intro w hSw; (try dsimp only at hSw); go_simp; try with_reducible rfl)); try simp only [Act.put, List.setIfInBounds_toArray, List.set_cons_zero, List.set_cons_succ])
              refine wpAnyH_ready (rs := [1]) (by kernel_rfl) (by simp) (AllReadyH.cons rfl (fun K hK => ?_) AllReadyH.nil)
              go_simp
              go_at_call 26; refine (hr.out _ (fX.out.seqN ((Fr.refl noB _).drewN 1))).mono ?_; rintro e w5 ⟨rfl, f5⟩; have fq := ((Fr.refl noB wX).drewN 1).seqN f5
              go_wp2_with fail
              refine hK.out _ _ (hS.out _ fq) (fun hHeld => ?_)
              clear hK K
              try simp only [Act.put, List.setIfInBounds_toArray, List.set_cons_zero, List.set_cons_succ]
              (refine wpAnyH_take (i := 2) (oi := ?_) (v := ?_) ?_ (by kernel_rfl) (by kernel_rfl) (by kernel_rfl) ?_ ?_ (by assumption) ?_; rotate_left 2; (focus ((simp only [List.getElem?_toArray, List.getElem?_cons_succ, List.getElem?_cons_zero]); try rfl)); (focus (exact (fun _ _ _ h => h))); (focus (refine Or.inl ⟨by rfl, ?_⟩; intro w hSw; (try dsimp only at hSw); go_simp; try with_reducible rfl)); try simp only [Act.put, List.setIfInBounds_toArray, List.set_cons_zero, List.set_cons_succ])
              (refine wpAnyH_take (i := 3) (oi := ?_) (v := ?_) ?_ (by kernel_rfl) (by kernel_rfl) (by kernel_rfl) ?_ ?_ (by assumption) ?_; rotate_left 2; (focus ((simp only [List.getElem?_toArray, List.getElem?_cons_succ, List.getElem?_cons_zero]); try rfl)); (focus (exact (fun _ _ _ h => h))); (focus (refine Or.inl ⟨by rfl, ?_⟩; intro w hSw; (try dsimp only at hSw); go_simp; try with_reducible rfl)); try simp only [Act.put, List.setIfInBounds_toArray, List.set_cons_zero, List.set_cons_succ])
              (refine wpAnyH_take (i := 4) (oi := ?_) (v := ?_) ?_ (by kernel_rfl) (by kernel_rfl) (by kernel_rfl) ?_ ?_ (by assumption) ?_; rotate_left 2; (focus ((simp only [List.getElem?_toArray, List.getElem?_cons_succ, List.getElem?_cons_zero]); try rfl)); (focus (exact (fun _ _ _ h => h))); (focus (refine Or.inl ⟨by rfl, ?_⟩; intro w hSw; (try dsimp only at hSw); go_simp; try with_reducible rfl)); try simp only [Act.put, List.setIfInBounds_toArray, List.set_cons_zero, List.set_cons_succ])
              (refine wpAnyH_take (i := 5) (oi := ?_) (v := ?_) ?_ (by kernel_rfl) (by kernel_rfl) (by kernel_rfl) ?_ ?_ (by assumption) ?_; rotate_left 2; (focus ((simp only [List.getElem?_toArray, List.getElem?_cons_succ, List.getElem?_cons_zero]); try rfl)); (focus (exact (fun _ _ _ h => h))); (focus (refine Or.inl ⟨by rfl, ?_⟩; intro w hSw; (try dsimp only at hSw); go_simp; try with_reducible rfl)); try simp only [Act.put, List.setIfInBounds_toArray, List.set_cons_zero, List.set_cons_succ])
              (refine wpAnyH_take (i := 6) (oi := ?_) (v := ?_) ?_ (by kernel_rfl) (by kernel_rfl) (by kernel_rfl) ?_ ?_ (by assumption) ?_; rotate_left 2; (focus ((simp only [List.getElem?_toArray, List.getElem?_cons_succ, List.getElem?_cons_zero]); try rfl)); (focus (exact (fun _ _ _ h => h))); (focus (refine Or.inl ⟨by rfl, ?_⟩; intro w hSw; (try dsimp only at hSw); go_simp; try with_reducible rfl)); try simp only [Act.put, List.setIfInBounds_toArray, List.set_cons_zero, List.set_cons_succ])
              (refine wpAnyH_take (i := 7) (oi := ?_) (v := ?_) ?_ (by kernel_rfl) (by kernel_rfl) (by kernel_rfl) ?_ ?_ (by assumption) ?_; rotate_left 2; (focus ((simp only [List.getElem?_toArray, List.getElem?_cons_succ, List.getElem?_cons_zero]); try rfl)); (focus (exact (fun _ _ _ h => h))); (focus (refine Or.inl ⟨by rfl, ?_⟩; intro w hSw; (try dsimp only at hSw); go_simp; try with_reducible rfl)); try simp only [Act.put, List.setIfInBounds_toArray, List.set_cons_zero, List.set_cons_succ])
              (refine wpAnyH_take (i := 8) (oi := ?_) (v := ?_) ?_ (by kernel_rfl) (by kernel_rfl) (by kernel_rfl) ?_ ?_ (by assumption) ?_; rotate_left 2; (focus ((simp only [List.getElem?_toArray, List.getElem?_cons_succ, List.getElem?_cons_zero]); try rfl)); (focus (exact (fun _ _ _ h => h))); (focus (refine Or.inl ⟨by rfl, ?_⟩; intro w hSw; (try dsimp only at hSw); go_simp; try with_reducible rfl)); try simp only [Act.put, List.setIfInBounds_toArray, List.set_cons_zero, List.set_cons_succ])
              (refine wpAnyH_take (i := 9) (oi := ?_) (v := ?_) ?_ (by kernel_rfl) (by kernel_rfl) (by kernel_rfl) ?_ ?_ (by assumption) ?_; rotate_left 2; (focus ((simp only [List.getElem?_toArray, List.getElem?_cons_succ, List.getElem?_cons_zero]); try rfl)); (focus (exact (fun _ _ _ h => h))); (focus (refine Or.inl ⟨by rfl, ?_⟩; intro w hSw; (try dsimp only at hSw); go_simp; try with_reducible rfl)); try simp only [Act.put, List.setIfInBounds_toArray, List.set_cons_zero, List.set_cons_succ])
              (refine wpAnyH_take (i := 10) (oi := ?_) (v := ?_) ?_ (by kernel_rfl) (by kernel_rfl) (by kernel_rfl) ?_ ?_ (by assumption) ?_; rotate_left 2; (focus ((simp only [List.getElem?_toArray, List.getElem?_cons_succ, List.getElem?_cons_zero]); try rfl)); (focus (exact (fun _ _ _ h => h))); (focus (refine Or.inl ⟨by rfl, ?_⟩; intro w hSw; (try dsimp only at hSw); go_simp; try with_reducible rfl)); try simp only [Act.put, List.setIfInBounds_toArray, List.set_cons_zero, List.set_cons_succ])
              (refine wpAnyH_take (i := 11) (oi := ?_) (v := ?_) ?_ (by kernel_rfl) (by kernel_rfl) (by kernel_rfl) ?_ ?_ (by assumption) ?_; rotate_left 2; (focus ((simp only [List.getElem?_toArray, List.getElem?_cons_succ, List.getElem?_cons_zero]); try rfl)); (focus (exact (fun _ _ _ h => h))); (focus (refine Or.inl ⟨by rfl, ?_⟩; intro w hSw; (try dsimp only at hSw); go_simp; try with_reducible rfl)); try simp only [Act.put, List.setIfInBounds_toArray, List.set_cons_zero, List.set_cons_succ])
              (refine wpAnyH_take (i := 12) (oi := ?_) (v := ?_) ?_ (by kernel_rfl) (by kernel_rfl) (by kernel_rfl) ?_ ?_ (by assumption) ?_; rotate_left 2; (focus ((simp only [List.getElem?_toArray, List.getElem?_cons_succ, List.getElem?_cons_zero]); try rfl)); (focus (exact (fun _ _ _ h => h))); (focus (refine Or.inl ⟨by rfl, ?_⟩; intro w hSw; (try dsimp only at hSw); go_simp; try with_reducible rfl)); try simp only [Act.put, List.setIfInBounds_toArray, List.set_cons_zero, List.set_cons_succ])
              (refine wpAnyH_take (i := 13) (oi := ?_) (v := ?_) ?_ (by kernel_rfl) (by kernel_rfl) (by kernel_rfl) ?_ ?_ (by assumption) ?_; rotate_left 2; (focus ((simp only [List.getElem?_toArray, List.getElem?_cons_succ, List.getElem?_cons_zero]); try rfl)); (focus (exact (fun _ _ _ h => h))); (focus (refine Or.inl ⟨by rfl, ?_⟩; intro w hSw; (try dsimp only at hSw); go_simp; try with_reducible rfl)); try simp only [Act.put, List.setIfInBounds_toArray, List.set_cons_zero, List.set_cons_succ])
              (refine wpAnyH_take (i := 14) (oi := ?_) (v := ?_) ?_ (by kernel_rfl) (by kernel_rfl) (by kernel_rfl) ?_ ?_ (by assumption) ?_; rotate_left 2; (focus ((simp only [List.getElem?_toArray, List.getElem?_cons_succ, List.getElem?_cons_zero]); try rfl)); (focus (exact (fun _ _ _ h => h))); (focus (refine Or.inl ⟨by rfl, ?_⟩; intro w hSw; (try dsimp only at hSw); go_simp; try with_reducible rfl)); try simp only [Act.put, List.setIfInBounds_toArray, List.set_cons_zero, List.set_cons_succ])
              (refine wpAnyH_take (i := 15) (oi := ?_) (v := ?_) ?_ (by kernel_rfl) (by kernel_rfl) (by kernel_rfl) ?_ ?_ (by assumption) ?_; rotate_left 2; (focus ((simp only [List.getElem?_toArray, List.getElem?_cons_succ, List.getElem?_cons_zero]); try rfl)); (focus (exact (fun _ _ _ h => h))); (focus (refine Or.inl ⟨by rfl, ?_⟩; intro w hSw; (try dsimp only at hSw); go_simp; try with_reducible rfl)); try simp only [Act.put, List.setIfInBounds_toArray, List.set_cons_zero, List.set_cons_succ])
              (refine wpAnyH_take (i := 16) (oi := ?_) (v := ?_) ?_ (by kernel_rfl) (by kernel_rfl) (by kernel_rfl) ?_ ?_ (by assumption) ?_; rotate_left 2; (focus ((simp only [List.getElem?_toArray, List.getElem?_cons_succ, List.getElem?_cons_zero]); try rfl)); (focus (exact (fun _ _ _ h => h))); (focus (refine Or.inl ⟨by rfl, ?_⟩; intro w hSw; (try dsimp only at hSw); go_simp; try with_reducible rfl)); try simp only [Act.put, List.setIfInBounds_toArray, List.set_cons_zero, List.set_cons_succ])
              (refine wpAnyH_take (i := 17) (oi := ?_) (v := ?_) ?_ (by kernel_rfl) (by kernel_rfl) (by kernel_rfl) ?_ ?_ (by assumption) ?_; rotate_left 2; (focus ((simp only [List.getElem?_toArray, List.getElem?_cons_succ, List.getElem?_cons_zero]); try rfl)); (focus (exact (fun _ _ _ h => h))); (focus (refine Or.inl ⟨by rfl, ?_⟩; intro w hSw; (try dsimp only at hSw); go_simp; try with_reducible rfl)); try simp only [Act.put, List.setIfInBounds_toArray, List.set_cons_zero, List.set_cons_succ])
              (refine wpAnyH_take (i := 18) (oi := ?_) (v := ?_) ?_ (by kernel_rfl) (by kernel_rfl) (by kernel_rfl) ?_ ?_ (by assumption) ?_; rotate_left 2; (focus ((simp only [List.getElem?_toArray, List.getElem?_cons_succ, List.getElem?_cons_zero]); try rfl)); (focus (exact (fun _ _ _ h => h))); (focus (refine Or.inl ⟨by rfl, ?_⟩; intro w hSw; (try dsimp only at hSw); go_simp; try with_reducible rfl)); try simp only [Act.put, List.setIfInBounds_toArray, List.set_cons_zero, List.set_cons_succ])
              (refine wpAnyH_take (i := 19) (oi := ?_) (v := ?_) ?_ (by kernel_rfl) (by kernel_rfl) (by kernel_rfl) ?_ ?_ (by assumption) ?_; rotate_left 2; (focus ((simp only [List.getElem?_toArray, List.getElem?_cons_succ, List.getElem?_cons_zero]); try rfl)); (focus (exact (fun _ _ _ h => h))); (focus (refine Or.inl ⟨by rfl, ?_⟩; intro w hSw; (try dsimp only at hSw); go_simp; try with_reducible rfl)); try simp only [Act.put, List.setIfInBounds_toArray, List.set_cons_zero, List.set_cons_succ])
              (refine wpAnyH_take (i := 20) (oi := ?_) (v := ?_) ?_ (by kernel_rfl) (by kernel_rfl) (by kernel_rfl) ?_ ?_ (by assumption) ?_; rotate_left 2; (focus ((simp only [List.getElem?_toArray, List.getElem?_cons_succ, List.getElem?_cons_zero]); try rfl)); (focus (exact (fun _ _ _ h => h))); (focus (refine Or.inl ⟨by rfl, ?_⟩; intro w hSw; (try dsimp only at hSw); go_simp; try with_reducible rfl)); try simp only [Act.put, List.setIfInBounds_toArray, List.set_cons_zero, List.set_cons_succ])
              (refine wpAnyH_take (i := 21) (oi := ?_) (v := ?_) ?_ (by kernel_rfl) (by kernel_rfl) (by kernel_rfl) ?_ ?_ (by assumption) ?_; rotate_left 2; (focus ((simp only [List.getElem?_toArray, List.getElem?_cons_succ, List.getElem?_cons_zero]); try rfl)); (focus (exact (fun _ _ _ h => h))); (focus (refine Or.inl ⟨by rfl, ?_⟩; intro w hSw; (try dsimp only at hSw); go_simp; try with_reducible rfl)); try simp only [Act.put, List.setIfInBounds_toArray, List.set_cons_zero, List.set_cons_succ])
              (refine wpAnyH_take (i := 22) (oi := ?_) (v := ?_) ?_ (by kernel_rfl) (by kernel_rfl) (by kernel_rfl) ?_ ?_ (by assumption) ?_; rotate_left 2; (focus ((simp only [List.getElem?_toArray, List.getElem?_cons_succ, List.getElem?_cons_zero]); try rfl)); (focus (exact (fun _ _ _ h => h))); (focus (refine Or.inl ⟨by rfl, ?_⟩; intro w hSw; (try dsimp only at hSw); go_simp; try with_reducible rfl)); try simp only [Act.put, List.setIfInBounds_toArray, List.set_cons_zero, List.set_cons_succ])
              (refine wpAnyH_take (i := 23) (oi := ?_) (v := ?_) ?_ (by kernel_rfl) (by kernel_rfl) (by kernel_rfl) ?_ ?_ (by assumption) ?_; rotate_left 2; (focus ((simp only [List.getElem?_toArray, List.getElem?_cons_succ, List.getElem?_cons_zero]); try rfl)); (focus (exact (fun _ _ _ h => h))); (focus (refine Or.inl ⟨by rfl, ?_⟩; intro w hSw; (try dsimp only at hSw); go_simp; try with_reducible rfl)); try simp only [Act.put, List.setIfInBounds_toArray, List.set_cons_zero, List.set_cons_succ])
              (refine wpAnyH_take (i := 24) (oi := ?_) (v := ?_) ?_ (by kernel_rfl) (by kernel_rfl) (by kernel_rfl) ?_ ?_ (by assumption) ?_; rotate_left 2; (focus ((simp only [List.getElem?_toArray, List.getElem?_cons_succ, List.getElem?_cons_zero]); try rfl)); (focus (exact (fun _ _ _ h => h))); (focus (refine Or.inl ⟨by rfl, ?_⟩; intro w hSw; (try dsimp only at hSw); go_simp; try with_reducible rfl)); try simp only [Act.put, List.setIfInBounds_toArray, List.set_cons_zero, List.set_cons_succ])
              (refine wpAnyH_take (i := 25) (oi := ?_) (v := ?_) ?_ (by kernel_rfl) (by kernel_rfl) (by kernel_rfl) ?_ ?_ (by assumption) ?_; rotate_left 2; (focus ((simp only [List.getElem?_toArray, List.getElem?_cons_succ, List.getElem?_cons_zero]); try rfl)); (focus (exact (fun _ _ _ h => h))); (focus (refine Or.inl ⟨by rfl, ?_⟩; intro w hSw; (try dsimp only at hSw); go_simp; try with_reducible rfl)); try simp only [Act.put, List.setIfInBounds_toArray, List.set_cons_zero, List.set_cons_succ])
              (refine wpAnyH_take (i := 26) (oi := ?_) (v := ?_) ?_ (by kernel_rfl) (by kernel_rfl) (by kernel_rfl) ?_ ?_ (by assumption) ?_; rotate_left 2; (focus ((simp only [List.getElem?_toArray, List.getElem?_cons_succ, List.getElem?_cons_zero]); try rfl)); (focus (exact (fun _ _ _ h => h))); (focus (refine Or.inl ⟨by rfl, ?_⟩; intro w hSw; (try dsimp only at hSw); go_simp; try with_reducible rfl)); try simp only [Act.put, List.setIfInBounds_toArray, List.set_cons_zero, List.set_cons_succ])
              (refine wpAnyH_take (i := 27) (oi := ?_) (v := ?_) ?_ (by kernel_rfl) (by kernel_rfl) (by kernel_rfl) ?_ ?_ (by assumption) ?_; rotate_left 2; (focus ((simp only [List.getElem?_toArray, List.getElem?_cons_succ, List.getElem?_cons_zero]); try rfl)); (focus (exact (fun _ _ _ h => h))); (focus (refine Or.inl ⟨by rfl, ?_⟩; intro w hSw; (try dsimp only at hSw); go_simp; try with_reducible rfl)); try simp only [Act.put, List.setIfInBounds_toArray, List.set_cons_zero, List.set_cons_succ])
              (refine wpAnyH_take (i := 28) (oi := ?_) (v := ?_) ?_ (by kernel_rfl) (by kernel_rfl) (by kernel_rfl) ?_ ?_ (by assumption) ?_; rotate_left 2; (focus ((simp only [List.getElem?_toArray, List.getElem?_cons_succ, List.getElem?_cons_zero]); try rfl)); (focus (exact (fun _ _ _ h => h))); (focus (refine Or.inl ⟨by rfl, ?_⟩; intro w hSw; (try dsimp only at hSw); go_simp; try with_reducible rfl)); try simp only [Act.put, List.setIfInBounds_toArray, List.set_cons_zero, List.set_cons_succ])
              (refine wpAnyH_take (i := 29) (oi := ?_) (v := ?_) ?_ (by kernel_rfl) (by kernel_rfl) (by kernel_rfl) ?_ ?_ (by assumption) ?_; rotate_left 2; (focus ((simp only [List.getElem?_toArray, List.getElem?_cons_succ, List.getElem?_cons_zero]); try rfl)); (focus (exact (fun _ _ _ h => h))); (focus (refine Or.inl ⟨by rfl, ?_⟩; intro w hSw; (try dsimp only at hSw); go_simp; try with_reducible rfl)); try simp only [Act.put, List.setIfInBounds_toArray, List.set_cons_zero, List.set_cons_succ])
              (refine wpAnyH_take (i := 30) (oi := ?_) (v := ?_) ?_ (by kernel_rfl) (by kernel_rfl) (by kernel_rfl) ?_ ?_ (by assumption) ?_; rotate_left 2; (focus ((simp only [List.getElem?_toArray, List.getElem?_cons_succ, List.getElem?_cons_zero]); try rfl)); (focus (exact (fun _ _ _ h => h))); (focus (refine Or.inl ⟨by rfl, ?_⟩; intro w hSw; (try dsimp only at hSw); go_simp; try with_reducible rfl)); try simp only [Act.put, List.setIfInBounds_toArray, List.set_cons_zero, List.set_cons_succ])
              refine wpAnyH_done (by kernel_rfl) ?_ _
              go_wp2_with fail
              go_meet
              exact ⟨rfl, fq⟩
            · have ej : (M.j != r.jb) = true := by simpa using hj
              obtain rfl : v = true := by rw [← hv.out]; unfold RS.bad; simp [hj]
              try replace ht := Lib.hid ht
              try replace hj := Lib.hid hj
              try replace hk6 := Lib.hid hk6
              try replace hk7 := Lib.hid hk7
              go_wp2_with fail
              refine wp_region_held_drew (S := fun w' => (w'.cell? ⟨gX, 0, none⟩ = some (.int .i64 M.k) ∧ w'.cell? ⟨gX, 1, none⟩ = some (.int .i64 M.a) ∧ w'.cell? ⟨gX, 2, none⟩ = some (.int .i64 M.t) ∧ w'.cell? ⟨gX, 3, none⟩ = some (.int .i64 M.j) ∧ w'.cell? ⟨gX, 4, none⟩ = some (.int .i64 M.c) ∧ w'.cell? ⟨gX, 5, none⟩ = some (.int .i64 M.i) ∧ w'.cell? ⟨gX, 6, none⟩ = some (.int .i64 M.n) ∧ w'.cell? ⟨gX, 7, none⟩ = some (.int .i64 M.pa) ∧ w'.cell? ⟨gX, 8, none⟩ = some (.int .i64 M.pt) ∧ w'.cell? ⟨gX, 9, none⟩ = some (.int .i64 M.pj) ∧ w'.cell? ⟨gX, 10, none⟩ = some (.int .i64 M.pc) ∧ w'.cell? ⟨gX, 11, none⟩ = some (.slice M.ua M.un M.uc) ∧ w'.cell? ⟨gX, 12, none⟩ = some (.bool M.lo) ∧ w'.cell? ⟨gX, 13, none⟩ = some (.slice M.qa M.qn M.qc) ∧ w'.cell? ⟨gX, 14, none⟩ = some (.slice M.sa M.sn M.sc)) ∧ w'.cell? ⟨q, 0, none⟩ = some (.int .i64 r.tr) ∧ w'.cell? ⟨q, 1, none⟩ = some (.int .i64 r.jb)) (by kernel_rfl) (hS.out _ ((Fr.refl noB wX).drewN 1)) (fun hHeld => ?_)
              (refine wpAnyH_take (i := 0) (oi := ?_) (v := ?_) ?_ (by kernel_rfl) (by kernel_rfl) (by kernel_rfl) ?_ ?_ (by assumption) ?_; rotate_left 2; (focus ((simp only [List.getElem?_toArray, List.getElem?_cons_succ, List.getElem?_cons_zero]); try rfl)); (focus (exact (fun _ _ _ h => h))); (focus (refine Or.inl ⟨by rfl, ?_⟩; intro w hSw; (try dsimp only at hSw); go_simp; try with_reducible rfl)); try simp only [Act.put, List.setIfInBounds_toArray, List.set_cons_zero, List.set_cons_succ])
              refine wpAnyH_ready (rs := [1]) (by kernel_rfl) (by simp) (AllReadyH.cons rfl (fun K hK => ?_) AllReadyH.nil)
              go_simp
              go_at_call 26; refine (hr.out _ (fX.out.seqN ((Fr.refl noB _).drewN 1))).mono ?_; rintro e w5 ⟨rfl, f5⟩; have fq := ((Fr.refl noB wX).drewN 1).seqN f5
              go_wp2_with fail
              refine hK.out _ _ (hS.out _ fq) (fun hHeld => ?_)
              clear hK K
              try simp only [Act.put, List.setIfInBounds_toArray, List.set_cons_zero, List.set_cons_succ]
              (refine wpAnyH_take (i := 2) (oi := ?_) (v := ?_) ?_ (by kernel_rfl) (by kernel_rfl) (by kernel_rfl) ?_ ?_ (by assumption) ?_; rotate_left 2; (focus ((simp only [List.getElem?_toArray, List.getElem?_cons_succ, List.getElem?_cons_zero]); try rfl)); (focus (exact (fun _ _ _ h => h))); (focus (refine Or.inl ⟨by rfl, ?_⟩; intro w hSw; (try dsimp only at hSw); go_simp; try with_reducible rfl)); try simp only [Act.put, List.setIfInBounds_toArray, List.set_cons_zero, List.set_cons_succ])
              (refine wpAnyH_take (i := 3) (oi := ?_) (v := ?_) ?_ (by kernel_rfl) (by kernel_rfl) (by kernel_rfl) ?_ ?_ (by assumption) ?_; rotate_left 2; (focus ((simp only [List.getElem?_toArray, List.getElem?_cons_succ, List.getElem?_cons_zero]); try rfl)); (focus (exact (fun _ _ _ h => h))); (focus (refine Or.inl ⟨by rfl, ?_⟩; intro w hSw; (try dsimp only at hSw); go_simp; try with_reducible rfl)); try simp only [Act.put, List.setIfInBounds_toArray, List.set_cons_zero, List.set_cons_succ])
              (refine wpAnyH_take (i := 4) (oi := ?_) (v := ?_) ?_ (by kernel_rfl) (by kernel_rfl) (by kernel_rfl) ?_ ?_ (by assumption) ?_; rotate_left 2; (focus ((simp only [List.getElem?_toArray, List.getElem?_cons_succ, List.getElem?_cons_zero]); try rfl)); (focus (exact (fun _ _ _ h => h))); (focus (refine Or.inl ⟨by rfl, ?_⟩; intro w hSw; (try dsimp only at hSw); go_simp; try with_reducible rfl)); try simp only [Act.put, List.setIfInBounds_toArray, List.set_cons_zero, List.set_cons_succ])
              (refine wpAnyH_take (i := 5) (oi := ?_) (v := ?_) ?_ (by kernel_rfl) (by kernel_rfl) (by kernel_rfl) ?_ ?_ (by assumption) ?_; rotate_left 2; (focus ((simp only [List.getElem?_toArray, List.getElem?_cons_succ, List.getElem?_cons_zero]); try rfl)); (focus (exact (fun _ _ _ h => h))); (focus (refine Or.inl ⟨by rfl, ?_⟩; intro w hSw; (try dsimp only at hSw); go_simp; try with_reducible rfl)); try simp only [Act.put, List.setIfInBounds_toArray, List.set_cons_zero, List.set_cons_succ])
              (refine wpAnyH_take (i := 6) (oi := ?_) (v := ?_) ?_ (by kernel_rfl) (by kernel_rfl) (by kernel_rfl) ?_ ?_ (by assumption) ?_; rotate_left 2; (focus ((simp only [List.getElem?_toArray, List.getElem?_cons_succ, List.getElem?_cons_zero]); try rfl)); (focus (exact (fun _ _ _ h => h))); (focus (refine Or.inl ⟨by rfl, ?_⟩; intro w hSw; (try dsimp only at hSw); go_simp; try with_reducible rfl)); try simp only [Act.put, List.setIfInBounds_toArray, List.set_cons_zero, List.set_cons_succ])
              (refine wpAnyH_take (i := 7) (oi := ?_) (v := ?_) ?_ (by kernel_rfl) (by kernel_rfl) (by kernel_rfl) ?_ ?_ (by assumption) ?_; rotate_left 2; (focus ((simp only [List.getElem?_toArray, List.getElem?_cons_succ, List.getElem?_cons_zero]); try rfl)); (focus (exact (fun _ _ _ h => h))); (focus (refine Or.inl ⟨by rfl, ?_⟩; intro w hSw; (try dsimp only at hSw); go_simp; try with_reducible rfl)); try simp only [Act.put, List.setIfInBounds_toArray, List.set_cons_zero, List.set_cons_succ])
              (refine wpAnyH_take (i := 8) (oi := ?_) (v := ?_) ?_ (by kernel_rfl) (by kernel_rfl) (by kernel_rfl) ?_ ?_ (by assumption) ?_; rotate_left 2; (focus ((simp only [List.getElem?_toArray, List.getElem?_cons_succ, List.getElem?_cons_zero]); try rfl)); (focus (exact (fun _ _ _ h => h))); (focus (refine Or.inl ⟨by rfl, ?_⟩; intro w hSw; (try dsimp only at hSw); go_simp; try with_reducible rfl)); try simp only [Act.put, List.setIfInBounds_toArray, List.set_cons_zero, List.set_cons_succ])
              (refine wpAnyH_take (i := 9) (oi := ?_) (v := ?_) ?_ (by kernel_rfl) (by kernel_rfl) (by kernel_rfl) ?_ ?_ (by assumption) ?_; rotate_left 2; (focus ((simp only [List.getElem?_toArray, List.getElem?_cons_succ, List.getElem?_cons_zero]); try rfl)); (focus (exact (fun _ _ _ h => h))); (focus (refine Or.inl ⟨by rfl, ?_⟩; intro w hSw; (try dsimp only at hSw); go_simp; try with_reducible rfl)); try simp only [Act.put, List.setIfInBounds_toArray, List.set_cons_zero, List.set_cons_succ])
              (refine wpAnyH_take (i := 10) (oi := ?_) (v := ?_) ?_ (by kernel_rfl) (by kernel_rfl) (by kernel_rfl) ?_ ?_ (by assumption) ?_; rotate_left 2; (focus ((simp only [List.getElem?_toArray, List.getElem?_cons_succ, List.getElem?_cons_zero]); try rfl)); (focus (exact (fun _ _ _ h => h))); (focus (refine Or.inl ⟨by rfl, ?_⟩; intro w hSw; (try dsimp only at hSw); go_simp; try with_reducible rfl)); try simp only [Act.put, List.setIfInBounds_toArray, List.set_cons_zero, List.set_cons_succ])
              (refine wpAnyH_take (i := 11) (oi := ?_) (v := ?_) ?_ (by kernel_rfl) (by kernel_rfl) (by kernel_rfl) ?_ ?_ (by assumption) ?_; rotate_left 2; (focus ((simp only [List.getElem?_toArray, List.getElem?_cons_succ, List.getElem?_cons_zero]); try rfl)); (focus (exact (fun _ _ _ h => h))); (focus (refine Or.inl ⟨by rfl, ?_⟩; intro w hSw; (try dsimp only at hSw); go_simp; try with_reducible rfl)); try simp only [Act.put, List.setIfInBounds_toArray, List.set_cons_zero, List.set_cons_succ])
              (refine wpAnyH_take (i := 12) (oi := ?_) (v := ?_) ?_ (by kernel_rfl) (by kernel_rfl) (by kernel_rfl) ?_ ?_ (by assumption) ?_; rotate_left 2; (focus ((simp only [List.getElem?_toArray, List.getElem?_cons_succ, List.getElem?_cons_zero]); try rfl)); (focus (exact (fun _ _ _ h => h))); (focus (refine Or.inl ⟨by rfl, ?_⟩; intro w hSw; (try dsimp only at hSw); go_simp; try with_reducible rfl)); try simp only [Act.put, List.setIfInBounds_toArray, List.set_cons_zero, List.set_cons_succ])
              (refine wpAnyH_take (i := 13) (oi := ?_) (v := ?_) ?_ (by kernel_rfl) (by kernel_rfl) (by kernel_rfl) ?_ ?_ (by assumption) ?_; rotate_left 2; (focus ((simp only [List.getElem?_toArray, List.getElem?_cons_succ, List.getElem?_cons_zero]); try rfl)); (focus (exact (fun _ _ _ h => h))); (focus (refine Or.inl ⟨by rfl, ?_⟩; intro w hSw; (try dsimp only at hSw); go_simp; try with_reducible rfl)); try simp only [Act.put, List.setIfInBounds_toArray, List.set_cons_zero, List.set_cons_succ])
              (refine wpAnyH_take (i := 14) (oi := ?_) (v := ?_) ?_ (by kernel_rfl) (by kernel_rfl) (by kernel_rfl) ?_ ?_ (by assumption) ?_; rotate_left 2; (focus ((simp only [List.getElem?_toArray, List.getElem?_cons_succ, List.getElem?_cons_zero]); try rfl)); (focus (exact (fun _ _ _ h => h))); (focus (refine Or.inl ⟨by rfl, ?_⟩; intro w hSw; (try dsimp only at hSw); go_simp; try with_reducible rfl)); try simp only [Act.put, List.setIfInBounds_toArray, List.set_cons_zero, List.set_cons_succ])
              (refine wpAnyH_take (i := 15) (oi := ?_) (v := ?_) ?_ (by kernel_rfl) (by kernel_rfl) (by kernel_rfl) ?_ ?_ (by assumption) ?_; rotate_left 2; (focus ((simp only [List.getElem?_toArray, List.getElem?_cons_succ, List.getElem?_cons_zero]); try rfl)); (focus (exact (fun _ _ _ h => h))); (focus (refine Or.inl ⟨by rfl, ?_⟩; intro w hSw; (try dsimp only at hSw); go_simp; try with_reducible rfl)); try simp only [Act.put, List.setIfInBounds_toArray, List.set_cons_zero, List.set_cons_succ])
              (refine wpAnyH_take (i := 16) (oi := ?_) (v := ?_) ?_ (by kernel_rfl) (by kernel_rfl) (by kernel_rfl) ?_ ?_ (by assumption) ?_; rotate_left 2; (focus ((simp only [List.getElem?_toArray, List.getElem?_cons_succ, List.getElem?_cons_zero]); try rfl)); (focus (exact (fun _ _ _ h => h))); (focus (refine Or.inl ⟨by rfl, ?_⟩; intro w hSw; (try dsimp only at hSw); go_simp; try with_reducible rfl)); try simp only [Act.put, List.setIfInBounds_toArray, List.set_cons_zero, List.set_cons_succ])
              (refine wpAnyH_take (i := 17) (oi := ?_) (v := ?_) ?_ (by kernel_rfl) (by kernel_rfl) (by kernel_rfl) ?_ ?_ (by assumption) ?_; rotate_left 2; (focus ((simp only [List.getElem?_toArray, List.getElem?_cons_succ, List.getElem?_cons_zero]); try rfl)); (focus (exact (fun _ _ _ h => h))); (focus (refine Or.inl ⟨by rfl, ?_⟩; intro w hSw; (try dsimp only at hSw); go_simp; try with_reducible rfl)); try simp only [Act.put, List.setIfInBounds_toArray, List.set_cons_zero, List.set_cons_succ])
              (refine wpAnyH_take (i := 18) (oi := ?_) (v := ?_) ?_ (by kernel_rfl) (by kernel_rfl) (by kernel_rfl) ?_ ?_ (by assumption) ?_; rotate_left 2; (focus ((simp only [List.getElem?_toArray, List.getElem?_cons_succ, List.getElem?_cons_zero]); try rfl)); (focus (exact (fun _ _ _ h => h))); (focus (refine Or.inl ⟨by rfl, ?_⟩; intro w hSw; (try dsimp only at hSw); go_simp; try with_reducible rfl)); try simp only [Act.put, List.setIfInBounds_toArray, List.set_cons_zero, List.set_cons_succ])
              (refine wpAnyH_take (i := 19) (oi := ?_) (v := ?_) ?_ (by kernel_rfl) (by kernel_rfl) (by kernel_rfl) ?_ ?_ (by assumption) ?_; rotate_left 2; (focus ((simp only [List.getElem?_toArray, List.getElem?_cons_succ, List.getElem?_cons_zero]); try rfl)); (focus (exact (fun _ _ _ h => h))); (focus (refine Or.inl ⟨by rfl, ?_⟩; intro w hSw; (try dsimp only at hSw); go_simp; try with_reducible rfl)); try simp only [Act.put, List.setIfInBounds_toArray, List.set_cons_zero, List.set_cons_succ])
              (refine wpAnyH_take (i := 20) (oi := ?_) (v := ?_) ?_ (by kernel_rfl) (by kernel_rfl) (by kernel_rfl) ?_ ?_ (by assumption) ?_; rotate_left 2; (focus ((simp only [List.getElem?_toArray, List.getElem?_cons_succ, List.getElem?_cons_zero]); try rfl)); (focus (exact (fun _ _ _ h => h))); (focus (refine Or.inl ⟨by rfl, ?_⟩; intro w hSw; (try dsimp only at hSw); go_simp; try with_reducible rfl)); try simp only [Act.put, List.setIfInBounds_toArray, List.set_cons_zero, List.set_cons_succ])
              (refine wpAnyH_take (i := 21) (oi := ?_) (v := ?_) ?_ (by kernel_rfl) (by kernel_rfl) (by kernel_rfl) ?_ ?_ (by assumption) ?_; rotate_left 2; (focus ((simp only [List.getElem?_toArray, List.getElem?_cons_succ, List.getElem?_cons_zero]); try rfl)); (focus (exact (fun _ _ _ h => h))); (focus (refine Or.inl ⟨by rfl, ?_⟩; intro w hSw; (try dsimp only at hSw); go_simp; try with_reducible rfl)); try simp only [Act.put, List.setIfInBounds_toArray, List.set_cons_zero, List.set_cons_succ])
              (refine wpAnyH_take (i := 22) (oi := ?_) (v := ?_) ?_ (by kernel_rfl) (by kernel_rfl) (by kernel_rfl) ?_ ?_ (by assumption) ?_; rotate_left 2; (focus ((simp only [List.getElem?_toArray, List.getElem?_cons_succ, List.getElem?_cons_zero]); try rfl)); (focus (exact (fun _ _ _ h => h))); (focus (refine Or.inl ⟨by rfl, ?_⟩; intro w hSw; (try dsimp only at hSw); go_simp; try with_reducible rfl)); try simp only [Act.put, List.setIfInBounds_toArray, List.set_cons_zero, List.set_cons_succ])
              (refine wpAnyH_take (i := 23) (oi := ?_) (v := ?_) ?_ (by kernel_rfl) (by kernel_rfl) (by kernel_rfl) ?_ ?_ (by assumption) ?_; rotate_left 2; (focus ((simp only [List.getElem?_toArray, List.getElem?_cons_succ, List.getElem?_cons_zero]); try rfl)); (focus (exact (fun _ _ _ h => h))); (focus (refine Or.inl ⟨by rfl, ?_⟩; intro w hSw; (try dsimp only at hSw); go_simp; try with_reducible rfl)); try simp only [Act.put, List.setIfInBounds_toArray, List.set_cons_zero, List.set_cons_succ])
              (refine wpAnyH_take (i := 24) (oi := ?_) (v := ?_) ?_ (by kernel_rfl) (by kernel_rfl) (by kernel_rfl) ?_ ?_ (by assumption) ?_; rotate_left 2; (focus ((simp only [List.getElem?_toArray, List.getElem?_cons_succ, List.getElem?_cons_zero]); try rfl)); (focus (exact (fun _ _ _ h => h))); (focus (refine Or.inl ⟨by rfl, ?_⟩; intro w hSw; (try dsimp only at hSw); go_simp; try with_reducible rfl)); try simp only [Act.put, List.setIfInBounds_toArray, List.set_cons_zero, List.set_cons_succ])
              (refine wpAnyH_take (i := 25) (oi := ?_) (v := ?_) ?_ (by kernel_rfl) (by kernel_rfl) (by kernel_rfl) ?_ ?_ (by assumption) ?_; rotate_left 2; (focus ((simp only [List.getElem?_toArray, List.getElem?_cons_succ, List.getElem?_cons_zero]); try rfl)); (focus (exact (fun _ _ _ h => h))); (focus (refine Or.inl ⟨by rfl, ?_⟩; intro w hSw; (try dsimp only at hSw); go_simp; try with_reducible rfl)); try simp only [Act.put, List.setIfInBounds_toArray, List.set_cons_zero, List.set_cons_succ])
              (refine wpAnyH_take (i := 26) (oi := ?_) (v := ?_) ?_ (by kernel_rfl) (by kernel_rfl) (by kernel_rfl) ?_ ?_ (by assumption) ?_; rotate_left 2; (focus ((simp only [List.getElem?_toArray, List.getElem?_cons_succ, List.getElem?_cons_zero]); try rfl)); (focus (exact (fun _ _ _ h => h))); (focus (refine Or.inl ⟨by rfl, ?_⟩; intro w hSw; (try dsimp only at hSw); go_simp; try with_reducible rfl)); try simp only [Act.put, List.setIfInBounds_toArray, List.set_cons_zero, List.set_cons_succ])
              (refine wpAnyH_take (i := 27) (oi := ?_) (v := ?_) ?_ (by kernel_rfl) (by kernel_rfl) (by kernel_rfl) ?_ ?_ (by assumption) ?_; rotate_left 2; (focus ((simp only [List.getElem?_toArray, List.getElem?_cons_succ, List.getElem?_cons_zero]); try rfl)); (focus (exact (fun _ _ _ h => h))); (focus (refine Or.inl ⟨by rfl, ?_⟩; intro w hSw; (try dsimp only at hSw); go_simp; try with_reducible rfl)); try simp only [Act.put, List.setIfInBounds_toArray, List.set_cons_zero, List.set_cons_succ])
              (refine wpAnyH_take (i := 28) (oi := ?_) (v := ?_) ?_ (by kernel_rfl) (by kernel_rfl) (by kernel_rfl) ?_ ?_ (by assumption) ?_; rotate_left 2; (focus ((simp only [List.getElem?_toArray, List.getElem?_cons_succ, List.getElem?_cons_zero]); try rfl)); (focus (exact (fun _ _ _ h => h))); (focus (refine Or.inl ⟨by rfl, ?_⟩; intro w hSw; (try dsimp only at hSw); go_simp; try with_reducible rfl)); try simp only [Act.put, List.setIfInBounds_toArray, List.set_cons_zero, List.set_cons_succ])
              (refine wpAnyH_take (i := 29) (oi := ?_) (v := ?_) ?_ (by kernel_rfl) (by kernel_rfl) (by kernel_rfl) ?_ ?_ (by assumption) ?_; rotate_left 2; (focus ((simp only [List.getElem?_toArray, List.getElem?_cons_succ, List.getElem?_cons_zero]); try rfl)); (focus (exact (fun _ _ _ h => h))); (focus (refine Or.inl ⟨by rfl, ?_⟩; intro w hSw; (try dsimp only at hSw); go_simp; try with_reducible rfl)); try simp only [Act.put, List.setIfInBounds_toArray, List.set_cons_zero, List.set_cons_succ])
              (refine wpAnyH_take (i := 30) (oi := ?_) (v := ?_) ?_ (by kernel_rfl) (by kernel_rfl) (by kernel_rfl) ?_ ?_ (by assumption) ?_; rotate_left 2; (focus ((simp only [List.getElem?_toArray, List.getElem?_cons_succ, List.getElem?_cons_zero]); try rfl)); (focus (exact (fun _ _ _ h => h))); (focus (refine Or.inl ⟨by rfl, ?_⟩; intro w hSw; (try dsimp only at hSw); go_simp; try with_reducible rfl)); try simp only [Act.put, List.setIfInBounds_toArray, List.set_cons_zero, List.set_cons_succ])
              refine wpAnyH_done (by kernel_rfl) ?_ _
              go_wp2_with fail
              go_meet
              exact ⟨rfl, fq⟩
          · have et : (M.t != r.tr) = true := by simpa using ht
            obtain rfl : v = true := by rw [← hv.out]; unfold RS.bad; simp [ht]
            try replace ht := Lib.hid ht
            try replace hj := Lib.hid hj
            try replace hk6 := Lib.hid hk6
            try replace hk7 := Lib.hid hk7
            go_wp2_with fail
            refine wp_region_held_drew (S := fun w' => (w'.cell? ⟨gX, 0, none⟩ = some (.int .i64 M.k) ∧ w'.cell? ⟨gX, 1, none⟩ = some (.int .i64 M.a) ∧ w'.cell? ⟨gX, 2, none⟩ = some (.int .i64 M.t) ∧ w'.cell? ⟨gX, 3, none⟩ = some (.int .i64 M.j) ∧ w'.cell? ⟨gX, 4, none⟩ = some (.int .i64 M.c) ∧ w'.cell? ⟨gX, 5, none⟩ = some (.int .i64 M.i) ∧ w'.cell? ⟨gX, 6, none⟩ = some (.int .i64 M.n) ∧ w'.cell? ⟨gX, 7, none⟩ = some (.int .i64 M.pa) ∧ w'.cell? ⟨gX, 8, none⟩ = some (.int .i64 M.pt) ∧ w'.cell? ⟨gX, 9, none⟩ = some (.int .i64 M.pj) ∧ w'.cell? ⟨gX, 10, none⟩ = some (.int .i64 M.pc) ∧ w'.cell? ⟨gX, 11, none⟩ = some (.slice M.ua M.un M.uc) ∧ w'.cell? ⟨gX, 12, none⟩ = some (.bool M.lo) ∧ w'.cell? ⟨gX, 13, none⟩ = some (.slice M.qa M.qn M.qc) ∧ w'.cell? ⟨gX, 14, none⟩ = some (.slice M.sa M.sn M.sc)) ∧ w'.cell? ⟨q, 0, none⟩ = some (.int .i64 r.tr) ∧ w'.cell? ⟨q, 1, none⟩ = some (.int .i64 r.jb)) (by kernel_rfl) (hS.out _ ((Fr.refl noB wX).drewN 1)) (fun hHeld => ?_)
            (refine wpAnyH_take (i := 0) (oi := ?_) (v := ?_) ?_ (by kernel_rfl) (by kernel_rfl) (by kernel_rfl) ?_ ?_ (by assumption) ?_; rotate_left 2; (focus ((simp only [List.getElem?_toArray, List.getElem?_cons_succ, List.getElem?_cons_zero]); try rfl)); (focus (exact (fun _ _ _ h => h))); (focus (refine Or.inl ⟨by rfl, ?_⟩; intro w hSw; (try dsimp only at hSw); go_simp; try with_reducible rfl)); try simp only [Act.put, List.setIfInBounds_toArray, List.set_cons_zero, List.set_cons_succ])
            refine wpAnyH_ready (rs := [1]) (by kernel_rfl) (by simp) (AllReadyH.cons rfl (fun K hK => ?_) AllReadyH.nil)
            go_simp
            go_at_call 26; refine (hr.out _ (fX.out.seqN ((Fr.refl noB _).drewN 1))).mono ?_; rintro e w5 ⟨rfl, f5⟩; have fq := ((Fr.refl noB wX).drewN 1).seqN f5
            go_wp2_with fail
            refine hK.out _ _ (hS.out _ fq) (fun hHeld => ?_)
            clear hK K
            try simp only [Act.put, List.setIfInBounds_toArray, List.set_cons_zero, List.set_cons_succ]
            (refine wpAnyH_take (i := 2) (oi := ?_) (v := ?_) ?_ (by kernel_rfl) (by kernel_rfl) (by kernel_rfl) ?_ ?_ (by assumption) ?_; rotate_left 2; (focus ((simp only [List.getElem?_toArray, List.getElem?_cons_succ, List.getElem?_cons_zero]); try rfl)); (focus (exact (fun _ _ _ h => h))); (focus (refine Or.inl ⟨by rfl, ?_⟩; intro w hSw; (try dsimp only at hSw); go_simp; try with_reducible rfl)); try simp only [Act.put, List.setIfInBounds_toArray, List.set_cons_zero, List.set_cons_succ])
            (refine wpAnyH_take (i := 3) (oi := ?_) (v := ?_) ?_ (by kernel_rfl) (by kernel_rfl) (by kernel_rfl) ?_ ?_ (by assumption) ?_; rotate_left 2; (focus ((simp only [List.getElem?_toArray, List.getElem?_cons_succ, List.getElem?_cons_zero]); try rfl)); (focus (exact (fun _ _ _ h => h))); (focus (refine Or.inl ⟨by rfl, ?_⟩; intro w hSw; (try dsimp only at hSw); go_simp; try with_reducible rfl)); try simp only [Act.put, List.setIfInBounds_toArray, List.set_cons_zero, List.set_cons_succ])
            (refine wpAnyH_take (i := 4) (oi := ?_) (v := ?_) ?_ (by kernel_rfl) (by kernel_rfl) (by kernel_rfl) ?_ ?_ (by assumption) ?_; rotate_left 2; (focus ((simp only [List.getElem?_toArray, List.getElem?_cons_succ, List.getElem?_cons_zero]); try rfl)); (focus (exact (fun _ _ _ h => h))); (focus (refine Or.inl ⟨by rfl, ?_⟩; intro w hSw; (try dsimp only at hSw); go_simp; try with_reducible rfl)); try simp only [Act.put, List.setIfInBounds_toArray, List.set_cons_zero, List.set_cons_succ])
            (refine wpAnyH_take (i := 5) (oi := ?_) (v := ?_) ?_ (by kernel_rfl) (by kernel_rfl) (by kernel_rfl) ?_ ?_ (by assumption) ?_; rotate_left 2; (focus ((simp only [List.getElem?_toArray, List.getElem?_cons_succ, List.getElem?_cons_zero]); try rfl)); (focus (exact (fun _ _ _ h => h))); (focus (refine Or.inl ⟨by rfl, ?_⟩; intro w hSw; (try dsimp only at hSw); go_simp; try with_reducible rfl)); try simp only [Act.put, List.setIfInBounds_toArray, List.set_cons_zero, List.set_cons_succ])
            (refine wpAnyH_take (i := 6) (oi := ?_) (v := ?_) ?_ (by kernel_rfl) (by kernel_rfl) (by kernel_rfl) ?_ ?_ (by assumption) ?_; rotate_left 2; (focus ((simp only [List.getElem?_toArray, List.getElem?_cons_succ, List.getElem?_cons_zero]); try rfl)); (focus (exact (fun _ _ _ h => h))); (focus (refine Or.inl ⟨by rfl, ?_⟩; intro w hSw; (try dsimp only at hSw); go_simp; try with_reducible rfl)); try simp only [Act.put, List.setIfInBounds_toArray, List.set_cons_zero, List.set_cons_succ])
            (refine wpAnyH_take (i := 7) (oi := ?_) (v := ?_) ?_ (by kernel_rfl) (by kernel_rfl) (by kernel_rfl) ?_ ?_ (by assumption) ?_; rotate_left 2; (focus ((simp only [List.getElem?_toArray, List.getElem?_cons_succ, List.getElem?_cons_zero]); try rfl)); (focus (exact (fun _ _ _ h => h))); (focus (refine Or.inl ⟨by rfl, ?_⟩; intro w hSw; (try dsimp only at hSw); go_simp; try with_reducible rfl)); try simp only [Act.put, List.setIfInBounds_toArray, List.set_cons_zero, List.set_cons_succ])
            (refine wpAnyH_take (i := 8) (oi := ?_) (v := ?_) ?_ (by kernel_rfl) (by kernel_rfl) (by kernel_rfl) ?_ ?_ (by assumption) ?_; rotate_left 2; (focus ((simp only [List.getElem?_toArray, List.getElem?_cons_succ, List.getElem?_cons_zero]); try rfl)); (focus (exact (fun _ _ _ h => h))); (focus (refine Or.inl ⟨by rfl, ?_⟩; intro w hSw; (try dsimp only at hSw); go_simp; try with_reducible rfl)); try simp only [Act.put, List.setIfInBounds_toArray, List.set_cons_zero, List.set_cons_succ])
            (refine wpAnyH_take (i := 9) (oi := ?_) (v := ?_) ?_ (by kernel_rfl) (by kernel_rfl) (by kernel_rfl) ?_ ?_ (by assumption) ?_; rotate_left 2; (focus ((simp only [List.getElem?_toArray, List.getElem?_cons_succ, List.getElem?_cons_zero]); try rfl)); (focus (exact (fun _ _ _ h => h))); (focus (refine Or.inl ⟨by rfl, ?_⟩; intro w hSw; (try dsimp only at hSw); go_simp; try with_reducible rfl)); try simp only [Act.put, List.setIfInBounds_toArray, List.set_cons_zero, List.set_cons_succ])
            (refine wpAnyH_take (i := 10) (oi := ?_) (v := ?_) ?_ (by kernel_rfl) (by kernel_rfl) (by kernel_rfl) ?_ ?_ (by assumption) ?_; rotate_left 2; (focus ((simp only [List.getElem?_toArray, List.getElem?_cons_succ, List.getElem?_cons_zero]); try rfl)); (focus (exact (fun _ _ _ h => h))); (focus (refine Or.inl ⟨by rfl, ?_⟩; intro w hSw; (try dsimp only at hSw); go_simp; try with_reducible rfl)); try simp only [Act.put, List.setIfInBounds_toArray, List.set_cons_zero, List.set_cons_succ])
            (refine wpAnyH_take (i := 11) (oi := ?_) (v := ?_) ?_ (by kernel_rfl) (by kernel_rfl) (by kernel_rfl) ?_ ?_ (by assumption) ?_; rotate_left 2; (focus ((simp only [List.getElem?_toArray, List.getElem?_cons_succ, List.getElem?_cons_zero]); try rfl)); (focus (exact (fun _ _ _ h => h))); (focus (refine Or.inl ⟨by rfl, ?_⟩; intro w hSw; (try dsimp only at hSw); go_simp; try with_reducible rfl)); try simp only [Act.put, List.setIfInBounds_toArray, List.set_cons_zero, List.set_cons_succ])
            (refine wpAnyH_take (i := 12) (oi := ?_) (v := ?_) ?_ (by kernel_rfl) (by kernel_rfl) (by kernel_rfl) ?_ ?_ (by assumption) ?_; rotate_left 2; (focus ((simp only [List.getElem?_toArray, List.getElem?_cons_succ, List.getElem?_cons_zero]); try rfl)); (focus (exact (fun _ _ _ h => h))); (focus (refine Or.inl ⟨by rfl, ?_⟩; intro w hSw; (try dsimp only at hSw); go_simp; try with_reducible rfl)); try simp only [Act.put, List.setIfInBounds_toArray, List.set_cons_zero, List.set_cons_succ])
            (refine wpAnyH_take (i := 13) (oi := ?_) (v := ?_) ?_ (by kernel_rfl) (by kernel_rfl) (by kernel_rfl) ?_ ?_ (by assumption) ?_; rotate_left 2; (focus ((simp only [List.getElem?_toArray, List.getElem?_cons_succ, List.getElem?_cons_zero]); try rfl)); (focus (exact (fun _ _ _ h => h))); (focus (refine Or.inl ⟨by rfl, ?_⟩; intro w hSw; (try dsimp only at hSw); go_simp; try with_reducible rfl)); try simp only [Act.put, List.setIfInBounds_toArray, List.set_cons_zero, List.set_cons_succ])
            (refine wpAnyH_take (i := 14) (oi := ?_) (v := ?_) ?_ (by kernel_rfl) (by kernel_rfl) (by kernel_rfl) ?_ ?_ (by assumption) ?_; rotate_left 2; (focus ((simp only [List.getElem?_toArray, List.getElem?_cons_succ, List.getElem?_cons_zero]); try rfl)); (focus (exact (fun _ _ _ h => h))); (focus (refine Or.inl ⟨by rfl, ?_⟩; intro w hSw; (try dsimp only at hSw); go_simp; try with_reducible rfl)); try simp only [Act.put, List.setIfInBounds_toArray, List.set_cons_zero, List.set_cons_succ])
            (refine wpAnyH_take (i := 15) (oi := ?_) (v := ?_) ?_ (by kernel_rfl) (by kernel_rfl) (by kernel_rfl) ?_ ?_ (by assumption) ?_; rotate_left 2; (focus ((simp only [List.getElem?_toArray, List.getElem?_cons_succ, List.getElem?_cons_zero]); try rfl)); (focus (exact (fun _ _ _ h => h))); (focus (refine Or.inl ⟨by rfl, ?_⟩; intro w hSw; (try dsimp only at hSw); go_simp; try with_reducible rfl)); try simp only [Act.put, List.setIfInBounds_toArray, List.set_cons_zero, List.set_cons_succ])
            (refine wpAnyH_take (i := 16) (oi := ?_) (v := ?_) ?_ (by kernel_rfl) (by kernel_rfl) (by kernel_rfl) ?_ ?_ (by assumption) ?_; rotate_left 2; (focus ((simp only [List.getElem?_toArray, List.getElem?_cons_succ, List.getElem?_cons_zero]); try rfl)); (focus (exact (fun _ _ _ h => h))); (focus (refine Or.inl ⟨by rfl, ?_⟩; intro w hSw; (try dsimp only at hSw); go_simp; try with_reducible rfl)); try simp only [Act.put, List.setIfInBounds_toArray, List.set_cons_zero, List.set_cons_succ])
            (refine wpAnyH_take (i := 17) (oi := ?_) (v := ?_) ?_ (by kernel_rfl) (by kernel_rfl) (by kernel_rfl) ?_ ?_ (by assumption) ?_; rotate_left 2; (focus ((simp only [List.getElem?_toArray, List.getElem?_cons_succ, List.getElem?_cons_zero]); try rfl)); (focus (exact (fun _ _ _ h => h))); (focus (refine Or.inl ⟨by rfl, ?_⟩; intro w hSw; (try dsimp only at hSw); go_simp; try with_reducible rfl)); try simp only [Act.put, List.setIfInBounds_toArray, List.set_cons_zero, List.set_cons_succ])
            (refine wpAnyH_take (i := 18) (oi := ?_) (v := ?_) ?_ (by kernel_rfl) (by kernel_rfl) (by kernel_rfl) ?_ ?_ (by assumption) ?_; rotate_left 2; (focus ((simp only [List.getElem?_toArray, List.getElem?_cons_succ, List.getElem?_cons_zero]); try rfl)); (focus (exact (fun _ _ _ h => h))); (focus (refine Or.inl ⟨by rfl, ?_⟩; intro w hSw; (try dsimp only at hSw); go_simp; try with_reducible rfl)); try simp only [Act.put, List.setIfInBounds_toArray, List.set_cons_zero, List.set_cons_succ])
            (refine wpAnyH_take (i := 19) (oi := ?_) (v := ?_) ?_ (by kernel_rfl) (by kernel_rfl) (by kernel_rfl) ?_ ?_ (by assumption) ?_; rotate_left 2; (focus ((simp only [List.getElem?_toArray, List.getElem?_cons_succ, List.getElem?_cons_zero]); try rfl)); (focus (exact (fun _ _ _ h => h))); (focus (refine Or.inl ⟨by rfl, ?_⟩; intro w hSw; (try dsimp only at hSw); go_simp; try with_reducible rfl)); try simp only [Act.put, List.setIfInBounds_toArray, List.set_cons_zero, List.set_cons_succ])
            (refine wpAnyH_take (i := 20) (oi := ?_) (v := ?_) ?_ (by kernel_rfl) (by kernel_rfl) (by kernel_rfl) ?_ ?_ (by assumption) ?_; rotate_left 2; (focus ((simp only [List.getElem?_toArray, List.getElem?_cons_succ, List.getElem?_cons_zero]); try rfl)); (focus (exact (fun _ _ _ h => h))); (focus (refine Or.inl ⟨by rfl, ?_⟩; intro w hSw; (try dsimp only at hSw); go_simp; try with_reducible rfl)); try simp only [Act.put, List.setIfInBounds_toArray, List.set_cons_zero, List.set_cons_succ])
            (refine wpAnyH_take (i := 21) (oi := ?_) (v := ?_) ?_ (by kernel_rfl) (by kernel_rfl) (by kernel_rfl) ?_ ?_ (by assumption) ?_; rotate_left 2; (focus ((simp only [List.getElem?_toArray, List.getElem?_cons_succ, List.getElem?_cons_zero]); try rfl)); (focus (exact (fun _ _ _ h => h))); (focus (refine Or.inl ⟨by rfl, ?_⟩; intro w hSw; (try dsimp only at hSw); go_simp; try with_reducible rfl)); try simp only [Act.put, List.setIfInBounds_toArray, List.set_cons_zero, List.set_cons_succ])
            (refine wpAnyH_take (i := 22) (oi := ?_) (v := ?_) ?_ (by kernel_rfl) (by kernel_rfl) (by kernel_rfl) ?_ ?_ (by assumption) ?_; rotate_left 2; (focus ((simp only [List.getElem?_toArray, List.getElem?_cons_succ, List.getElem?_cons_zero]); try rfl)); (focus (exact (fun _ _ _ h => h))); (focus (refine Or.inl ⟨by rfl, ?_⟩; intro w hSw; (try dsimp only at hSw); go_simp; try with_reducible rfl)); try simp only [Act.put, List.setIfInBounds_toArray, List.set_cons_zero, List.set_cons_succ])
            (refine wpAnyH_take (i := 23) (oi := ?_) (v := undef) ?_ (by kernel_rfl) (by kernel_rfl) (by kernel_rfl) ?_ ?_ (by assumption) ?_; rotate_left 1; (focus ((simp only [List.getElem?_toArray, List.getElem?_cons_succ, List.getElem?_cons_zero]); try rfl)); (focus (exact (fun _ _ _ h => h))); (focus (exact Or.inr ⟨by rfl, rfl⟩)); try simp only [Act.put, List.setIfInBounds_toArray, List.set_cons_zero, List.set_cons_succ])
            (refine wpAnyH_take (i := 24) (oi := ?_) (v := undef) ?_ (by kernel_rfl) (by kernel_rfl) (by kernel_rfl) ?_ ?_ (by assumption) ?_; rotate_left 1; (focus ((simp only [List.getElem?_toArray, List.getElem?_cons_succ, List.getElem?_cons_zero]); try rfl)); (focus (exact (fun _ _ _ h => h))); (focus (exact Or.inr ⟨by rfl, rfl⟩)); try simp only [Act.put, List.setIfInBounds_toArray, List.set_cons_zero, List.set_cons_succ])
            (refine wpAnyH_take (i := 25) (oi := ?_) (v := undef) ?_ (by kernel_rfl) (by kernel_rfl) (by kernel_rfl) ?_ ?_ (by assumption) ?_; rotate_left 1; (focus ((simp only [List.getElem?_toArray, List.getElem?_cons_succ, List.getElem?_cons_zero]); try rfl)); (focus (exact (fun _ _ _ h => h))); (focus (exact Or.inr ⟨by rfl, rfl⟩)); try simp only [Act.put, List.setIfInBounds_toArray, List.set_cons_zero, List.set_cons_succ])
            (refine wpAnyH_take (i := 26) (oi := ?_) (v := undef) ?_ (by kernel_rfl) (by kernel_rfl) (by kernel_rfl) ?_ ?_ (by assumption) ?_; rotate_left 1; (focus ((simp only [List.getElem?_toArray, List.getElem?_cons_succ, List.getElem?_cons_zero]); try rfl)); (focus (exact (fun _ _ _ h => h))); (focus (exact Or.inr ⟨by rfl, rfl⟩)); try simp only [Act.put, List.setIfInBounds_toArray, List.set_cons_zero, List.set_cons_succ])
            (refine wpAnyH_take (i := 27) (oi := ?_) (v := undef) ?_ (by kernel_rfl) (by kernel_rfl) (by kernel_rfl) ?_ ?_ (by assumption) ?_; rotate_left 1; (focus ((simp only [List.getElem?_toArray, List.getElem?_cons_succ, List.getElem?_cons_zero]); try rfl)); (focus (exact (fun _ _ _ h => h))); (focus (exact Or.inr ⟨by rfl, rfl⟩)); try simp only [Act.put, List.setIfInBounds_toArray, List.set_cons_zero, List.set_cons_succ])
            (refine wpAnyH_take (i := 28) (oi := ?_) (v := undef) ?_ (by kernel_rfl) (by kernel_rfl) (by kernel_rfl) ?_ ?_ (by assumption) ?_; rotate_left 1; (focus ((simp only [List.getElem?_toArray, List.getElem?_cons_succ, List.getElem?_cons_zero]); try rfl)); (focus (exact (fun _ _ _ h => h))); (focus (exact Or.inr ⟨by rfl, rfl⟩)); try simp only [Act.put, List.setIfInBounds_toArray, List.set_cons_zero, List.set_cons_succ])
            (refine wpAnyH_take (i := 29) (oi := ?_) (v := undef) ?_ (by kernel_rfl) (by kernel_rfl) (by kernel_rfl) ?_ ?_ (by assumption) ?_; rotate_left 1; (focus ((simp only [List.getElem?_toArray, List.getElem?_cons_succ, List.getElem?_cons_zero]); try rfl)); (focus (exact (fun _ _ _ h => h))); (focus (exact Or.inr ⟨by rfl, rfl⟩)); try simp only [Act.put, List.setIfInBounds_toArray, List.set_cons_zero, List.set_cons_succ])
            (refine wpAnyH_take (i := 30) (oi := ?_) (v := ?_) ?_ (by kernel_rfl) (by kernel_rfl) (by kernel_rfl) ?_ ?_ (by assumption) ?_; rotate_left 2; (focus ((simp only [List.getElem?_toArray, List.getElem?_cons_succ, List.getElem?_cons_zero]); try rfl)); (focus (exact (fun _ _ _ h => h))); (focus (refine Or.inl ⟨by rfl, ?_⟩; intro w hSw; (try dsimp only at hSw); go_simp; try with_reducible rfl)); try simp only [Act.put, List.setIfInBounds_toArray, List.set_cons_zero, List.set_cons_succ])
            refine wpAnyH_done (by kernel_rfl) ?_ _
            go_wp2_with fail
            go_meet
            exact ⟨rfl, fq⟩
        · have e7 : (M.k != 7) = true := by simpa using hk7
          obtain rfl : v = true := by rw [← hv.out]; unfold RS.bad; simp [hk6, hk7]
          try replace ht := Lib.hid ht
          try replace hj := Lib.hid hj
          try replace hk6 := Lib.hid hk6
          try replace hk7 := Lib.hid hk7
          go_wp2_with fail
          refine wp_region_held_drew (S := fun w' => (w'.cell? ⟨gX, 0, none⟩ = some (.int .i64 M.k) ∧ w'.cell? ⟨gX, 1, none⟩ = some (.int .i64 M.a) ∧ w'.cell? ⟨gX, 2, none⟩ = some (.int .i64 M.t) ∧ w'.cell? ⟨gX, 3, none⟩ = some (.int .i64 M.j) ∧ w'.cell? ⟨gX, 4, none⟩ = some (.int .i64 M.c) ∧ w'.cell? ⟨gX, 5, none⟩ = some (.int .i64 M.i) ∧ w'.cell? ⟨gX, 6, none⟩ = some (.int .i64 M.n) ∧ w'.cell? ⟨gX, 7, none⟩ = some (.int .i64 M.pa) ∧ w'.cell? ⟨gX, 8, none⟩ = some (.int .i64 M.pt) ∧ w'.cell? ⟨gX, 9, none⟩ = some (.int .i64 M.pj) ∧ w'.cell? ⟨gX, 10, none⟩ = some (.int .i64 M.pc) ∧ w'.cell? ⟨gX, 11, none⟩ = some (.slice M.ua M.un M.uc) ∧ w'.cell? ⟨gX, 12, none⟩ = some (.bool M.lo) ∧ w'.cell? ⟨gX, 13, none⟩ = some (.slice M.qa M.qn M.qc) ∧ w'.cell? ⟨gX, 14, none⟩ = some (.slice M.sa M.sn M.sc)) ∧ w'.cell? ⟨q, 0, none⟩ = some (.int .i64 r.tr) ∧ w'.cell? ⟨q, 1, none⟩ = some (.int .i64 r.jb)) (by kernel_rfl) (hS.out _ ((Fr.refl noB wX).drewN 1)) (fun hHeld => ?_)
          (refine wpAnyH_take (i := 0) (oi := ?_) (v := ?_) ?_ (by kernel_rfl) (by kernel_rfl) (by kernel_rfl) ?_ ?_ (by assumption) ?_; rotate_left 2; (focus ((simp only [List.getElem?_toArray, List.getElem?_cons_succ, List.getElem?_cons_zero]); try rfl)); (focus (exact (fun _ _ _ h => h))); (focus (refine Or.inl ⟨by rfl, ?_⟩; intro w hSw; (try dsimp only at hSw); go_simp; try with_reducible rfl)); try simp only [Act.put, List.setIfInBounds_toArray, List.set_cons_zero, List.set_cons_succ])
          refine wpAnyH_ready (rs := [1]) (by kernel_rfl) (by simp) (AllReadyH.cons rfl (fun K hK => ?_) AllReadyH.nil)
          go_simp
          go_at_call 26; refine (hr.out _ (fX.out.seqN ((Fr.refl noB _).drewN 1))).mono ?_; rintro e w5 ⟨rfl, f5⟩; have fq := ((Fr.refl noB wX).drewN 1).seqN f5
          go_wp2_with fail
          refine hK.out _ _ (hS.out _ fq) (fun hHeld => ?_)
          clear hK K
          try simp only [Act.put, List.setIfInBounds_toArray, List.set_cons_zero, List.set_cons_succ]
          (refine wpAnyH_take (i := 2) (oi := ?_) (v := ?_) ?_ (by kernel_rfl) (by kernel_rfl) (by kernel_rfl) ?_ ?_ (by assumption) ?_; rotate_left 2; (focus ((simp only [List.getElem?_toArray, List.getElem?_cons_succ, List.getElem?_cons_zero]); try rfl)); (focus (exact (fun _ _ _ h => h))); (focus (refine Or.inl ⟨by rfl, ?_⟩; intro w hSw; (try dsimp only at hSw); go_simp; try with_reducible rfl)); try simp only [Act.put, List.setIfInBounds_toArray, List.set_cons_zero, List.set_cons_succ])
          (refine wpAnyH_take (i := 3) (oi := ?_) (v := ?_) ?_ (by kernel_rfl) (by kernel_rfl) (by kernel_rfl) ?_ ?_ (by assumption) ?_; rotate_left 2; (focus ((simp only [List.getElem?_toArray, List.getElem?_cons_succ, List.getElem?_cons_zero]); try rfl)); (focus (exact (fun _ _ _ h => h))); (focus (refine Or.inl ⟨by rfl, ?_⟩; intro w hSw; (try dsimp only at hSw); go_simp; try with_reducible rfl)); try simp only [Act.put, List.setIfInBounds_toArray, List.set_cons_zero, List.set_cons_succ])
          (refine wpAnyH_take (i := 4) (oi := ?_) (v := ?_) ?_ (by kernel_rfl) (by kernel_rfl) (by kernel_rfl) ?_ ?_ (by assumption) ?_; rotate_left 2; (focus ((simp only [List.getElem?_toArray, List.getElem?_cons_succ, List.getElem?_cons_zero]); try rfl)); (focus (exact (fun _ _ _ h => h))); (focus (refine Or.inl ⟨by rfl, ?_⟩; intro w hSw; (try dsimp only at hSw); go_simp; try with_reducible rfl)); try simp only [Act.put, List.setIfInBounds_toArray, List.set_cons_zero, List.set_cons_succ])
          (refine wpAnyH_take (i := 5) (oi := ?_) (v := ?_) ?_ (by kernel_rfl) (by kernel_rfl) (by kernel_rfl) ?_ ?_ (by assumption) ?_; rotate_left 2; (focus ((simp only [List.getElem?_toArray, List.getElem?_cons_succ, List.getElem?_cons_zero]); try rfl)); (focus (exact (fun _ _ _ h => h))); (focus (refine Or.inl ⟨by rfl, ?_⟩; intro w hSw; (try dsimp only at hSw); go_simp; try with_reducible rfl)); try simp only [Act.put, List.setIfInBounds_toArray, List.set_cons_zero, List.set_cons_succ])
          (refine wpAnyH_take (i := 6) (oi := ?_) (v := ?_) ?_ (by kernel_rfl) (by kernel_rfl) (by kernel_rfl) ?_ ?_ (by assumption) ?_; rotate_left 2; (focus ((simp only [List.getElem?_toArray, List.getElem?_cons_succ, List.getElem?_cons_zero]); try rfl)); (focus (exact (fun _ _ _ h => h))); (focus (refine Or.inl ⟨by rfl, ?_⟩; intro w hSw; (try dsimp only at hSw); go_simp; try with_reducible rfl)); try simp only [Act.put, List.setIfInBounds_toArray, List.set_cons_zero, List.set_cons_succ])
          (refine wpAnyH_take (i := 7) (oi := ?_) (v := ?_) ?_ (by kernel_rfl) (by kernel_rfl) (by kernel_rfl) ?_ ?_ (by assumption) ?_; rotate_left 2; (focus ((simp only [List.getElem?_toArray, List.getElem?_cons_succ, List.getElem?_cons_zero]); try rfl)); (focus (exact (fun _ _ _ h => h))); (focus (refine Or.inl ⟨by rfl, ?_⟩; intro w hSw; (try dsimp only at hSw); go_simp; try with_reducible rfl)); try simp only [Act.put, List.setIfInBounds_toArray, List.set_cons_zero, List.set_cons_succ])
          (refine wpAnyH_take (i := 8) (oi := ?_) (v := ?_) ?_ (by kernel_rfl) (by kernel_rfl) (by kernel_rfl) ?_ ?_ (by assumption) ?_; rotate_left 2; (focus ((simp only [List.getElem?_toArray, List.getElem?_cons_succ, List.getElem?_cons_zero]); try rfl)); (focus (exact (fun _ _ _ h => h))); (focus (refine Or.inl ⟨by rfl, ?_⟩; intro w hSw; (try dsimp only at hSw); go_simp; try with_reducible rfl)); try simp only [Act.put, List.setIfInBounds_toArray, List.set_cons_zero, List.set_cons_succ])
          (refine wpAnyH_take (i := 9) (oi := ?_) (v := ?_) ?_ (by kernel_rfl) (by kernel_rfl) (by kernel_rfl) ?_ ?_ (by assumption) ?_; rotate_left 2; (focus ((simp only [List.getElem?_toArray, List.getElem?_cons_succ, List.getElem?_cons_zero]); try rfl)); (focus (exact (fun _ _ _ h => h))); (focus (refine Or.inl ⟨by rfl, ?_⟩; intro w hSw; (try dsimp only at hSw); go_simp; try with_reducible rfl)); try simp only [Act.put, List.setIfInBounds_toArray, List.set_cons_zero, List.set_cons_succ])
          (refine wpAnyH_take (i := 10) (oi := ?_) (v := ?_) ?_ (by kernel_rfl) (by kernel_rfl) (by kernel_rfl) ?_ ?_ (by assumption) ?_; rotate_left 2; (focus ((simp only [List.getElem?_toArray, List.getElem?_cons_succ, List.getElem?_cons_zero]); try rfl)); (focus (exact (fun _ _ _ h => h))); (focus (refine Or.inl ⟨by rfl, ?_⟩; intro w hSw; (try dsimp only at hSw); go_simp; try with_reducible rfl)); try simp only [Act.put, List.setIfInBounds_toArray, List.set_cons_zero, List.set_cons_succ])
          (refine wpAnyH_take (i := 11) (oi := ?_) (v := ?_) ?_ (by kernel_rfl) (by kernel_rfl) (by kernel_rfl) ?_ ?_ (by assumption) ?_; rotate_left 2; (focus ((simp only [List.getElem?_toArray, List.getElem?_cons_succ, List.getElem?_cons_zero]); try rfl)); (focus (exact (fun _ _ _ h => h))); (focus (refine Or.inl ⟨by rfl, ?_⟩; intro w hSw; (try dsimp only at hSw); go_simp; try with_reducible rfl)); try simp only [Act.put, List.setIfInBounds_toArray, List.set_cons_zero, List.set_cons_succ])
          (refine wpAnyH_take (i := 12) (oi := ?_) (v := ?_) ?_ (by kernel_rfl) (by kernel_rfl) (by kernel_rfl) ?_ ?_ (by assumption) ?_; rotate_left 2; (focus ((simp only [List.getElem?_toArray, List.getElem?_cons_succ, List.getElem?_cons_zero]); try rfl)); (focus (exact (fun _ _ _ h => h))); (focus (refine Or.inl ⟨by rfl, ?_⟩; intro w hSw; (try dsimp only at hSw); go_simp; try with_reducible rfl)); try simp only [Act.put, List.setIfInBounds_toArray, List.set_cons_zero, List.set_cons_succ])
          (refine wpAnyH_take (i := 13) (oi := ?_) (v := ?_) ?_ (by kernel_rfl) (by kernel_rfl) (by kernel_rfl) ?_ ?_ (by assumption) ?_; rotate_left 2; (focus ((simp only [List.getElem?_toArray, List.getElem?_cons_succ, List.getElem?_cons_zero]); try rfl)); (focus (exact (fun _ _ _ h => h))); (focus (refine Or.inl ⟨by rfl, ?_⟩; intro w hSw; (try dsimp only at hSw); go_simp; try with_reducible rfl)); try simp only [Act.put, List.setIfInBounds_toArray, List.set_cons_zero, List.set_cons_succ])
          (refine wpAnyH_take (i := 14) (oi := ?_) (v := undef) ?_ (by kernel_rfl) (by kernel_rfl) (by kernel_rfl) ?_ ?_ (by assumption) ?_; rotate_left 1; (focus ((simp only [List.getElem?_toArray, List.getElem?_cons_succ, List.getElem?_cons_zero]); try rfl)); (focus (exact (fun _ _ _ h => h))); (focus (exact Or.inr ⟨by rfl, rfl⟩)); try simp only [Act.put, List.setIfInBounds_toArray, List.set_cons_zero, List.set_cons_succ])
          (refine wpAnyH_take (i := 15) (oi := ?_) (v := undef) ?_ (by kernel_rfl) (by kernel_rfl) (by kernel_rfl) ?_ ?_ (by assumption) ?_; rotate_left 1; (focus ((simp only [List.getElem?_toArray, List.getElem?_cons_succ, List.getElem?_cons_zero]); try rfl)); (focus (exact (fun _ _ _ h => h))); (focus (exact Or.inr ⟨by rfl, rfl⟩)); try simp only [Act.put, List.setIfInBounds_toArray, List.set_cons_zero, List.set_cons_succ])
          (refine wpAnyH_take (i := 16) (oi := ?_) (v := undef) ?_ (by kernel_rfl) (by kernel_rfl) (by kernel_rfl) ?_ ?_ (by assumption) ?_; rotate_left 1; (focus ((simp only [List.getElem?_toArray, List.getElem?_cons_succ, List.getElem?_cons_zero]); try rfl)); (focus (exact (fun _ _ _ h => h))); (focus (exact Or.inr ⟨by rfl, rfl⟩)); try simp only [Act.put, List.setIfInBounds_toArray, List.set_cons_zero, List.set_cons_succ])
          (refine wpAnyH_take (i := 17) (oi := ?_) (v := undef) ?_ (by kernel_rfl) (by kernel_rfl) (by kernel_rfl) ?_ ?_ (by assumption) ?_; rotate_left 1; (focus ((simp only [List.getElem?_toArray, List.getElem?_cons_succ, List.getElem?_cons_zero]); try rfl)); (focus (exact (fun _ _ _ h => h))); (focus (exact Or.inr ⟨by rfl, rfl⟩)); try simp only [Act.put, List.setIfInBounds_toArray, List.set_cons_zero, List.set_cons_succ])
          (refine wpAnyH_take (i := 18) (oi := ?_) (v := undef) ?_ (by kernel_rfl) (by kernel_rfl) (by kernel_rfl) ?_ ?_ (by assumption) ?_; rotate_left 1; (focus ((simp only [List.getElem?_toArray, List.getElem?_cons_succ, List.getElem?_cons_zero]); try rfl)); (focus (exact (fun _ _ _ h => h))); (focus (exact Or.inr ⟨by rfl, rfl⟩)); try simp only [Act.put, List.setIfInBounds_toArray, List.set_cons_zero, List.set_cons_succ])
          (refine wpAnyH_take (i := 19) (oi := ?_) (v := undef) ?_ (by kernel_rfl) (by kernel_rfl) (by kernel_rfl) ?_ ?_ (by assumption) ?_; rotate_left 1; (focus ((simp only [List.getElem?_toArray, List.getElem?_cons_succ, List.getElem?_cons_zero]); try rfl)); (focus (exact (fun _ _ _ h => h))); (focus (exact Or.inr ⟨by rfl, rfl⟩)); try simp only [Act.put, List.setIfInBounds_toArray, List.set_cons_zero, List.set_cons_succ])
          (refine wpAnyH_take (i := 20) (oi := ?_) (v := undef) ?_ (by kernel_rfl) (by kernel_rfl) (by kernel_rfl) ?_ ?_ (by assumption) ?_; rotate_left 1; (focus ((simp only [List.getElem?_toArray, List.getElem?_cons_succ, List.getElem?_cons_zero]); try rfl)); (focus (exact (fun _ _ _ h => h))); (focus (exact Or.inr ⟨by rfl, rfl⟩)); try simp only [Act.put, List.setIfInBounds_toArray, List.set_cons_zero, List.set_cons_succ])
          (refine wpAnyH_take (i := 21) (oi := ?_) (v := ?_) ?_ (by kernel_rfl) (by kernel_rfl) (by kernel_rfl) ?_ ?_ (by assumption) ?_; rotate_left 2; (focus ((simp only [List.getElem?_toArray, List.getElem?_cons_succ, List.getElem?_cons_zero]); try rfl)); (focus (exact (fun _ _ _ h => h))); (focus (refine Or.inl ⟨by rfl, ?_⟩; intro w hSw; (try dsimp only at hSw); go_simp; try with_reducible rfl)); try simp only [Act.put, List.setIfInBounds_toArray, List.set_cons_zero, List.set_cons_succ])
          (refine wpAnyH_take (i := 22) (oi := ?_) (v := ?_) ?_ (by kernel_rfl) (by kernel_rfl) (by kernel_rfl) ?_ ?_ (by assumption) ?_; rotate_left 2; (focus ((simp only [List.getElem?_toArray, List.getElem?_cons_succ, List.getElem?_cons_zero]); try rfl)); (focus (exact (fun _ _ _ h => h))); (focus (refine Or.inl ⟨by rfl, ?_⟩; intro w hSw; (try dsimp only at hSw); go_simp; try with_reducible rfl)); try simp only [Act.put, List.setIfInBounds_toArray, List.set_cons_zero, List.set_cons_succ])
          (refine wpAnyH_take (i := 23) (oi := ?_) (v := undef) ?_ (by kernel_rfl) (by kernel_rfl) (by kernel_rfl) ?_ ?_ (by assumption) ?_; rotate_left 1; (focus ((simp only [List.getElem?_toArray, List.getElem?_cons_succ, List.getElem?_cons_zero]); try rfl)); (focus (exact (fun _ _ _ h => h))); (focus (exact Or.inr ⟨by rfl, rfl⟩)); try simp only [Act.put, List.setIfInBounds_toArray, List.set_cons_zero, List.set_cons_succ])
          (refine wpAnyH_take (i := 24) (oi := ?_) (v := undef) ?_ (by kernel_rfl) (by kernel_rfl) (by kernel_rfl) ?_ ?_ (by assumption) ?_; rotate_left 1; (focus ((simp only [List.getElem?_toArray, List.getElem?_cons_succ, List.getElem?_cons_zero]); try rfl)); (focus (exact (fun _ _ _ h => h))); (focus (exact Or.inr ⟨by rfl, rfl⟩)); try simp only [Act.put, List.setIfInBounds_toArray, List.set_cons_zero, List.set_cons_succ])
          (refine wpAnyH_take (i := 25) (oi := ?_) (v := undef) ?_ (by kernel_rfl) (by kernel_rfl) (by kernel_rfl) ?_ ?_ (by assumption) ?_; rotate_left 1; (focus ((simp only [List.getElem?_toArray, List.getElem?_cons_succ, List.getElem?_cons_zero]); try rfl)); (focus (exact (fun _ _ _ h => h))); (focus (exact Or.inr ⟨by rfl, rfl⟩)); try simp only [Act.put, List.setIfInBounds_toArray, List.set_cons_zero, List.set_cons_succ])
          (refine wpAnyH_take (i := 26) (oi := ?_) (v := undef) ?_ (by kernel_rfl) (by kernel_rfl) (by kernel_rfl) ?_ ?_ (by assumption) ?_; rotate_left 1; (focus ((simp only [List.getElem?_toArray, List.getElem?_cons_succ, List.getElem?_cons_zero]); try rfl)); (focus (exact (fun _ _ _ h => h))); (focus (exact Or.inr ⟨by rfl, rfl⟩)); try simp only [Act.put, List.setIfInBounds_toArray, List.set_cons_zero, List.set_cons_succ])
          (refine wpAnyH_take (i := 27) (oi := ?_) (v := undef) ?_ (by kernel_rfl) (by kernel_rfl) (by kernel_rfl) ?_ ?_ (by assumption) ?_; rotate_left 1; (focus ((simp only [List.getElem?_toArray, List.getElem?_cons_succ, List.getElem?_cons_zero]); try rfl)); (focus (exact (fun _ _ _ h => h))); (focus (exact Or.inr ⟨by rfl, rfl⟩)); try simp only [Act.put, List.setIfInBounds_toArray, List.set_cons_zero, List.set_cons_succ])
          (refine wpAnyH_take (i := 28) (oi := ?_) (v := undef) ?_ (by kernel_rfl) (by kernel_rfl) (by kernel_rfl) ?_ ?_ (by assumption) ?_; rotate_left 1; (focus ((simp only [List.getElem?_toArray, List.getElem?_cons_succ, List.getElem?_cons_zero]); try rfl)); (focus (exact (fun _ _ _ h => h))); (focus (exact Or.inr ⟨by rfl, rfl⟩)); try simp only [Act.put, List.setIfInBounds_toArray, List.set_cons_zero, List.set_cons_succ])
          (refine wpAnyH_take (i := 29) (oi := ?_) (v := undef) ?_ (by kernel_rfl) (by kernel_rfl) (by kernel_rfl) ?_ ?_ (by assumption) ?_; rotate_left 1; (focus ((simp only [List.getElem?_toArray, List.getElem?_cons_succ, List.getElem?_cons_zero]); try rfl)); (focus (exact (fun _ _ _ h => h))); (focus (exact Or.inr ⟨by rfl, rfl⟩)); try simp only [Act.put, List.setIfInBounds_toArray, List.set_cons_zero, List.set_cons_succ])
          (refine wpAnyH_take (i := 30) (oi := ?_) (v := ?_) ?_ (by kernel_rfl) (by kernel_rfl) (by kernel_rfl) ?_ ?_ (by assumption) ?_; rotate_left 2; (focus ((simp only [List.getElem?_toArray, List.getElem?_cons_succ, List.getElem?_cons_zero]); try rfl)); (focus (exact (fun _ _ _ h => h))); (focus (refine Or.inl ⟨by rfl, ?_⟩; intro w hSw; (try dsimp only at hSw); go_simp; try with_reducible rfl)); try simp only [Act.put, List.setIfInBounds_toArray, List.set_cons_zero, List.set_cons_succ])
          refine wpAnyH_done (by kernel_rfl) ?_ _
          go_wp2_with fail
          go_meet
          exact ⟨rfl, fq⟩
  case rest =>
    obtain ⟨rfl, f1⟩ := hcut
    have f01 := fX.out.seqN f1
    have b1 := f1.blk bX.out (fun q => q)
    have A1 := h.out.frN f01
    have hsz := f01.size
    clear hS hr
    cases hvv : v with
    | true =>
      subst hvv
      obtain rfl : R = (false, r) := by rw [← hR.out]; unfold RS.hearB; rw [hv.out]; rfl
      replace A1 := Lib.hid A1
      go_wp2_with fail
      go_ret
      exact ⟨rfl, ⟨_, _, _, E, A1.out, fun g hg => Or.inl hg⟩, f01.mono (fun _ _ q => q.elim)⟩
    | false =>
      subst hvv
      obtain ⟨hb1, hk67, ht, hj⟩ := bad_no hv.out
      replace ht := Lib.hid ht
      replace hj := Lib.hid hj
      have y0 : wc.cell? ⟨gX, 0, none⟩ = some (.int .i64 M.k) := b1.cell 0
      have y1 : wc.cell? ⟨gX, 1, none⟩ = some (.int .i64 M.a) := b1.cell 1
      have y2 : wc.cell? ⟨gX, 2, none⟩ = some (.int .i64 M.t) := b1.cell 2
      have y3 : wc.cell? ⟨gX, 3, none⟩ = some (.int .i64 M.j) := b1.cell 3
      have y4 : wc.cell? ⟨gX, 4, none⟩ = some (.int .i64 M.c) := b1.cell 4
      have y5 : wc.cell? ⟨gX, 5, none⟩ = some (.int .i64 M.i) := b1.cell 5
      have y6 : wc.cell? ⟨gX, 6, none⟩ = some (.int .i64 M.n) := b1.cell 6
      have y7 : wc.cell? ⟨gX, 7, none⟩ = some (.int .i64 M.pa) := b1.cell 7
      have y8 : wc.cell? ⟨gX, 8, none⟩ = some (.int .i64 M.pt) := b1.cell 8
      have y9 : wc.cell? ⟨gX, 9, none⟩ = some (.int .i64 M.pj) := b1.cell 9
      have y10 : wc.cell? ⟨gX, 10, none⟩ = some (.int .i64 M.pc) := b1.cell 10
      have y11 : wc.cell? ⟨gX, 11, none⟩ = some (.slice M.ua M.un M.uc) := b1.cell 11
      have y12 : wc.cell? ⟨gX, 12, none⟩ = some (.bool M.lo) := b1.cell 12
      have y13 : wc.cell? ⟨gX, 13, none⟩ = some (.slice M.qa M.qn M.qc) := b1.cell 13
      have y14 : wc.cell? ⟨gX, 14, none⟩ = some (.slice M.sa M.sn M.sc) := b1.cell 14
      rcases hk67 with hk | hk
      rotate_left
      · have hR7 : R = if r.man.isSome = true then (false, r) else (true, ⟨r.tr, r.jb, some (M.c, ps), r.K⟩) := by rw [← hR.out]; unfold RS.hearB; rw [hv.out, if_neg (by simp), if_pos hk]
        have y0' : wc.cell? ⟨gX, 0, none⟩ = some (.int .i64 7) := by rw [← hk]; exact y0
        have d17 : wc.cell? ⟨q, 17, none⟩ = some (.bool r.man.isSome) := A1.blk.cell 17
        have z17 := A1.blk.frozen 17
        obtain ⟨p1, p2, p3⟩ := hm7.out hv.out hk
        replace p1 := Lib.hid p1
        clear y0
        replace hk := Lib.hid hk
        cases hms : r.man.isSome with
        | true =>
          rw [hms] at hR7 d17
          rw [if_pos rfl] at hR7
          subst hR7
          replace A1 := Lib.hid A1
          replace p2 := Lib.hid p2
          go_wp2_with fail
          go_ret
          exact ⟨rfl, ⟨_, _, _, E, A1.out, fun g hg => Or.inl hg⟩, f01.mono (fun _ _ q => q.elim)⟩
        | false =>
          rw [hms] at hR7 d17
          rw [if_neg (by simp)] at hR7
          subst hR7
          have bq1 := A1.blk.set 17 (.bool true)
          unfold arC at bq1
          simp only [List.set_cons_zero, List.set_cons_succ] at bq1
          have s1 : Fr (onlyB q) wc (wc.setCell ⟨q, 17, none⟩ (.bool true)) := (Fr.refl _ _).store (onlyB_self q)
          have hqg : ¬ onlyB q gX := fun e => by unfold onlyB at e; omega
          have b2 := s1.blk b1 hqg
          have hszm : Hid ((Try.prog.info? 34).map (·.size) = some (#[.int .i64 M.k, .int .i64 M.a, .int .i64 M.t, .int .i64 M.j, .int .i64 M.c, .int .i64 M.i, .int .i64 M.n, .int .i64 M.pa, .int .i64 M.pt, .int .i64 M.pj, .int .i64 M.pc, .slice M.ua M.un M.uc, .bool M.lo, .slice M.qa M.qn M.qc, .slice M.sa M.sn M.sc] : Array Value).size) := Lib.hid msg_size
          have hon : Hid ((#[.int .i64 M.k, .int .i64 M.a, .int .i64 M.t, .int .i64 M.j, .int .i64 M.c, .int .i64 M.i, .int .i64 M.n, .int .i64 M.pa, .int .i64 M.pt, .int .i64 M.pj, .int .i64 M.pc, .slice M.ua M.un M.uc, .bool M.lo, .slice M.qa M.qn M.qc, .slice M.sa M.sn M.sc] : Array Value).all (·.oneCell') = true) := Lib.hid (mr_one M)
          clear y1 y2 y3 y4 y5 y6 y7 y8 y9 y10 y11 y12 y13 y14
          replace A1 := Lib.hid A1
          replace p2 := Lib.hid p2
          go_upto_region 7 with fail
          generalize hw2 : wc.setCell ⟨q, 17, none⟩ (.bool true) = w2 at *
          replace hw2 := Lib.hid hw2
          have u0 : w2.cell? ⟨gX, 0, none⟩ = some (.int .i64 M.k) := b2.cell 0
          have u1 : w2.cell? ⟨gX, 1, none⟩ = some (.int .i64 M.a) := b2.cell 1
          have u2 : w2.cell? ⟨gX, 2, none⟩ = some (.int .i64 M.t) := b2.cell 2
          have u3 : w2.cell? ⟨gX, 3, none⟩ = some (.int .i64 M.j) := b2.cell 3
          have u4 : w2.cell? ⟨gX, 4, none⟩ = some (.int .i64 M.c) := b2.cell 4
          have u5 : w2.cell? ⟨gX, 5, none⟩ = some (.int .i64 M.i) := b2.cell 5
          have u6 : w2.cell? ⟨gX, 6, none⟩ = some (.int .i64 M.n) := b2.cell 6
          have u7 : w2.cell? ⟨gX, 7, none⟩ = some (.int .i64 M.pa) := b2.cell 7
          have u8 : w2.cell? ⟨gX, 8, none⟩ = some (.int .i64 M.pt) := b2.cell 8
          have u9 : w2.cell? ⟨gX, 9, none⟩ = some (.int .i64 M.pj) := b2.cell 9
          have u10 : w2.cell? ⟨gX, 10, none⟩ = some (.int .i64 M.pc) := b2.cell 10
          have u11 : w2.cell? ⟨gX, 11, none⟩ = some (.slice M.ua M.un M.uc) := b2.cell 11
          have u12 : w2.cell? ⟨gX, 12, none⟩ = some (.bool M.lo) := b2.cell 12
          have u13 : w2.cell? ⟨gX, 13, none⟩ = some (.slice M.qa M.qn M.qc) := b2.cell 13
          have u14 : w2.cell? ⟨gX, 14, none⟩ = some (.slice M.sa M.sn M.sc) := b2.cell 14
          have th : Hid (w2.there q 2 (#[.int .i64 M.k, .int .i64 M.a, .int .i64 M.t, .int .i64 M.j, .int .i64 M.c, .int .i64 M.i, .int .i64 M.n, .int .i64 M.pa, .int .i64 M.pt, .int .i64 M.pj, .int .i64 M.pc, .slice M.ua M.un M.uc, .bool M.lo, .slice M.qa M.qn M.qc, .slice M.sa M.sn M.sc] : Array Value).size) := Lib.hid (there6m bq1 (by simp))
          replace b2 := Lib.hid b2
          replace s1 := Lib.hid s1
          replace bq1 := Lib.hid bq1
          go_wp2_with (first
            | (refine wpList_store_mid rfl 34 (.tmp 50) (.tmp 48) rfl q 2 #[.int .i64 M.k, .int .i64 M.a, .int .i64 M.t, .int .i64 M.j, .int .i64 M.c, .int .i64 M.i, .int .i64 M.n, .int .i64 M.pa, .int .i64 M.pt, .int .i64 M.pj, .int .i64 M.pc, .slice M.ua M.un M.uc, .bool M.lo, .slice M.qa M.qn M.qc, .slice M.sa M.sn M.sc] rfl rfl th.out hszm.out hon.out ?_; obtain ⟨w3, hw3, s2, h3⟩ := store_at w2 q 2 #[.int .i64 M.k, .int .i64 M.a, .int .i64 M.t, .int .i64 M.j, .int .i64 M.c, .int .i64 M.i, .int .i64 M.n, .int .i64 M.pa, .int .i64 M.pt, .int .i64 M.pj, .int .i64 M.pc, .slice M.ua M.un M.uc, .bool M.lo, .slice M.qa M.qn M.qc, .slice M.sa M.sn M.sc]; rw [← hw3]; clear hw3; have bq2 := h3 _ _ bq1.out (by simp))
            | fail)
          replace bq2 := Lib.hid bq2
          replace s2 := Lib.hid s2
          go_wp2_with fail
          go_ret
          have sq : Fr (onlyB q) wc w3 := s1.out.trans s2.out (fun _ _ q => q) (fun _ _ q => q)
          have hA := A1.out
          refine ⟨rfl, ⟨M, ca, cc, fun g => E g ∨ F g, ⟨?_, ?_, ?_, ?_, Or.inl hA.eq, fun g hg => Or.inl (hA.er g hg), ?_, hA.len⟩, fun g hg => hg.elim Or.inl (fun k => Or.inr (Or.inl k))⟩, ?_⟩
          · exact bq2.out
          · intro c ps' e
            injection e with e
            injection e with e1 e2
            subst e1 e2
            refine ⟨rfl, p1.out, p3, F, (p2.out.fr (f01) (fun _ _ q => q)).fr sq ?_, fun g hg => Or.inr hg, fun g hg => ⟨fun e => hFE.out g hg (by rw [e]; exact hA.eq), fun e => hFE.out g hg (hA.er g e)⟩⟩
            intro g hg e
            unfold onlyB at e
            subst e
            exact hFE.out g hg hA.eq
          · exact ownsRow_fr hA.row sq (fun g hg e => by unfold onlyB at e; subst e; exact row_not hA.row hA.blk (by decide) hg)
          · intro k hk
            refine ⟨(hA.sps k hk).1.fr1 sq (fun hne g o n c e => ?_), (hA.sps k hk).2⟩
            have h1 := (hA.sps k hk).2 hne g o (by injection e)
            have h2 := (hA.lo q hA.eq).1
            unfold onlyB; omega
          · intro g hg
            have h1 := sq.size
            rcases hg with hg | hg
            · have := hA.lo g hg; omega
            · have := hF.out g hg; omega
          · exact f01.trans sq (fun _ _ q => q.elim) (fun i _ e => by unfold onlyB at e; subst e; exact hA.eq)
      · have hR6 : R = if refuses (r.K.map Kq.kp) x.a x.i x.n = true then (false, r) else (true, ⟨r.tr, r.jb, r.man, r.K ++ [x]⟩) := by rw [← hR.out]; unfold RS.hearB; rw [hv.out, if_neg (by simp), if_neg (by omega)]
        obtain ⟨p1, p2, p3, p4⟩ := hm6.out hv.out hk
        subst p1
        clear hm6 hm7 hv hR ht hj hk fX f1 y0 y1 y2 y3 y4 y5 y6 y7 y8 y9 y10 y11 y12 y13 y14
        replace b1 : Hid (Blk wc gX 34 [.int .i64 6, .int .i64 x.a, .int .i64 r.tr, .int .i64 r.jb, .int .i64 0, .int .i64 x.i, .int .i64 x.n, .int .i64 0, .int .i64 0, .int .i64 0, .int .i64 0, .slice none 0 0, .bool false, .slice none 0 0, .slice x.sa x.sp.length x.sc]) := Lib.hid b1
        have y0 : wc.cell? ⟨gX, 0, none⟩ = some (.int .i64 6) := b1.out.cell 0
        obtain ⟨n, hn⟩ : ∃ n, r.K.length = n := ⟨_, rfl⟩
        have hget : ∀ k, k < n → ∃ y, r.K[k]? = some y := fun k hk => ⟨r.K[k]'(by omega), List.getElem?_eq_getElem (by omega)⟩
        obtain ⟨i0, hi, hz0, hz1, hz2⟩ := info_parts infoMsgR
        replace A1 := Lib.hid A1
        replace p2 := Lib.hid p2
        replace p3 := Lib.hid p3
        replace hR6 := Lib.hid hR6
        replace hget := Lib.hid hget
        rw [hn] at p4
        replace hn := Lib.hid hn
        replace f01 := Lib.hid f01
        replace hsz := Lib.hid hsz
        go_wp2_with fail
        clear y0
        go_loopw [5] (fun i wr => ∃ k : Nat, k ≤ n ∧ i = .int .i64 k ∧ Hid (refuses ((r.K.map Kq.kp).take k) x.a x.i x.n = false) ∧ Fr noB wc wr) (fun i _ => n - (RowKit.intOf i).toNat)
        case atStart => exact ⟨0, by omega, rfl, Lib.hid rfl, Fr.refl _ _⟩
        case round =>
          obtain ⟨k, hk, rfl, hno, fr⟩ := hrel
          have AW := A1.out.frN fr
          have bw := fr.blk b1.out (fun q => q)
          have d18 : wr.cell? ⟨q, 18, none⟩ = some (.slice ca n cc) := by rw [← hn.out]; exact AW.blk.cell 18
          by_cases hlt : k < n
          · obtain ⟨y, hy⟩ := hget.out k hlt
            obtain ⟨g, rfl, hc⟩ := AW.get hy
            have m1 : wr.cell? ⟨gX, 1, none⟩ = some (.int .i64 x.a) := bw.cell 1
            have m5 : wr.cell? ⟨gX, 5, none⟩ = some (.int .i64 x.i) := bw.cell 5
            have m6 : wr.cell? ⟨gX, 6, none⟩ = some (.int .i64 x.n) := bw.cell 6
            have c1 : wr.cell? ⟨g, k * 15 + 1, none⟩ = some (.int .i64 y.a) := hc 1 _ rfl
            have c5 : wr.cell? ⟨g, k * 15 + 5, none⟩ = some (.int .i64 y.i) := hc 5 _ rfl
            have c6 : wr.cell? ⟨g, k * 15 + 6, none⟩ = some (.int .i64 y.n) := hc 6 _ rfl
            have hy' : (r.K.map Kq.kp)[k]? = some y.kp := by rw [List.getElem?_map, hy]; rfl
            have hb1 : (k : Int) < n := by omega
            clear hc bw hy
            by_cases ha : y.a = x.a
            · have ea : (y.a == x.a) = true := by simpa using ha
              by_cases hn2 : y.n = x.n
              · have en : (y.n != x.n) = false := by rw [hn2]; simp
                by_cases hi2 : y.i = x.i
                · have ei : (y.i == x.i) = true := by simpa using hi2
                  obtain rfl : R = (false, r) := by rw [hR6.out, if_pos (refuses_hit hy' ha (Or.inr hi2))]
                  replace AW := Lib.hid AW
                  replace ha := Lib.hid ha
                  replace hn2 := Lib.hid hn2
                  replace hi2 := Lib.hid hi2
                  replace hy' := Lib.hid hy'
                  go_wp2_with fail
                  go_quiet (fail)
                  go_wp2_with fail
                  go_ret
                  exact ⟨rfl, ⟨_, _, _, E, AW.out.frN ((Fr.refl _ _).drewN _), fun g hg => Or.inl hg⟩, ((f01.out.seqN fr).drewN _).mono (fun _ _ q => q.elim)⟩
                · have ei : (y.i == x.i) = false := by simpa using hi2
                  have hno2 := Lib.hid (refuses_take hy' hno.out (fun e => e.2.elim (fun e => e hn2) hi2))
                  replace AW := Lib.hid AW
                  replace ha := Lib.hid ha
                  replace hn2 := Lib.hid hn2
                  replace hi2 := Lib.hid hi2
                  replace hy' := Lib.hid hy'
                  go_wp2_with fail
                  go_quiet (fail)
                  go_wp2_with fail
                  go_roundw
                  case rel => exact ⟨k + 1, by omega, by go_num, hno2, fr.drewN _⟩
                  case measure => simp [RowKit.intOf]; omega
              · have en : (y.n != x.n) = true := by simpa using hn2
                obtain rfl : R = (false, r) := by rw [hR6.out, if_pos (refuses_hit hy' ha (Or.inl hn2))]
                replace AW := Lib.hid AW
                replace ha := Lib.hid ha
                replace hn2 := Lib.hid hn2
                replace hy' := Lib.hid hy'
                go_wp2_with fail
                go_quiet (fail)
                go_wp2_with fail
                go_ret
                exact ⟨rfl, ⟨_, _, _, E, AW.out.frN ((Fr.refl _ _).drewN _), fun g hg => Or.inl hg⟩, ((f01.out.seqN fr).drewN _).mono (fun _ _ q => q.elim)⟩
            · have ea : (y.a == x.a) = false := by simpa using ha
              have hno2 := Lib.hid (refuses_take hy' hno.out (fun e => ha e.1))
              replace AW := Lib.hid AW
              replace ha := Lib.hid ha
              replace hy' := Lib.hid hy'
              go_wp2_with fail
              go_quiet (fail)
              go_wp2_with fail
              go_roundw
              case rel => exact ⟨k + 1, by omega, by go_num, hno2, fr.drewN _⟩
              case measure => simp [RowKit.intOf]; omega
          · obtain rfl : k = n := by omega
            obtain rfl : R = (true, ⟨r.tr, r.jb, r.man, r.K ++ [x]⟩) := by
              rw [hR6.out, if_neg]
              have h1 := hno.out
              rw [List.take_of_length_le (by rw [List.length_map, hn.out]; exact Nat.le_refl _)] at h1
              rw [h1]; simp
            have hsw : gX < wr.heap.size := bw.lt
            have u0 : wr.cell? ⟨gX, 0, none⟩ = some (.int .i64 6) := bw.cell 0
            have u1 : wr.cell? ⟨gX, 1, none⟩ = some (.int .i64 x.a) := bw.cell 1
            have u2 : wr.cell? ⟨gX, 2, none⟩ = some (.int .i64 r.tr) := bw.cell 2
            have u3 : wr.cell? ⟨gX, 3, none⟩ = some (.int .i64 r.jb) := bw.cell 3
            have u4 : wr.cell? ⟨gX, 4, none⟩ = some (.int .i64 0) := bw.cell 4
            have u5 : wr.cell? ⟨gX, 5, none⟩ = some (.int .i64 x.i) := bw.cell 5
            have u6 : wr.cell? ⟨gX, 6, none⟩ = some (.int .i64 x.n) := bw.cell 6
            have u7 : wr.cell? ⟨gX, 7, none⟩ = some (.int .i64 0) := bw.cell 7
            have u8 : wr.cell? ⟨gX, 8, none⟩ = some (.int .i64 0) := bw.cell 8
            have u9 : wr.cell? ⟨gX, 9, none⟩ = some (.int .i64 0) := bw.cell 9
            have u10 : wr.cell? ⟨gX, 10, none⟩ = some (.int .i64 0) := bw.cell 10
            have u11 : wr.cell? ⟨gX, 11, none⟩ = some (.slice none 0 0) := bw.cell 11
            have u12 : wr.cell? ⟨gX, 12, none⟩ = some (.bool false) := bw.cell 12
            have u13 : wr.cell? ⟨gX, 13, none⟩ = some (.slice none 0 0) := bw.cell 13
            have u14 : wr.cell? ⟨gX, 14, none⟩ = some (.slice x.sa x.sp.length x.sc) := bw.cell 14
            have fA : Fr noB wr (wr.alloc (.cells #[.int .i64 6, .int .i64 x.a, .int .i64 r.tr, .int .i64 r.jb, .int .i64 0, .int .i64 x.i, .int .i64 x.n, .int .i64 0, .int .i64 0, .int .i64 0, .int .i64 0, .slice none 0 0, .bool false, .slice none 0 0, .slice x.sa x.sp.length x.sc] 34)) := (Fr.refl _ _).alloc _
            have mA : (wr.alloc (.cells #[.int .i64 6, .int .i64 x.a, .int .i64 r.tr, .int .i64 r.jb, .int .i64 0, .int .i64 x.i, .int .i64 x.n, .int .i64 0, .int .i64 0, .int .i64 0, .int .i64 0, .slice none 0 0, .bool false, .slice none 0 0, .slice x.sa x.sp.length x.sc] 34)).cell? ⟨q, 18, none⟩ = some (.slice ca k cc) := fA.cell d18 (fun q => q)
            have hrow := AW.row
            rw [hn.out] at hrow
            have hX := ownsRow_fr hrow fA.drew (fun _ _ q => q)
            have hNX : ∀ j u, ([.int .i64 6, .int .i64 x.a, .int .i64 r.tr, .int .i64 r.jb, .int .i64 0, .int .i64 x.i, .int .i64 x.n, .int .i64 0, .int .i64 0, .int .i64 0, .int .i64 0, .slice none 0 0, .bool false, .slice none 0 0, .slice x.sa x.sp.length x.sc] : List Value)[j]? = some u → (wr.alloc (.cells #[.int .i64 6, .int .i64 x.a, .int .i64 r.tr, .int .i64 r.jb, .int .i64 0, .int .i64 x.i, .int .i64 x.n, .int .i64 0, .int .i64 0, .int .i64 0, .int .i64 0, .slice none 0 0, .bool false, .slice none 0 0, .slice x.sa x.sp.length x.sc] 34)).drew.cell? ((⟨wr.heap.size, 0, none⟩ : Addr).add j) = some u := news_at wr 34 _
            have hone : ∀ u ∈ ([.int .i64 6, .int .i64 x.a, .int .i64 r.tr, .int .i64 r.jb, .int .i64 0, .int .i64 x.i, .int .i64 x.n, .int .i64 0, .int .i64 0, .int .i64 0, .int .i64 0, .slice none 0 0, .bool false, .slice none 0 0, .slice x.sa x.sp.length x.sc] : List Value), u.oneCell' = true := mrc_oneA (x.mr r.tr r.jb)
            have bqA := (fA.drew).blk AW.blk (fun q => q)
            have hlo := AW.lo q AW.eq
            have hBA : M0 ≤ (wr.alloc (.cells #[.int .i64 6, .int .i64 x.a, .int .i64 r.tr, .int .i64 r.jb, .int .i64 0, .int .i64 x.i, .int .i64 x.n, .int .i64 0, .int .i64 0, .int .i64 0, .int .i64 0, .slice none 0 0, .bool false, .slice none 0 0, .slice x.sa x.sp.length x.sc] 34)).drew.heap.size := by
              show M0 ≤ (wr.alloc (.cells #[.int .i64 6, .int .i64 x.a, .int .i64 r.tr, .int .i64 r.jb, .int .i64 0, .int .i64 x.i, .int .i64 x.n, .int .i64 0, .int .i64 0, .int .i64 0, .int .i64 0, .slice none 0 0, .bool false, .slice none 0 0, .slice x.sa x.sp.length x.sc] 34)).heap.size
              rw [size_alloc]; omega
            have mixed : Try.prog.follows .mixedOrders = true := by kernel_rfl
            unfold arC at bqA
            rw [hn.out] at bqA
            replace hX := Lib.hid hX
            replace hNX := Lib.hid hNX
            replace bqA := Lib.hid bqA
            replace AW := Lib.hid AW
            replace hrow := Lib.hid hrow
            replace hlo := Lib.hid hlo
            clear bw hno hlt
            go_wp2_with fail
            go_region_law (first
              | (refine step_append_at rfl (.tmp 101) (.tmp 103) 35 rfl M0 34 i0 _ 15 168 Try.underlying35 hi hz0 hz1 hz2 mr_size (by omega) (.slice ca k cc) k _ (by simp [Act.eval, Act.put]) hX.out ⟨wr.heap.size, 0, none⟩ 1 1 [.int .i64 6, .int .i64 x.a, .int .i64 r.tr, .int .i64 r.jb, .int .i64 0, .int .i64 x.i, .int .i64 x.n, .int .i64 0, .int .i64 0, .int .i64 0, .int .i64 0, .slice none 0 0, .bool false, .slice none 0 0, .slice x.sa x.sp.length x.sc] (by simp [Act.eval, Act.put]) rfl hNX.out hone (by unfold maxLen; omega) (by omega) hBA ?_; intro v9 w9 o9 gr9 mv9; obtain ⟨a9, c9, rfl⟩ := ownsRow_slice o9; have f9 : Fr (rowB (.slice ca k cc)) (wr.alloc (.cells #[.int .i64 6, .int .i64 x.a, .int .i64 r.tr, .int .i64 r.jb, .int .i64 0, .int .i64 x.i, .int .i64 x.n, .int .i64 0, .int .i64 0, .int .i64 0, .int .i64 0, .slice none 0 0, .bool false, .slice none 0 0, .slice x.sa x.sp.length x.sc] 34)).drew w9 := (Fr.refl _ _).grown gr9 (fun k hk _ => hk); have bq9 := f9.blk bqA.out (row_not hX.out bqA.out (by decide)); have z9 := bq9.frozen 18; have k9 : w9.cell? ⟨q, 18, none⟩ = some (.slice ca k cc) := bq9.cell 18)
              | fail)
            all_goals (
              replace bq9 := Lib.hid bq9
              replace o9 := Lib.hid o9
              replace f9 := Lib.hid f9
              replace mv9 := Lib.hid mv9
              go_wp2_with fail
              go_ret
              exact hear_end AW.out hn.out fr f01.out fA.drew f9.out o9.out bq9.out p2.out p3.out p4 mv9.out hEw.out)
end Go.Proofs.Ytdfkjigkpcgngaa
