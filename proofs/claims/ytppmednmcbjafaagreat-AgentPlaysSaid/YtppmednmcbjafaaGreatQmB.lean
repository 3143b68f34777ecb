/-
  The document's pool, by definition: a trace's next span.
  The document's keeper, by definition: what a write's steps do.
  The document's keeper, by definition: Write.
-/
import Derived.Test.YtppmednmcbjafaaGreatQmA
import Derived.Deep.Cut
import Derived.Deep.DeepCutAuto
section
set_option linter.unusedVariables false
set_option linter.unusedSimpArgs false
namespace Go.Proofs.YtppmednmcbjafaaGreat.KR
open Go.RowKit Go Go.Maps Go.Lib

theorem cells_new3 (w : World) (a b c : Value) (t : TypeId) : ∀ j u, [a, b, c][j]? = some u → (w.alloc (.cells #[a, b, c] t)).cell? ((⟨w.heap.size, 0, none⟩ : Addr).add j) = some u := by
  intro j u hu
  rw [Addr.add_lit, Nat.zero_add]
  exact ((Blk.new w t [a, b, c]).cell j).trans hu
theorem one3 (t q : Int) (x : ByteArray) : ∀ u ∈ [Value.int .i64 t, .int .i64 q, .string x], u.oneCell' = true := by
  intro u hu
  simp only [List.mem_cons, List.not_mem_nil, or_false] at hu
  rcases hu with rfl | rfl | rfl <;> rfl
theorem spans_one (L : List Sp) : ∀ u ∈ L.flatMap spC, u.oneCell' = true := by
  intro u hu
  obtain ⟨s, _, hs⟩ := List.mem_flatMap.1 hu
  exact one3 _ _ _ u hs
/-- the row's cells, wherever nothing old has turned -/
theorem SpRow.cells {w : World} {B g n c : Nat} {p : Int × List ByteArray} (h : SpRow w B (.slice (some ⟨g, 0, none⟩) n c) p) : ∀ w', Fr noB w w' → ∀ j u, ((spansOf p.1 p.2).flatMap spC)[j]? = some u → w'.cell? ((⟨g, 0, none⟩ : Addr).add j) = some u := fun w' f j u hu => by
  have := World.ownsRow.cells h (g := g) rfl j u hu
  rw [Addr.add_lit, Nat.zero_add] at this ⊢
  exact f.cell this (fun q => q)
theorem SpRow.some_ {w : World} {B : Nat} {v : Value} {p : Int × List ByteArray} (h : SpRow w B v p) (hp : p.2 ≠ []) : ∃ g c, v = .slice (some ⟨g, 0, none⟩) p.2.length c := by
  obtain ⟨g, c, e, _⟩ := ownsRow_some h (List.length_pos_iff.2 hp)
  exact ⟨g, c, e⟩

/-- an operation under a name of its own: what it does is the same -/
def keepO (o : Oper) : Oper := o
theorem keepL (d : Option Tmp) (ty ty2 : TypeId) (n : Nat) (p : String) (af : Array Edge) (g : Option (Nat × Bool)) :
    ({ dst := d, op := .load ty (.tmp n), type := ty2, pos := p, after := af, guard := g } : Oper) = keepO { dst := d, op := .load ty (.tmp n), type := ty2, pos := p, after := af, guard := g } := rfl
theorem own_thaw {w : World} {B g n c i : Nat} {e : TypeId} {k : Nat} {xs : List Value} (h : w.ownsRow B e k (.slice (some ⟨g, 0, none⟩) n c) n xs) : w.frozen? ⟨g, i, none⟩ = false := by
  obtain ⟨cs, hc⟩ := row_typeR h (q := g) rfl
  simp [World.frozen?, hc]
set_option maxRecDepth 10000 in
set_option maxHeartbeats 4000000 in
theorem rpwrite_old (g B N : Nat) (P : TP) (vt vs : Value) (V : List Value) (S : Nat → Prop) (i : Nat) (p : Int × List ByteArray) (x : ByteArray) (w0 : World) (h : Rq w0 g B N P vt vs V) (hS : ∀ q, rqS g vt vs V q → S q) (hb : mayB p.1 x = true) (hn : ¬ noRoom N P p.1) (hip : P[i]? = some p) :
    Calls Tryz.prog 47 #[.pointer (some ⟨g, 0, none⟩), .int .i64 p.1, .string x] w0 fun e w' => e = .returned (.tuple #[.agg #[.int .i64 p.1, .int .i64 ((p.2.length : Int) + 1), .string x], .int .i64 0]) ∧ Rp w' g B N (addT P p.1 x) (nx S w0 w') ∧ Fr S w0 w' := by
  obtain ⟨i0, hi0, hz0, hz1, hz2⟩ : ∃ i0, Tryz.prog.info? 38 = some i0 ∧ i0.zero = some (.agg #[.int .i64 0, .int .i64 0, .string (ByteArray.mk #[])]) ∧ i0.size = 3 ∧ i0.bytes = 32 := by
    have hI := infoSpan
    cases hq : Tryz.prog.info? 38 with
    | none => rw [hq] at hI; cases hI
    | some k => rw [hq] at hI; simp at hI; exact ⟨k, rfl, hI⟩
  have hm : 1 ≤ p.1 ∧ p.1 ≤ 65535 ∧ x.size ≤ 40 := by
    unfold mayB at hb; simp only [Bool.and_eq_true, decide_eq_true_eq] at hb; exact hb
  have d1 : decide (p.1 < 1) = false := by simp; omega
  have d2 : decide ((65535 : Int) < p.1) = false := by simp; omega
  have d3 : decide ((40 : Int) < (x.size : Int)) = false := by simp; omega
  have hil := (List.getElem?_eq_some_iff.1 hip).1
  obtain ⟨v, hv⟩ : ∃ v, V[i]? = some v := ⟨_, List.getElem?_eq_getElem (by rw [h.rd.1]; exact hil)⟩
  have hpm := List.mem_of_getElem? hip
  have hsr := h.rd.2 i p v hip hv
  obtain ⟨gr, cr, rfl⟩ := hsr.some_ (h.ne p hpm)
  have h48 := h.xl hpm
  have htx := txt_at h.ris hip
  have fX := (Fr.refl noB w0).alloc (.cells #[.int .i64 0, .int .i64 0, .string (ByteArray.mk #[])] 38)
  have h1 := h.frN fX
  have hof := rof_at g B N P vt vs V i p _ _ h1 hip hv
  have hfr := rfree_any g B N P vt vs V _ h1
  have hcase : (p.2.length % 3 = 0 → (N - used P : Nat) ≠ 0) := fun e => by
    have := h.le
    have : used P ≠ N := fun q => hn ⟨by rw [htx]; exact e, q⟩
    omega
  have hset := Lib.hid (set_addT x h.ris hip)
  have hris' := Lib.hid (ris_add P p.1 x h.ris)
  have hne' : Hid (∀ q ∈ addT P p.1 x, q.2 ≠ []) := Lib.hid (fun q hq => by
    rw [← hset.out] at hq
    rcases List.mem_or_eq_of_mem_set hq with q1 | q1
    · exact h.ne q q1
    · rw [q1]; simp)
  have hle' : Hid (used (addT P p.1 x) ≤ N) := Lib.hid (by
    have h7 := used_add P p.1 x h.ris
    have h8 := h.le
    rw [htx] at h7
    by_cases q : p.2.length % 3 = 0
    · rw [if_pos q] at h7; have := hcase q; omega
    · rw [if_neg q] at h7; omega)
  have hpl' : Hid ((addT P p.1 x).length = P.length) := Lib.hid (by rw [← hset.out]; simp)
  have hkeys : Hid ((addT P p.1 x).map (·.1) = P.map (·.1)) := Lib.hid (by
    rw [← hset.out, List.map_set]
    refine List.ext_getElem? fun j => ?_
    rw [List.getElem?_set]
    by_cases e : i = j
    · subst e; simp [hil, hip]
      rw [List.getElem?_eq_getElem hil] at hip; cases hip; rfl
    · rw [if_neg e])
  obtain ⟨t, ht⟩ : ∃ t, t = p.1 := ⟨_, rfl⟩
  rw [← ht] at d1 d2 hof hset hris' hne' hle' hpl' hkeys ⊢
  obtain ⟨L, hL⟩ : ∃ L, L = p.2.length := ⟨_, rfl⟩
  rw [← hL] at h48 hof hcase hsr hv ⊢
  obtain ⟨M, hM⟩ : ∃ M : Int, M = (L : Int) + 1 := ⟨_, rfl⟩
  have hspn : Hid (spansOf t (p.2 ++ [x]) = spansOf t p.2 ++ [⟨t, M, x⟩]) := Lib.hid (by rw [spansOf_snoc, ← hL, ← hM])
  have hcl : ((spansOf p.1 p.2).flatMap spC).length = L * 3 := by
    have : ∀ l : List Sp, (l.flatMap spC).length = l.length * 3 := by
      intro l; induction l with
      | nil => rfl
      | cons a r ih => rw [List.flatMap_cons, List.length_append, ih, List.length_cons]; show 3 + _ = _; omega
    rw [this, spansOf_len, hL]
  have hrc := hsr.cells
  have honeR := spans_one (spansOf p.1 p.2)
  obtain ⟨CS, hCS⟩ : ∃ CS, CS = (spansOf p.1 p.2).flatMap spC := ⟨_, rfl⟩
  rw [← hCS] at hcl hrc honeR
  generalize (N - used P : Nat) = FRE at *
  have hgrd : Hid (∃ b : Bool, (((L : Int) % 3) == 0) = b ∧ (b = true → FRE ≠ 0)) := Lib.hid ⟨_, rfl, fun e => hcase (by simp at e; omega)⟩
  obtain ⟨b, hb3, hbF⟩ := hgrd.out
  clear hgrd hcase hm hn hb htx
  have d5 : ((FRE : Int) == 0) = false ∨ b = false := by
    cases b with
    | false => exact Or.inr rfl
    | true => have := hbF rfl; exact Or.inl (by simp; omega)
  clear hbF
  have hfi0 : AtT P t i := Or.inl ⟨i, p, hip, ht.symm, rfl⟩
  have hrt := h.rt
  have hrs := h.rs
  obtain ⟨aT, cT, rfl⟩ := ownsRow_slice hrt
  obtain ⟨aS, cS, rfl⟩ := ownsRow_slice hrs
  obtain ⟨gS, rfl, e1⟩ := own_at hrs hv
  obtain ⟨n, hnn⟩ : ∃ n, n = P.length := ⟨_, rfl⟩
  rw [← hnn] at hil hrs hrt hpl'
  replace hM := Lib.hid hM
  have hL9 : L ≤ 48 := h48
  replace hL := Lib.hid hL
  replace ht := Lib.hid ht
  replace hcl := Lib.hid hcl
  replace hrc := Lib.hid hrc
  replace honeR := Lib.hid honeR
  replace hCS := Lib.hid hCS
  replace hnn := Lib.hid hnn
  replace hrs := Lib.hid hrs
  replace hrt := Lib.hid hrt
  replace hsr := Lib.hid hsr
  replace hv := Lib.hid hv
  replace hip := Lib.hid hip
  replace hpm := Lib.hid hpm
  replace e1 := Lib.hid e1
  have h' := Lib.hid h
  replace hS := Lib.hid hS
  have bR0 := Lib.hid (Blk.new w0 38 [.int .i64 0, .int .i64 0, .string (ByteArray.mk #[])])
  have bS0 := Blk.new (w0.alloc (.cells #[.int .i64 0, .int .i64 0, .string (ByteArray.mk #[])] 38)) 38 [.int .i64 t, .int .i64 M, .string x]
  have hsz : (w0.alloc (.cells #[.int .i64 0, .int .i64 0, .string (ByteArray.mk #[])] 38)).heap.size = w0.heap.size + 1 := by simp
  rw [hsz] at bS0
  have fY := (Fr.refl noB (w0.alloc (.cells #[.int .i64 0, .int .i64 0, .string (ByteArray.mk #[])] 38))).alloc (.cells #[.int .i64 t, .int .i64 M, .string x] 38)
  have bR1 := Lib.hid (fY.blk bR0.out (fun q => q))
  have h2 := h1.frN fY
  have hfi := rfind_any g B N P _ _ V t i _ h2 hfi0
  have f0 : Hid (Fr noB w0 _) := Lib.hid (fX.seqN fY)
  replace h2 := Lib.hid h2
  replace bS0 := Lib.hid bS0
  replace hfi := Lib.hid hfi
  clear h h1 fX fY hfi0 hsz
  have gen : ∃ wq, wq = ((w0.alloc (.cells #[.int .i64 0, .int .i64 0, .string (ByteArray.mk #[])] 38)).alloc (.cells #[.int .i64 t, .int .i64 M, .string x] 38)) := ⟨_, rfl⟩
  have hMI : (L : Int) + 1 = M := hM.out.symm
  have mixed : Tryz.prog.follows Departure.mixedOrders = true := by kernel_rfl
  go_enter Tryz.func47, Tryz.ntmps47
  go_wp2_with fail
  refine hof.mono ?_
  rintro e w1 ⟨rfl, hw1⟩
  clear hof
  have h4 : w1.heap.size = w0.heap.size + 1 := by rw [hw1]; simp
  rw [← hw1] at hfr
  replace hw1 := Lib.hid hw1
  replace h4 := Lib.hid h4
  clear d1 d2 d3
  go_upto_region 4 with fail
  go_cut [38] (fun v wx => v = .bool false ∧ wx = w1)
  case first =>
    rcases d5 with d5 | d5
    · cases b with
      | true =>
        go_wp2_with fail
        refine hfr.mono ?_
        rintro e w2 ⟨rfl, hw2⟩
        go_wp2_with fail
        go_meet
        exact ⟨rfl, by first | exact hw2 | rfl⟩
      | false =>
        go_wp2_with fail
        go_meet
        exact ⟨rfl, rfl⟩
    · subst d5
      go_wp2_with fail
      go_meet
      exact ⟨rfl, rfl⟩
  case rest =>
    obtain ⟨rfl, hwc⟩ := hcut
    obtain rfl := hwc.symm
    clear hwc hfr hb3 d5
    have hW2 : w1.alloc (.cells #[.int .i64 t, .int .i64 M, .string x] 38) = ((w0.alloc (.cells #[.int .i64 0, .int .i64 0, .string (ByteArray.mk #[])] 38)).alloc (.cells #[.int .i64 t, .int .i64 M, .string x] 38)) := by rw [hw1.out]
    replace hW2 := Lib.hid hW2
    have hfi := hfi.out
    rw [← hW2.out] at hfi
    go_wp2_with fail
    rw [h4.out]
    refine hfi.mono ?_
    rintro e w ⟨rfl, hw⟩
    have bS := bS0.out
    have bR := bR1.out
    have f1 := f0.out
    have hq := h2.out
    rw [← hW2.out, ← hw] at bS bR f1 hq
    clear hfi gen
    replace hw := Lib.hid hw
    obtain ⟨sb, hsb⟩ : ∃ sb, sb = w0.heap.size + 1 := ⟨_, rfl⟩
    rw [← hsb] at bS ⊢
    have hbd : Hid (∀ q, q = g ∨ q = gS ∨ q = gr → q < w0.heap.size) := Lib.hid (fun q e => by
      rcases e with e | e | e
      · have := h'.out.gB; have := h'.out.Bw; omega
      · exact e ▸ (hrs.out.lt gS rfl).2
      · exact e ▸ (hsr.out.lt gr rfl).2)
    have hgS : Hid (gS ≠ g) := Lib.hid (fun e => by have := (hrs.out.lt gS rfl).1; have := h'.out.gB; omega)
    have c2 : w.cell? ⟨g, 2, none⟩ = some (.slice (some ⟨gS, 0, none⟩) n cS) := by have := hq.blk.cell 2; rw [hnn.out]; exact this
    have e3 : w.cell? ⟨gS, i, none⟩ = some (.slice (some ⟨gr, 0, none⟩) L cr) := f1.cell e1.out (fun q => q)
    have s0 : w.cell? ⟨sb, 0, none⟩ = some (.int .i64 t) := bS.cell 0
    have s1 : w.cell? ⟨sb, 1, none⟩ = some (.int .i64 M) := bS.cell 1
    have s2 : w.cell? ⟨sb, 2, none⟩ = some (.string x) := bS.cell 2
    have hrcw : Hid (∀ w', Fr noB w w' → ∀ j u, CS[j]? = some u → w'.cell? ((⟨gr, 0, none⟩ : Addr).add j) = some u) := Lib.hid (fun w' f => hrc.out w' (f1.seqN f))
    have hrsw : Hid (w.ownsRow B 71 1 (.slice (some ⟨gS, 0, none⟩) n cS) n V) := Lib.hid (ownsRow_fr hrs.out f1 (fun _ _ q => q))
    have hin0 : (0 : Int) ≤ (i : Int) := by omega
    have hin3 : (i : Int) < (n : Int) := by omega
    have hnb : n ≤ 9223372036854775807 := by have := hq.pl; have := hnn.out; omega
    replace hsb := Lib.hid hsb
    replace hq := Lib.hid hq
    replace bS := Lib.hid bS
    replace bR := Lib.hid bR
    replace f1 := Lib.hid f1
    clear f0 h2 bS0 bR0 bR1 e1 hMI
    go_wp2_with fail
    go_cut [] (fun wx => ∃ a2 k2, SpRow wx w.heap.size (.slice a2 (L + 1) k2) (t, p.2 ++ [x]) ∧ wx.ownsRow B 71 1 (.slice (some ⟨gS, 0, none⟩) n cS) n (V.set i (.slice a2 (L + 1) k2)) ∧ Fr (onlyB gS) w wx)
    case first =>
      have hO1 : (w.drew.alloc (.cells #[] 38)).ownsRow w.heap.size 38 3 (.slice (some ⟨w.heap.size, 0, none⟩) 0 0) 0 [] := own_new w.drew 38 [] 3 0 rfl (Nat.zero_le _)
      have fO1 : Fr noB w (w.drew.alloc (.cells #[] 38)) := (Fr.refl noB w).drew.alloc _
      have fO2 : Fr noB w ((w.drew.alloc (.cells #[] 38)).alloc (.cells #[.int .i64 t, .int .i64 M, .string x] 38)) := fO1.alloc _
      have hO2 : ((w.drew.alloc (.cells #[] 38)).alloc (.cells #[.int .i64 t, .int .i64 M, .string x] 38)).ownsRow w.heap.size 38 3 (.slice (some ⟨w.heap.size, 0, none⟩) 0 0) 0 [] := ownsRow_fr hO1 ((Fr.refl noB _).alloc _) (fun _ _ q => q)
      have fC0 : Fr noB w (w.drew.alloc (.cells #[.int .i64 t, .int .i64 M, .string x] 38)) := (Fr.refl noB w).drew.alloc _
      have fO3 : Fr noB w ((w.drew.alloc (.cells #[.int .i64 t, .int .i64 M, .string x] 38)).alloc (.cells #[] 38)) := fC0.alloc _
      have hzC : (w.drew.alloc (.cells #[.int .i64 t, .int .i64 M, .string x] 38)).heap.size = w.heap.size + 1 := by simp
      have hO3 : ((w.drew.alloc (.cells #[.int .i64 t, .int .i64 M, .string x] 38)).alloc (.cells #[] 38)).ownsRow w.heap.size 38 3 (.slice (some ⟨w.heap.size + 1, 0, none⟩) 0 0) 0 [] := by
        have := own_new (w.drew.alloc (.cells #[.int .i64 t, .int .i64 M, .string x] 38)) 38 [] 3 0 rfl (Nat.zero_le _)
        rw [hzC] at this
        exact ownsRow_mono this (by omega)
      have hzA : (w.drew.alloc (.cells #[] 38)).heap.size = w.heap.size + 1 := by simp
      have hC2 : Hid (∀ j u, [Value.int .i64 t, .int .i64 M, .string x][j]? = some u → ((w.drew.alloc (.cells #[] 38)).alloc (.cells #[.int .i64 t, .int .i64 M, .string x] 38)).cell? ⟨w.heap.size + 1, j, none⟩ = some u) := Lib.hid (fun j u hu => by
        have := cells_new3 (w.drew.alloc (.cells #[] 38)) (.int .i64 t) (.int .i64 M) (.string x) 38 j u hu
        rw [hzA, Addr.add_lit, Nat.zero_add] at this; exact this)
      have hC3 : Hid (∀ j u, [Value.int .i64 t, .int .i64 M, .string x][j]? = some u → ((w.drew.alloc (.cells #[.int .i64 t, .int .i64 M, .string x] 38)).alloc (.cells #[] 38)).cell? ⟨w.heap.size, j, none⟩ = some u) := Lib.hid (fun j u hu => by
        have := cells_new3 w.drew (.int .i64 t) (.int .i64 M) (.string x) 38 j u hu
        rw [Addr.add_lit, Nat.zero_add] at this
        exact ((Fr.refl noB (w.drew.alloc (.cells #[.int .i64 t, .int .i64 M, .string x] 38))).alloc (.cells #[] 38)).cell this (fun q => q))
      have hkeep : Hid (∀ (W W' : World) (row : Option Nat), W.grownBy W' row → ∀ b, True → row ≠ some b → ∀ o u, W.cell? ⟨b, o, none⟩ = some u → W'.cell? ⟨b, o, none⟩ = some u) := Lib.hid (fun W W' row hg b _ hr o u hc => by
        rw [World.cell?_of_block (w := W) (hg.block b (lt_of_cell hc) (fun e => hr e.symm))]; exact hc)
      clear hzC hzA
      have hfacts : Hid (∀ w', Fr noB w w' → w'.cell? ⟨g, 2, none⟩ = some (.slice (some ⟨gS, 0, none⟩) n cS) ∧ w'.cell? ⟨sb, 0, none⟩ = some (.int .i64 t) ∧ w'.cell? ⟨sb, 1, none⟩ = some (.int .i64 M) ∧ w'.cell? ⟨sb, 2, none⟩ = some (.string x)) := Lib.hid (fun w' f => ⟨f.cell c2 (fun q => q), f.cell s0 (fun q => q), f.cell s1 (fun q => q), f.cell s2 (fun q => q)⟩)
      have hfS : Hid (∀ W, Fr noB w W → ∀ v, (W.setCell ⟨gS, i, none⟩ v).cell? ⟨g, 2, none⟩ = some (.slice (some ⟨gS, 0, none⟩) n cS) ∧ (W.setCell ⟨gS, i, none⟩ v).cell? ⟨sb, 0, none⟩ = some (.int .i64 t) ∧ (W.setCell ⟨gS, i, none⟩ v).cell? ⟨sb, 1, none⟩ = some (.int .i64 M) ∧ (W.setCell ⟨gS, i, none⟩ v).cell? ⟨sb, 2, none⟩ = some (.string x)) := Lib.hid (fun W f v => by
        have fs : Fr (onlyB gS) w (W.setCell ⟨gS, i, none⟩ v) := (f.mono (fun _ _ z => False.elim z)).store (onlyB_self gS)
        have h1 : ¬ onlyB gS g := fun e => hgS.out e.symm
        have h2 : ¬ onlyB gS sb := fun e => by have := hbd.out gS (Or.inr (Or.inl rfl)); have := hsb.out; unfold onlyB at e; omega
        exact ⟨fs.cell c2 h1, fs.cell s0 h2, fs.cell s1 h2, fs.cell s2 h2⟩)
      have gA := (Fr.refl noB w).alloc (.cells #[] 38)
      have gC := (Fr.refl noB w).alloc (.cells #[.int .i64 t, .int .i64 M, .string x] 38)
      have gAC := gA.alloc (.cells #[.int .i64 t, .int .i64 M, .string x] 38)
      have gCA := gC.alloc (.cells #[] 38)
      have e3A := gA.cell e3 (fun q => q)
      have e3C := gC.cell e3 (fun q => q)
      have e3AC := gAC.cell e3 (fun q => q)
      have e3CA := gCA.cell e3 (fun q => q)
      replace gA := Lib.hid gA
      replace gC := Lib.hid gC
      replace gAC := Lib.hid gAC
      replace gCA := Lib.hid gCA
      have hkeepO : ∀ o : Oper, keepO o = o := fun _ => rfl
      rw [keepL (some 134) _ _ 133]
      go_region_held3 (fun w' => w'.cell? ⟨g, 2, none⟩ = some (.slice (some ⟨gS, 0, none⟩) n cS) ∧ w'.cell? ⟨sb, 0, none⟩ = some (.int .i64 t) ∧ w'.cell? ⟨sb, 1, none⟩ = some (.int .i64 M) ∧ w'.cell? ⟨sb, 2, none⟩ = some (.string x))
       (first | exact hfS.out _ f3 _ | exact hfacts.out _ f3 | exact hfacts.out _ f2C | exact hfacts.out _ f2 | exact hfacts.out _ fO2 | exact hfacts.out _ fO3 | exact hfacts.out _ fO1 | exact hfacts.out _ fC0 | exact hfacts.out _ ((Fr.refl noB _).drewN 1) | exact hfacts.out _ (Fr.refl noB _).drew | fail)
       (first
        | (have _tk := tkA; refine step_append_at rfl (.tmp 135) (.tmp 137) 71 rfl w.heap.size 38 i0 _ 3 32 Tryz.underlying71 hi0 hz0 hz1 hz2 rfl (by omega) v1 L CS (by simp [Act.eval, Act.put]) o1C ⟨w1.heap.size, 0, none⟩ 1 1 [.int .i64 t, .int .i64 M, .string x] (by simp [Act.eval, Act.put]) rfl hNC (one3 _ _ _) (by unfold maxLen; omega) (by omega) f2C.size ?_; intro v2 w2 o2 gr2 _mv2; obtain ⟨a2, k2, rfl⟩ := ownsRow_slice o2; have f3 := f2C.grown gr2 (fun q hq hlt => by have := (o1C.lt q hq).1; omega); have c22 := f3.cell c2 (fun q => q); have e32 := f3.cell e3 (fun q => q); have b2 := ownsRow_fr hrsw.out f3 (fun _ _ q => q); have fz2 : w2.frozen? ⟨gS, i, none⟩ = false := own_thaw b2)
        | (have _tk := tkB; refine step_append_at rfl (.tmp 135) (.tmp 137) 71 rfl w.heap.size 38 i0 _ 3 32 Tryz.underlying71 hi0 hz0 hz1 hz2 rfl (by omega) v1 L CS (by simp [Act.eval, Act.put]) o1 ⟨w.heap.size + 1, 0, none⟩ 1 1 [.int .i64 t, .int .i64 M, .string x] (by simp [Act.eval, Act.put]) rfl hNB (one3 _ _ _) (by unfold maxLen; omega) (by omega) f2.size ?_; intro v2 w2 o2 gr2 _mv2; obtain ⟨a2, k2, rfl⟩ := ownsRow_slice o2; have f3 := f2.grown gr2 (fun q hq hlt => by have := (o1.lt q hq).1; omega); have c22 := f3.cell c2 (fun q => q); have e32 := f3.cell e3 (fun q => q); have b2 := ownsRow_fr hrsw.out f3 (fun _ _ q => q); have fz2 : w2.frozen? ⟨gS, i, none⟩ = false := own_thaw b2)
        | (have _tk := tkC; refine step_append_at rfl (.tmp 135) (.tmp 137) 71 rfl w.heap.size 38 i0 _ 3 32 Tryz.underlying71 hi0 hz0 hz1 hz2 rfl (by omega) v1 L CS (by simp [Act.eval, Act.put]) o1 ⟨w.heap.size, 0, none⟩ 1 1 [.int .i64 t, .int .i64 M, .string x] (by simp [Act.eval, Act.put]) rfl hNB (one3 _ _ _) (by unfold maxLen; omega) (by omega) f2.size ?_; intro v2 w2 o2 gr2 _mv2; obtain ⟨a2, k2, rfl⟩ := ownsRow_slice o2; have f3 := f2.grown gr2 (fun q hq hlt => by have := (o1.lt q hq).1; omega); have c22 := f3.cell c2 (fun q => q); have e32 := f3.cell e3 (fun q => q); have b2 := ownsRow_fr hrsw.out f3 (fun _ _ q => q); have fz2 : w2.frozen? ⟨gS, i, none⟩ = false := own_thaw b2)
        | (refine step_append_at rfl (.tmp 127) (.tmp 134) 71 rfl w.heap.size 38 i0 _ 3 32 Tryz.underlying71 hi0 hz0 hz1 hz2 rfl (by omega) _ 0 [] (by simp [Act.eval, Act.put]; try rfl) hO1 ⟨gr, 0, none⟩ L cr CS (by simp [Act.eval, Act.put]) hcl.out (hrcw.out _ fO1) honeR.out (by unfold maxLen; omega) (by omega) fO1.size ?_; intro v1 w1 o1 gr1 mv1; have tkA : True := trivial; rw [Nat.zero_add, List.nil_append] at o1; have f2 := fO1.grown gr1 (fun q hq hlt => by simp [Value.ownBlock] at hq; omega); have c21 := f2.cell c2 (fun q => q); have e31 := f2.cell e3 (fun q => q); have s01 := f2.cell s0 (fun q => q); have s11 := f2.cell s1 (fun q => q); have s21 := f2.cell s2 (fun q => q); have fC := (Fr.refl noB w1).alloc (.cells #[.int .i64 t, .int .i64 M, .string x] 38); have c2C := fC.cell c21 (fun q => q); have e3C := fC.cell e31 (fun q => q); have o1C := ownsRow_fr o1 fC (fun _ _ q => q); have hNC := cells_new3 w1 (.int .i64 t) (.int .i64 M) (.string x) 38; have f2C := f2.seqN fC)
        | (refine step_append_at rfl (.tmp 127) (.tmp 134) 71 rfl w.heap.size 38 i0 _ 3 32 Tryz.underlying71 hi0 hz0 hz1 hz2 rfl (by omega) _ 0 [] (by simp [Act.eval, Act.put]; try rfl) hO2 ⟨gr, 0, none⟩ L cr CS (by simp [Act.eval, Act.put]) hcl.out (hrcw.out _ fO2) honeR.out (by unfold maxLen; omega) (by omega) fO2.size ?_; intro v1 w1 o1 gr1 mv1; have tkB : True := trivial; rw [Nat.zero_add, List.nil_append] at o1; have f2 := fO2.grown gr1 (fun q hq hlt => by simp [Value.ownBlock] at hq; omega); have c21 := f2.cell c2 (fun q => q); have e31 := f2.cell e3 (fun q => q); have s01 := f2.cell s0 (fun q => q); have s11 := f2.cell s1 (fun q => q); have s21 := f2.cell s2 (fun q => q); have hNB : ∀ j u, [Value.int .i64 t, .int .i64 M, .string x][j]? = some u → w1.cell? ((⟨w.heap.size + 1, 0, none⟩ : Addr).add j) = some u := fun j u hu => by rw [Addr.add_lit, Nat.zero_add]; exact hkeep.out _ _ _ gr1 _ trivial (by simp [Value.ownBlock]) _ _ (hC2.out j u hu))
        | (refine step_append_at rfl (.tmp 127) (.tmp 134) 71 rfl w.heap.size 38 i0 _ 3 32 Tryz.underlying71 hi0 hz0 hz1 hz2 rfl (by omega) _ 0 [] (by simp [Act.eval, Act.put]; try rfl) hO3 ⟨gr, 0, none⟩ L cr CS (by simp [Act.eval, Act.put]) hcl.out (hrcw.out _ fO3) honeR.out (by unfold maxLen; omega) (by omega) fO3.size ?_; intro v1 w1 o1 gr1 mv1; have tkC : True := trivial; rw [Nat.zero_add, List.nil_append] at o1; have f2 := fO3.grown gr1 (fun q hq hlt => by simp [Value.ownBlock] at hq; omega); have c21 := f2.cell c2 (fun q => q); have e31 := f2.cell e3 (fun q => q); have s01 := f2.cell s0 (fun q => q); have s11 := f2.cell s1 (fun q => q); have s21 := f2.cell s2 (fun q => q); have hNB : ∀ j u, [Value.int .i64 t, .int .i64 M, .string x][j]? = some u → w1.cell? ((⟨w.heap.size, 0, none⟩ : Addr).add j) = some u := fun j u hu => by rw [Addr.add_lit, Nat.zero_add]; exact hkeep.out _ _ _ gr1 _ trivial (by simp [Value.ownBlock]) _ _ (hC3.out j u hu))
        | fail)
      all_goals (
        have oS3 := own_set (i := i) b2 (.slice a2 (L + 1) k2)
        have o4 : SpRow (w2.setCell ⟨gS, i, none⟩ (.slice a2 (L + 1) k2)) w.heap.size (.slice a2 (L + 1) k2) (t, p.2 ++ [x]) := by
          have hsp : (spansOf t (p.2 ++ [x])).flatMap spC = CS ++ [.int .i64 t, .int .i64 M, .string x] := by
            rw [hspn.out, List.flatMap_append, hCS.out, ht.out]; rfl
          show World.ownsRow _ _ _ _ _ (p.2 ++ [x]).length _
          rw [hsp, show (p.2 ++ [x]).length = L + 1 by rw [hL.out]; simp]
          exact ownsRow_fr o2 ((Fr.refl (onlyB gS) w2).store (g := gS) (i := i) (v := .slice a2 (L + 1) k2) (onlyB_self gS)) (fun q hq e => by have := (o2.lt q hq).1; have := hbd.out gS (Or.inr (Or.inl rfl)); have := f1.out.size; unfold onlyB at e; omega)
        have f4 : Fr (onlyB gS) w (w2.setCell ⟨gS, i, none⟩ (.slice a2 (L + 1) k2)) := (f3.mono (fun _ _ z => False.elim z)).store (g := gS) (i := i) (v := .slice a2 (L + 1) k2) (onlyB_self gS)
        go_wp2_with fail
        go_meet
        exact ⟨a2, k2, o4, oS3, f4⟩)
    case rest =>
      obtain ⟨a2, k2, o4, oS3, f4⟩ := hcut
      obtain ⟨W, hW⟩ : ∃ x, x = wc := ⟨_, rfl⟩
      rw [← hW] at o4 oS3 f4 ⊢
      clear hW
      have hgw := hbd.out g (Or.inl rfl)
      have hgSw := hbd.out gS (Or.inr (Or.inl rfl))
      have hsbw : sb ≠ gS := fun e => by have := hsb.out; omega
      have s0' : W.cell? ⟨sb, 0, none⟩ = some (.int .i64 t) := f4.cell s0 (fun e => hsbw e)
      have s1' : W.cell? ⟨sb, 1, none⟩ = some (.int .i64 M) := f4.cell s1 (fun e => hsbw e)
      have s2' : W.cell? ⟨sb, 2, none⟩ = some (.string x) := f4.cell s2 (fun e => hsbw e)
      have bR4 := Lib.hid (f4.blk bR.out (fun e => by unfold onlyB at e; omega))
      have tR := Lib.hid (thereN (i := 0) (n := 3) bR4.out (by simp))
      clear c2 e3 s0 s1 s2 mixed hin0 hin3 hnb hL9
      replace hgw := Lib.hid hgw
      replace hgSw := Lib.hid hgSw
      replace hsbw := Lib.hid hsbw
      replace o4 := Lib.hid o4
      replace oS3 := Lib.hid oS3
      replace f4 := Lib.hid f4
      go_wp2_with (first
        | (refine wpList_store_mid rfl 38 (.tmp 6) (.tmp 140) rfl w0.heap.size 0 #[.int .i64 t, .int .i64 M, .string x] rfl rfl tR.out size_span (one_span _ _ _) ?_; obtain ⟨w9, hw9, f9, h9⟩ := store3 W w0.heap.size 0 (.int .i64 t) (.int .i64 M) (.string x); rw [← hw9]; clear hw9; have h9 := h9 _ _ bR4.out; have r0 : w9.cell? ⟨w0.heap.size, 0, none⟩ = some (.int .i64 t) := h9.cell 0; have r1 : w9.cell? ⟨w0.heap.size, 1, none⟩ = some (.int .i64 M) := h9.cell 1; have r2 : w9.cell? ⟨w0.heap.size, 2, none⟩ = some (.string x) := h9.cell 2; clear h9; replace f9 := Lib.hid f9)
        | fail)
      try simp only [Exit.inBlock, Exit.then]
      refine bodyPost_ret (by simp [results, Tryz.results47, go_sem, r0, r1, r2]; try rfl) rfl ?_
      rw [← hM.out]
      have q := hq.out
      have hgw := hgw.out
      have hgSw := hgSw.out
      have F4 := f4.out
      have F9 := f9.out
      have hSg : ∀ q, rqS g (.slice aT P.length cT) (.slice (some ⟨gS, 0, none⟩) P.length cS) V q → S q := hS.out
      have FS : Fr S w0 w9 := ((f1.out.trans F4 (fun _ _ z => False.elim z) (fun b _ e => by unfold onlyB at e; exact hSg b (Or.inr (Or.inr (Or.inl (by rw [e]; rfl)))))).trans F9 (fun _ _ z => z) (fun b hb e => by unfold onlyB at e; omega))
      have hw0W : w0.heap.size ≤ w.heap.size := f1.out.size
      have hrow9 : ∀ {v : Value} {B' : Nat} {e : TypeId} {k n : Nat} {xs : List Value}, W.ownsRow B' e k v n xs → (∀ b, v.ownBlock = some b → b ≠ w0.heap.size) → w9.ownsRow B' e k v n xs := fun hv hb => ownsRow_fr hv F9 (fun b hq e => hb b hq e)
      have hVg : ∀ v ∈ V, ∀ b, v.ownBlock = some b → b ≠ gS := fun v hv b hb e => by
        subst e
        obtain ⟨j, hj, rfl⟩ := List.getElem_of_mem hv
        have h2 := q.rd.1
        exact rows_apart (q.rd.2 j _ _ (List.getElem?_eq_getElem (show j < P.length by omega)) (List.getElem?_eq_getElem hj)) q.rs (by decide) b hb rfl
      have hVl : ∀ v ∈ V, ∀ b, v.ownBlock = some b → b < w0.heap.size := fun v hv b hb => h'.out.low (Or.inr (Or.inr (Or.inr ⟨v, hv, hb⟩)))
      have hTl : ∀ b, (Value.slice aT P.length cT).ownBlock = some b → b < w0.heap.size := fun b hb => h'.out.low (Or.inr (Or.inl hb))
      have hTS : ∀ b, (Value.slice aT P.length cT).ownBlock = some b → b ≠ gS := fun b hb e => by
        subst e
        exact rows_apart q.rt q.rs (by decide) b hb rfl
      have hnl : (addT P t x).length = n := by rw [hpl'.out]
      have key : Rq w9 g B N (addT P t x) (.slice aT P.length cT) (.slice (some ⟨gS, 0, none⟩) P.length cS) (V.set i (.slice a2 (L + 1) k2)) := by
        refine ⟨F9.blk (F4.blk q.blk (fun e => hgS.out (by unfold onlyB at e; exact e.symm))) (fun e => by unfold onlyB at e; omega), ?_, ?_, ?_, q.gB, Nat.le_trans q.Bw (Nat.le_trans F4.size F9.size), hris'.out, hne'.out, hle'.out, q.n16⟩
        · rw [hkeys.out, hnl, hnn.out]
          exact hrow9 (ownsRow_fr q.rt F4 (fun b hb e => hTS b hb e)) (fun b hb e => by have := hTl b hb; omega)
        · rw [hnl, ← hnn.out]
          exact hrow9 oS3.out (fun b hb e => by cases hb; have e' : gS = w0.heap.size := e; omega)
        · rw [← hset.out]
          refine Rows2.set ((q.rd.fr F4 (fun v hv b hb e => hVg v hv b hb e)).fr F9 (fun v hv b hb e => by have := hVl v hv b hb; unfold onlyB at e; omega)) i ?_
          have o5 : World.ownsRow w9 w.heap.size 38 3 (.slice a2 (L + 1) k2) _ _ := hrow9 o4.out (fun b hb e => by have := (World.ownsRow.lt o4.out b hb).1; have := hsb.out; have := bS.out.lt; omega)
          exact ownsRow_mono o5 q.Bw
      refine ⟨rfl, ⟨_, _, _, key, fun b hb => ?_⟩, FS⟩
      have hlt := key.low hb
      rcases hb with e | e | e | ⟨v, hv, e⟩
      · exact Or.inl (hSg b (Or.inl e))
      · exact Or.inl (hSg b (Or.inr (Or.inl e)))
      · exact Or.inl (hSg b (Or.inr (Or.inr (Or.inl e))))
      · rcases List.mem_or_eq_of_mem_set hv with e1 | e1
        · exact Or.inl (hSg b (Or.inr (Or.inr (Or.inr ⟨v, e1, e⟩))))
        · subst e1
          exact Or.inr ⟨Nat.le_trans hw0W (World.ownsRow.lt o4.out b e).1, hlt⟩
end Go.Proofs.YtppmednmcbjafaaGreat.KR
end

section
set_option linter.unusedVariables false
set_option linter.unusedSimpArgs false
namespace Go.Proofs.YtppmednmcbjafaaGreat.KR
open Go.RowKit Go Go.Maps Go.Lib

/-- the pool's write, whatever comes -/
def pE (N : Nat) (P : TP) (t : Int) (x : ByteArray) : Int := if mayB t x = false then 1 else if (txt P t).length % 3 = 0 ∧ used P = N then 6 else 0
theorem rpwrite_yes (g B N : Nat) (P : TP) (S : Nat → Prop) (t : Int) (x : ByteArray) (w : World) (h : Rp w g B N P S) (hb : mayB t x = true) (hn : ¬ noRoom N P t) :
    Calls Tryz.prog 47 #[.pointer (some ⟨g, 0, none⟩), .int .i64 t, .string x] w fun e w' => e = .returned (.tuple #[spV ⟨t, ((txt P t).length : Int) + 1, x⟩, .int .i64 0]) ∧ Rp w' g B N (addT P t x) (nx S w w') ∧ Fr S w w' := by
  obtain ⟨vt, vs, V, h, hS⟩ := h
  obtain ⟨r, hr⟩ := AtT.ex P t
  rcases hr with ⟨j, p, hj, hp, _⟩ | ⟨hno, _⟩
  · subst hp
    rw [txt_at h.ris hj]
    exact rpwrite_old g B N P vt vs V S j p x w h hS hb hn hj
  · rw [txt_no hno]
    exact rpwrite_new g B N P vt vs V S t x w h hS hb hn hno
theorem rpwrite_no (g B N : Nat) (P : TP) (S : Nat → Prop) (t : Int) (x : ByteArray) (w : World) (h : Rp w g B N P S) (hb : mayB t x = true) (hn : noRoom N P t) :
    Calls Tryz.prog 47 #[.pointer (some ⟨g, 0, none⟩), .int .i64 t, .string x] w fun e w' => e = .returned (.tuple #[span0, .int .i64 6]) ∧ Fr noB w w' := by
  obtain ⟨vt, vs, V, h, hS⟩ := h
  exact rpwrite_full g B N P vt vs V t x w h hb hn

/-- A row of losses grown. -/
theorem Rk.growl {w wX w1 : World} {k g B N : Nat} {K : KS} {vp vl vg u : Value} {S : Nat → Prop} {L : List Int} (h : Rk w k g B N K vp vl vg S) (fX : Fr noB w wX) (gr : wX.grownBy w1 vl.ownBlock) (mv : Moved wX vl u) (o : w1.ownsRow B 3 1 u L.length (rowV L)) :
    Rk (w1.setCell ⟨k, 3, none⟩ u) k g B N { K with loss := L } vp u vg S ∧ Fr (rkS k vp vl vg S) w (w1.setCell ⟨k, 3, none⟩ u) ∧ ∀ q, u.ownBlock = some q → vl.ownBlock = some q ∨ w.heap.size ≤ q := by
  have hX := h.frN fX
  have f1 : Fr (fun q => vl.ownBlock = some q) wX w1 := (Fr.refl _ wX).grown gr (fun q hq _ => hq)
  have fs : Fr (onlyB k) w1 (w1.setCell ⟨k, 3, none⟩ u) := (Fr.refl _ w1).store rfl
  have hsX := fX.size
  have hk := h.kB
  have hu : ∀ q, u.ownBlock = some q → vl.ownBlock = some q ∨ w.heap.size ≤ q := fun q hq => by
    rcases mv with e | e
    · exact Or.inl (e ▸ hq)
    · rw [e] at hq; cases hq; exact Or.inr hsX
  have hlB : ∀ q, vl.ownBlock = some q → B ≤ q ∧ q < w.heap.size := fun q hq => h.rl.lt q hq
  have hkr : ∀ {v : Value} {L : List Int} {W : World}, W.ownsRow B 3 1 v L.length (rowV L) → ∀ q, v.ownBlock = some q → ¬ onlyB k q := fun hv q hq e => by have := (hv.lt q hq).1; unfold onlyB at e; omega
  have p1 := ownsRow_fr hX.rp f1 (fun q hq e => h.pl q hq e)
  have g1 := ownsRow_fr hX.rg f1 (fun q hq e => h.lg q e hq)
  have F : Fr (rkS k vp vl vg S) w w1 := fX.trans f1 (fun _ _ q => False.elim q) (fun q _ e => Or.inr (Or.inr (Or.inl e)))
  refine ⟨⟨((f1.blk hX.blk (fun e => by have := hlB k e; omega)).set 3 u), (hX.pool.fr f1 (fun q hq e => h.sl q e hq)).fr fs (fun q hq e => h.sk (by unfold onlyB at e; exact e ▸ hq)), ownsRow_fr p1 fs (hkr p1), ownsRow_fr o fs (hkr o), ownsRow_fr g1 fs (hkr g1), hk, h.gB, Nat.le_trans (Nat.le_trans hX.Bw f1.size) fs.size, h.sk, h.sp, fun q hq e => ?_, h.sg, fun q hq e => ?_, h.pg, fun q hq e => ?_, fun q hq => Nat.lt_of_lt_of_le (h.low q hq) (Nat.le_trans hsX (Nat.le_trans f1.size fs.size))⟩, F.trans fs (fun _ _ q => q) (fun q _ e => Or.inl e), hu⟩
  · rcases hu q hq with q1 | q1
    · exact h.sl q q1 e
    · have := h.low q e; omega
  · rcases hu q e with q1 | q1
    · exact h.pl q hq q1
    · have := (h.rp.lt q hq).2; omega
  · rcases hu q hq with q1 | q1
    · exact h.lg q q1 e
    · have := (h.rg.lt q e).2; omega
/-- A row of what went grown. -/
theorem Rk.growg {w wX w1 : World} {k g B N : Nat} {K : KS} {vp vl vg u : Value} {S : Nat → Prop} {L : List Int} (h : Rk w k g B N K vp vl vg S) (fX : Fr noB w wX) (gr : wX.grownBy w1 vg.ownBlock) (mv : Moved wX vg u) (o : w1.ownsRow B 3 1 u L.length (rowV L)) :
    Rk (w1.setCell ⟨k, 4, none⟩ u) k g B N { K with gone := L } vp vl u S ∧ Fr (rkS k vp vl vg S) w (w1.setCell ⟨k, 4, none⟩ u) ∧ ∀ q, u.ownBlock = some q → vg.ownBlock = some q ∨ w.heap.size ≤ q := by
  have hX := h.frN fX
  have f1 : Fr (fun q => vg.ownBlock = some q) wX w1 := (Fr.refl _ wX).grown gr (fun q hq _ => hq)
  have fs : Fr (onlyB k) w1 (w1.setCell ⟨k, 4, none⟩ u) := (Fr.refl _ w1).store rfl
  have hsX := fX.size
  have hk := h.kB
  have hu : ∀ q, u.ownBlock = some q → vg.ownBlock = some q ∨ w.heap.size ≤ q := fun q hq => by
    rcases mv with e | e
    · exact Or.inl (e ▸ hq)
    · rw [e] at hq; cases hq; exact Or.inr hsX
  have hlB : ∀ q, vg.ownBlock = some q → B ≤ q ∧ q < w.heap.size := fun q hq => h.rg.lt q hq
  have hkr : ∀ {v : Value} {L : List Int} {W : World}, W.ownsRow B 3 1 v L.length (rowV L) → ∀ q, v.ownBlock = some q → ¬ onlyB k q := fun hv q hq e => by have := (hv.lt q hq).1; unfold onlyB at e; omega
  have p1 := ownsRow_fr hX.rp f1 (fun q hq e => h.pg q hq e)
  have l1 := ownsRow_fr hX.rl f1 (fun q hq e => h.lg q hq e)
  have F : Fr (rkS k vp vl vg S) w w1 := fX.trans f1 (fun _ _ q => False.elim q) (fun q _ e => Or.inr (Or.inr (Or.inr (Or.inl e))))
  refine ⟨⟨((f1.blk hX.blk (fun e => by have := hlB k e; omega)).set 4 u), (hX.pool.fr f1 (fun q hq e => h.sg q e hq)).fr fs (fun q hq e => h.sk (by unfold onlyB at e; exact e ▸ hq)), ownsRow_fr p1 fs (hkr p1), ownsRow_fr l1 fs (hkr l1), ownsRow_fr o fs (hkr o), hk, h.gB, Nat.le_trans (Nat.le_trans hX.Bw f1.size) fs.size, h.sk, h.sp, h.sl, fun q hq e => ?_, h.pl, fun q hq e => ?_, fun q hq e => ?_, fun q hq => Nat.lt_of_lt_of_le (h.low q hq) (Nat.le_trans hsX (Nat.le_trans f1.size fs.size))⟩, F.trans fs (fun _ _ q => q) (fun q _ e => Or.inl e), hu⟩
  · rcases hu q hq with q1 | q1
    · exact h.sg q q1 e
    · have := h.low q e; omega
  · rcases hu q e with q1 | q1
    · exact h.pg q hq q1
    · have := (h.rp.lt q hq).2; omega
  · rcases hu q e with q1 | q1
    · exact h.lg q hq q1
    · have := (h.rl.lt q hq).2; omega

/-- the least of a list, however it is turned -/
theorem least_turn (sd t : Int) (F : List Int) : leastS sd (t :: F) = leastS sd (F ++ [t]) := by
  have m1 := least_mem sd (t :: F) (by simp)
  have m2 := least_mem sd (F ++ [t]) (by simp)
  have n1 := least_not sd (F ++ [t]) (leastS sd (t :: F)) (by
    rcases List.mem_cons.1 m1 with e | e
    · rw [e]; simp
    · exact List.mem_append_left _ e)
  have n2 := least_not sd (t :: F) (leastS sd (F ++ [t])) (by
    rcases List.mem_append.1 m2 with e | e
    · exact List.mem_cons_of_mem _ e
    · rw [List.mem_singleton.1 e]; simp)
  apply Decidable.byContradiction
  intro hne
  have := lessB_total sd _ _ hne n1
  rw [n2] at this
  cases this
end Go.Proofs.YtppmednmcbjafaaGreat.KR
end

section
set_option linter.unusedVariables false
set_option linter.unusedSimpArgs false
namespace Go.Proofs.YtppmednmcbjafaaGreat.KR
open Go.RowKit Go Go.Maps Go.Lib

theorem Rx.mono {w : World} {k g B N : Nat} {K : KS} {T U : Nat → Prop} (h : Rx w k g B N K T) (hU : ∀ q, q < w.heap.size → T q → U q) : Rx w k g B N K U := by
  obtain ⟨vp, vl, vg, S, h1, h2⟩ := h
  exact ⟨vp, vl, vg, S, h1, fun q hq => hU q (h1.lowk hq) (h2 q hq)⟩
theorem rx_end {w w1 wr w9 : World} {k g B N rb : Nat} {K' : KS} {T : Nat → Prop} (h : Rx wr k g B N K' (nx T w1 wr)) (fr : Fr T w1 wr) (hw1 : w1.heap.size = w.heap.size + 1) (f01 : Fr noB w w1) (f9 : Fr (onlyB rb) wr w9) (hrb : rb = w.heap.size) (hTl : ∀ q, T q → q < w.heap.size) :
    Rx w9 k g B N K' (nx T w w9) ∧ Fr T w w9 := by
  have hs := f9.size
  refine ⟨(h.fr f9 (fun q hq e => ?_)).mono (fun q _ hq => ?_), (f01.trans fr (fun _ _ q => False.elim q) (fun _ _ q => q)).trans f9 (fun _ _ q => q) (fun q hq e => by unfold onlyB at e; omega)⟩
  · unfold onlyB at e
    rcases hq with q1 | q1
    · have := hTl q q1; omega
    · omega
  · rcases hq with q1 | q1
    · exact Or.inl q1
    · exact Or.inr ⟨by omega, by omega⟩
/-- a step more -/
theorem fr_step {w1 wr w' : World} {T : Nat → Prop} {U : Nat → Prop} (fr : Fr T w1 wr) (f : Fr U wr w') (hU : ∀ q, U q → nx T w1 wr q) : Fr T w1 w' :=
  fr.trans f (fun _ _ q => q) (fun q hq e => by
    rcases hU q e with q1 | q1
    · exact q1
    · omega)
theorem nx_step {w1 wr w' : World} {T : Nat → Prop} (h1 : w1.heap.size ≤ wr.heap.size) (h2 : wr.heap.size ≤ w'.heap.size) {q : Nat} (hq : nx T w1 wr q ∨ (wr.heap.size ≤ q ∧ q < w'.heap.size)) : nx T w1 w' q := by
  rcases hq with (e | e) | e
  · exact Or.inl e
  · exact Or.inr ⟨e.1, by omega⟩
  · exact Or.inr ⟨by omega, e.2⟩

theorem nx_mono {w1 wi wj : World} {T : Nat → Prop} (h : wi.heap.size ≤ wj.heap.size) {q : Nat} (hq : nx T w1 wi q) : nx T w1 wj q := by
  rcases hq with e | e
  · exact Or.inl e
  · exact Or.inr ⟨e.1, by omega⟩
theorem rkw_low (k : Nat) (t : Int) (x : ByteArray) (w : World) (hb : t < 1) : Calls Tryz.prog 14 #[.pointer (some ⟨k, 0, none⟩), .int .i64 t, .string x] w fun e w' => e = .returned (.tuple #[span0, .int .i64 1]) ∧ Fr noB w w' := by
  have d0 : decide (t < 1) = true := by simp; omega
  have fX := (Fr.refl noB w).alloc (.cells #[.int .i64 0, .int .i64 0, .string (ByteArray.mk #[])] 38)
  go_enter Tryz.func14, Tryz.ntmps14
  go_wp2_with fail
  go_returns
  exact ⟨rfl, fX⟩
theorem rkw_high (k : Nat) (t : Int) (x : ByteArray) (w : World) (hb0 : 1 ≤ t) (hb : 65535 < t) : Calls Tryz.prog 14 #[.pointer (some ⟨k, 0, none⟩), .int .i64 t, .string x] w fun e w' => e = .returned (.tuple #[span0, .int .i64 1]) ∧ Fr noB w w' := by
  have d0 : decide (t < 1) = false := by simp; omega
  have d1 : decide (65535 < t) = true := by simp; omega
  have fX := (Fr.refl noB w).alloc (.cells #[.int .i64 0, .int .i64 0, .string (ByteArray.mk #[])] 38)
  go_enter Tryz.func14, Tryz.ntmps14
  go_wp2_with fail
  go_returns
  exact ⟨rfl, fX⟩
theorem rkw_long (k : Nat) (t : Int) (x : ByteArray) (w : World) (hb0 : 1 ≤ t) (hb1 : t ≤ 65535) (hb : 40 < x.size) : Calls Tryz.prog 14 #[.pointer (some ⟨k, 0, none⟩), .int .i64 t, .string x] w fun e w' => e = .returned (.tuple #[span0, .int .i64 1]) ∧ Fr noB w w' := by
  have d0 : decide (t < 1) = false := by simp; omega
  have d1 : decide (65535 < t) = false := by simp; omega
  have d2 : decide ((40 : Int) < (x.size : Int)) = true := by simp; omega
  have fX := (Fr.refl noB w).alloc (.cells #[.int .i64 0, .int .i64 0, .string (ByteArray.mk #[])] 38)
  go_enter Tryz.func14, Tryz.ntmps14
  go_wp2_with fail
  go_returns
  exact ⟨rfl, fX⟩
theorem rkw_bad (k : Nat) (t : Int) (x : ByteArray) (w : World) (hb : mayB t x = false) : Calls Tryz.prog 14 #[.pointer (some ⟨k, 0, none⟩), .int .i64 t, .string x] w fun e w' => e = .returned (.tuple #[span0, .int .i64 1]) ∧ Fr noB w w' := by
  by_cases h1 : t < 1
  · exact rkw_low k t x w h1
  by_cases h2 : 65535 < t
  · exact rkw_high k t x w (by omega) h2
  by_cases h3 : 40 < x.size
  · exact rkw_long k t x w (by omega) (by omega) h3
  exfalso
  unfold mayB at hb
  rw [decide_eq_true (show 1 ≤ t by omega), decide_eq_true (show t ≤ 65535 by omega), decide_eq_true (show x.size ≤ 40 by omega)] at hb
  cases hb
set_option maxHeartbeats 1000000 in
theorem rkw_lost (k g B N : Nat) (K : KS) (vp vl vg : Value) (S : Nat → Prop) (t : Int) (x : ByteArray) (w : World) (h : Rk w k g B N K vp vl vg S) (hb : mayB t x = true) (hl : t ∈ K.loss) : Calls Tryz.prog 14 #[.pointer (some ⟨k, 0, none⟩), .int .i64 t, .string x] w fun e w' => e = .returned (.tuple #[span0, .int .i64 10]) ∧ Fr noB w w' := by
  obtain ⟨d0, d1, d2⟩ := mayB_dec hb
  have fX := (Fr.refl noB w).alloc (.cells #[.int .i64 0, .int .i64 0, .string (ByteArray.mk #[])] 38)
  have h1 := h.frN fX
  have c3 : (w.alloc (.cells #[.int .i64 0, .int .i64 0, .string (ByteArray.mk #[])] 38)).cell? ⟨k, 3, none⟩ = some vl := h1.blk.cell 3
  have hi := rin_any vl K.loss t _ h1.los
  rw [decide_eq_true hl] at hi
  clear h h1 hb
  go_enter Tryz.func14, Tryz.ntmps14
  go_wp2_with fail
  refine hi.mono ?_
  rintro e w1 ⟨rfl, hw1⟩
  obtain rfl := hw1.symm
  clear hi hw1
  go_wp2_with fail
  go_returns
  exact ⟨rfl, fX⟩
set_option maxHeartbeats 1000000 in
theorem rkw_pin (k g B N : Nat) (K : KS) (vp vl vg : Value) (S : Nat → Prop) (t : Int) (x : ByteArray) (w : World) (h : Rk w k g B N K vp vl vg S) (hb : mayB t x = true) (hl : t ∉ K.loss) (hp : t ∈ K.pins) : Calls Tryz.prog 14 #[.pointer (some ⟨k, 0, none⟩), .int .i64 t, .string x] w fun e w' => e = .returned (.tuple #[span0, .int .i64 12]) ∧ Fr noB w w' := by
  obtain ⟨d0, d1, d2⟩ := mayB_dec hb
  have fX := (Fr.refl noB w).alloc (.cells #[.int .i64 0, .int .i64 0, .string (ByteArray.mk #[])] 38)
  have h1 := h.frN fX
  have c3 : (w.alloc (.cells #[.int .i64 0, .int .i64 0, .string (ByteArray.mk #[])] 38)).cell? ⟨k, 3, none⟩ = some vl := h1.blk.cell 3
  have c2 : (w.alloc (.cells #[.int .i64 0, .int .i64 0, .string (ByteArray.mk #[])] 38)).cell? ⟨k, 2, none⟩ = some vp := h1.blk.cell 2
  have hi := rin_any vl K.loss t _ h1.los
  have hj := rin_any vp K.pins t _ h1.pin
  rw [decide_eq_false hl] at hi
  rw [decide_eq_true hp] at hj
  clear h h1 hb
  go_enter Tryz.func14, Tryz.ntmps14
  go_wp2_with fail
  refine hi.mono ?_
  rintro e w1 ⟨rfl, hw1⟩
  obtain rfl := hw1.symm
  clear hi hw1
  go_wp2_with fail
  refine hj.mono ?_
  rintro e w1 ⟨rfl, hw1⟩
  obtain rfl := hw1.symm
  clear hj hw1
  go_wp2_with fail
  go_returns
  exact ⟨rfl, fX⟩

/-- what a round of the loop finds -/
structure Rnd (N : Nat) (K : KS) (t : Int) (x : ByteArray) (K1 : KS) (gk : Nat) : Prop where
  sd : K1.sd = K.sd
  ok : ¬ noRoom N K1.P t → { K1 with P := addT K1.P t x } = K.wr N t x ∧ K.we N t x = 0 ∧ K.ws N t x = ⟨t, ((txt K1.P t).length : Int) + 1, x⟩
  no : noRoom N K1.P t → K1 = K ∧ gk = 1
theorem Rnd.start {N : Nat} {K : KS} {t : Int} {x : ByteArray} (hb : mayB t x = true) (hl : t ∉ K.loss) (hp : t ∉ K.pins) : Rnd N K t x K 1 := by
  have hb' : ¬ mayB t x = false := by rw [hb]; decide
  refine ⟨rfl, fun hr => ?_, fun _ => ⟨rfl, rfl⟩⟩
  have he : K.we N t x = 0 := by unfold KS.we; rw [if_neg hb', if_neg hl, if_neg hp, if_neg hr]
  refine ⟨?_, he, ?_⟩
  · unfold KS.wr; rw [if_neg hb', if_neg hl, if_neg hp, if_neg hr]
  · unfold KS.ws; rw [if_pos he]
theorem Rnd.none {N : Nat} {K : KS} {t : Int} {x : ByteArray} (hb : mayB t x = true) (hl : t ∉ K.loss) (hp : t ∉ K.pins) (hr : noRoom N K.P t) (h0 : mayL K = []) :
    { K with loss := K.loss ++ [t] } = K.wr N t x ∧ K.we N t x = 6 ∧ K.ws N t x = sp0 := by
  have hb' : ¬ mayB t x = false := by rw [hb]; decide
  have he : K.we N t x = 6 := by unfold KS.we; rw [if_neg hb', if_neg hl, if_neg hp, if_pos hr, h0]; rfl
  refine ⟨?_, he, ?_⟩
  · unfold KS.wr; rw [if_neg hb', if_neg hl, if_neg hp, if_pos hr, h0]; rfl
  · unfold KS.ws; rw [if_neg (by rw [he]; decide)]
theorem isE {F : List Int} (h : F ≠ []) : ¬ F.isEmpty = true := by cases F with | nil => exact absurd rfl h | cons a r => simp
theorem Rnd.gone {N : Nat} {K : KS} {t : Int} {x : ByteArray} (hb : mayB t x = true) (hl : t ∉ K.loss) (hp : t ∉ K.pins) (hr : noRoom N K.P t) (h0 : mayL K ≠ []) (hL : goes K t = t) :
    { K with P := without K.P t, loss := K.loss ++ [t], gone := K.gone ++ [t] } = K.wr N t x ∧ K.we N t x = 10 ∧ K.ws N t x = sp0 := by
  have hb' : ¬ mayB t x = false := by rw [hb]; decide
  have he : K.we N t x = 10 := by unfold KS.we; rw [if_neg hb', if_neg hl, if_neg hp, if_pos hr, if_neg (isE h0), if_pos hL]
  refine ⟨?_, he, ?_⟩
  · unfold KS.wr; rw [if_neg hb', if_neg hl, if_neg hp, if_pos hr, if_neg (isE h0), if_pos hL]
  · unfold KS.ws; rw [if_neg (by rw [he]; decide)]
theorem Rnd.next {N : Nat} {K : KS} {t : Int} {x : ByteArray} {L : Int} (hb : mayB t x = true) (hl : t ∉ K.loss) (hp : t ∉ K.pins) (hr : noRoom N K.P t) (h0 : mayL K ≠ []) (hLg : goes K t = L) (hL : L ≠ t) (hra : ¬ noRoom N (without K.P L) t) :
    Rnd N K t x { K with P := without K.P L, loss := K.loss ++ [L], gone := K.gone ++ [L] } 0 := by
  have hb' : ¬ mayB t x = false := by rw [hb]; decide
  have hL' : ¬ goes K t = t := by rw [hLg]; exact hL
  refine ⟨rfl, fun _ => ?_, fun q => absurd q hra⟩
  have he : K.we N t x = 0 := by unfold KS.we; rw [if_neg hb', if_neg hl, if_neg hp, if_pos hr, if_neg (isE h0), if_neg hL']
  refine ⟨?_, he, ?_⟩
  · unfold KS.wr; rw [if_neg hb', if_neg hl, if_neg hp, if_pos hr, if_neg (isE h0), if_neg hL', hLg]
  · unfold KS.ws
    rw [if_pos he]
    show _ = (⟨t, ((txt (without K.P L) t).length : Int) + 1, x⟩ : Sp)
    rw [txt_drop_other K.P (fun e => hL e.symm)]
theorem mayL_take {P : TP} {pins : List Int} {i : Nat} {m : Int × List ByteArray} (hm : P[i]? = some m) : ((P.take (i + 1)).map (·.1)).filter (fun y => !decide (y ∈ pins)) = ((P.take i).map (·.1)).filter (fun y => !decide (y ∈ pins)) ++ if m.1 ∈ pins then [] else [m.1] := by
  rw [take_next hm, List.map_append, List.filter_append]
  by_cases h : m.1 ∈ pins <;> simp [h]

set_option maxHeartbeats 4000000 in
set_option maxRecDepth 10000 in
theorem rkw_go (k g B N : Nat) (K : KS) (t : Int) (x : ByteArray) (T : Nat → Prop) (w : World) (h : Rx w k g B N K T) (hTl : ∀ q, T q → q < w.heap.size) (hb : mayB t x = true) (hl : t ∉ K.loss) (hp : t ∉ K.pins)
    (hz : K.pins.length < 1000000) (hzl : K.loss.length < 1000000) (hzg : K.gone.length < 1000000) (hsd : U64 K.sd) (hrng : ∀ y ∈ K.P.map (·.1), 1 ≤ y ∧ y ≤ 65535) (hra : noRoom N K.P t → mayL K ≠ [] → goes K t ≠ t → ¬ noRoom N (without K.P (goes K t)) t) :
    Calls Tryz.prog 14 #[.pointer (some ⟨k, 0, none⟩), .int .i64 t, .string x] w fun e w' => e = .returned (.tuple #[spV (K.ws N t x), .int .i64 (K.we N t x)]) ∧ Rx w' k g B N (K.wr N t x) (nx T w w') ∧ Fr T w w' := by
  obtain ⟨i0, hi0, hz0, hz1, hz2⟩ : ∃ i0, Tryz.prog.info? 3 = some i0 ∧ i0.zero = some (.int .i64 0) ∧ i0.size = 1 ∧ i0.bytes = 8 := by
    have hI := infoIntR
    cases hq : Tryz.prog.info? 3 with
    | none => rw [hq] at hI; cases hI
    | some k => rw [hq] at hI; simp at hI; exact ⟨k, rfl, hI⟩
  obtain ⟨d0, d1, d2⟩ := mayB_dec hb
  have hmr := mayB_rng hb
  obtain ⟨w1, hw1⟩ : ∃ w1, w1 = w.alloc (.cells #[.int .i64 0, .int .i64 0, .string (ByteArray.mk #[])] 38) := ⟨_, rfl⟩
  have f01 : Fr noB w w1 := by rw [hw1]; exact (Fr.refl noB w).alloc _
  have hs1 : w1.heap.size = w.heap.size + 1 := by rw [hw1]; simp
  have bR1 : Blk w1 w.heap.size 38 [.int .i64 0, .int .i64 0, .string (ByteArray.mk #[])] := by rw [hw1]; exact Blk.new w _ _
  have hx1 := h.frN f01
  obtain ⟨vp, vl, vg, S, h1, hT1⟩ := h
  have h2 := h1.frN f01
  have c3 : w1.cell? ⟨k, 3, none⟩ = some vl := h2.blk.cell 3
  have c2 : w1.cell? ⟨k, 2, none⟩ = some vp := h2.blk.cell 2
  have hi := rin_any vl K.loss t w1 h2.los
  have hj := rin_any vp K.pins t w1 h2.pin
  rw [decide_eq_false hl] at hi
  rw [decide_eq_false hp] at hj
  have hst := Lib.hid (Rnd.start (N := N) (x := x) hb hl hp)
  obtain ⟨rb, hrb⟩ : ∃ rb, rb = w.heap.size := ⟨_, rfl⟩
  rw [← hrb] at bR1
  have hTr : Hid (¬ T rb) := Lib.hid (fun e => by have := hTl rb e; omega)
  have hrbw : rb < w1.heap.size := by omega
  replace f01 := Lib.hid f01
  replace hs1 := Lib.hid hs1
  replace bR1 := Lib.hid bR1
  replace hrng := Lib.hid hrng
  replace hra := Lib.hid hra
  replace hTl := Lib.hid hTl
  replace hx1 := Lib.hid hx1
  replace hb := Lib.hid hb
  replace hl := Lib.hid hl
  replace hp := Lib.hid hp
  clear h1 h2 hT1
  go_enter Tryz.func14, Tryz.ntmps14
  go_upto_region 3 with fail
  rw [← hw1, ← hrb]
  replace hw1 := Lib.hid hw1
  replace hrb := Lib.hid hrb
  go_wp2_with fail
  refine hi.mono ?_
  rintro e w2 ⟨rfl, hw2⟩
  obtain rfl := hw2.symm
  clear hi hw2
  go_wp2_with fail
  refine hj.mono ?_
  rintro e w2 ⟨rfl, hw2⟩
  obtain rfl := hw2.symm
  clear hj hw2 c2 c3 d0 d1 d2
  go_wp2_with fail
  go_loopg [] 1 (fun gk wr => ∃ K1 : KS, Rx wr k g B N K1 (nx T w1 wr) ∧ Fr T w1 wr ∧ Hid (Rnd N K t x K1 gk) ∧ gk ≤ 1)
  case atStart => exact ⟨K, hx1.out.mono (fun q _ e => Or.inl e), Fr.refl _ _, hst, by omega⟩
  case round =>
    clear hst hx1
    obtain ⟨K1, hx, fr, hrn, hgk⟩ := hrel
    obtain ⟨vp, vl, vg, S, h1, hT1⟩ := hx
    have c0 : wr.cell? ⟨k, 0, none⟩ = some (.pointer (some ⟨g, 0, none⟩)) := h1.blk.cell 0
    by_cases hr : noRoom N K1.P t
    · obtain ⟨rfl, rfl⟩ := hrn.out.no hr
      obtain ⟨wo, rfl⟩ : ∃ wo : World, wo = wr := ⟨_, rfl⟩
      have hw := rpwrite_no g B N K1.P S t x wo h1.pool hb.out hr
      unfold span0 at hw
      replace h1 := Lib.hid h1
      replace hT1 := Lib.hid hT1
      replace fr := Lib.hid fr
      replace hr := Lib.hid hr
      go_wp2_with fail
      refine hw.mono ?_
      rintro e w3 ⟨rfl, f3⟩
      clear hw
      have f4 : Fr noB wo (w3.alloc (.cells #[.int .i64 0, .int .i64 0, .string (ByteArray.mk #[])] 38)) := f3.alloc _
      have c0 : (w3.alloc (.cells #[.int .i64 0, .int .i64 0, .string (ByteArray.mk #[])] 38)).cell? ⟨k, 0, none⟩ = some (.pointer (some ⟨g, 0, none⟩)) := (h1.out.frN f4).blk.cell 0
      replace f4 := Lib.hid f4
      clear f3
      go_upto_region 10 with fail
      generalize hw4 : w3.alloc (.cells #[.int .i64 0, .int .i64 0, .string (ByteArray.mk #[])] 38) = w4 at *
      replace hw4 := Lib.hid hw4
      have h4 := h1.out.frN f4.out
      have oM := own_new w4 3 [.int .i64 t] 1 1 rfl (by unfold maxLen; omega)
      have fM := (Fr.refl noB w4).alloc (.cells #[.int .i64 t] 3)
      obtain ⟨vt, vs, V, hq, hqS⟩ := h4.pool
      have hpl := hq.pl
      obtain ⟨aT, cT, rfl⟩ := ownsRow_slice hq.rt
      have hnn : ∃ n, n = K1.P.length := ⟨_, rfl⟩
      obtain ⟨n, hn⟩ := hnn
      rw [← hn] at hpl
      have c1w : Hid (∀ w', Fr noB w4 w' → w'.cell? ⟨k, 0, none⟩ = some (.pointer (some ⟨g, 0, none⟩)) ∧ w'.cell? ⟨g, 1, none⟩ = some (.slice aT n cT) ∧ w'.cell? ⟨k, 2, none⟩ = some vp) := Lib.hid (fun w' f => ⟨(h4.frN f).blk.cell 0, by rw [hn]; exact (hq.frN f).blk.cell 1, (h4.frN f).blk.cell 2⟩)
      have hrt := Lib.hid hq.rt
      have hpin := Lib.hid h4.pin
      have hn16 := hq.pl
      replace hn := Lib.hid hn
      obtain ⟨D, hD⟩ : ∃ D, D = w4.heap.size := ⟨_, rfl⟩
      rw [← hD] at oM
      replace hD := Lib.hid hD
      replace h4 := Lib.hid h4
      clear hq hqS c0 hn16
      go_wp2_with fail
      rw [← hD.out]
      go_loopw [10, 11] (fun mv i w5 => ∃ (j : Nat) (M : List Int), j ≤ n ∧ i = .int .i64 j ∧ w5.ownsRow D 3 1 mv M.length (rowV M) ∧ Hid (M = t :: ((K1.P.take j).map (·.1)).filter (fun y => !decide (y ∈ K1.pins))) ∧ Fr noB w4 w5) (fun _ i _ => n - (RowKit.intOf i).toNat)
      case atStart => exact ⟨0, [t], by omega, rfl, oM, Lib.hid (by simp), fM⟩
      case round =>
        clear oM fM
        obtain ⟨j, M, hj, rfl, oM, hM, f5⟩ := hrel
        have hMl : M.length ≤ j + 1 := by
          rw [hM.out, List.length_cons]
          have := List.length_filter_le (fun y => !decide (y ∈ K1.pins)) ((K1.P.take j).map (·.1))
          rw [List.length_map, List.length_take] at this
          omega
        obtain ⟨c0, c1, c2⟩ := c1w.out _ f5
        by_cases hlt : j < n
        · obtain ⟨m, hm⟩ : ∃ m, K1.P[j]? = some m := ⟨_, List.getElem?_eq_getElem (by rw [← hn.out]; exact hlt)⟩
          have hrt' := hrt.out
          rw [← hn.out] at hrt'
          obtain ⟨gT, rfl, e1⟩ := own_at hrt' (i := j) (x := .int .i64 m.1) (by simp [rowV, hm])
          have e5 := f5.cell e1 (fun q => q)
          have hpr := hpin.out.fr f5 (fun _ _ _ _ _ q => q)
          have hb0 : (0 : Int) ≤ (j : Int) := by omega
          have hb1 : (j : Int) < (n : Int) := by omega
          have hmt := mayL_take (pins := K1.pins) hm
          have hin := fun W' (hW : RdI W' vp K1.pins) => rin_any vp K1.pins m.1 W' hW
          replace e1 := Lib.hid e1
          replace hm := Lib.hid hm
          replace hpr := Lib.hid hpr
          clear hrt'
          generalize m.1 = y at *
          by_cases hmp : y ∈ K1.pins
          · rw [if_pos hmp, List.append_nil] at hmt
            rw [← hmt] at hM
            simp only [decide_eq_true hmp] at hin
            replace hmt := Lib.hid hmt
            replace hmp := Lib.hid hmp
            replace hin := Lib.hid hin
            go_wp2_with fail
            go_quiet ((go_at_call 35; exact Calls.quiet_of_same (hin.out _ hpr.out)))
            go_wp2_with fail
            go_roundw
            case rel => exact ⟨j + 1, M, by omega, by go_num, oM, hM, f5.drewN _⟩
            case measure => simp [RowKit.intOf]; omega
          · rw [if_neg hmp] at hmt
            simp only [decide_eq_false hmp] at hin
            have hM1 : Hid (M ++ [y] = t :: ((K1.P.take (j + 1)).map (·.1)).filter (fun y => !decide (y ∈ K1.pins))) := Lib.hid (by rw [hmt, hM.out]; rfl)
            replace hmt := Lib.hid hmt
            replace hmp := Lib.hid hmp
            replace hin := Lib.hid hin
            go_wp2_with fail
            go_quiet ((go_at_call 35; exact Calls.quiet_of_same (hin.out _ hpr.out)))
            have c0' : (wr.drewN nq).cell? ⟨k, 0, none⟩ = some (.pointer (some ⟨g, 0, none⟩)) := c0
            have c1' : (wr.drewN nq).cell? ⟨g, 1, none⟩ = some (.slice (some ⟨gT, 0, none⟩) n cT) := c1
            have e5' : (wr.drewN nq).cell? ⟨gT, j, none⟩ = some (.int .i64 y) := e5
            have oM' : (wr.drewN nq).ownsRow D 3 1 u10 M.length (rowV M) := oM
            have f5' : Fr noB w4 (wr.drewN nq) := f5.drewN _
            clear c0 c1 c2 e5 oM f5 hpr
            generalize wr.drewN nq = w6 at *
            have hA : (w6.alloc (.cells #[.int .i64 y] 3)).ownsRow D 3 1 u10 M.length (rowV M) := ownsRow_fr oM' ((Fr.refl noB w6).alloc _) (fun _ _ q => q)
            have hN := cell_new w6 (.int .i64 y) 3
            have hDr : D ≤ w6.heap.size := by rw [hD.out]; exact f5'.size
            go_wp2_with (first
              | (at_builtin; go_must (refine wpList_append_at _ rfl (.tmp 83) (.tmp 94) 57 rfl D 3 i0 _ 1 8 Tryz.underlying57 hi0 hz0 hz1 hz2 rfl (by omega) _ M.length _ rfl hA ⟨w6.heap.size, 0, none⟩ 1 1 [.int .i64 y] rfl rfl hN (one_int _ _) ?_ ?_ ?_ ?_))
              | fail)
            · unfold maxLen; omega
            · omega
            · have := ((Fr.refl noB w6).alloc (.cells #[.int .i64 y] 3)).size; omega
            intro v' w7 o7 gr7 _
            have hDh : Hid (w4.heap.size = D) := Lib.hid hD.out.symm
            obtain ⟨own7, fr7⟩ := grow_int hDh f5' hA o7 gr7
            clear hA hN o7 gr7 oM' f5' c0' c1' e5'
            go_wp2_with fail
            go_roundw
            case rel => exact ⟨j + 1, M ++ [y], by omega, by go_num, own7, hM1, fr7⟩
            case measure => simp [RowKit.intOf]; omega
        · obtain rfl : j = n := by omega
          have hMe : M = t :: mayL K1 := by
            rw [hM.out, List.take_of_length_le (by have := hn.out; omega)]; rfl
          have hMln : M.length = (mayL K1).length + 1 := by rw [hMe]; rfl
          obtain ⟨aM, cM, rfl⟩ := ownsRow_slice oM
          have h5 := h4.out.frN f5
          have frT5 : Fr T w1 wr := (fr.out.seqN f4.out).seqN f5
          have hT5 : Hid (∀ q, rkS k vp vl vg S q → nx T w1 wr q) := Lib.hid (fun q e => nx_mono (Nat.le_trans f4.out.size f5.size) (hT1.out q e))
          have c3 : wr.cell? ⟨k, 3, none⟩ = some vl := h5.blk.cell 3
          have c4 : wr.cell? ⟨k, 1, none⟩ = some (.int .u64 K1.sd) := h5.blk.cell 1
          clear hM f5 c2 c1w hrt hpin h4 f4 h1 hT1 fr hrn
          replace h5 := Lib.hid h5
          replace frT5 := Lib.hid frT5
          by_cases h0 : mayL K1 = []
          · have hd : ((M.length : Int) == 1) = true := by rw [hMln, h0]; rfl
            have hjj : decide ((j : Int) < j) = false := by simp
            obtain ⟨q1, q2, q3⟩ := Rnd.none (N := N) (x := x) hb.out hl.out hp.out hr.out h0
            replace q1 := Lib.hid q1
            replace q2 := Lib.hid q2
            replace q3 := Lib.hid q3
            replace h0 := Lib.hid h0
            replace hMe := Lib.hid hMe
            replace hMln := Lib.hid hMln
            have hA : (wr.alloc (.cells #[.int .i64 t] 3)).ownsRow B 3 1 vl K1.loss.length (rowV K1.loss) := ownsRow_fr h5.out.rl ((Fr.refl noB wr).alloc _) (fun _ _ q => q)
            have hN := cell_new wr (.int .i64 t) 3
            have hBr := h5.out.Bw
            clear oM
            go_wp2_with (first
              | (at_builtin; go_must (refine wpList_append_at _ rfl (.tmp 103) (.tmp 105) 57 rfl B 3 i0 _ 1 8 Tryz.underlying57 hi0 hz0 hz1 hz2 rfl (by omega) _ K1.loss.length _ rfl hA ⟨wr.heap.size, 0, none⟩ 1 1 [.int .i64 t] rfl rfl hN (one_int _ _) ?_ ?_ ?_ ?_))
              | fail)
            · unfold maxLen; omega
            · omega
            · have := ((Fr.refl noB wr).alloc (.cells #[.int .i64 t] 3)).size; omega
            intro v' w7 o7 gr7 mv7
            have e1 : rowV (K1.loss ++ [t]) = rowV K1.loss ++ [.int .i64 t] := by simp [rowV]
            have e2 : (K1.loss ++ [t]).length = K1.loss.length + 1 := by simp
            rw [← e1, ← e2] at o7
            have fA := (Fr.refl noB wr).alloc (.cells #[.int .i64 t] 3)
            obtain ⟨h8, f8, hu8⟩ := h5.out.growl fA gr7 mv7 o7
            have bk7 := (fA.blk h5.out.blk (fun q => q))
            have bk8 : Blk w7 k _ _ := ((Fr.refl (fun q => vl.ownBlock = some q) _).grown gr7 (fun q hq _ => hq)).blk bk7 (fun e => by have := (h5.out.rl.lt k e).1; have := h5.out.kB; omega)
            have z3 := bk8.frozen 3
            have c5 : w7.cell? ⟨k, 3, none⟩ = some vl := bk8.cell 3
            obtain ⟨av, cv, rfl⟩ := ownsRow_slice o7
            have hs8 := f8.size
            have frT8 : Fr T w1 (w7.setCell ⟨k, 3, none⟩ (.slice av (K1.loss ++ [t]).length cv)) := fr_step frT5.out f8 (fun q e => hT5.out q e)
            have hx8 : Hid (Rx (w7.setCell ⟨k, 3, none⟩ (.slice av (K1.loss ++ [t]).length cv)) k g B N { K1 with loss := K1.loss ++ [t] } (nx T w1 (w7.setCell ⟨k, 3, none⟩ (.slice av (K1.loss ++ [t]).length cv)))) := Lib.hid ⟨vp, _, vg, S, h8, fun q hq => by
              have hlt := h8.lowk hq
              have key : ∀ q, rkS k vp vl vg S q → nx T w1 (w7.setCell ⟨k, 3, none⟩ (.slice av (K1.loss ++ [t]).length cv)) q := fun q e => nx_mono hs8 (hT5.out q e)
              rcases hq with e | e | e | e | e
              · exact key q (Or.inl e)
              · exact key q (Or.inr (Or.inl e))
              · rcases hu8 q e with e' | e'
                · exact key q (Or.inr (Or.inr (Or.inl e')))
                · exact Or.inr ⟨by have := frT5.out.size; omega, hlt⟩
              · exact key q (Or.inr (Or.inr (Or.inr (Or.inl e))))
              · exact key q (Or.inr (Or.inr (Or.inr (Or.inr e))))⟩
            have bR := Lib.hid (frT8.blk bR1.out hTr.out)
            have tR := Lib.hid (thereN (i := 0) (n := 3) bR.out (by simp))
            replace frT8 := Lib.hid frT8
            replace e2 := Lib.hid e2
            clear hA hN gr7 mv7 o7 fA h8 f8 hu8 bk7 bk8 hs8 c3 c4 e1
            rw [e2.out] at hx8 frT8 bR tR
            go_upto_region 18 with fail
            generalize w7.setCell ⟨k, 3, none⟩ (.slice av (K1.loss.length + 1) cv) = WZ at *
            go_wp2_with (first
              | (refine wpList_store_mid rfl 38 (.tmp 6) (.tmp 109) rfl rb 0 #[.int .i64 0, .int .i64 0, .string (ByteArray.mk #[])] rfl rfl tR.out size_span (one_span _ _ _) ?_; obtain ⟨w9, hw9, f9, h9⟩ := store3 WZ rb 0 (.int .i64 0) (.int .i64 0) (.string (ByteArray.mk #[])); rw [← hw9]; clear hw9; have h9 := h9 _ _ bR.out; have r0 : w9.cell? ⟨rb, 0, none⟩ = some (.int .i64 0) := h9.cell 0; have r1 : w9.cell? ⟨rb, 1, none⟩ = some (.int .i64 0) := h9.cell 1; have r2 : w9.cell? ⟨rb, 2, none⟩ = some (.string (ByteArray.mk #[])) := h9.cell 2; clear h9; replace f9 := Lib.hid f9)
              | fail)
            try simp only [Exit.inBlock, Exit.then]
            refine bodyPost_ret (by simp [results, Tryz.results14, go_sem, r0, r1, r2]; try rfl) rfl ?_
            rw [q2.out, q3.out, ← q1.out]
            exact ⟨rfl, rx_end hx8.out frT8.out hs1.out f01.out f9.out hrb.out hTl.out⟩
          · have hd : ((M.length : Int) == 1) = false := by
              have := List.length_pos_iff.2 h0
              simp; omega
            have hMr : ∀ y ∈ M, I64 y := fun y hy => by
              rw [hMe] at hy
              rcases List.mem_cons.1 hy with e | e
              · subst e; unfold I64; omega
              · have := hrng.out y (mayL_mem e).1; unfold I64; omega
            have hle := rleast_any K1.sd (.slice aM M.length cM) M wr hsd (Ints.own (xs := M) oM hMr)
            have hLe : leastS K1.sd M = goes K1 t := by rw [hMe, least_turn]; rfl
            obtain ⟨L, hL⟩ : ∃ L, goes K1 t = L := ⟨_, rfl⟩
            rw [hLe, hL] at hle
            have hLr : 1 ≤ L ∧ L ≤ 65535 := by
              rw [← hL]
              rcases goes_mem K1 t with q | q
              · exact hrng.out _ (mayL_mem q).1
              · rw [q]; omega
            replace hLe := Lib.hid hLe
            replace hMr := Lib.hid hMr
            replace hMe := Lib.hid hMe
            replace hMln := Lib.hid hMln
            replace hL := Lib.hid hL
            replace h0 := Lib.hid h0
            clear oM
            go_wp2_with fail
            refine hle.mono ?_
            rintro e w6 ⟨rfl, f6⟩
            have h6 := h5.out.frN f6
            have c0 : w6.cell? ⟨k, 0, none⟩ = some (.pointer (some ⟨g, 0, none⟩)) := h6.blk.cell 0
            have frT6 : Hid (Fr T w1 w6) := Lib.hid (frT5.out.seqN f6)
            have hT6 : Hid (∀ q, rkS k vp vl vg S q → nx T w1 w6 q) := Lib.hid (fun q e => nx_mono f6.size (hT5.out q e))
            have hdr := rpdrop_any g B N K1.P S L w6 h6.pool
            clear hle c1 c3 c4 h5 frT5 hT5 f6
            replace h6 := Lib.hid h6
            go_wp2_with fail
            refine hdr.mono ?_
            rintro e w7 ⟨⟨m, rfl⟩, hp7, f7⟩
            have h7 := h6.out.setP hp7 f7
            have hs67 := f7.size
            have frT7 : Hid (Fr T w1 w7) := Lib.hid (fr_step frT6.out f7 (fun q e => hT6.out q (Or.inr (Or.inr (Or.inr (Or.inr e))))))
            have hT7 : Hid (∀ q, rkS k vp vl vg (nx S w6 w7) q → nx T w1 w7 q) := Lib.hid (fun q hq => by
              have key : ∀ q, rkS k vp vl vg S q → nx T w1 w7 q := fun q e => nx_mono hs67 (hT6.out q e)
              rcases hq with e | e | e | e | e
              · exact key q (Or.inl e)
              · exact key q (Or.inr (Or.inl e))
              · exact key q (Or.inr (Or.inr (Or.inl e)))
              · exact key q (Or.inr (Or.inr (Or.inr (Or.inl e))))
              · rcases e with e | e
                · exact key q (Or.inr (Or.inr (Or.inr (Or.inr e))))
                · exact Or.inr ⟨by have := frT6.out.size; omega, e.2⟩)
            obtain ⟨S7, hS7⟩ : ∃ S7, S7 = nx S w6 w7 := ⟨_, rfl⟩
            rw [← hS7] at h7 hT7
            have c3 : w7.cell? ⟨k, 3, none⟩ = some vl := h7.blk.cell 3
            have hA : (w7.alloc (.cells #[.int .i64 L] 3)).ownsRow B 3 1 vl K1.loss.length (rowV K1.loss) := ownsRow_fr h7.rl ((Fr.refl noB w7).alloc _) (fun _ _ q => q)
            have hN := cell_new w7 (.int .i64 L) 3
            have hBr := h7.Bw
            clear c0 hdr f7 hp7 h6 frT6 hT6 hs67 hS7
            replace h7 := Lib.hid h7
            go_wp2_with (first
              | (at_builtin; go_must (refine wpList_append_at _ rfl (.tmp 126) (.tmp 128) 57 rfl B 3 i0 _ 1 8 Tryz.underlying57 hi0 hz0 hz1 hz2 rfl (by omega) _ K1.loss.length _ rfl hA ⟨w7.heap.size, 0, none⟩ 1 1 [.int .i64 L] rfl rfl hN (one_int _ _) ?_ ?_ ?_ ?_))
              | fail)
            · unfold maxLen; omega
            · omega
            · have := ((Fr.refl noB w7).alloc (.cells #[.int .i64 L] 3)).size; omega
            intro v' w8 o8 gr8 mv8
            have e1 : rowV (K1.loss ++ [L]) = rowV K1.loss ++ [.int .i64 L] := by simp [rowV]
            have e2 : (K1.loss ++ [L]).length = K1.loss.length + 1 := by simp
            rw [← e1, ← e2] at o8
            have fA := (Fr.refl noB w7).alloc (.cells #[.int .i64 L] 3)
            obtain ⟨h9, f9, hu9⟩ := h7.out.growl fA gr8 mv8 o8
            have bk8 : Blk w8 k _ _ := ((Fr.refl (fun q => vl.ownBlock = some q) _).grown gr8 (fun q hq _ => hq)).blk (fA.blk h7.out.blk (fun q => q)) (fun e => by have := (h7.out.rl.lt k e).1; have := h7.out.kB; omega)
            have z3 := bk8.frozen 3
            have c5 : w8.cell? ⟨k, 3, none⟩ = some vl := bk8.cell 3
            obtain ⟨av, cv, rfl⟩ := ownsRow_slice o8
            have frT9 := Lib.hid (fr_step frT7.out f9 (fun q e => hT7.out q e))
            have hT9 := fun (q : Nat) (hq : rkS k vp (.slice av (K1.loss ++ [L]).length cv) vg S7 q) => (show nx T w1 (w8.setCell ⟨k, 3, none⟩ (.slice av (K1.loss ++ [L]).length cv)) q from by
              have hlt := h9.lowk hq
              have hs9 := f9.size
              have key : ∀ q, rkS k vp vl vg S7 q → nx T w1 (w8.setCell ⟨k, 3, none⟩ (.slice av (K1.loss ++ [L]).length cv)) q := fun q e => nx_mono hs9 (hT7.out q e)
              rcases hq with e | e | e | e | e
              · exact key q (Or.inl e)
              · exact key q (Or.inr (Or.inl e))
              · rcases hu9 q e with e' | e'
                · exact key q (Or.inr (Or.inr (Or.inl e')))
                · exact Or.inr ⟨by have := frT7.out.size; omega, hlt⟩
              · exact key q (Or.inr (Or.inr (Or.inr (Or.inl e))))
              · exact key q (Or.inr (Or.inr (Or.inr (Or.inr e)))))
            replace hT9 := Lib.hid hT9
            replace e2 := Lib.hid e2
            clear hA hN gr8 mv8 o8 fA f9 hu9 bk8 c3 e1 hT7 frT7 h7 hBr
            replace h9 := Lib.hid h9
            rw [e2.out] at h9 frT9 hT9
            go_upto_region 22 with fail
            generalize w8.setCell ⟨k, 3, none⟩ (.slice av (K1.loss.length + 1) cv) = w9 at *
            clear z3 c5
            generalize Value.slice av (K1.loss.length + 1) cv = vl9 at *
            have c3 : w9.cell? ⟨k, 4, none⟩ = some vg := h9.out.blk.cell 4
            have hA : (w9.alloc (.cells #[.int .i64 L] 3)).ownsRow B 3 1 vg K1.gone.length (rowV K1.gone) := ownsRow_fr h9.out.rg ((Fr.refl noB w9).alloc _) (fun _ _ q => q)
            have hN := cell_new w9 (.int .i64 L) 3
            have hBr := h9.out.Bw
            go_wp2_with (first
              | (at_builtin; go_must (refine wpList_append_at _ rfl (.tmp 136) (.tmp 138) 57 rfl B 3 i0 _ 1 8 Tryz.underlying57 hi0 hz0 hz1 hz2 rfl (by omega) _ K1.gone.length _ rfl hA ⟨w9.heap.size, 0, none⟩ 1 1 [.int .i64 L] rfl rfl hN (one_int _ _) ?_ ?_ ?_ ?_))
              | fail)
            · unfold maxLen; omega
            · omega
            · have := ((Fr.refl noB w9).alloc (.cells #[.int .i64 L] 3)).size; omega
            intro v' w10 o10 gr10 mv10
            have e1 : rowV (K1.gone ++ [L]) = rowV K1.gone ++ [.int .i64 L] := by simp [rowV]
            have e2 : (K1.gone ++ [L]).length = K1.gone.length + 1 := by simp
            rw [← e1, ← e2] at o10
            have fA := (Fr.refl noB w9).alloc (.cells #[.int .i64 L] 3)
            obtain ⟨h11, f11, hu11⟩ := h9.out.growg fA gr10 mv10 o10
            have bk10 : Blk w10 k _ _ := ((Fr.refl (fun q => vg.ownBlock = some q) _).grown gr10 (fun q hq _ => hq)).blk (fA.blk h9.out.blk (fun q => q)) (fun e => by have := (h9.out.rg.lt k e).1; have := h9.out.kB; omega)
            have z3 := bk10.frozen 4
            have c5 : w10.cell? ⟨k, 4, none⟩ = some vg := bk10.cell 4
            obtain ⟨av2, cv2, rfl⟩ := ownsRow_slice o10
            have frT11 := Lib.hid (fr_step frT9.out f11 (fun q e => hT9.out q e))
            have hx11 : Hid (Rx (w10.setCell ⟨k, 4, none⟩ (.slice av2 (K1.gone ++ [L]).length cv2)) k g B N { K1 with P := without K1.P L, loss := K1.loss ++ [L], gone := K1.gone ++ [L] } (nx T w1 (w10.setCell ⟨k, 4, none⟩ (.slice av2 (K1.gone ++ [L]).length cv2)))) := Lib.hid ⟨vp, vl9, _, S7, h11, fun q hq => by
              have hlt := h11.lowk hq
              have hs11 := f11.size
              have key : ∀ q, rkS k vp vl9 vg S7 q → nx T w1 (w10.setCell ⟨k, 4, none⟩ (.slice av2 (K1.gone ++ [L]).length cv2)) q := fun q e => nx_mono hs11 (hT9.out q e)
              rcases hq with e | e | e | e | e
              · exact key q (Or.inl e)
              · exact key q (Or.inr (Or.inl e))
              · exact key q (Or.inr (Or.inr (Or.inl e)))
              · rcases hu11 q e with e' | e'
                · exact key q (Or.inr (Or.inr (Or.inr (Or.inl e'))))
                · exact Or.inr ⟨by have := frT9.out.size; omega, hlt⟩
              · exact key q (Or.inr (Or.inr (Or.inr (Or.inr e))))⟩
            have bR := Lib.hid (frT11.out.blk bR1.out hTr.out)
            have tR := Lib.hid (thereN (i := 0) (n := 3) bR.out (by simp))
            replace e2 := Lib.hid e2
            clear hA hN gr10 mv10 o10 fA f11 hu11 bk10 c3 e1 hT9 frT9 h9 h11 hBr
            rw [e2.out] at hx11 frT11 bR tR
            by_cases hLt : L = t
            · have hd2 : (L == t) = true := by simpa using hLt
              obtain ⟨q1, q2, q3⟩ := Rnd.gone (N := N) (x := x) hb.out hl.out hp.out hr.out h0.out (hL.out.trans hLt)
              rw [← hLt] at q1
              replace q1 := Lib.hid q1
              replace q2 := Lib.hid q2
              replace q3 := Lib.hid q3
              replace hLt := Lib.hid hLt
              go_upto_region 23 with fail
              generalize w10.setCell ⟨k, 4, none⟩ (.slice av2 (K1.gone.length + 1) cv2) = WZ at *
              go_wp2_with (first
                | (refine wpList_store_mid rfl 38 (.tmp 6) (.tmp 145) rfl rb 0 #[.int .i64 0, .int .i64 0, .string (ByteArray.mk #[])] rfl rfl tR.out size_span (one_span _ _ _) ?_; obtain ⟨w9, hw9, f9, h9⟩ := store3 WZ rb 0 (.int .i64 0) (.int .i64 0) (.string (ByteArray.mk #[])); rw [← hw9]; clear hw9; have h9 := h9 _ _ bR.out; have r0 : w9.cell? ⟨rb, 0, none⟩ = some (.int .i64 0) := h9.cell 0; have r1 : w9.cell? ⟨rb, 1, none⟩ = some (.int .i64 0) := h9.cell 1; have r2 : w9.cell? ⟨rb, 2, none⟩ = some (.string (ByteArray.mk #[])) := h9.cell 2; clear h9; replace f9 := Lib.hid f9)
                | fail)
              try simp only [Exit.inBlock, Exit.then]
              refine bodyPost_ret (by simp [results, Tryz.results14, go_sem, r0, r1, r2]; try rfl) rfl ?_
              rw [q2.out, q3.out]
              refine ⟨rfl, ?_⟩
              have hend := rx_end hx11.out frT11.out hs1.out f01.out f9.out hrb.out hTl.out
              have q1' := q1.out
              rw [hLt.out] at q1'
              rw [← q1']
              rw [hLt.out] at hend
              exact hend
            · have hd2 : (L == t) = false := by simpa using hLt
              have hrn := Lib.hid (Rnd.next (N := N) (x := x) hb.out hl.out hp.out hr.out h0.out hL.out hLt (by have := hra.out hr.out h0.out (by rw [hL.out]; exact hLt); rwa [hL.out] at this))
              replace hLt := Lib.hid hLt
              go_wp2_with fail
              go_roundg 0
              case rel => exact ⟨_, hx11.out, frT11.out, hrn, by omega⟩
              case measure => omega
    · obtain ⟨e1, e2, e3⟩ := hrn.out.ok hr
      have hw := rpwrite_yes g B N K1.P S t x wr h1.pool hb.out hr
      unfold spV at hw
      obtain ⟨M, hM⟩ : ∃ M : Int, M = ((txt K1.P t).length : Int) + 1 := ⟨_, rfl⟩
      rw [← hM] at hw e3
      replace e1 := Lib.hid e1
      replace e2 := Lib.hid e2
      replace e3 := Lib.hid e3
      replace hM := Lib.hid hM
      replace h1 := Lib.hid h1
      replace hT1 := Lib.hid hT1
      replace fr := Lib.hid fr
      replace hr := Lib.hid hr
      go_wp2_with fail
      refine hw.mono ?_
      rintro e w3 ⟨rfl, hp3, f3⟩
      have h3 := h1.out.setP hp3 f3
      have fS := (Fr.refl noB w3).alloc (.cells #[.int .i64 t, .int .i64 M, .string x] 38)
      have hs3 := f3.size
      have hsr := fr.out.size
      have fr3 : Fr T w1 (w3.alloc (.cells #[.int .i64 t, .int .i64 M, .string x] 38)) := (fr_step fr.out f3 (fun q e => hT1.out q (Or.inr (Or.inr (Or.inr (Or.inr e)))))).seqN fS
      have hx3 : Hid (Rx (w3.alloc (.cells #[.int .i64 t, .int .i64 M, .string x] 38)) k g B N { K1 with P := addT K1.P t x } (nx T w1 (w3.alloc (.cells #[.int .i64 t, .int .i64 M, .string x] 38)))) := Lib.hid ⟨vp, vl, vg, _, h3.frN fS, fun q hq => by
        have hs4 := fS.size
        have key : ∀ q, rkS k vp vl vg S q → nx T w1 (w3.alloc (.cells #[.int .i64 t, .int .i64 M, .string x] 38)) q := fun q e => nx_step hsr (by omega) (Or.inl (hT1.out q e))
        rcases hq with e | e | e | e | e
        · exact key q (Or.inl e)
        · exact key q (Or.inr (Or.inl e))
        · exact key q (Or.inr (Or.inr (Or.inl e)))
        · exact key q (Or.inr (Or.inr (Or.inr (Or.inl e))))
        · rcases e with e | e
          · exact key q (Or.inr (Or.inr (Or.inr (Or.inr e))))
          · exact Or.inr ⟨by omega, by omega⟩⟩
      have bR := Lib.hid (fr3.blk bR1.out hTr.out)
      have tR := Lib.hid (thereN (i := 0) (n := 3) bR.out (by simp))
      have bS := Blk.new w3 38 [.int .i64 t, .int .i64 M, .string x]
      replace fr3 := Lib.hid fr3
      clear hw h3 f3 hp3 fS hs3 hsr
      replace bS := Lib.hid bS
      go_wp2_with (first
        | (refine wpList_store_mid rfl 38 (.tmp 6) (.tmp 51) rfl rb 0 #[.int .i64 t, .int .i64 M, .string x] rfl rfl tR.out size_span (one_span _ _ _) ?_; obtain ⟨w9, hw9, f9, h9⟩ := store3 (w3.alloc (.cells #[.int .i64 t, .int .i64 M, .string x] 38)) rb 0 (.int .i64 t) (.int .i64 M) (.string x); rw [← hw9]; clear hw9; have h9 := h9 _ _ bR.out; have r0 : w9.cell? ⟨rb, 0, none⟩ = some (.int .i64 t) := h9.cell 0; have r1 : w9.cell? ⟨rb, 1, none⟩ = some (.int .i64 M) := h9.cell 1; have r2 : w9.cell? ⟨rb, 2, none⟩ = some (.string x) := h9.cell 2; clear h9; replace f9 := Lib.hid f9)
        | fail)
      try simp only [Exit.inBlock, Exit.then]
      refine bodyPost_ret (by simp [results, Tryz.results14, go_sem, r0, r1, r2]; try rfl) rfl ?_
      rw [e2.out, e3.out, ← e1.out]
      exact ⟨rfl, rx_end hx3.out fr3.out hs1.out f01.out f9.out hrb.out hTl.out⟩
end Go.Proofs.YtppmednmcbjafaaGreat.KR
end
