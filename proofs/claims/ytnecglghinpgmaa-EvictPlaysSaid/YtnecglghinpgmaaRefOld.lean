/-
  The document's pool, by definition: a trace's next span.
-/
import Derived.Test.YtnecglghinpgmaaRefDrop
set_option linter.unusedVariables false
set_option linter.unusedSimpArgs false
namespace Go.Proofs.Ytnecglghinpgmaa
open Go.RowKit Go Go.Maps Go.Lib

theorem cells_new3 (w : World) (a b c : Value) (t : TypeId) : ∀ j u, [a, b, c][j]? = some u → (w.alloc (.cells #[a, b, c] t)).cell? ((⟨w.heap.size, 0, none⟩ : Addr).add j) = some u := by
  intro j u hu
  rw [Addr.add_lit, Nat.zero_add]
  exact ((Blk.new w t [a, b, c]).cell j).trans hu
theorem one3 (t q : Int) (x : ByteArray) : ∀ u ∈ [Value.int .i64 t, .int .i64 q, .string x], u.oneCell' = true := by
  intro u hu
  simp only [List.mem_cons, List.not_mem_nil, or_false] at hu
  rcases hu with rfl | rfl | rfl <;> rfl
theorem spans_one (L : List Sp) : ∀ u ∈ L.flatMap spC, u.oneCell' = true := by
  intro u hu
  obtain ⟨s, _, hs⟩ := List.mem_flatMap.1 hu
  exact one3 _ _ _ u hs
/-- the row's cells, wherever nothing old has turned -/
theorem SpRow.cells {w : World} {B g n c : Nat} {p : Int × List ByteArray} (h : SpRow w B (.slice (some ⟨g, 0, none⟩) n c) p) : ∀ w', Fr noB w w' → ∀ j u, ((spansOf p.1 p.2).flatMap spC)[j]? = some u → w'.cell? ((⟨g, 0, none⟩ : Addr).add j) = some u := fun w' f j u hu => by
  have := World.ownsRow.cells h (g := g) rfl j u hu
  rw [Addr.add_lit, Nat.zero_add] at this ⊢
  exact f.cell this (fun q => q)
theorem SpRow.some_ {w : World} {B : Nat} {v : Value} {p : Int × List ByteArray} (h : SpRow w B v p) (hp : p.2 ≠ []) : ∃ g c, v = .slice (some ⟨g, 0, none⟩) p.2.length c := by
  obtain ⟨g, c, e, _⟩ := ownsRow_some h (List.length_pos_iff.2 hp)
  exact ⟨g, c, e⟩

/-- an operation under a name of its own: what it does is the same -/
def keepO (o : Oper) : Oper := o
theorem keepL (d : Option Tmp) (ty ty2 : TypeId) (n : Nat) (p : String) (af : Array Edge) (g : Option (Nat × Bool)) :
    ({ dst := d, op := .load ty (.tmp n), type := ty2, pos := p, after := af, guard := g } : Oper) = keepO { dst := d, op := .load ty (.tmp n), type := ty2, pos := p, after := af, guard := g } := rfl
theorem own_thaw {w : World} {B g n c i : Nat} {e : TypeId} {k : Nat} {xs : List Value} (h : w.ownsRow B e k (.slice (some ⟨g, 0, none⟩) n c) n xs) : w.frozen? ⟨g, i, none⟩ = false := by
  obtain ⟨cs, hc⟩ := row_typeR h (q := g) rfl
  simp [World.frozen?, hc]
set_option maxRecDepth 10000 in
set_option maxHeartbeats 4000000 in
theorem rpwrite_old (g B N : Nat) (P : TP) (vt vs : Value) (V : List Value) (S : Nat → Prop) (i : Nat) (p : Int × List ByteArray) (x : ByteArray) (w0 : World) (h : Rq w0 g B N P vt vs V) (hS : ∀ q, rqS g vt vs V q → S q) (hb : mayB p.1 x = true) (hn : ¬ noRoom N P p.1) (hip : P[i]? = some p) :
    Calls Try.prog 35 #[.pointer (some ⟨g, 0, none⟩), .int .i64 p.1, .string x] w0 fun e w' => e = .returned (.tuple #[.agg #[.int .i64 p.1, .int .i64 ((p.2.length : Int) + 1), .string x], .int .i64 0]) ∧ Rp w' g B N (addT P p.1 x) (nx S w0 w') ∧ Fr S w0 w' := by
  obtain ⟨i0, hi0, hz0, hz1, hz2⟩ : ∃ i0, Try.prog.info? 35 = some i0 ∧ i0.zero = some (.agg #[.int .i64 0, .int .i64 0, .string (ByteArray.mk #[])]) ∧ i0.size = 3 ∧ i0.bytes = 32 := by
    have hI := infoSpan
    cases hq : Try.prog.info? 35 with
    | none => rw [hq] at hI; cases hI
    | some k => rw [hq] at hI; simp at hI; exact ⟨k, rfl, hI⟩
  have hm : 1 ≤ p.1 ∧ p.1 ≤ 65535 ∧ x.size ≤ 40 := by
    unfold mayB at hb; simp only [Bool.and_eq_true, decide_eq_true_eq] at hb; exact hb
  have d1 : decide (p.1 < 1) = false := by simp; omega
  have d2 : decide ((65535 : Int) < p.1) = false := by simp; omega
  have d3 : decide ((40 : Int) < (x.size : Int)) = false := by simp; omega
  have hil := (List.getElem?_eq_some_iff.1 hip).1
  obtain ⟨v, hv⟩ : ∃ v, V[i]? = some v := ⟨_, List.getElem?_eq_getElem (by rw [h.rd.1]; exact hil)⟩
  have hpm := List.mem_of_getElem? hip
  have hsr := h.rd.2 i p v hip hv
  obtain ⟨gr, cr, rfl⟩ := hsr.some_ (h.ne p hpm)
  have h48 := h.xl hpm
  have htx := txt_at h.ris hip
  have fX := (Fr.refl noB w0).alloc (.cells #[.int .i64 0, .int .i64 0, .string (ByteArray.mk #[])] 35)
  have h1 := h.frN fX
  have hof := rof_at g B N P vt vs V i p _ _ h1 hip hv
  have hfr := rfree_any g B N P vt vs V _ h1
  have hcase : (p.2.length % 3 = 0 → (N - used P : Nat) ≠ 0) := fun e => by
    have := h.le
    have : used P ≠ N := fun q => hn ⟨by rw [htx]; exact e, q⟩
    omega
  have hset := Lib.hid (set_addT x h.ris hip)
  have hris' := Lib.hid (ris_add P p.1 x h.ris)
  have hne' : Hid (∀ q ∈ addT P p.1 x, q.2 ≠ []) := Lib.hid (fun q hq => by
    rw [← hset.out] at hq
    rcases List.mem_or_eq_of_mem_set hq with q1 | q1
    · exact h.ne q q1
    · rw [q1]; simp)
  have hle' : Hid (used (addT P p.1 x) ≤ N) := Lib.hid (by
    have h7 := used_add P p.1 x h.ris
    have h8 := h.le
    rw [htx] at h7
    by_cases q : p.2.length % 3 = 0
    · rw [if_pos q] at h7; have := hcase q; omega
    · rw [if_neg q] at h7; omega)
  have hpl' : Hid ((addT P p.1 x).length = P.length) := Lib.hid (by rw [← hset.out]; simp)
  have hkeys : Hid ((addT P p.1 x).map (·.1) = P.map (·.1)) := Lib.hid (by
    rw [← hset.out, List.map_set]
    refine List.ext_getElem? fun j => ?_
    rw [List.getElem?_set]
    by_cases e : i = j
    · subst e; simp [hil, hip]
      rw [List.getElem?_eq_getElem hil] at hip; cases hip; rfl
    · rw [if_neg e])
  obtain ⟨t, ht⟩ : ∃ t, t = p.1 := ⟨_, rfl⟩
  rw [← ht] at d1 d2 hof hset hris' hne' hle' hpl' hkeys ⊢
  obtain ⟨L, hL⟩ : ∃ L, L = p.2.length := ⟨_, rfl⟩
  rw [← hL] at h48 hof hcase hsr hv ⊢
  obtain ⟨M, hM⟩ : ∃ M : Int, M = (L : Int) + 1 := ⟨_, rfl⟩
  have hspn : Hid (spansOf t (p.2 ++ [x]) = spansOf t p.2 ++ [⟨t, M, x⟩]) := Lib.hid (by rw [spansOf_snoc, ← hL, ← hM])
  have hcl : ((spansOf p.1 p.2).flatMap spC).length = L * 3 := by
    have : ∀ l : List Sp, (l.flatMap spC).length = l.length * 3 := by
      intro l; induction l with
      | nil => rfl
      | cons a r ih => rw [List.flatMap_cons, List.length_append, ih, List.length_cons]; show 3 + _ = _; omega
    rw [this, spansOf_len, hL]
  have hrc := hsr.cells
  have honeR := spans_one (spansOf p.1 p.2)
  obtain ⟨CS, hCS⟩ : ∃ CS, CS = (spansOf p.1 p.2).flatMap spC := ⟨_, rfl⟩
  rw [← hCS] at hcl hrc honeR
  generalize (N - used P : Nat) = FRE at *
  have hgrd : Hid (∃ b : Bool, (((L : Int) % 3) == 0) = b ∧ (b = true → FRE ≠ 0)) := Lib.hid ⟨_, rfl, fun e => hcase (by simp at e; omega)⟩
  obtain ⟨b, hb3, hbF⟩ := hgrd.out
  clear hgrd hcase hm hn hb htx
  have d5 : ((FRE : Int) == 0) = false ∨ b = false := by
    cases b with
    | false => exact Or.inr rfl
    | true => have := hbF rfl; exact Or.inl (by simp; omega)
  clear hbF
  have hfi0 : AtT P t i := Or.inl ⟨i, p, hip, ht.symm, rfl⟩
  have hrt := h.rt
  have hrs := h.rs
  obtain ⟨aT, cT, rfl⟩ := ownsRow_slice hrt
  obtain ⟨aS, cS, rfl⟩ := ownsRow_slice hrs
  obtain ⟨gS, rfl, e1⟩ := own_at hrs hv
  obtain ⟨n, hnn⟩ : ∃ n, n = P.length := ⟨_, rfl⟩
  rw [← hnn] at hil hrs hrt hpl'
  replace hM := Lib.hid hM
  have hL9 : L ≤ 48 := h48
  replace hL := Lib.hid hL
  replace ht := Lib.hid ht
  replace hcl := Lib.hid hcl
  replace hrc := Lib.hid hrc
  replace honeR := Lib.hid honeR
  replace hCS := Lib.hid hCS
  replace hnn := Lib.hid hnn
  replace hrs := Lib.hid hrs
  replace hrt := Lib.hid hrt
  replace hsr := Lib.hid hsr
  replace hv := Lib.hid hv
  replace hip := Lib.hid hip
  replace hpm := Lib.hid hpm
  replace e1 := Lib.hid e1
  have h' := Lib.hid h
  replace hS := Lib.hid hS
  have bR0 := Lib.hid (Blk.new w0 35 [.int .i64 0, .int .i64 0, .string (ByteArray.mk #[])])
  have bS0 := Blk.new (w0.alloc (.cells #[.int .i64 0, .int .i64 0, .string (ByteArray.mk #[])] 35)) 35 [.int .i64 t, .int .i64 M, .string x]
  have hsz : (w0.alloc (.cells #[.int .i64 0, .int .i64 0, .string (ByteArray.mk #[])] 35)).heap.size = w0.heap.size + 1 := by simp
  rw [hsz] at bS0
  have fY := (Fr.refl noB (w0.alloc (.cells #[.int .i64 0, .int .i64 0, .string (ByteArray.mk #[])] 35))).alloc (.cells #[.int .i64 t, .int .i64 M, .string x] 35)
  have bR1 := Lib.hid (fY.blk bR0.out (fun q => q))
  have h2 := h1.frN fY
  have hfi := rfind_any g B N P _ _ V t i _ h2 hfi0
  have f0 : Hid (Fr noB w0 _) := Lib.hid (fX.seqN fY)
  replace h2 := Lib.hid h2
  replace bS0 := Lib.hid bS0
  replace hfi := Lib.hid hfi
  clear h h1 fX fY hfi0 hsz
  have gen : ∃ wq, wq = ((w0.alloc (.cells #[.int .i64 0, .int .i64 0, .string (ByteArray.mk #[])] 35)).alloc (.cells #[.int .i64 t, .int .i64 M, .string x] 35)) := ⟨_, rfl⟩
  have hMI : (L : Int) + 1 = M := hM.out.symm
  have mixed : Try.prog.follows Departure.mixedOrders = true := by kernel_rfl
  go_enter Try.func35, Try.ntmps35
  go_wp2_with fail
  refine hof.mono ?_
  rintro e w1 ⟨rfl, hw1⟩
  clear hof
  have h4 : w1.heap.size = w0.heap.size + 1 := by rw [hw1]; simp
  rw [← hw1] at hfr
  replace hw1 := Lib.hid hw1
  replace h4 := Lib.hid h4
  clear d1 d2 d3
  go_upto_region 4 with fail
  go_cut [38] (fun v wx => v = .bool false ∧ wx = w1)
  case first =>
    rcases d5 with d5 | d5
    · cases b with
      | true =>
        go_wp2_with fail
        refine hfr.mono ?_
        rintro e w2 ⟨rfl, hw2⟩
        go_wp2_with fail
        go_meet
        exact ⟨rfl, by first | exact hw2 | rfl⟩
      | false =>
        go_wp2_with fail
        go_meet
        exact ⟨rfl, rfl⟩
    · subst d5
      go_wp2_with fail
      go_meet
      exact ⟨rfl, rfl⟩
  case rest =>
    obtain ⟨rfl, hwc⟩ := hcut
    obtain rfl := hwc.symm
    clear hwc hfr hb3 d5
    have hW2 : w1.alloc (.cells #[.int .i64 t, .int .i64 M, .string x] 35) = ((w0.alloc (.cells #[.int .i64 0, .int .i64 0, .string (ByteArray.mk #[])] 35)).alloc (.cells #[.int .i64 t, .int .i64 M, .string x] 35)) := by rw [hw1.out]
    replace hW2 := Lib.hid hW2
    have hfi := hfi.out
    rw [← hW2.out] at hfi
    go_wp2_with fail
    rw [h4.out]
    refine hfi.mono ?_
    rintro e w ⟨rfl, hw⟩
    have bS := bS0.out
    have bR := bR1.out
    have f1 := f0.out
    have hq := h2.out
    rw [← hW2.out, ← hw] at bS bR f1 hq
    clear hfi gen
    replace hw := Lib.hid hw
    obtain ⟨sb, hsb⟩ : ∃ sb, sb = w0.heap.size + 1 := ⟨_, rfl⟩
    rw [← hsb] at bS ⊢
    have hbd : Hid (∀ q, q = g ∨ q = gS ∨ q = gr → q < w0.heap.size) := Lib.hid (fun q e => by
      rcases e with e | e | e
      · have := h'.out.gB; have := h'.out.Bw; omega
      · exact e ▸ (hrs.out.lt gS rfl).2
      · exact e ▸ (hsr.out.lt gr rfl).2)
    have hgS : Hid (gS ≠ g) := Lib.hid (fun e => by have := (hrs.out.lt gS rfl).1; have := h'.out.gB; omega)
    have c2 : w.cell? ⟨g, 2, none⟩ = some (.slice (some ⟨gS, 0, none⟩) n cS) := by have := hq.blk.cell 2; rw [hnn.out]; exact this
    have e3 : w.cell? ⟨gS, i, none⟩ = some (.slice (some ⟨gr, 0, none⟩) L cr) := f1.cell e1.out (fun q => q)
    have s0 : w.cell? ⟨sb, 0, none⟩ = some (.int .i64 t) := bS.cell 0
    have s1 : w.cell? ⟨sb, 1, none⟩ = some (.int .i64 M) := bS.cell 1
    have s2 : w.cell? ⟨sb, 2, none⟩ = some (.string x) := bS.cell 2
    have hrcw : Hid (∀ w', Fr noB w w' → ∀ j u, CS[j]? = some u → w'.cell? ((⟨gr, 0, none⟩ : Addr).add j) = some u) := Lib.hid (fun w' f => hrc.out w' (f1.seqN f))
    have hrsw : Hid (w.ownsRow B 48 1 (.slice (some ⟨gS, 0, none⟩) n cS) n V) := Lib.hid (ownsRow_fr hrs.out f1 (fun _ _ q => q))
    have hin0 : (0 : Int) ≤ (i : Int) := by omega
    have hin3 : (i : Int) < (n : Int) := by omega
    have hnb : n ≤ 9223372036854775807 := by have := hq.pl; have := hnn.out; omega
    replace hsb := Lib.hid hsb
    replace hq := Lib.hid hq
    replace bS := Lib.hid bS
    replace bR := Lib.hid bR
    replace f1 := Lib.hid f1
    clear f0 h2 bS0 bR0 bR1 e1 hMI
    go_wp2_with fail
    go_cut [] (fun wx => ∃ a2 k2, SpRow wx w.heap.size (.slice a2 (L + 1) k2) (t, p.2 ++ [x]) ∧ wx.ownsRow B 48 1 (.slice (some ⟨gS, 0, none⟩) n cS) n (V.set i (.slice a2 (L + 1) k2)) ∧ Fr (onlyB gS) w wx)
    case first =>
      have hO1 : (w.drew.alloc (.cells #[] 35)).ownsRow w.heap.size 35 3 (.slice (some ⟨w.heap.size, 0, none⟩) 0 0) 0 [] := own_new w.drew 35 [] 3 0 rfl (Nat.zero_le _)
      have fO1 : Fr noB w (w.drew.alloc (.cells #[] 35)) := (Fr.refl noB w).drew.alloc _
      have fO2 : Fr noB w ((w.drew.alloc (.cells #[] 35)).alloc (.cells #[.int .i64 t, .int .i64 M, .string x] 35)) := fO1.alloc _
      have hO2 : ((w.drew.alloc (.cells #[] 35)).alloc (.cells #[.int .i64 t, .int .i64 M, .string x] 35)).ownsRow w.heap.size 35 3 (.slice (some ⟨w.heap.size, 0, none⟩) 0 0) 0 [] := ownsRow_fr hO1 ((Fr.refl noB _).alloc _) (fun _ _ q => q)
      have fC0 : Fr noB w (w.drew.alloc (.cells #[.int .i64 t, .int .i64 M, .string x] 35)) := (Fr.refl noB w).drew.alloc _
      have fO3 : Fr noB w ((w.drew.alloc (.cells #[.int .i64 t, .int .i64 M, .string x] 35)).alloc (.cells #[] 35)) := fC0.alloc _
      have hzC : (w.drew.alloc (.cells #[.int .i64 t, .int .i64 M, .string x] 35)).heap.size = w.heap.size + 1 := by simp
      have hO3 : ((w.drew.alloc (.cells #[.int .i64 t, .int .i64 M, .string x] 35)).alloc (.cells #[] 35)).ownsRow w.heap.size 35 3 (.slice (some ⟨w.heap.size + 1, 0, none⟩) 0 0) 0 [] := by
        have := own_new (w.drew.alloc (.cells #[.int .i64 t, .int .i64 M, .string x] 35)) 35 [] 3 0 rfl (Nat.zero_le _)
        rw [hzC] at this
        exact ownsRow_mono this (by omega)
      have hzA : (w.drew.alloc (.cells #[] 35)).heap.size = w.heap.size + 1 := by simp
      have hC2 : Hid (∀ j u, [Value.int .i64 t, .int .i64 M, .string x][j]? = some u → ((w.drew.alloc (.cells #[] 35)).alloc (.cells #[.int .i64 t, .int .i64 M, .string x] 35)).cell? ⟨w.heap.size + 1, j, none⟩ = some u) := Lib.hid (fun j u hu => by
        have := cells_new3 (w.drew.alloc (.cells #[] 35)) (.int .i64 t) (.int .i64 M) (.string x) 35 j u hu
        rw [hzA, Addr.add_lit, Nat.zero_add] at this; exact this)
      have hC3 : Hid (∀ j u, [Value.int .i64 t, .int .i64 M, .string x][j]? = some u → ((w.drew.alloc (.cells #[.int .i64 t, .int .i64 M, .string x] 35)).alloc (.cells #[] 35)).cell? ⟨w.heap.size, j, none⟩ = some u) := Lib.hid (fun j u hu => by
        have := cells_new3 w.drew (.int .i64 t) (.int .i64 M) (.string x) 35 j u hu
        rw [Addr.add_lit, Nat.zero_add] at this
        exact ((Fr.refl noB (w.drew.alloc (.cells #[.int .i64 t, .int .i64 M, .string x] 35))).alloc (.cells #[] 35)).cell this (fun q => q))
      have hkeep : Hid (∀ (W W' : World) (row : Option Nat), W.grownBy W' row → ∀ b, True → row ≠ some b → ∀ o u, W.cell? ⟨b, o, none⟩ = some u → W'.cell? ⟨b, o, none⟩ = some u) := Lib.hid (fun W W' row hg b _ hr o u hc => by
        rw [World.cell?_of_block (w := W) (hg.block b (lt_of_cell hc) (fun e => hr e.symm))]; exact hc)
      clear hzC hzA
      have hfacts : Hid (∀ w', Fr noB w w' → w'.cell? ⟨g, 2, none⟩ = some (.slice (some ⟨gS, 0, none⟩) n cS) ∧ w'.cell? ⟨sb, 0, none⟩ = some (.int .i64 t) ∧ w'.cell? ⟨sb, 1, none⟩ = some (.int .i64 M) ∧ w'.cell? ⟨sb, 2, none⟩ = some (.string x)) := Lib.hid (fun w' f => ⟨f.cell c2 (fun q => q), f.cell s0 (fun q => q), f.cell s1 (fun q => q), f.cell s2 (fun q => q)⟩)
      have hfS : Hid (∀ W, Fr noB w W → ∀ v, (W.setCell ⟨gS, i, none⟩ v).cell? ⟨g, 2, none⟩ = some (.slice (some ⟨gS, 0, none⟩) n cS) ∧ (W.setCell ⟨gS, i, none⟩ v).cell? ⟨sb, 0, none⟩ = some (.int .i64 t) ∧ (W.setCell ⟨gS, i, none⟩ v).cell? ⟨sb, 1, none⟩ = some (.int .i64 M) ∧ (W.setCell ⟨gS, i, none⟩ v).cell? ⟨sb, 2, none⟩ = some (.string x)) := Lib.hid (fun W f v => by
        have fs : Fr (onlyB gS) w (W.setCell ⟨gS, i, none⟩ v) := (f.mono (fun _ _ z => False.elim z)).store (onlyB_self gS)
        have h1 : ¬ onlyB gS g := fun e => hgS.out e.symm
        have h2 : ¬ onlyB gS sb := fun e => by have := hbd.out gS (Or.inr (Or.inl rfl)); have := hsb.out; unfold onlyB at e; omega
        exact ⟨fs.cell c2 h1, fs.cell s0 h2, fs.cell s1 h2, fs.cell s2 h2⟩)
      have gA := (Fr.refl noB w).alloc (.cells #[] 35)
      have gC := (Fr.refl noB w).alloc (.cells #[.int .i64 t, .int .i64 M, .string x] 35)
      have gAC := gA.alloc (.cells #[.int .i64 t, .int .i64 M, .string x] 35)
      have gCA := gC.alloc (.cells #[] 35)
      have e3A := gA.cell e3 (fun q => q)
      have e3C := gC.cell e3 (fun q => q)
      have e3AC := gAC.cell e3 (fun q => q)
      have e3CA := gCA.cell e3 (fun q => q)
      replace gA := Lib.hid gA
      replace gC := Lib.hid gC
      replace gAC := Lib.hid gAC
      replace gCA := Lib.hid gCA
      have hkeepO : ∀ o : Oper, keepO o = o := fun _ => rfl
      rw [keepL (some 134) _ _ 133]
      go_region_held3 (fun w' => w'.cell? ⟨g, 2, none⟩ = some (.slice (some ⟨gS, 0, none⟩) n cS) ∧ w'.cell? ⟨sb, 0, none⟩ = some (.int .i64 t) ∧ w'.cell? ⟨sb, 1, none⟩ = some (.int .i64 M) ∧ w'.cell? ⟨sb, 2, none⟩ = some (.string x))
       (first | exact hfS.out _ f3 _ | exact hfacts.out _ f3 | exact hfacts.out _ f2C | exact hfacts.out _ f2 | exact hfacts.out _ fO2 | exact hfacts.out _ fO3 | exact hfacts.out _ fO1 | exact hfacts.out _ fC0 | exact hfacts.out _ ((Fr.refl noB _).drewN 1) | exact hfacts.out _ (Fr.refl noB _).drew | fail)
       (first
        | (have _tk := tkA; refine step_append_at rfl (.tmp 135) (.tmp 137) 48 rfl w.heap.size 35 i0 _ 3 32 Try.underlying48 hi0 hz0 hz1 hz2 rfl (by omega) v1 L CS (by simp [Act.eval, Act.put]) o1C ⟨w1.heap.size, 0, none⟩ 1 1 [.int .i64 t, .int .i64 M, .string x] (by simp [Act.eval, Act.put]) rfl hNC (one3 _ _ _) (by unfold maxLen; omega) (by omega) f2C.size ?_; intro v2 w2 o2 gr2 _mv2; obtain ⟨a2, k2, rfl⟩ := ownsRow_slice o2; have f3 := f2C.grown gr2 (fun q hq hlt => by have := (o1C.lt q hq).1; omega); have c22 := f3.cell c2 (fun q => q); have e32 := f3.cell e3 (fun q => q); have b2 := ownsRow_fr hrsw.out f3 (fun _ _ q => q); have fz2 : w2.frozen? ⟨gS, i, none⟩ = false := own_thaw b2)
        | (have _tk := tkB; refine step_append_at rfl (.tmp 135) (.tmp 137) 48 rfl w.heap.size 35 i0 _ 3 32 Try.underlying48 hi0 hz0 hz1 hz2 rfl (by omega) v1 L CS (by simp [Act.eval, Act.put]) o1 ⟨w.heap.size + 1, 0, none⟩ 1 1 [.int .i64 t, .int .i64 M, .string x] (by simp [Act.eval, Act.put]) rfl hNB (one3 _ _ _) (by unfold maxLen; omega) (by omega) f2.size ?_; intro v2 w2 o2 gr2 _mv2; obtain ⟨a2, k2, rfl⟩ := ownsRow_slice o2; have f3 := f2.grown gr2 (fun q hq hlt => by have := (o1.lt q hq).1; omega); have c22 := f3.cell c2 (fun q => q); have e32 := f3.cell e3 (fun q => q); have b2 := ownsRow_fr hrsw.out f3 (fun _ _ q => q); have fz2 : w2.frozen? ⟨gS, i, none⟩ = false := own_thaw b2)
        | (have _tk := tkC; refine step_append_at rfl (.tmp 135) (.tmp 137) 48 rfl w.heap.size 35 i0 _ 3 32 Try.underlying48 hi0 hz0 hz1 hz2 rfl (by omega) v1 L CS (by simp [Act.eval, Act.put]) o1 ⟨w.heap.size, 0, none⟩ 1 1 [.int .i64 t, .int .i64 M, .string x] (by simp [Act.eval, Act.put]) rfl hNB (one3 _ _ _) (by unfold maxLen; omega) (by omega) f2.size ?_; intro v2 w2 o2 gr2 _mv2; obtain ⟨a2, k2, rfl⟩ := ownsRow_slice o2; have f3 := f2.grown gr2 (fun q hq hlt => by have := (o1.lt q hq).1; omega); have c22 := f3.cell c2 (fun q => q); have e32 := f3.cell e3 (fun q => q); have b2 := ownsRow_fr hrsw.out f3 (fun _ _ q => q); have fz2 : w2.frozen? ⟨gS, i, none⟩ = false := own_thaw b2)
        | (refine step_append_at rfl (.tmp 127) (.tmp 134) 48 rfl w.heap.size 35 i0 _ 3 32 Try.underlying48 hi0 hz0 hz1 hz2 rfl (by omega) _ 0 [] (by simp [Act.eval, Act.put]; try rfl) hO1 ⟨gr, 0, none⟩ L cr CS (by simp [Act.eval, Act.put]) hcl.out (hrcw.out _ fO1) honeR.out (by unfold maxLen; omega) (by omega) fO1.size ?_; intro v1 w1 o1 gr1 mv1; have tkA : True := trivial; rw [Nat.zero_add, List.nil_append] at o1; have f2 := fO1.grown gr1 (fun q hq hlt => by simp [Value.ownBlock] at hq; omega); have c21 := f2.cell c2 (fun q => q); have e31 := f2.cell e3 (fun q => q); have s01 := f2.cell s0 (fun q => q); have s11 := f2.cell s1 (fun q => q); have s21 := f2.cell s2 (fun q => q); have fC := (Fr.refl noB w1).alloc (.cells #[.int .i64 t, .int .i64 M, .string x] 35); have c2C := fC.cell c21 (fun q => q); have e3C := fC.cell e31 (fun q => q); have o1C := ownsRow_fr o1 fC (fun _ _ q => q); have hNC := cells_new3 w1 (.int .i64 t) (.int .i64 M) (.string x) 35; have f2C := f2.seqN fC)
        | (refine step_append_at rfl (.tmp 127) (.tmp 134) 48 rfl w.heap.size 35 i0 _ 3 32 Try.underlying48 hi0 hz0 hz1 hz2 rfl (by omega) _ 0 [] (by simp [Act.eval, Act.put]; try rfl) hO2 ⟨gr, 0, none⟩ L cr CS (by simp [Act.eval, Act.put]) hcl.out (hrcw.out _ fO2) honeR.out (by unfold maxLen; omega) (by omega) fO2.size ?_; intro v1 w1 o1 gr1 mv1; have tkB : True := trivial; rw [Nat.zero_add, List.nil_append] at o1; have f2 := fO2.grown gr1 (fun q hq hlt => by simp [Value.ownBlock] at hq; omega); have c21 := f2.cell c2 (fun q => q); have e31 := f2.cell e3 (fun q => q); have s01 := f2.cell s0 (fun q => q); have s11 := f2.cell s1 (fun q => q); have s21 := f2.cell s2 (fun q => q); have hNB : ∀ j u, [Value.int .i64 t, .int .i64 M, .string x][j]? = some u → w1.cell? ((⟨w.heap.size + 1, 0, none⟩ : Addr).add j) = some u := fun j u hu => by rw [Addr.add_lit, Nat.zero_add]; exact hkeep.out _ _ _ gr1 _ trivial (by simp [Value.ownBlock]) _ _ (hC2.out j u hu))
        | (refine step_append_at rfl (.tmp 127) (.tmp 134) 48 rfl w.heap.size 35 i0 _ 3 32 Try.underlying48 hi0 hz0 hz1 hz2 rfl (by omega) _ 0 [] (by simp [Act.eval, Act.put]; try rfl) hO3 ⟨gr, 0, none⟩ L cr CS (by simp [Act.eval, Act.put]) hcl.out (hrcw.out _ fO3) honeR.out (by unfold maxLen; omega) (by omega) fO3.size ?_; intro v1 w1 o1 gr1 mv1; have tkC : True := trivial; rw [Nat.zero_add, List.nil_append] at o1; have f2 := fO3.grown gr1 (fun q hq hlt => by simp [Value.ownBlock] at hq; omega); have c21 := f2.cell c2 (fun q => q); have e31 := f2.cell e3 (fun q => q); have s01 := f2.cell s0 (fun q => q); have s11 := f2.cell s1 (fun q => q); have s21 := f2.cell s2 (fun q => q); have hNB : ∀ j u, [Value.int .i64 t, .int .i64 M, .string x][j]? = some u → w1.cell? ((⟨w.heap.size, 0, none⟩ : Addr).add j) = some u := fun j u hu => by rw [Addr.add_lit, Nat.zero_add]; exact hkeep.out _ _ _ gr1 _ trivial (by simp [Value.ownBlock]) _ _ (hC3.out j u hu))
        | fail)
      all_goals (
        have oS3 := own_set (i := i) b2 (.slice a2 (L + 1) k2)
        have o4 : SpRow (w2.setCell ⟨gS, i, none⟩ (.slice a2 (L + 1) k2)) w.heap.size (.slice a2 (L + 1) k2) (t, p.2 ++ [x]) := by
          have hsp : (spansOf t (p.2 ++ [x])).flatMap spC = CS ++ [.int .i64 t, .int .i64 M, .string x] := by
            rw [hspn.out, List.flatMap_append, hCS.out, ht.out]; rfl
          show World.ownsRow _ _ _ _ _ (p.2 ++ [x]).length _
          rw [hsp, show (p.2 ++ [x]).length = L + 1 by rw [hL.out]; simp]
          exact ownsRow_fr o2 ((Fr.refl (onlyB gS) w2).store (g := gS) (i := i) (v := .slice a2 (L + 1) k2) (onlyB_self gS)) (fun q hq e => by have := (o2.lt q hq).1; have := hbd.out gS (Or.inr (Or.inl rfl)); have := f1.out.size; unfold onlyB at e; omega)
        have f4 : Fr (onlyB gS) w (w2.setCell ⟨gS, i, none⟩ (.slice a2 (L + 1) k2)) := (f3.mono (fun _ _ z => False.elim z)).store (g := gS) (i := i) (v := .slice a2 (L + 1) k2) (onlyB_self gS)
        go_wp2_with fail
        go_meet
        exact ⟨a2, k2, o4, oS3, f4⟩)
    case rest =>
      obtain ⟨a2, k2, o4, oS3, f4⟩ := hcut
      obtain ⟨W, hW⟩ : ∃ x, x = wc := ⟨_, rfl⟩
      rw [← hW] at o4 oS3 f4 ⊢
      clear hW
      have hgw := hbd.out g (Or.inl rfl)
      have hgSw := hbd.out gS (Or.inr (Or.inl rfl))
      have hsbw : sb ≠ gS := fun e => by have := hsb.out; omega
      have s0' : W.cell? ⟨sb, 0, none⟩ = some (.int .i64 t) := f4.cell s0 (fun e => hsbw e)
      have s1' : W.cell? ⟨sb, 1, none⟩ = some (.int .i64 M) := f4.cell s1 (fun e => hsbw e)
      have s2' : W.cell? ⟨sb, 2, none⟩ = some (.string x) := f4.cell s2 (fun e => hsbw e)
      have bR4 := Lib.hid (f4.blk bR.out (fun e => by unfold onlyB at e; omega))
      have tR := Lib.hid (thereN (i := 0) (n := 3) bR4.out (by simp))
      clear c2 e3 s0 s1 s2 mixed hin0 hin3 hnb hL9
      replace hgw := Lib.hid hgw
      replace hgSw := Lib.hid hgSw
      replace hsbw := Lib.hid hsbw
      replace o4 := Lib.hid o4
      replace oS3 := Lib.hid oS3
      replace f4 := Lib.hid f4
      go_wp2_with (first
        | (refine wpList_store_mid rfl 35 (.tmp 6) (.tmp 140) rfl w0.heap.size 0 #[.int .i64 t, .int .i64 M, .string x] rfl rfl tR.out size_span (one_span _ _ _) ?_; obtain ⟨w9, hw9, f9, h9⟩ := store3 W w0.heap.size 0 (.int .i64 t) (.int .i64 M) (.string x); rw [← hw9]; clear hw9; have h9 := h9 _ _ bR4.out; have r0 : w9.cell? ⟨w0.heap.size, 0, none⟩ = some (.int .i64 t) := h9.cell 0; have r1 : w9.cell? ⟨w0.heap.size, 1, none⟩ = some (.int .i64 M) := h9.cell 1; have r2 : w9.cell? ⟨w0.heap.size, 2, none⟩ = some (.string x) := h9.cell 2; clear h9; replace f9 := Lib.hid f9)
        | fail)
      try simp only [Exit.inBlock, Exit.then]
      refine bodyPost_ret (by simp [results, Try.results35, go_sem, r0, r1, r2]; try rfl) rfl ?_
      rw [← hM.out]
      have q := hq.out
      have hgw := hgw.out
      have hgSw := hgSw.out
      have F4 := f4.out
      have F9 := f9.out
      have hSg : ∀ q, rqS g (.slice aT P.length cT) (.slice (some ⟨gS, 0, none⟩) P.length cS) V q → S q := hS.out
      have FS : Fr S w0 w9 := ((f1.out.trans F4 (fun _ _ z => False.elim z) (fun b _ e => by unfold onlyB at e; exact hSg b (Or.inr (Or.inr (Or.inl (by rw [e]; rfl)))))).trans F9 (fun _ _ z => z) (fun b hb e => by unfold onlyB at e; omega))
      have hw0W : w0.heap.size ≤ w.heap.size := f1.out.size
      have hrow9 : ∀ {v : Value} {B' : Nat} {e : TypeId} {k n : Nat} {xs : List Value}, W.ownsRow B' e k v n xs → (∀ b, v.ownBlock = some b → b ≠ w0.heap.size) → w9.ownsRow B' e k v n xs := fun hv hb => ownsRow_fr hv F9 (fun b hq e => hb b hq e)
      have hVg : ∀ v ∈ V, ∀ b, v.ownBlock = some b → b ≠ gS := fun v hv b hb e => by
        subst e
        obtain ⟨j, hj, rfl⟩ := List.getElem_of_mem hv
        have h2 := q.rd.1
        exact rows_apart (q.rd.2 j _ _ (List.getElem?_eq_getElem (show j < P.length by omega)) (List.getElem?_eq_getElem hj)) q.rs (by decide) b hb rfl
      have hVl : ∀ v ∈ V, ∀ b, v.ownBlock = some b → b < w0.heap.size := fun v hv b hb => h'.out.low (Or.inr (Or.inr (Or.inr ⟨v, hv, hb⟩)))
      have hTl : ∀ b, (Value.slice aT P.length cT).ownBlock = some b → b < w0.heap.size := fun b hb => h'.out.low (Or.inr (Or.inl hb))
      have hTS : ∀ b, (Value.slice aT P.length cT).ownBlock = some b → b ≠ gS := fun b hb e => by
        subst e
        exact rows_apart q.rt q.rs (by decide) b hb rfl
      have hnl : (addT P t x).length = n := by rw [hpl'.out]
      have key : Rq w9 g B N (addT P t x) (.slice aT P.length cT) (.slice (some ⟨gS, 0, none⟩) P.length cS) (V.set i (.slice a2 (L + 1) k2)) := by
        refine ⟨F9.blk (F4.blk q.blk (fun e => hgS.out (by unfold onlyB at e; exact e.symm))) (fun e => by unfold onlyB at e; omega), ?_, ?_, ?_, q.gB, Nat.le_trans q.Bw (Nat.le_trans F4.size F9.size), hris'.out, hne'.out, hle'.out, q.n16⟩
        · rw [hkeys.out, hnl, hnn.out]
          exact hrow9 (ownsRow_fr q.rt F4 (fun b hb e => hTS b hb e)) (fun b hb e => by have := hTl b hb; omega)
        · rw [hnl, ← hnn.out]
          exact hrow9 oS3.out (fun b hb e => by cases hb; have e' : gS = w0.heap.size := e; omega)
        · rw [← hset.out]
          refine Rows2.set ((q.rd.fr F4 (fun v hv b hb e => hVg v hv b hb e)).fr F9 (fun v hv b hb e => by have := hVl v hv b hb; unfold onlyB at e; omega)) i ?_
          have o5 : World.ownsRow w9 w.heap.size 35 3 (.slice a2 (L + 1) k2) _ _ := hrow9 o4.out (fun b hb e => by have := (World.ownsRow.lt o4.out b hb).1; have := hsb.out; have := bS.out.lt; omega)
          exact ownsRow_mono o5 q.Bw
      refine ⟨rfl, ⟨_, _, _, key, fun b hb => ?_⟩, FS⟩
      have hlt := key.low hb
      rcases hb with e | e | e | ⟨v, hv, e⟩
      · exact Or.inl (hSg b (Or.inl e))
      · exact Or.inl (hSg b (Or.inr (Or.inl e)))
      · exact Or.inl (hSg b (Or.inr (Or.inr (Or.inl e))))
      · rcases List.mem_or_eq_of_mem_set hv with e1 | e1
        · exact Or.inl (hSg b (Or.inr (Or.inr (Or.inr ⟨v, e1, e⟩))))
        · subst e1
          exact Or.inr ⟨Nat.le_trans hw0W (World.ownsRow.lt o4.out b e).1, hlt⟩
end Go.Proofs.Ytnecglghinpgmaa
