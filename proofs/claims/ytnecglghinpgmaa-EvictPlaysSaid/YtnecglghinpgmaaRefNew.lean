/-
  The document's pool, by definition: a new trace's first span.
-/
import Derived.Test.YtnecglghinpgmaaRefW
import Derived.Deep.Cut
import Derived.Deep.DeepCutAuto
set_option linter.unusedVariables false
set_option linter.unusedSimpArgs false
namespace Go.Proofs.Ytnecglghinpgmaa
open Go.RowKit Go Go.Maps Go.Lib

theorem infoSlSp : (Try.prog.info? 48).map (fun i => (i.zero, i.size, i.bytes)) = some (some (.slice none 0 0), 1, 24) := by kernel_rfl
theorem Rows2.other {w w' : World} {B B' k n : Nat} {e : TypeId} {F : TP} {V : List Value} {u : Value} {xs : List Value} (h : Rows2 w B F V) (hu : w.ownsRow B' e k u n xs) (he : 35 ≠ e) (hg : w.grownBy w' u.ownBlock) : Rows2 w' B F V :=
  ⟨h.1, fun i p v hp hv => ownsRow_other (h.2 i p v hp hv) hg (rows_apart (h.2 i p v hp hv) hu he)⟩
theorem growT2 {w wr w1 : World} {B D n x : Nat} {tv av : Value} {xs V V2 : List Value} {F : TP} {o : Obj} (hD : Hid (w.heap.size = D)) (fr : Fr noB w wr) (hA : (wr.alloc o).ownsRow D 3 1 tv n xs) (oA : wr.ownsRow D 48 1 av x V) (rd : Rows2 wr B F V2) (gr : (wr.alloc o).grownBy w1 tv.ownBlock) :
    w1.ownsRow D 48 1 av x V ∧ Rows2 w1 B F V2 ∧ Fr noB w w1 := by
  have fX := (Fr.refl noB wr).alloc o
  have oAX := ownsRow_fr oA fX (fun _ _ q => q)
  exact ⟨ownsRow_other oAX gr (rows_apart oAX hA (by decide)), (rd.frN fX).other hA (by decide) gr, (fr.alloc _).grown gr (fun q hq hlt => by have := (hA.lt q hq).1; have := hD.out; omega)⟩
theorem growA2 {w wr wX w1 : World} {B D n x : Nat} {tv av : Value} {xs V V2 : List Value} {F : TP} (hD : Hid (w.heap.size = D)) (fr : Fr noB w wr) (fX : Fr noB wr wX) (hA : wX.ownsRow D 48 1 av n V) (oT : wr.ownsRow D 3 1 tv x xs) (rd : Rows2 wr B F V2) (gr : wX.grownBy w1 av.ownBlock) :
    w1.ownsRow D 3 1 tv x xs ∧ Rows2 w1 B F V2 ∧ Fr noB w w1 := by
  have oTX := ownsRow_fr oT fX (fun _ _ q => q)
  exact ⟨ownsRow_other oTX gr (rows_apart oTX hA (by decide)), (rd.frN fX).other hA (by decide) gr, (fr.seqN fX).grown gr (fun q hq hlt => by have := (hA.lt q hq).1; have := hD.out; omega)⟩
theorem SpRow.other {w w' : World} {B B' k n : Nat} {e : TypeId} {v u : Value} {p : Int × List ByteArray} {xs : List Value} (h : SpRow w B v p) (hu : w.ownsRow B' e k u n xs) (he : 35 ≠ e) (hg : w.grownBy w' u.ownBlock) : SpRow w' B v p := ownsRow_other h hg (rows_apart h hu he)
theorem snoc_row {w : World} {D : Nat} {tv av : Value} {F : TP} {V : List Value} {m : Int × List ByteArray} {u : Value} (h1 : w.ownsRow D 3 1 tv (F.length + 1) (rowV (F.map (·.1)) ++ [.int .i64 m.1])) (h2 : w.ownsRow D 48 1 av (F.length + 1) (V ++ [u])) :
    w.ownsRow D 3 1 tv (F ++ [m]).length (rowV ((F ++ [m]).map (·.1))) ∧ w.ownsRow D 48 1 av (F ++ [m]).length (V ++ [u]) := by
  have e1 : (F ++ [m]).length = F.length + 1 := by simp
  have e2 : rowV ((F ++ [m]).map (·.1)) = rowV (F.map (·.1)) ++ [.int .i64 m.1] := by simp [rowV]
  rw [e1, e2]; exact ⟨h1, h2⟩
/-- a row of one span, newly made -/
theorem SpRow.one {w : World} {B : Nat} (t : Int) (x : ByteArray) (hB : B ≤ w.heap.size) : SpRow (w.alloc (.cells #[.int .i64 t, .int .i64 1, .string x] 35)) B (.slice (some ⟨w.heap.size, 0, none⟩) 1 1) (t, [x]) := by
  have := own_new w 35 [.int .i64 t, .int .i64 1, .string x] 3 1 rfl (by unfold maxLen; omega)
  exact ownsRow_mono this hB
theorem one_slice (a : Option Addr) (n c : Nat) : ∀ z ∈ [Value.slice a n c], z.oneCell' = true := by intro z hz; simp at hz; subst hz; rfl
/-- the new state's rows lie where the old ones lay, or in new blocks -/
def VFrom (D : Nat) (VA V : List Value) : Prop := ∀ z ∈ V, z ∈ VA ∨ ∀ q, z.ownBlock = some q → D ≤ q
theorem VFrom.nil (D : Nat) (VA : List Value) : VFrom D VA [] := fun z hz => by cases hz
theorem VFrom.old {D : Nat} {VA V : List Value} {u : Value} (h : VFrom D VA V) (hu : u ∈ VA) : VFrom D VA (V ++ [u]) := fun z hz => by
  rcases List.mem_append.1 hz with q | q
  · exact h z q
  · rw [List.mem_singleton.1 q]; exact Or.inl hu
theorem VFrom.new {D g n c : Nat} {VA V : List Value} (h : VFrom D VA V) (hg : D ≤ g) : VFrom D VA (V ++ [.slice (some ⟨g, 0, none⟩) n c]) := fun z hz => by
  rcases List.mem_append.1 hz with q | q
  · exact h z q
  · rw [List.mem_singleton.1 q]; exact Or.inr (fun b hb => by cases hb; exact hg)
/-- what is put at the end -/
theorem rq_fin {g D B N : Nat} {P P' : TP} {vt vs vt' vs' : Value} {VA V : List Value} {S : Nat → Prop} {w0 wr wz : World} {rb : Nat} (h : Rq w0 g B N P vt vs VA) (hS : ∀ q, rqS g vt vs VA q → S q)
    (hrb : w0.heap.size ≤ rb) (hD : w0.heap.size ≤ D) (fr : Fr noB w0 wr) (oT : wr.ownsRow D 3 1 vt' P'.length (rowV (P'.map (·.1)))) (oA : wr.ownsRow D 48 1 vs' P'.length V) (rd : Rows2 wr B P' V) (hV : VFrom w0.heap.size VA V)
    (hvt : rb ≠ g) (hrbt : ∀ q, (vt'.ownBlock = some q ∨ vs'.ownBlock = some q ∨ ∃ v ∈ V, v.ownBlock = some q) → q ≠ rb)
    (hr : risT P') (hne : ∀ p ∈ P', p.2 ≠ []) (hle : used P' ≤ N)
    (fz : Fr (onlyB rb) ((wr.setCell ⟨g, 1, none⟩ vt').setCell ⟨g, 2, none⟩ vs') wz) : Rp wz g B N P' (nx S w0 wz) ∧ Fr S w0 wz := by
  have hgw : g < w0.heap.size := by have := h.gB; have := h.Bw; omega
  have b0 := fr.blk h.blk (fun q => q)
  have b2 := (b0.set 1 vt').set 2 vs'
  have g1 : Fr (onlyB g) wr (wr.setCell ⟨g, 1, none⟩ vt') := (Fr.refl _ wr).store rfl
  have g2 : Fr (onlyB g) (wr.setCell ⟨g, 1, none⟩ vt') ((wr.setCell ⟨g, 1, none⟩ vt').setCell ⟨g, 2, none⟩ vs') := (Fr.refl _ _).store rfl
  have g3 := g1.seqB g2 (fun _ => rfl)
  have b3 := fz.blk b2 (fun q => hvt q.symm)
  have hVg : ∀ v ∈ V, ∀ q, v.ownBlock = some q → q ≠ g := fun v hv q hq e => by
    subst e
    obtain ⟨i, hi, rfl⟩ := List.getElem_of_mem hv
    have h2 := rd.1
    obtain ⟨cs, hc⟩ := row_typeR (rd.2 i _ _ (List.getElem?_eq_getElem (show i < P'.length by omega)) (List.getElem?_eq_getElem hi)) hq
    have hb0 := b0
    unfold Blk at hb0
    rw [hc] at hb0
    simp at hb0
  have o1 := ownsRow_fr (ownsRow_fr oT g3 (fun q hq e => by have := (oT.lt q hq).1; unfold onlyB at e; omega)) fz (fun q hq e => hrbt q (Or.inl hq) e)
  have o2 := ownsRow_fr (ownsRow_fr oA g3 (fun q hq e => by have := (oA.lt q hq).1; unfold onlyB at e; omega)) fz (fun q hq e => hrbt q (Or.inr (Or.inl hq)) e)
  have r3 := (rd.fr g3 (fun v hv q hq e => hVg v hv q hq e)).fr fz (fun v hv q hq e => hrbt q (Or.inr (Or.inr ⟨v, hv, hq⟩)) e)
  have hs : w0.heap.size ≤ wz.heap.size := Nat.le_trans fr.size (Nat.le_trans g3.size fz.size)
  have key : Rq wz g B N P' vt' vs' V := ⟨b3, ownsRow_mono o1 (by have := h.Bw; omega), ownsRow_mono o2 (by have := h.Bw; omega), r3, h.gB, by have := h.Bw; omega, hr, hne, hle, h.n16⟩
  have F1 : Fr S w0 ((wr.setCell ⟨g, 1, none⟩ vt').setCell ⟨g, 2, none⟩ vs') := fr.trans g3 (fun _ _ q => False.elim q) (fun q _ e => hS q (Or.inl e))
  refine ⟨⟨vt', vs', V, key, fun q hq => ?_⟩, F1.trans fz (fun _ _ q => q) (fun q hq e => by unfold onlyB at e; omega)⟩
  have hlt := key.low hq
  rcases hq with e | e | e | ⟨v, hv, e⟩
  · exact Or.inl (hS q (Or.inl e))
  · have := (oT.lt q e).1; exact Or.inr ⟨by omega, hlt⟩
  · have := (oA.lt q e).1; exact Or.inr ⟨by omega, hlt⟩
  · rcases hV v hv with q1 | q1
    · exact Or.inl (hS q (Or.inr (Or.inr (Or.inr ⟨v, q1, e⟩))))
    · exact Or.inr ⟨q1 q e, hlt⟩

set_option maxHeartbeats 4000000 in
set_option maxRecDepth 10000 in
theorem rpwrite_new (g B N : Nat) (P : TP) (vt vs : Value) (VA : List Value) (S : Nat → Prop) (t : Int) (x : ByteArray) (w0 : World) (h : Rq w0 g B N P vt vs VA) (hS : ∀ q, rqS g vt vs VA q → S q) (hb : mayB t x = true) (hn : ¬ noRoom N P t) (hno : ∀ p ∈ P, p.1 ≠ t) :
    Calls Try.prog 35 #[.pointer (some ⟨g, 0, none⟩), .int .i64 t, .string x] w0 fun e w' => e = .returned (.tuple #[.agg #[.int .i64 t, .int .i64 1, .string x], .int .i64 0]) ∧ Rp w' g B N (addT P t x) (nx S w0 w') ∧ Fr S w0 w' := by
  obtain ⟨i0, hi0, hz0, hz1, hz2⟩ : ∃ i0, Try.prog.info? 3 = some i0 ∧ i0.zero = some (.int .i64 0) ∧ i0.size = 1 ∧ i0.bytes = 8 := by
    have hI := infoIntR
    cases hq : Try.prog.info? 3 with
    | none => rw [hq] at hI; cases hI
    | some k => rw [hq] at hI; simp at hI; exact ⟨k, rfl, hI⟩
  obtain ⟨j0, hj0, hy0, hy1, hy2⟩ : ∃ i0, Try.prog.info? 48 = some i0 ∧ i0.zero = some (.slice none 0 0) ∧ i0.size = 1 ∧ i0.bytes = 24 := by
    have hI := infoSlSp
    cases hq : Try.prog.info? 48 with
    | none => rw [hq] at hI; cases hI
    | some k => rw [hq] at hI; simp at hI; exact ⟨k, rfl, hI⟩
  have hm : 1 ≤ t ∧ t ≤ 65535 ∧ x.size ≤ 40 := by
    unfold mayB at hb; simp only [Bool.and_eq_true, decide_eq_true_eq] at hb; exact hb
  have d1 : decide (t < 1) = false := by simp; omega
  have d2 : decide ((65535 : Int) < t) = false := by simp; omega
  have d3 : decide ((40 : Int) < (x.size : Int)) = false := by simp; omega
  have htx := txt_no hno
  have hnu : used P ≠ N := fun e => hn ⟨by rw [htx]; rfl, e⟩
  have hle := h.le
  have fX := (Fr.refl noB w0).alloc (.cells #[.int .i64 0, .int .i64 0, .string (ByteArray.mk #[])] 35)
  have h1 := h.frN fX
  have hof := rof_no g B N P vt vs VA t _ h1 hno
  have hfr := rfree_any g B N P vt vs VA _ h1
  have d40 : N - used P ≠ 0 := by omega
  have hadd := Lib.hid (used_add P t x h.ris)
  rw [htx] at hadd
  have hris' := Lib.hid (ris_add P t x h.ris)
  have hne' : Hid (∀ p ∈ addT P t x, p.2 ≠ []) := Lib.hid (fun p hp => by
    have hk := ris_add P t x h.ris
    rcases mem_add P t x p hp with q | q
    · have hl := txt_of_mem hk (show (p.1, p.2) ∈ addT P t x from hp)
      rw [q, txt_add_same P t x h.ris] at hl
      rw [← hl]; simp
    · exact h.ne p q)
  have hle' : Hid (used (addT P t x) ≤ N) := Lib.hid (by rw [hadd.out]; simp; omega)
  generalize (N - used P : Nat) = FRE at *
  have d4 : ((FRE : Int) == 0) = false := by simp; omega
  replace d40 := Lib.hid d40
  clear hnu hle htx hadd hm hn hb
  go_enter Try.func35, Try.ntmps35
  go_wp2_with fail
  refine hof.mono ?_
  rintro e w1 ⟨rfl, hw1⟩
  obtain rfl := hw1.symm
  clear hof hw1
  go_wp2_with fail
  refine hfr.mono ?_
  rintro e w1 ⟨rfl, hw1⟩
  obtain rfl := hw1.symm
  clear hfr hw1 d1 d2 d3
  have fY := (Fr.refl noB (w0.alloc (.cells #[.int .i64 0, .int .i64 0, .string (ByteArray.mk #[])] 35))).alloc (.cells #[.int .i64 t, .int .i64 1, .string x] 35)
  have h2 := h1.frN fY
  have hfi := rfind_any g B N P vt vs VA t (-1) _ h2 (Or.inr ⟨hno, rfl⟩)
  have bR0 := fY.blk (Blk.new w0 35 [.int .i64 0, .int .i64 0, .string (ByteArray.mk #[])]) (fun q => q)
  have bS0 := Blk.new (w0.alloc (.cells #[.int .i64 0, .int .i64 0, .string (ByteArray.mk #[])] 35)) 35 [.int .i64 t, .int .i64 1, .string x]
  have hsz : (w0.alloc (.cells #[.int .i64 0, .int .i64 0, .string (ByteArray.mk #[])] 35)).heap.size = w0.heap.size + 1 := by simp
  rw [hsz] at bS0
  have f0 : Fr noB w0 _ := fX.seqN fY
  clear h1 fX fY
  replace h2 := Lib.hid h2
  go_wp2_with fail
  refine hfi.mono ?_
  rintro e w ⟨rfl, hw1⟩
  rw [← hw1] at bR0 bS0 f0 h2
  clear hfi hw1 hsz d4
  obtain ⟨sb, hsb⟩ : ∃ sb, sb = w0.heap.size + 1 := ⟨_, rfl⟩
  rw [← hsb]
  rw [← hsb] at bS0
  replace hsb := Lib.hid hsb
  have hR2 := h2.out
  have hpl := hR2.pl
  obtain ⟨hbk, hrT, hrA, hrd, hgB, hBw, hris, hne, hle, h16⟩ := hR2
  obtain ⟨aT, cT, rfl⟩ := ownsRow_slice hrT
  obtain ⟨aA, cA, rfl⟩ := ownsRow_slice hrA
  have hVl : VA.length = P.length := hrd.1
  generalize hnn : P.length = n at *
  have hn9 : n ≤ 16 := hpl
  replace hnn := Lib.hid hnn
  replace hVl := Lib.hid hVl
  replace hbk := Lib.hid hbk
  replace hrT := Lib.hid hrT
  replace hrA := Lib.hid hrA
  replace hrd := Lib.hid hrd
  replace bR0 := Lib.hid bR0
  replace bS0 := Lib.hid bS0
  replace f0 := Lib.hid f0
  replace hno := Lib.hid hno
  replace hS := Lib.hid hS
  replace h := Lib.hid h
  clear hne hris hle h2 hpl
  generalize hD : w.heap.size = D at *
  have hD0 : w0.heap.size ≤ D := by rw [← hD]; exact f0.out.size
  have hBD : B ≤ D := hBw
  replace hD := Lib.hid hD
  have hD2 : w0.heap.size + 2 ≤ D := by have h7 := bS0.out.lt; have h8 := hD.out; have h9 := hsb.out; omega
  go_wp2_with fail
  go_loopw [11, 12, 13, 14] (fun tv av dn i wr => ∃ (k : Nat) (F : TP) (V : List Value) (d : Bool), k ≤ n ∧ i = .int .i64 k ∧ dn = .bool d ∧ wr.ownsRow D 3 1 tv F.length (rowV (F.map (·.1))) ∧ wr.ownsRow D 48 1 av F.length V ∧ Hid (Pt wr B P t x k d F V) ∧ Hid (VFrom D VA V) ∧ Fr noB w wr) (fun _ _ _ i _ => n - (RowKit.intOf i).toNat)
  case atStart => exact ⟨0, [], [], false, by omega, rfl, rfl, World.ownsRow_nil _ _ _ _, World.ownsRow_nil _ _ _ _, Lib.hid ⟨by simp [anyT], by simp [outT, anyT], Rows2.nil _ _⟩, Lib.hid (VFrom.nil _ _), Fr.refl _ _⟩
  case round =>
    obtain ⟨k, F, V, d, hk, rfl, rfl, oT, oA, hK, hsub, fr⟩ := hrel
    have c1 : wr.cell? ⟨g, 1, none⟩ = some (.slice aT n cT) := (fr.blk hbk.out (fun q => q)).cell 1
    have c2 : wr.cell? ⟨g, 2, none⟩ = some (.slice aA n cA) := (fr.blk hbk.out (fun q => q)).cell 2
    have hFl := hK.out.len_le
    by_cases hlt : k < n
    · obtain ⟨m, hm⟩ : ∃ m, P[k]? = some m := ⟨_, List.getElem?_eq_getElem (by rw [hnn.out]; exact hlt)⟩
      obtain ⟨u, hu⟩ : ∃ u, VA[k]? = some u := ⟨_, List.getElem?_eq_getElem (by rw [hVl.out]; exact hlt)⟩
      obtain ⟨gT, rfl, e1⟩ := own_at hrT.out (i := k) (x := .int .i64 m.1) (by simp [rowV, hm])
      obtain ⟨gA, rfl, e2⟩ := own_at hrA.out hu
      have hru : ∀ w', Fr noB w w' → SpRow w' B u m := fun w' f => (hrd.out.2 k m u hm hu).fr f (fun _ _ q => q)
      obtain ⟨au, cu, rfl⟩ := (hrd.out.2 k m u hm hu).form
      have huV : Value.slice au m.2.length cu ∈ VA := List.mem_of_getElem? hu
      have e3 := fr.cell e1 (fun q => q)
      obtain ⟨lu, hlu⟩ : ∃ lu, lu = m.2.length := ⟨_, rfl⟩
      rw [← hlu] at hru huV e2
      replace hru := Lib.hid hru
      replace huV := Lib.hid huV
      replace e1 := Lib.hid e1
      replace e2 := Lib.hid e2
      replace hu := Lib.hid hu
      replace hlu := Lib.hid hlu
      cases d with
      | true =>
        have hs1 := Lib.hid (hsub.out.old huV.out)
        obtain ⟨y, z⟩ := m
        simp only at e3
        have c1 := c1

        have hA : (wr.alloc (.cells #[.int .i64 y] 3)).ownsRow D 3 1 u11 F.length (rowV (F.map (·.1))) := ownsRow_fr oT ((Fr.refl noB wr).alloc _) (fun _ _ q => q)
        have hN := cell_new wr (.int .i64 y) 3
        have hDW : D ≤ wr.heap.size := by rw [← hD.out]; exact fr.size
        go_wp2_with (first
          | (at_builtin; go_must (refine wpList_append_at _ rfl (.tmp 82) (.tmp 90) 44 rfl D 3 i0 _ 1 8 Try.underlying44 hi0 hz0 hz1 hz2 rfl (by omega) _ F.length _ rfl hA ⟨wr.heap.size, 0, none⟩ 1 1 [.int .i64 y] rfl rfl hN (one_int _ _) ?_ ?_ ?_ ?_))
          | fail)
        · unfold maxLen; omega
        · omega
        · have := ((Fr.refl noB wr).alloc (.cells #[.int .i64 y] 3)).size; omega
        intro tvwa1 wa1 oTwa1 grwa1 _
        obtain ⟨oAwa1, rdwa1, frwa1⟩ := growT2 hD fr hA oA hK.out.rd grwa1
        clear hA hN grwa1 hDW

        have dw1 : wa1.cell? ⟨g, 2, none⟩ = some (.slice (some ⟨gA, 0, none⟩) n cA) := (frwa1.blk hbk.out (fun q => q)).cell 2
        have ew1 := frwa1.cell e2.out (fun q => q)

        have hA : (wa1.alloc (.cells #[.slice au lu cu] 48)).ownsRow D 48 1 u12 F.length V := ownsRow_fr oAwa1 ((Fr.refl noB wa1).alloc _) (fun _ _ q => q)
        have hN := cell_new wa1 (.slice au lu cu) 48
        have hDW : D ≤ wa1.heap.size := by rw [← hD.out]; exact frwa1.size
        have hone := one_slice au lu cu
        go_wp2_with (first
          | (at_builtin; go_must (refine wpList_append_at _ rfl (.tmp 92) (.tmp 100) 53 rfl D 48 j0 _ 1 24 Try.underlying53 hj0 hy0 hy1 hy2 rfl (by omega) _ F.length _ rfl hA ⟨wa1.heap.size, 0, none⟩ 1 1 [.slice au lu cu] rfl rfl hN hone ?_ ?_ ?_ ?_))
          | fail)
        · unfold maxLen; omega
        · omega
        · have := ((Fr.refl noB wa1).alloc (.cells #[.slice au lu cu] 48)).size; omega
        intro avwa2 wa2 oAwa2 grwa2 _
        obtain ⟨oTwa2, rdwa2, frwa2⟩ := growA2 hD frwa1 ((Fr.refl noB wa1).alloc _) hA oTwa1 rdwa1 grwa2
        clear hA hN grwa2 hDW hone
        clear dw1 ew1 oTwa1 oAwa1 rdwa1

        have hK1 : Hid (Pt wa2 B P t x (k + 1) true (F ++ [(y, z)]) (V ++ [.slice au lu cu])) := Lib.hid ((Pt.mk hK.out.any hK.out.eq rdwa2).yes hno.out hm (hru.out _ frwa2))
        obtain ⟨pT, pA⟩ := snoc_row (m := (y, z)) oTwa2 oAwa2
        clear oTwa2 oAwa2 rdwa2 c1 c2 e3 hm

        go_wp2_with fail
        go_roundw
        case rel => exact ⟨k + 1, F ++ [(y, z)], V ++ [.slice au lu cu], true, by omega, by go_num, rfl, pT, pA, hK1, hs1, frwa2⟩
        case measure => simp [RowKit.intOf]; omega
      | false =>
        by_cases hxy : t < m.1
        · have hb1 : decide (t < m.1) = true := by simpa using hxy
          obtain ⟨y, z⟩ := m
          simp only at e3 hb1 hxy
          replace hxy := Lib.hid hxy

          have hA : (wr.alloc (.cells #[.int .i64 t] 3)).ownsRow D 3 1 u11 F.length (rowV (F.map (·.1))) := ownsRow_fr oT ((Fr.refl noB wr).alloc _) (fun _ _ q => q)
          have hN := cell_new wr (.int .i64 t) 3
          have hDW : D ≤ wr.heap.size := by rw [← hD.out]; exact fr.size
          go_wp2_with (first
            | (at_builtin; go_must (refine wpList_append_at _ rfl (.tmp 73) (.tmp 75) 44 rfl D 3 i0 _ 1 8 Try.underlying44 hi0 hz0 hz1 hz2 rfl (by omega) _ F.length _ rfl hA ⟨wr.heap.size, 0, none⟩ 1 1 [.int .i64 t] rfl rfl hN (one_int _ _) ?_ ?_ ?_ ?_))
            | fail)
          · unfold maxLen; omega
          · omega
          · have := ((Fr.refl noB wr).alloc (.cells #[.int .i64 t] 3)).size; omega
          intro tvwa1 wa1 oTwa1 grwa1 _
          obtain ⟨oAwa1, rdwa1, frwa1⟩ := growT2 hD fr hA oA hK.out.rd grwa1
          clear hA hN grwa1 hDW

          clear c1 c2 e3

          have s0 : wa1.cell? ⟨sb, 0, none⟩ = some (.int .i64 t) := (frwa1.blk bS0.out (fun q => q)).cell 0
          have s1 : wa1.cell? ⟨sb, 1, none⟩ = some (.int .i64 1) := (frwa1.blk bS0.out (fun q => q)).cell 1
          have s2 : wa1.cell? ⟨sb, 2, none⟩ = some (.string x) := (frwa1.blk bS0.out (fun q => q)).cell 2
          have hDW : D ≤ wa1.heap.size := by rw [← hD.out]; exact frwa1.size
          have hl0 : SpRow (wa1.alloc (.cells #[.int .i64 t, .int .i64 1, .string x] 35)) B (.slice (some ⟨wa1.heap.size, 0, none⟩) 1 1) (t, [x]) := SpRow.one t x (by omega)
          have fL := ((Fr.refl noB wa1).alloc (.cells #[.int .i64 t, .int .i64 1, .string x] 35)).alloc (.cells #[.slice (some ⟨wa1.heap.size, 0, none⟩) 1 1] 48)
          have hl1 : SpRow ((wa1.alloc (.cells #[.int .i64 t, .int .i64 1, .string x] 35)).alloc (.cells #[.slice (some ⟨wa1.heap.size, 0, none⟩) 1 1] 48)) B (.slice (some ⟨wa1.heap.size, 0, none⟩) 1 1) (t, [x]) := hl0.fr ((Fr.refl noB (wa1.alloc (.cells #[.int .i64 t, .int .i64 1, .string x] 35))).alloc _) (fun _ _ q => q)
          have hA : ((wa1.alloc (.cells #[.int .i64 t, .int .i64 1, .string x] 35)).alloc (.cells #[.slice (some ⟨wa1.heap.size, 0, none⟩) 1 1] 48)).ownsRow D 48 1 u12 F.length V := ownsRow_fr oAwa1 fL (fun _ _ q => q)
          have hN := cell_new (wa1.alloc (.cells #[.int .i64 t, .int .i64 1, .string x] 35)) (.slice (some ⟨wa1.heap.size, 0, none⟩) 1 1) 48
          have hzW : (wa1.alloc (.cells #[.int .i64 t, .int .i64 1, .string x] 35)).heap.size = wa1.heap.size + 1 := by simp
          rw [hzW] at hN
          have hone := one_slice (some ⟨wa1.heap.size, 0, none⟩) 1 1
          replace hl1 := Lib.hid hl1
          replace fL := Lib.hid fL
          clear hl0 hzW
          go_wp2_with (first
            | (at_builtin; go_must (refine wpList_append_at _ rfl (.tmp 77) (.tmp 80) 53 rfl D 48 j0 _ 1 24 Try.underlying53 hj0 hy0 hy1 hy2 rfl (by omega) _ F.length _ rfl hA ⟨wa1.heap.size + 1, 0, none⟩ 1 1 [.slice (some ⟨wa1.heap.size, 0, none⟩) 1 1] rfl rfl hN hone ?_ ?_ ?_ ?_))
            | fail)
          · unfold maxLen; omega
          · omega
          · have := fL.out.size; omega
          intro avwa2 wa2 oAwa2 grwa2 _
          obtain ⟨oTwa2, rdwa2, frwa2⟩ := growA2 hD frwa1 fL.out hA oTwa1 rdwa1 grwa2
          have hlwa2 : SpRow wa2 B (.slice (some ⟨wa1.heap.size, 0, none⟩) 1 1) (t, [x]) := hl1.out.other hA (by decide) grwa2
          clear hA hN grwa2 hone hl1 fL s0 s1 s2

          obtain ⟨pT, pA⟩ := snoc_row (m := (t, [x])) oTwa2 oAwa2
          have rd2 := rdwa2.snoc hlwa2
          have hs0 : Hid (VFrom D VA (V ++ [.slice (some ⟨wa1.heap.size, 0, none⟩) 1 1])) := Lib.hid (hsub.out.new hDW)
          have hs1 := Lib.hid (hs0.out.old huV.out)
          clear oTwa2 oAwa2 rdwa2 oTwa1 oAwa1 rdwa1 hDW
          have hP1 : (F ++ [(t, [x])]).length ≤ k + 2 := by simp; omega
          have c1 : wa2.cell? ⟨g, 1, none⟩ = some (.slice (some ⟨gT, 0, none⟩) n cT) := (frwa2.blk hbk.out (fun q => q)).cell 1
          have e3 := frwa2.cell e1.out (fun q => q)
          replace hlwa2 := Lib.hid hlwa2
          generalize hG : F ++ [(t, [x])] = G at *
          generalize hO : V ++ [Value.slice (some ⟨wa1.heap.size, 0, none⟩) 1 1] = O at *
          replace hG := Lib.hid hG
          replace hO := Lib.hid hO

          have hA : (wa2.alloc (.cells #[.int .i64 y] 3)).ownsRow D 3 1 tvwa1 G.length (rowV (G.map (·.1))) := ownsRow_fr pT ((Fr.refl noB wa2).alloc _) (fun _ _ q => q)
          have hN := cell_new wa2 (.int .i64 y) 3
          have hDW : D ≤ wa2.heap.size := by rw [← hD.out]; exact frwa2.size
          go_wp2_with (first
            | (at_builtin; go_must (refine wpList_append_at _ rfl (.tmp 82) (.tmp 90) 44 rfl D 3 i0 _ 1 8 Try.underlying44 hi0 hz0 hz1 hz2 rfl (by omega) _ G.length _ rfl hA ⟨wa2.heap.size, 0, none⟩ 1 1 [.int .i64 y] rfl rfl hN (one_int _ _) ?_ ?_ ?_ ?_))
            | fail)
          · unfold maxLen; omega
          · omega
          · have := ((Fr.refl noB wa2).alloc (.cells #[.int .i64 y] 3)).size; omega
          intro tvwb1 wb1 oTwb1 grwb1 _
          obtain ⟨oAwb1, rdwb1, frwb1⟩ := growT2 hD frwa2 hA pA rd2 grwb1
          clear hA hN grwb1 hDW

          have dw1 : wb1.cell? ⟨g, 2, none⟩ = some (.slice (some ⟨gA, 0, none⟩) n cA) := (frwb1.blk hbk.out (fun q => q)).cell 2
          have ew1 := frwb1.cell e2.out (fun q => q)

          have hA : (wb1.alloc (.cells #[.slice au lu cu] 48)).ownsRow D 48 1 avwa2 G.length O := ownsRow_fr oAwb1 ((Fr.refl noB wb1).alloc _) (fun _ _ q => q)
          have hN := cell_new wb1 (.slice au lu cu) 48
          have hDW : D ≤ wb1.heap.size := by rw [← hD.out]; exact frwb1.size
          have hone := one_slice au lu cu
          go_wp2_with (first
            | (at_builtin; go_must (refine wpList_append_at _ rfl (.tmp 92) (.tmp 100) 53 rfl D 48 j0 _ 1 24 Try.underlying53 hj0 hy0 hy1 hy2 rfl (by omega) _ G.length _ rfl hA ⟨wb1.heap.size, 0, none⟩ 1 1 [.slice au lu cu] rfl rfl hN hone ?_ ?_ ?_ ?_))
            | fail)
          · unfold maxLen; omega
          · omega
          · have := ((Fr.refl noB wb1).alloc (.cells #[.slice au lu cu] 48)).size; omega
          intro avwb2 wb2 oAwb2 grwb2 _
          obtain ⟨oTwb2, rdwb2, frwb2⟩ := growA2 hD frwb1 ((Fr.refl noB wb1).alloc _) hA oTwb1 rdwb1 grwb2
          clear hA hN grwb2 hDW hone
          clear dw1 ew1 oTwb1 oAwb1 rdwb1

          have hK1 : Hid (Pt wb2 B P t x (k + 1) true (G ++ [(y, z)]) (O ++ [.slice au lu cu])) := by
            have h9 := rdwb2
            have hq := hru.out _ frwb2
            refine Lib.hid ?_
            have h7 : anyT (P.take k ++ [(y, z)]) t = true := by rw [anyT_snoc]; simp [hxy.out]
            refine ⟨by rw [take_next hm, h7], ?_, h9.snoc hq⟩
            rw [take_next hm, ← hG.out]
            have ha := hK.out.any
            have he := hK.out.eq
            unfold outT at he ⊢
            rw [← ha] at he
            simp only [Bool.false_eq_true, if_false] at he
            rw [if_pos h7, he, addT_here ha.symm (key_take hno.out k) hxy.out]
          obtain ⟨qT, qA⟩ := snoc_row (m := (y, z)) oTwb2 oAwb2
          clear oTwb2 oAwb2 rdwb2 c1 e3 hm pT pA rd2

          go_wp2_with fail
          go_roundw
          case rel => exact ⟨k + 1, G ++ [(y, z)], O ++ [.slice au lu cu], true, by omega, by go_num, rfl, qT, qA, hK1, hs1, frwb2⟩
          case measure => simp [RowKit.intOf]; omega
        · have hb1 : decide (t < m.1) = false := by simpa using hxy
          have hs1 := Lib.hid (hsub.out.old huV.out)
          obtain ⟨y, z⟩ := m
          simp only at e3 hb1 hxy
          replace hxy := Lib.hid hxy

          have hA : (wr.alloc (.cells #[.int .i64 y] 3)).ownsRow D 3 1 u11 F.length (rowV (F.map (·.1))) := ownsRow_fr oT ((Fr.refl noB wr).alloc _) (fun _ _ q => q)
          have hN := cell_new wr (.int .i64 y) 3
          have hDW : D ≤ wr.heap.size := by rw [← hD.out]; exact fr.size
          go_wp2_with (first
            | (at_builtin; go_must (refine wpList_append_at _ rfl (.tmp 82) (.tmp 90) 44 rfl D 3 i0 _ 1 8 Try.underlying44 hi0 hz0 hz1 hz2 rfl (by omega) _ F.length _ rfl hA ⟨wr.heap.size, 0, none⟩ 1 1 [.int .i64 y] rfl rfl hN (one_int _ _) ?_ ?_ ?_ ?_))
            | fail)
          · unfold maxLen; omega
          · omega
          · have := ((Fr.refl noB wr).alloc (.cells #[.int .i64 y] 3)).size; omega
          intro tvwa1 wa1 oTwa1 grwa1 _
          obtain ⟨oAwa1, rdwa1, frwa1⟩ := growT2 hD fr hA oA hK.out.rd grwa1
          clear hA hN grwa1 hDW

          have dw1 : wa1.cell? ⟨g, 2, none⟩ = some (.slice (some ⟨gA, 0, none⟩) n cA) := (frwa1.blk hbk.out (fun q => q)).cell 2
          have ew1 := frwa1.cell e2.out (fun q => q)

          have hA : (wa1.alloc (.cells #[.slice au lu cu] 48)).ownsRow D 48 1 u12 F.length V := ownsRow_fr oAwa1 ((Fr.refl noB wa1).alloc _) (fun _ _ q => q)
          have hN := cell_new wa1 (.slice au lu cu) 48
          have hDW : D ≤ wa1.heap.size := by rw [← hD.out]; exact frwa1.size
          have hone := one_slice au lu cu
          go_wp2_with (first
            | (at_builtin; go_must (refine wpList_append_at _ rfl (.tmp 92) (.tmp 100) 53 rfl D 48 j0 _ 1 24 Try.underlying53 hj0 hy0 hy1 hy2 rfl (by omega) _ F.length _ rfl hA ⟨wa1.heap.size, 0, none⟩ 1 1 [.slice au lu cu] rfl rfl hN hone ?_ ?_ ?_ ?_))
            | fail)
          · unfold maxLen; omega
          · omega
          · have := ((Fr.refl noB wa1).alloc (.cells #[.slice au lu cu] 48)).size; omega
          intro avwa2 wa2 oAwa2 grwa2 _
          obtain ⟨oTwa2, rdwa2, frwa2⟩ := growA2 hD frwa1 ((Fr.refl noB wa1).alloc _) hA oTwa1 rdwa1 grwa2
          clear hA hN grwa2 hDW hone
          clear dw1 ew1 oTwa1 oAwa1 rdwa1

          have hK1 : Hid (Pt wa2 B P t x (k + 1) false (F ++ [(y, z)]) (V ++ [.slice au lu cu])) := Lib.hid ((Pt.mk hK.out.any hK.out.eq rdwa2).no hm (by have := hxy.out; simp only; omega) (hru.out _ frwa2))
          obtain ⟨pT, pA⟩ := snoc_row (m := (y, z)) oTwa2 oAwa2
          clear oTwa2 oAwa2 rdwa2 c1 c2 e3 hm

          go_wp2_with fail
          go_roundw
          case rel => exact ⟨k + 1, F ++ [(y, z)], V ++ [.slice au lu cu], false, by omega, by go_num, rfl, pT, pA, hK1, hs1, frwa2⟩
          case measure => simp [RowKit.intOf]; omega
    · obtain rfl : k = n := by omega
      cases d with
      | true =>
        have hF : F = addT P t x := (show Pt wr B P t x P.length true F V by rw [hnn.out]; exact hK.out).done_yes
        replace hF := Lib.hid hF
        clear c1 c2

        obtain ⟨aT', cT', rfl⟩ := ownsRow_slice oT
        obtain ⟨aA', cA', rfl⟩ := ownsRow_slice oA
        have hfrz := f0.out.seqN fr
        have z0 := (fr.blk hbk.out (fun q => q)).frozen 1
        have z1 := ((fr.blk hbk.out (fun q => q)).set 1 (.slice aT' F.length cT')).frozen 2
        have c1 : wr.cell? ⟨g, 1, none⟩ = some (.slice aT k cT) := (fr.blk hbk.out (fun q => q)).cell 1
        have c2 : (wr.setCell ⟨g, 1, none⟩ (.slice aT' F.length cT')).cell? ⟨g, 2, none⟩ = some (.slice aA k cA) := ((fr.blk hbk.out (fun q => q)).set 1 (.slice aT' F.length cT')).cell 2
        have g1 : Fr (onlyB g) wr (wr.setCell ⟨g, 1, none⟩ (.slice aT' F.length cT')) := (Fr.refl _ wr).store rfl
        have g2 : Fr (onlyB g) (wr.setCell ⟨g, 1, none⟩ (.slice aT' F.length cT')) ((wr.setCell ⟨g, 1, none⟩ (.slice aT' F.length cT')).setCell ⟨g, 2, none⟩ (.slice aA' F.length cA')) := (Fr.refl _ _).store rfl
        have g3 := g1.seqB g2 (fun _ => rfl)
        have hgw : g < w0.heap.size := by have := h.out.gB; have := h.out.Bw; omega
        have bS3 := g3.blk (fr.blk bS0.out (fun q => q)) (fun q => by unfold onlyB at q; have := hsb.out; omega)
        have bR3 := g3.blk (fr.blk bR0.out (fun q => q)) (fun q => by unfold onlyB at q; omega)
        generalize hw5 : ((wr.setCell ⟨g, 1, none⟩ (.slice aT' F.length cT')).setCell ⟨g, 2, none⟩ (.slice aA' F.length cA')) = w5 at *
        replace hw5 := Lib.hid hw5
        have s0 : w5.cell? ⟨sb, 0, none⟩ = some (.int .i64 t) := bS3.cell 0
        have s1 : w5.cell? ⟨sb, 1, none⟩ = some (.int .i64 1) := bS3.cell 1
        have s2 : w5.cell? ⟨sb, 2, none⟩ = some (.string x) := bS3.cell 2
        have tR := Lib.hid (thereN (i := 0) (n := 3) bR3 (by simp))
        replace bR3 := Lib.hid bR3
        replace g3 := Lib.hid g3
        clear g1 g2 bS3
        go_upto_region 26 with fail
        rw [hw5.out]
        go_wp2_with (first
          | (refine wpList_store_mid rfl 35 (.tmp 6) (.tmp 121) rfl w0.heap.size 0 #[.int .i64 t, .int .i64 1, .string x] rfl rfl tR.out size_span (one_span _ _ _) ?_; obtain ⟨w9, hw9, f9, h9⟩ := store3 w5 w0.heap.size 0 (.int .i64 t) (.int .i64 1) (.string x); rw [← hw9]; clear hw9; have h9 := h9 _ _ bR3.out; have r0 : w9.cell? ⟨w0.heap.size, 0, none⟩ = some (.int .i64 t) := h9.cell 0; have r1 : w9.cell? ⟨w0.heap.size, 1, none⟩ = some (.int .i64 1) := h9.cell 1; have r2 : w9.cell? ⟨w0.heap.size, 2, none⟩ = some (.string x) := h9.cell 2; clear h9; replace f9 := Lib.hid f9)
          | fail)
        try simp only [Exit.inBlock, Exit.then]
        refine bodyPost_ret (by simp [results, Try.results35, go_sem, r0, r1, r2]; try rfl) rfl ?_
        have hVF := hsub.out
        have hFe := hF.out
        rw [← hFe]
        refine ⟨rfl, rq_fin (P := P) (P' := F) (V := V) (wr := wr) (rb := w0.heap.size) h.out hS.out (Nat.le_refl _) (show w0.heap.size ≤ D by omega) hfrz oT oA hK.out.rd (fun z hz => (hVF z hz).imp id (fun q b hb => by have := q b hb; omega)) (by omega) ?_ (by rw [hFe]; exact hris'.out) (by rw [hFe]; exact hne'.out) (by rw [hFe]; exact hle'.out) (by rw [hw5.out]; exact f9.out)⟩
        intro q hq e
        rcases hq with e1 | e1 | ⟨v, hv, e1⟩
        · have := (oT.lt q e1).1; omega
        · have := (oA.lt q e1).1; omega
        · rcases hVF v hv with q1 | q1
          · have := h.out.low (Or.inr (Or.inr (Or.inr ⟨v, q1, e1⟩))); omega
          · have := q1 q e1; omega
      | false =>
        have hF : F ++ [(t, [x])] = addT P t x := (show Pt wr B P t x P.length false F V by rw [hnn.out]; exact hK.out).done_no hno.out
        replace hF := Lib.hid hF
        clear c2

        have hA : (wr.alloc (.cells #[.int .i64 t] 3)).ownsRow D 3 1 u11 F.length (rowV (F.map (·.1))) := ownsRow_fr oT ((Fr.refl noB wr).alloc _) (fun _ _ q => q)
        have hN := cell_new wr (.int .i64 t) 3
        have hDW : D ≤ wr.heap.size := by rw [← hD.out]; exact fr.size
        go_wp2_with (first
          | (at_builtin; go_must (refine wpList_append_at _ rfl (.tmp 104) (.tmp 106) 44 rfl D 3 i0 _ 1 8 Try.underlying44 hi0 hz0 hz1 hz2 rfl (by omega) _ F.length _ rfl hA ⟨wr.heap.size, 0, none⟩ 1 1 [.int .i64 t] rfl rfl hN (one_int _ _) ?_ ?_ ?_ ?_))
          | fail)
        · unfold maxLen; omega
        · omega
        · have := ((Fr.refl noB wr).alloc (.cells #[.int .i64 t] 3)).size; omega
        intro tvwa1 wa1 oTwa1 grwa1 _
        obtain ⟨oAwa1, rdwa1, frwa1⟩ := growT2 hD fr hA oA hK.out.rd grwa1
        clear hA hN grwa1 hDW

        clear c1

        have s0 : wa1.cell? ⟨sb, 0, none⟩ = some (.int .i64 t) := (frwa1.blk bS0.out (fun q => q)).cell 0
        have s1 : wa1.cell? ⟨sb, 1, none⟩ = some (.int .i64 1) := (frwa1.blk bS0.out (fun q => q)).cell 1
        have s2 : wa1.cell? ⟨sb, 2, none⟩ = some (.string x) := (frwa1.blk bS0.out (fun q => q)).cell 2
        have hDW : D ≤ wa1.heap.size := by rw [← hD.out]; exact frwa1.size
        have hl0 : SpRow (wa1.alloc (.cells #[.int .i64 t, .int .i64 1, .string x] 35)) B (.slice (some ⟨wa1.heap.size, 0, none⟩) 1 1) (t, [x]) := SpRow.one t x (by omega)
        have fL := ((Fr.refl noB wa1).alloc (.cells #[.int .i64 t, .int .i64 1, .string x] 35)).alloc (.cells #[.slice (some ⟨wa1.heap.size, 0, none⟩) 1 1] 48)
        have hl1 : SpRow ((wa1.alloc (.cells #[.int .i64 t, .int .i64 1, .string x] 35)).alloc (.cells #[.slice (some ⟨wa1.heap.size, 0, none⟩) 1 1] 48)) B (.slice (some ⟨wa1.heap.size, 0, none⟩) 1 1) (t, [x]) := hl0.fr ((Fr.refl noB (wa1.alloc (.cells #[.int .i64 t, .int .i64 1, .string x] 35))).alloc _) (fun _ _ q => q)
        have hA : ((wa1.alloc (.cells #[.int .i64 t, .int .i64 1, .string x] 35)).alloc (.cells #[.slice (some ⟨wa1.heap.size, 0, none⟩) 1 1] 48)).ownsRow D 48 1 u12 F.length V := ownsRow_fr oAwa1 fL (fun _ _ q => q)
        have hN := cell_new (wa1.alloc (.cells #[.int .i64 t, .int .i64 1, .string x] 35)) (.slice (some ⟨wa1.heap.size, 0, none⟩) 1 1) 48
        have hzW : (wa1.alloc (.cells #[.int .i64 t, .int .i64 1, .string x] 35)).heap.size = wa1.heap.size + 1 := by simp
        rw [hzW] at hN
        have hone := one_slice (some ⟨wa1.heap.size, 0, none⟩) 1 1
        replace hl1 := Lib.hid hl1
        replace fL := Lib.hid fL
        clear hl0 hzW
        go_wp2_with (first
          | (at_builtin; go_must (refine wpList_append_at _ rfl (.tmp 108) (.tmp 111) 53 rfl D 48 j0 _ 1 24 Try.underlying53 hj0 hy0 hy1 hy2 rfl (by omega) _ F.length _ rfl hA ⟨wa1.heap.size + 1, 0, none⟩ 1 1 [.slice (some ⟨wa1.heap.size, 0, none⟩) 1 1] rfl rfl hN hone ?_ ?_ ?_ ?_))
          | fail)
        · unfold maxLen; omega
        · omega
        · have := fL.out.size; omega
        intro avwa2 wa2 oAwa2 grwa2 _
        obtain ⟨oTwa2, rdwa2, frwa2⟩ := growA2 hD frwa1 fL.out hA oTwa1 rdwa1 grwa2
        have hlwa2 : SpRow wa2 B (.slice (some ⟨wa1.heap.size, 0, none⟩) 1 1) (t, [x]) := hl1.out.other hA (by decide) grwa2
        clear hA hN grwa2 hone hl1 fL s0 s1 s2

        obtain ⟨pT, pA⟩ := snoc_row (m := (t, [x])) oTwa2 oAwa2
        have rd2 := Lib.hid (rdwa2.snoc hlwa2)
        have hs1 : Hid (VFrom D VA (V ++ [.slice (some ⟨wa1.heap.size, 0, none⟩) 1 1])) := Lib.hid (hsub.out.new hDW)
        clear oTwa2 oAwa2 rdwa2 oTwa1 oAwa1 rdwa1 hDW hlwa2
        generalize hG : F ++ [(t, [x])] = G at *
        generalize hO : V ++ [Value.slice (some ⟨wa1.heap.size, 0, none⟩) 1 1] = O at *
        replace hG := Lib.hid hG
        replace hO := Lib.hid hO

        obtain ⟨aT', cT', rfl⟩ := ownsRow_slice pT
        obtain ⟨aA', cA', rfl⟩ := ownsRow_slice pA
        have hfrz := f0.out.seqN frwa2
        have z0 := (frwa2.blk hbk.out (fun q => q)).frozen 1
        have z1 := ((frwa2.blk hbk.out (fun q => q)).set 1 (.slice aT' G.length cT')).frozen 2
        have c1 : wa2.cell? ⟨g, 1, none⟩ = some (.slice aT k cT) := (frwa2.blk hbk.out (fun q => q)).cell 1
        have c2 : (wa2.setCell ⟨g, 1, none⟩ (.slice aT' G.length cT')).cell? ⟨g, 2, none⟩ = some (.slice aA k cA) := ((frwa2.blk hbk.out (fun q => q)).set 1 (.slice aT' G.length cT')).cell 2
        have g1 : Fr (onlyB g) wa2 (wa2.setCell ⟨g, 1, none⟩ (.slice aT' G.length cT')) := (Fr.refl _ wa2).store rfl
        have g2 : Fr (onlyB g) (wa2.setCell ⟨g, 1, none⟩ (.slice aT' G.length cT')) ((wa2.setCell ⟨g, 1, none⟩ (.slice aT' G.length cT')).setCell ⟨g, 2, none⟩ (.slice aA' G.length cA')) := (Fr.refl _ _).store rfl
        have g3 := g1.seqB g2 (fun _ => rfl)
        have hgw : g < w0.heap.size := by have := h.out.gB; have := h.out.Bw; omega
        have bS3 := g3.blk (frwa2.blk bS0.out (fun q => q)) (fun q => by unfold onlyB at q; have := hsb.out; omega)
        have bR3 := g3.blk (frwa2.blk bR0.out (fun q => q)) (fun q => by unfold onlyB at q; omega)
        generalize hw5 : ((wa2.setCell ⟨g, 1, none⟩ (.slice aT' G.length cT')).setCell ⟨g, 2, none⟩ (.slice aA' G.length cA')) = w5 at *
        replace hw5 := Lib.hid hw5
        have s0 : w5.cell? ⟨sb, 0, none⟩ = some (.int .i64 t) := bS3.cell 0
        have s1 : w5.cell? ⟨sb, 1, none⟩ = some (.int .i64 1) := bS3.cell 1
        have s2 : w5.cell? ⟨sb, 2, none⟩ = some (.string x) := bS3.cell 2
        have tR := Lib.hid (thereN (i := 0) (n := 3) bR3 (by simp))
        replace bR3 := Lib.hid bR3
        replace g3 := Lib.hid g3
        clear g1 g2 bS3
        go_upto_region 26 with fail
        rw [hw5.out]
        go_wp2_with (first
          | (refine wpList_store_mid rfl 35 (.tmp 6) (.tmp 121) rfl w0.heap.size 0 #[.int .i64 t, .int .i64 1, .string x] rfl rfl tR.out size_span (one_span _ _ _) ?_; obtain ⟨w9, hw9, f9, h9⟩ := store3 w5 w0.heap.size 0 (.int .i64 t) (.int .i64 1) (.string x); rw [← hw9]; clear hw9; have h9 := h9 _ _ bR3.out; have r0 : w9.cell? ⟨w0.heap.size, 0, none⟩ = some (.int .i64 t) := h9.cell 0; have r1 : w9.cell? ⟨w0.heap.size, 1, none⟩ = some (.int .i64 1) := h9.cell 1; have r2 : w9.cell? ⟨w0.heap.size, 2, none⟩ = some (.string x) := h9.cell 2; clear h9; replace f9 := Lib.hid f9)
          | fail)
        try simp only [Exit.inBlock, Exit.then]
        refine bodyPost_ret (by simp [results, Try.results35, go_sem, r0, r1, r2]; try rfl) rfl ?_
        have hVF := hs1.out
        have hFe := hF.out
        rw [← hFe]
        refine ⟨rfl, rq_fin (P := P) (P' := G) (V := O) (wr := wa2) (rb := w0.heap.size) h.out hS.out (Nat.le_refl _) (show w0.heap.size ≤ D by omega) hfrz pT pA rd2.out (fun z hz => (hVF z hz).imp id (fun q b hb => by have := q b hb; omega)) (by omega) ?_ (by rw [hFe]; exact hris'.out) (by rw [hFe]; exact hne'.out) (by rw [hFe]; exact hle'.out) (by rw [hw5.out]; exact f9.out)⟩
        intro q hq e
        rcases hq with e1 | e1 | ⟨v, hv, e1⟩
        · have := (pT.lt q e1).1; omega
        · have := (pA.lt q e1).1; omega
        · rcases hVF v hv with q1 | q1
          · have := h.out.low (Or.inr (Or.inr (Or.inr ⟨v, q1, e1⟩))); omega
          · have := q1 q e1; omega
end Go.Proofs.Ytnecglghinpgmaa
