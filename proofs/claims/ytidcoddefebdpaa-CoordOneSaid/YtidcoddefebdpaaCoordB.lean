/-
  The coordinator: a job begins.
-/
import Derived.Test.YtidcoddefebdpaaCoordC
import Derived.Deep.QuietTactic
import Derived.BigQuiet
set_option linter.unusedVariables false
set_option linter.unusedSimpArgs false
set_option maxRecDepth 100000
set_option maxRecDepth 100000
namespace Go.Proofs.Ytidcoddefebdpaa
open Go.RowKit Go Go.Maps Go.Lib

/-- what is said: a job's outs, or nothing -/
def OutP (B : Nat) (w : World) (u : Value) : Option JE → Prop
  | none => u = .slice none 0 0
  | some e => ∃ pv, w.ownsRow B 47 2 u (e.j.zg pv).length (zgC (e.j.zg pv)) ∧ (e.j.ph = 2 → RdPs w pv (e.j.psl e.X e.j.all))
def CoTo (w w' : World) (c bm : Nat) (U : Nat → Prop) (C C' : CS) : Prop := ∃ U', Co w' c bm U' C' ∧ (∀ g, U' g → U g ∨ w.heap.size ≤ g) ∧ Fr (coS c bm C) w w'
theorem CoTo.same {w w' : World} {c bm : Nat} {U : Nat → Prop} {C : CS} (h : Co w c bm U C) (f : Fr noB w w') : CoTo w w' c bm U C C := ⟨U, h.frN f, fun g hg => Or.inl hg, f.mono (fun _ _ q => q.elim)⟩
theorem wrapS {z : Int} (h0 : 0 ≤ z) (h1 : z ≤ 2000000000) : wrap64 z = z := IntWalk.wrap64_in _ (by omega)
theorem Co.setRf {w : World} {c bm : Nat} {U : Nat → Prop} {C : CS} (h : Co w c bm U C) (x : Int) : Co (w.setCell ⟨c, 4, none⟩ (.int .i64 x)) c bm U { C with rf := x } := by
  have f : Fr (onlyB c) w (w.setCell ⟨c, 4, none⟩ (.int .i64 x)) := (Fr.refl _ _).store rfl
  have hb := h.blk.set 4 (.int .i64 x)
  simp only [List.set_cons_zero, List.set_cons_succ] at hb
  exact ⟨hb, h.mp.fr f (fun q => h.ap.1 q.symm), fun e he => (h.jobs e he).fr f (fun q => (h.ap.2 e he).1 q) (fun g hg q => h.nu.1 (by unfold onlyB at q; rw [← q]; exact hg)), h.nu, h.ap, fun g hg => Nat.lt_of_lt_of_le (h.ul g hg) f.size, ⟨h.wf.a1, h.wf.a4, h.wf.m1, h.wf.m8, h.wf.len, h.wf.nt, h.wf.np, h.wf.nn, h.wf.nl, h.wf.inv, h.wf.l0⟩⟩
theorem bT_facts {a t c : Int} (h : bTrigger a t c = true) : 0 ≤ a ∧ a ≤ 3 ∧ 1 ≤ t ∧ t ≤ 65535 := by
  unfold bTrigger inB at h
  simp only [Bool.and_eq_true, decide_eq_true_eq] at h
  omega
theorem begin_no1 {C : CS} {a t c : Int} {pn : Nat} (h : C.ag ≤ a ∨ (C.at t).isSome = true) : C.begin a t c pn = (C, none) := by unfold CS.begin; rw [if_pos h]
theorem begin_no2 {C : CS} {a t c : Int} {pn : Nat} (h : ¬ (C.ag ≤ a ∨ (C.at t).isSome = true)) (h2 : C.mo ≤ C.Q.length) : C.begin a t c pn = ({ C with rf := C.rf + 1 }, none) := by unfold CS.begin; rw [if_neg h, if_pos h2]
def JE.new (C : CS) (a t c : Int) (pn : Nat) : JE := ⟨pn, C.la + 1, JS.new (C.la + 1) t c C.ag.toNat a.toNat, fun _ => []⟩
theorem begin_yes {C : CS} {a t c : Int} {pn : Nat} (h : ¬ (C.ag ≤ a ∨ (C.at t).isSome = true)) (h2 : ¬ C.mo ≤ C.Q.length) : C.begin a t c pn = ({ C with la := C.la + 1, Q := C.Q ++ [JE.new C a t c pn] }, some (JE.new C a t c pn)) := by unfold CS.begin; rw [if_neg h, if_neg h2]; rfl
theorem new_tr (C : CS) (a t c : Int) (pn : Nat) : (JE.new C a t c pn).j.tr = t := (upd_two _ _ _ |> fun e => (by unfold JS.two at e; simp only [Prod.mk.injEq] at e; exact e.1))
/-- a job more -/
theorem Co.more {w w1 w2 w3 : World} {c bm : Nat} {U : Nat → Prop} {C : CS} (h : Co w c bm U C) {a t cl : Int} {p : Nat} (f1 : Fr noB w w1) (hp : w.heap.size ≤ p) (hj : ∀ L, JG w1 p L (JS.new (C.la + 1) t cl C.ag.toNat a.toNat) (fun _ => []))
    (hn1 : ¬ (C.ag ≤ a ∨ (C.at t).isSome = true)) (hn2 : ¬ C.mo ≤ C.Q.length)
    (hb : Blk w2 c 62 [.int .i64 C.ag, .int .i64 C.mo, .map (some bm), .int .i64 (C.la + 1), .int .i64 C.rf]) (f2 : Fr (onlyB c) w1 w2)
    (hm : Mp Try.prog 3 klI mkN w3 bm (C.Q.length + 1) (withKey (C.Q.map JE.kv) t (C.la + 1, some p))) (f3 : Fr (onlyB bm) w2 w3) :
    Co w3 c bm U (C.begin a t cl p).1 ∧ (C.begin a t cl p).2 = some (JE.new C a t cl p) ∧ Fr (coS c bm C) w w3 := by
  have hlt := h.lt
  have hpne : ∀ e ∈ C.Q, e.p ≠ p := fun e he q => by have := hlt e.p (Or.inl (Or.inr (Or.inr ⟨e, he, rfl⟩))); omega
  have hwf := h.wf.begin a t cl p hpne
  have hcl := hlt c (Or.inl (Or.inl rfl))
  have hbl := hlt bm (Or.inl (Or.inr (Or.inl rfl)))
  have f13 : Fr (fun g => g = c ∨ g = bm) w1 w3 := f2.trans f3 (fun _ _ q => Or.inl q) (fun _ _ q => Or.inr q)
  rw [begin_yes hn1 hn2] at hwf ⊢
  have hnone : C.at t = none := by
    cases hq : C.at t with
    | none => rfl
    | some e => exact absurd (Or.inr (by rw [hq]; rfl)) hn1
  have hw : without (C.Q.map JE.kv) t = C.Q.map JE.kv := by
    unfold without
    rw [List.filter_eq_self]
    intro q hq
    obtain ⟨e, he, rfl⟩ := List.mem_map.1 hq
    have := at_none hnone e he
    exact decide_eq_true this
  refine ⟨⟨f3.blk hb (fun q => h.ap.1 q), ?_, fun e he => ?_, ⟨h.nu.1, h.nu.2.1, fun e he => ?_⟩, ⟨h.ap.1, fun e he => ?_⟩, fun g hg => ?_, hwf⟩, rfl, ?_⟩
  · have h1 : (withKey (C.Q.map JE.kv) t (C.la + 1, some p)).Perm ((C.Q ++ [JE.new C a t cl p]).map JE.kv) := by
      unfold withKey
      rw [hw, List.map_append]
      have : JE.kv (JE.new C a t cl p) = (t, (C.la + 1, some p)) := by unfold JE.kv; rw [new_tr]; rfl
      rw [List.map_singleton, this]
      exact List.perm_append_comm (l₁ := [(t, (C.la + 1, some p))])
    have := hm.perm h1
    show Mp _ _ _ _ _ _ (C.Q ++ [_]).length _
    rw [List.length_append]
    exact this
  · rcases List.mem_append.1 he with he | he
    · have hS := h.ap.2 e he
      exact ((h.jobs e he).frN f1).fr f13 (fun q => by rcases q with q | q <;> simp_all) (fun g hg q => by rcases q with q | q <;> (subst q; first | exact h.nu.1 hg | exact h.nu.2.1 hg))
    · obtain rfl := List.mem_singleton.1 he
      exact (hj U).fr f13 (fun q => by have q' : p = c ∨ p = bm := q; omega) (fun g hg q => by rcases q with q | q <;> (subst q; first | exact h.nu.1 hg | exact h.nu.2.1 hg))
  · rcases List.mem_append.1 he with he | he
    · exact h.nu.2.2 e he
    · obtain rfl := List.mem_singleton.1 he
      intro q
      have q' : U p := q
      have := h.ul p q'
      omega
  · rcases List.mem_append.1 he with he | he
    · exact h.ap.2 e he
    · obtain rfl := List.mem_singleton.1 he
      show p ≠ c ∧ p ≠ bm
      omega
  · have := h.ul g hg
    have := f1.size
    have := f13.size
    omega
  · exact f1.trans f13 (fun _ _ q => q.elim) (fun i _ q => by rcases q with q | q; exact Or.inl q; exact Or.inr (Or.inl q))

/-- what a call says, and what becomes of the coordinator (f: by where a new job lies) -/
def SayPost (e : Ending) (w w' : World) (c bm : Nat) (U : Nat → Prop) (C : CS) (f : Nat → CS × Option JE) : Prop := ∃ u pn, e = .returned u ∧ w.heap.size ≤ pn ∧ OutP w.heap.size w' u (f pn).2 ∧ CoTo w w' c bm U C (f pn).1
theorem SayPost.no {w w' : World} {c bm : Nat} {U : Nat → Prop} {C : CS} {f : Nat → CS × Option JE} (hf : ∀ pn, f pn = (C, none)) (h : Co w c bm U C) (fr : Fr noB w w') : SayPost (.returned (.slice none 0 0)) w w' c bm U C f :=
  ⟨_, w.heap.size, rfl, Nat.le_refl _, by rw [hf]; rfl, by rw [hf]; exact CoTo.same h fr⟩
set_option maxHeartbeats 8000000 in
theorem begin_co (c bm : Nat) (U : Nat → Prop) (C : CS) (a t cl : Int) (w : World) (h : Co w c bm U C) (hb : bTrigger a t cl = true) (hla : C.la < 1073741824) (hrf : 0 ≤ C.rf ∧ C.rf < 1000000000) :
    Calls Try.prog 27 #[.pointer (some ⟨c, 0, none⟩), .agg #[.int .i64 a, .int .i64 t, .int .i64 cl]] w fun e w' => SayPost e w w' c bm U C (C.begin a t cl) := by
  obtain ⟨ha0, ha3, ht1, ht2⟩ := bT_facts hb
  have okt : okI t := okI_of (by omega) (by omega)
  have hl0 := h.wf.l0
  have hag := h.wf.a4
  have hw1 := wrapS (z := C.la + 1) (by omega) (by omega)
  have hw2 := wrapS (z := C.rf + 1) (by omega) (by omega)
  have hw3 : IntKind.i64.wrap (C.la + 1) = C.la + 1 := by rw [IntKind.wrap_i64]; omega
  have hof := fun w' (f : Fr noB w w') => of_co c bm U C t w' (h.frN f) okt
  have fX : Fr noB w (w.alloc (.cells #[.int .i64 a, .int .i64 t, .int .i64 cl] 54)) := (Fr.refl _ _).alloc _
  have bX := Blk.new w 54 [.int .i64 a, .int .i64 t, .int .i64 cl]
  obtain ⟨gX, hgX⟩ : ∃ g, w.heap.size = g := ⟨_, rfl⟩
  rw [hgX] at bX
  have hlt := h.lt
  have hcX : c < gX := by rw [← hgX]; exact hlt c (Or.inl (Or.inl rfl))
  have hbX : bm < gX := by rw [← hgX]; exact hlt bm (Or.inl (Or.inr (Or.inl rfl)))
  have hco := fun w' (f : Fr noB w w') => h.frN f
  replace h := Lib.hid h
  replace hlt := Lib.hid hlt
  replace hco := Lib.hid hco
  replace hof := Lib.hid hof
  replace hb := Lib.hid hb
  replace okt := Lib.hid okt
  replace hcX := Lib.hid hcX
  replace hbX := Lib.hid hbX
  go_enter Try.func27, Try.ntmps27
  go_upto_region 1 with fail
  try rw [hgX]
  replace hgX := Lib.hid hgX
  generalize (w.alloc (.cells #[.int .i64 a, .int .i64 t, .int .i64 cl] 54)) = wX at *
  have y0 : wX.cell? ⟨gX, 0, none⟩ = some (.int .i64 a) := bX.cell 0
  have y1 : wX.cell? ⟨gX, 1, none⟩ = some (.int .i64 t) := bX.cell 1
  have HX := hco.out wX fX
  have d0 : wX.cell? ⟨c, 0, none⟩ = some (.int .i64 C.ag) := HX.blk.cell 0
  replace HX := Lib.hid HX
  replace bX := Lib.hid bX
  replace fX := Lib.hid fX
  by_cases h1 : C.ag ≤ a
  · have e1 : decide (C.ag ≤ a) = true := decide_eq_true h1
    replace h1 := Lib.hid h1
    go_quiet (fail)
    go_wp2_with fail
    go_ret
    exact SayPost.no (fun pn => begin_no1 (Or.inl h1.out)) h.out (fX.out.drewN _)
  · have e1 : decide (C.ag ≤ a) = false := decide_eq_false h1
    cases hat : C.at t with
    | some e =>
      have hofs : ∀ nq, Calls Try.prog 9 #[.pointer (some ⟨c, 0, none⟩), .int .i64 t] (wX.drewN nq) fun e' w' => e' = .returned (.pointer (some ⟨e.p, 0, none⟩)) ∧ w' = wX.drewN nq := fun nq => by
        have := hof.out _ (fX.out.drewN nq)
        rw [hat] at this
        exact this
      have hno := fun pn => begin_no1 (C := C) (a := a) (t := t) (c := cl) (pn := pn) (Or.inr (by rw [hat]; rfl))
      replace hofs := Lib.hid hofs
      replace hno := Lib.hid hno
      replace h1 := Lib.hid h1
      replace hat := Lib.hid hat
      go_quiet ((go_at_call 9; exact Calls.quiet_of_same (hofs.out _)))
      go_wp2_with fail
      go_ret
      exact SayPost.no hno.out h.out (fX.out.drewN _)
    | none =>
      have hofs : ∀ nq, Calls Try.prog 9 #[.pointer (some ⟨c, 0, none⟩), .int .i64 t] (wX.drewN nq) fun e' w' => e' = .returned (.pointer none) ∧ w' = wX.drewN nq := fun nq => by
        have := hof.out _ (fX.out.drewN nq)
        rw [hat] at this
        exact this
      have hn1 : ¬ (C.ag ≤ a ∨ (C.at t).isSome = true) := by rw [hat]; simp; omega
      replace hofs := Lib.hid hofs
      replace hn1 := Lib.hid hn1
      replace hat := Lib.hid hat
      go_quiet ((go_at_call 9; exact Calls.quiet_of_same (hofs.out _)))
      have f1 := fX.out.drewN nq
      have b1 := bX.out.drewN nq
      have H1 := hco.out _ f1
      generalize wX.drewN nq = w1 at *
      clear y0 y1 d0 hofs HX
      have c2 : w1.cell? ⟨c, 2, none⟩ = some (.map (some bm)) := H1.blk.cell 2
      have c1 : w1.cell? ⟨c, 1, none⟩ = some (.int .i64 C.mo) := H1.blk.cell 1
      have hml : ∀ nq, _ := fun nq => (H1.frN ((Fr.refl noB w1).drewN nq)).mp.run_len Try.underlying60
      simp only [List.length_map] at hml
      obtain ⟨N, hN⟩ : ∃ N, C.Q.length = N := ⟨_, rfl⟩
      simp only [hN] at hml
      by_cases h2 : C.mo ≤ C.Q.length
      · have e2 : decide (C.mo ≤ (N : Int)) = true := decide_eq_true (by rw [← hN]; exact h2)
        replace h2 := Lib.hid h2
        replace hN := Lib.hid hN
        replace H1 := Lib.hid H1
        replace b1 := Lib.hid b1
        go_wp2_with fail
        go_quiet (fail)
        have H2 := H1.out.frN ((Fr.refl noB w1).drewN nq)
        have f2 := f1.drewN nq
        generalize w1.drewN nq = w2 at *
        have k4 : w2.cell? ⟨c, 4, none⟩ = some (.int .i64 C.rf) := H2.blk.cell 4
        have z4 := H2.blk.frozen 4
        have H3 := Lib.hid (H2.setRf (C.rf + 1))
        have f3 := Lib.hid (f2.trans ((Fr.refl (coS c bm C) w2).store (g := c) (i := 4) (v := .int .i64 (C.rf + 1)) (Or.inl rfl)) (U := coS c bm C) (fun _ _ q => q.elim) (fun _ _ q => q))
        clear c1 c2 hml H2 H1 f2 f1 b1
        replace h1 := ()
        go_wp2_with fail
        go_ret
        refine ⟨_, w.heap.size, rfl, Nat.le_refl _, ?_, ?_⟩
        · rw [begin_no2 hn1.out h2.out]; rfl
        · rw [begin_no2 hn1.out h2.out]; exact ⟨U, H3.out, fun g hg => Or.inl hg, f3.out⟩
      · have e2 : decide (C.mo ≤ (N : Int)) = false := decide_eq_false (by rw [← hN]; exact h2)
        replace h2 := Lib.hid h2
        replace hN := Lib.hid hN
        replace H1 := Lib.hid H1
        replace b1 := Lib.hid b1
        go_wp2_with fail
        go_quiet (fail)
        have H2 := H1.out.frN ((Fr.refl noB w1).drewN nq)
        have f2 := f1.drewN nq
        have b2 := b1.out.drewN nq
        generalize w1.drewN nq = w2 at *
        obtain ⟨A, hA⟩ : ∃ A : Nat, C.ag = A := ⟨C.ag.toNat, by omega⟩
        obtain ⟨q, hq⟩ : ∃ q : Nat, a = q := ⟨a.toNat, by omega⟩
        have hS : ∀ w', Fr noB w2 w' → (w'.cell? ⟨c, 3, none⟩ = some (.int .i64 C.la) ∧ w'.cell? ⟨c, 0, none⟩ = some (.int .i64 (A : Int))) ∧ w'.cell? ⟨gX, 0, none⟩ = some (.int .i64 (q : Int)) ∧ w'.cell? ⟨gX, 1, none⟩ = some (.int .i64 t) ∧ w'.cell? ⟨gX, 2, none⟩ = some (.int .i64 cl) := fun w' f => by
          have hc := (H2.frN f).blk
          have hg := f.blk b2 (fun q => q)
          rw [hA] at hc
          rw [hq] at hg
          exact ⟨⟨hc.cell 3, hc.cell 0⟩, hg.cell 0, hg.cell 1, hg.cell 2⟩
        have hnew := fun w' => new_any (C.la + 1) t cl A q w' (by rw [← hq]; exact hb.out) (by omega) (by omega) (by omega) (by omega)
        replace hS := Lib.hid hS
        replace hnew := Lib.hid hnew
        replace H2 := Lib.hid H2
        replace b2 := Lib.hid b2
        replace f2 := Lib.hid f2
        replace hA := Lib.hid hA
        replace hq := Lib.hid hq
        clear c1 c2 hml H1 f1 b1
        replace h1 := ()
        go_wp2_with fail
        go_cut [5] from 37 to 47 (fun v5 wx => ∃ p, v5 = .pointer (some ⟨p, 0, none⟩) ∧ Hid (w2.heap.size ≤ p) ∧ Hid (∀ L, JG wx p L (JS.new (C.la + 1) t cl A q) (fun _ => [])) ∧ Fr noB w2 wx)
        case first =>
          go_region_held3 (fun w' => (w'.cell? ⟨c, 3, none⟩ = some (.int .i64 C.la) ∧ w'.cell? ⟨c, 0, none⟩ = some (.int .i64 (A : Int))) ∧ w'.cell? ⟨gX, 0, none⟩ = some (.int .i64 (q : Int)) ∧ w'.cell? ⟨gX, 1, none⟩ = some (.int .i64 t) ∧ w'.cell? ⟨gX, 2, none⟩ = some (.int .i64 cl))
            (first | exact hS.out _ fq | exact hS.out _ ((Fr.refl noB _).drewN 1) | fail)
            (first | (go_at_call 47; refine (hnew.out _).mono ?_; rintro e w5 ⟨p, rfl, hp, hj, f5⟩; have fq := ((Fr.refl noB w2).drewN 1).seqN f5) | fail)
          all_goals (
            go_wp2_with fail
            go_meet
            exact ⟨p, rfl, Lib.hid hp, Lib.hid hj, fq⟩)
        case rest =>
          obtain ⟨p, rfl, hp, hj, fc⟩ := hcut
          have f02 := f2.out.seqN fc
          have Hc := H2.out.frN fc
          have bc := fc.blk b2.out (fun q => q)
          have k3 : wc.cell? ⟨c, 3, none⟩ = some (.int .i64 C.la) := Hc.blk.cell 3
          have z3 := Hc.blk.frozen 3
          have hbl := Hc.blk.set 3 (.int .i64 (C.la + 1))
          simp only [List.set_cons_zero, List.set_cons_succ] at hbl
          have s3 : Fr (onlyB c) wc (wc.setCell ⟨c, 3, none⟩ (.int .i64 (C.la + 1))) := (Fr.refl _ _).store rfl
          have bc3 := s3.blk bc (fun e => by have := hcX.out; unfold onlyB at e; omega)
          have hm3 := Hc.mp.fr s3 (fun e => Hc.ap.1 e.symm)
          replace Hc := Lib.hid Hc
          replace bc := Lib.hid bc
          replace hbl := Lib.hid hbl
          replace s3 := Lib.hid s3
          replace bc3 := Lib.hid bc3
          replace hm3 := Lib.hid hm3
          replace f02 := Lib.hid f02
          replace fc := Lib.hid fc
          clear hS hnew
          go_upto_region 10 with fail
          generalize wc.setCell ⟨c, 3, none⟩ (.int .i64 (C.la + 1)) = w3 at *
          have m2 : w3.cell? ⟨c, 2, none⟩ = some (.map (some bm)) := hbl.out.cell 2
          have m3 : w3.cell? ⟨c, 3, none⟩ = some (.int .i64 (C.la + 1)) := hbl.out.cell 3
          have m1 : w3.cell? ⟨gX, 1, none⟩ = some (.int .i64 t) := bc3.out.cell 1
          go_still_tail 12, (by kernel_rfl)
          change wpList _ _ _ _ _ w3.drew
          have fd : Fr noB w3 w3.drew := (Fr.refl _ _).drew
          have hbl4 := fd.blk hbl.out (fun q => q)
          have hm4 := hm3.out.fr fd (fun q => q)
          have s4 := Lib.hid (s3.out.seqN fd)
          generalize w3.drew = w4 at *
          have hlen4 : (C.Q.map JE.kv).length ≤ 1000 := by rw [List.length_map]; have := h.out.wf.len; have := h.out.wf.m8; omega
          have hnc := hm4.length
          have hQ : C.Q.length < maxLen := by unfold maxLen; have := h.out.wf.len; have := h.out.wf.m8; omega
          replace hlen4 := Lib.hid hlen4
          replace hnc := Lib.hid hnc
          clear m1 m2 m3 fd hbl hm3 s3 bc3 k3 z3
          replace hbl4 := Lib.hid hbl4
          go_wp2_with (first
            | (at_mapUpdate; go_loud (refine wpList_put_mp _ rfl _ _ _ 60 rfl keyIJ Try.underlying60 mkN_inj hm4 hQ t (C.la + 1, some p) okt.out rfl rfl rfl ?_); intro w6 m6 f6; replace m6 := Lib.hid m6; replace f6 := Lib.hid f6; clear hm4)
            | fail)
          have hmore := Co.more (cl := cl) (a := a) (p := p) h.out f02.out (by have := hp.out; have := f2.out.size; omega) (fun L => by have := hj.out L; rw [show C.ag.toNat = A by have := hA.out; omega, show a.toNat = q by have := hq.out; omega]; exact this) hn1.out (by have := h2.out; omega) hbl4.out s4.out m6.out f6.out
          obtain ⟨H6, hso, fr6⟩ := hmore
          have he : JE.new C a t cl p ∈ (C.begin a t cl p).1.Q := by
            rw [begin_yes hn1.out (by have := h2.out; omega)]
            exact List.mem_append_right _ (List.mem_singleton.2 rfl)
          have hout := pouts_any p U (JE.new C a t cl p).j (JE.new C a t cl p).X w6 (H6.jobs _ he) (H6.wf.inv _ he)
          replace hout := Lib.hid hout
          replace H6 := Lib.hid H6
          replace hso := Lib.hid hso
          replace fr6 := Lib.hid fr6
          clear he
          go_wp2_with fail
          go_fit hout.out
          rintro e w7 ⟨u, pv, rfl, o7, r7, f7⟩
          replace o7 := Lib.hid o7
          replace r7 := Lib.hid r7
          clear hout
          go_wp2_with fail
          go_ret
          refine ⟨u, p, rfl, by have := hp.out; have := f2.out.size; omega, ?_, U, H6.out.frN f7, fun g hg => Or.inl hg, fr6.out.seqN f7⟩
          rw [hso.out]
          exact ⟨pv, ownsRow_mono o7.out fr6.out.size, r7.out⟩
end Go.Proofs.Ytidcoddefebdpaa
