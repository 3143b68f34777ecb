/-
  The program's state and the reference's, side by side: plain mathematics; and a message that is none.
  In every order of messages what is kept, what is missing, and the record, is the document's: the law walked.
  Proved here: for every input the law spoorlaw17.AssemblePlays returns true, and its arguments read behind the call as they read before; no condition.
-/
import Derived.Test.YtdfkjigkpcgngaaAsmRefH
import Derived.Test.YtdfkjigkpcgngaaAsmSame16
import Derived.Test.YtdfkjigkpcgngaaAsmMs3
import Derived.Test.YtdfkjigkpcgngaaArgs
import Derived.SizedLaws
section
set_option linter.unusedVariables false
set_option linter.unusedSimpArgs false
set_option maxRecDepth 100000
namespace Go.Proofs.Ytdfkjigkpcgngaa
open Go.RowKit Go Go.Maps Go.Lib

theorem right_nil (w : World) : Calls Try.prog 23 #[.nilIface] w fun e w' => e = .returned (.bool false) ∧ Fr noB w w' := right_of ((mayBe_nil w).mono fun e w' ⟨h1, h2⟩ => ⟨h1, by subst h2; exact Fr.refl _ _⟩)
theorem hear_none_v (w0 : World) (p bm : Nat) (D : Nat → Prop) (s : PS) (w : World) (h : AsmV w0 w p bm D s) : Calls Try.prog 10 #[.pointer (some ⟨p, 0, none⟩), .nilIface] w fun e w' => e = .returned (.bool false) ∧ Fr noB w w' := by
  have hrt := right_nil w
  clear h
  go_enter Try.func10, Try.ntmps10
  go_wp2_with fail
  go_fit hrt
  rintro e w1 ⟨rfl, f1⟩
  go_wp2_with fail
  go_ret
  exact ⟨rfl, f1⟩
/-- both keep the same -/
structure Pair (s : PS) (r : RS) : Prop where
  tr : s.tr = r.tr
  jb : s.jb = r.jb
  man : s.man = r.man
  ck : CK s.C (r.K.map Kq.kp)
  h2 : ∀ k ∈ r.K, k.sp.length ≤ 2 ∧ k.n ≤ 500
theorem Pair.miss {s : PS} {r : RS} (h : Pair s r) : r.miss s.C = s.miss := by unfold RS.miss PS.miss; rw [h.man, h.tr]; cases r.man <;> rfl
theorem Pair.recd {s : PS} {r : RS} (h : Pair s r) : r.recd s.C = s.recd := by unfold RS.recd PS.recd; rw [h.man, h.tr]; cases r.man <;> rfl
theorem Pair.new (t j : Int) : Pair ⟨t, j, none, []⟩ ⟨t, j, none, []⟩ := ⟨rfl, rfl, rfl, CK.nil, fun k hk => (by cases hk)⟩
def OpA.kq (m : OpA) : Kq := ⟨m.a, m.i, m.n, m.sp, m.sa, m.sc⟩
def PS.hearO (s : PS) : Option Ms → Bool × PS
  | none => (false, s)
  | some x => s.hear x
/-- what the reference is handed -/
def MsM (w : World) (B : Nat) (m : OpA) (M : MR) : Prop := (m.k = 6 → M = { k := 6, a := m.a, t := m.t, j := m.j, i := m.i, n := m.n, sa := m.sa, sn := m.sp.length, sc := m.sc }) ∧ (m.k = 7 → ∃ a c, M = { k := 7, t := m.t, j := m.j, c := m.i, qa := a, qn := (partsK m m.xs.length).length, qc := c } ∧ RdPsD w (fun g => B ≤ g ∧ g < w.heap.size) (.slice a (partsK m m.xs.length).length c) (partsK m m.xs.length)) ∧ (m.k ≠ 6 → m.k ≠ 7 → M.k ≠ 6 ∧ M.k ≠ 7)
theorem rfo_mr {w : World} {B : Nat} {u : Value} {m : OpA} (h : RfO w u m.ms) (hb : RfB w B u m) : ∃ M, u = mrV M ∧ MsM w B m M := by
  by_cases h6 : m.k = 6
  · exact ⟨_, hb.1 h6, fun _ => rfl, fun q => by omega, fun q => absurd h6 q⟩
  · by_cases h7 : m.k = 7
    · obtain ⟨a, c, e, hp⟩ := hb.2 h7
      exact ⟨_, e, fun q => absurd q h6, fun _ => ⟨a, c, rfl, hp⟩, fun _ q => absurd h7 q⟩
    · have key : ∀ M : MR, u = mrV M → (M.k ≠ 6 ∧ M.k ≠ 7) → ∃ M, u = mrV M ∧ MsM w B m M := fun M e hk => ⟨M, e, fun q => absurd q h6, fun q => absurd q h7, fun _ _ => hk⟩
      cases hm : m.ms with
      | none => rw [hm] at h; exact key _ h ⟨by simp, by simp⟩
      | some x =>
        rw [hm] at h
        cases x with
        | trigger a t c => exact key _ h ⟨by simp, by simp⟩
        | pin t j => exact key _ h ⟨by simp, by simp⟩
        | pinned p => obtain ⟨a, c, e, _⟩ := h; exact key _ e ⟨by simp, by simp⟩
        | gone a t j => exact key _ h ⟨by simp, by simp⟩
        | collect t j => exact key _ h ⟨by simp, by simp⟩
        | stored t j => exact key _ h ⟨by simp, by simp⟩
        | unpin t j => exact key _ h ⟨by simp, by simp⟩
        | unpinned a t j => exact key _ h ⟨by simp, by simp⟩
        | chunk a t j i n sp =>
          exfalso
          unfold OpA.ms at hm
          repeat' (split at hm)
          all_goals (first | (injection hm with hm; cases hm; done) | (cases hm; done) | (simp_all; done))
        | manifest t j c ps =>
          exfalso
          unfold OpA.ms at hm
          repeat' (split at hm)
          all_goals (first | (injection hm with hm; cases hm; done) | (cases hm; done) | (simp_all; done))
theorem chunkB_in {a t j i n : Int} {sp : List Sp} (h : chunkB a t j i n sp = true) : 0 ≤ i ∧ i < n ∧ n ≤ 500 ∧ sp.length ≤ 2 := by
  unfold chunkB at h
  simp only [Bool.and_eq_true, decide_eq_true_eq] at h
  obtain ⟨_, _, _, h4, h5, h6, h7, h8, _⟩ := h
  exact ⟨h6, h7, h5, h8⟩
theorem chunk_same {C : CH} {a i n : Int} {sp : List Sp} (h : (chunkC C a i n sp).1 = false) : (chunkC C a i n sp).2 = C := by
  unfold chunkC at h ⊢
  cases hl : look C a with
  | none => rw [hl] at h; cases h
  | some x =>
    obtain ⟨t, L⟩ := x
    rw [hl] at h
    dsimp only at h ⊢
    by_cases q : (look L i).isSome = true ∨ n ≠ t
    · rw [if_pos q]
    · rw [if_neg q] at h; cases h
theorem ms_kind {m : OpA} {x : Ms} (h : m.ms = some x) (h6 : m.k ≠ 6) (h7 : m.k ≠ 7) (man : Option (Int × List Pn)) (C : CH) : takeM man C x = (false, man, C) := by
  cases x with
  | chunk a t j i n sp =>
    exfalso
    unfold OpA.ms at h
    repeat' (split at h)
    all_goals (first | (injection h with h; cases h; done) | (cases h; done) | (simp_all; done))
  | manifest t j c ps =>
    exfalso
    unfold OpA.ms at h
    repeat' (split at h)
    all_goals (first | (injection h with h; cases h; done) | (cases h; done) | (simp_all; done))
  | _ => rfl
/-- a message leaves them alike -/
theorem pair_hear {s : PS} {r : RS} (h : Pair s r) (m : OpA) {w : World} {B : Nat} {M : MR} (hM : MsM w B m M) : (s.hearO m.ms).1 = (r.hearB (okO m.ms) M (partsK m m.xs.length) m.kq).1 ∧ Pair (s.hearO m.ms).2 (r.hearB (okO m.ms) M (partsK m m.xs.length) m.kq).2 := by
  have hno : r.bad (okO m.ms) M = true → s.hearO m.ms = (false, s) → (s.hearO m.ms).1 = (r.hearB (okO m.ms) M (partsK m m.xs.length) m.kq).1 ∧ Pair (s.hearO m.ms).2 (r.hearB (okO m.ms) M (partsK m m.xs.length) m.kq).2 := fun hb hs => by
    rw [hs]
    unfold RS.hearB
    rw [if_pos hb]
    exact ⟨rfl, h⟩
  cases hm : m.ms with
  | none => rw [hm] at hno; exact hno (by unfold okO RS.bad; rfl) rfl
  | some x =>
    rw [hm] at hno
    have e1 : s.hearO (some x) = s.hear x := rfl
    have e2 : okO (some x) = x.ok := rfl
    rw [e1, e2] at hno ⊢
    by_cases hok : x.ok = true
    rotate_left
    · have hf : x.ok = false := by simpa using hok
      refine hno (by unfold RS.bad; rw [hf]; rfl) ?_
      unfold PS.hear PS.hears
      rw [hf, Bool.false_and, if_neg (by simp)]
    by_cases h6 : m.k = 6
    · rw [ms6 h6] at hm
      injection hm with hm
      subst hm
      have hMe := hM.1 h6
      subst hMe
      obtain ⟨i1, i2, i3, i4⟩ := chunkB_in hok
      by_cases ht : m.t = s.tr
      · by_cases hj : m.j = s.jb
        · have hb : r.bad (Ms.chunk m.a m.t m.j m.i m.n m.sp).ok { k := 6, a := m.a, t := m.t, j := m.j, i := m.i, n := m.n, sa := m.sa, sn := m.sp.length, sc := m.sc } = false := by
            unfold RS.bad
            rw [hok]
            simp [ht, hj, h.tr, h.jb]
          have hh : s.hears (Ms.chunk m.a m.t m.j m.i m.n m.sp) = true := by
            unfold PS.hears
            rw [hok]
            simp [Ms.tj, ht, hj]
          unfold RS.hearB PS.hear
          rw [if_pos hh, if_neg (by rw [hb]; simp), if_neg (show ¬ (6 : Int) = 7 by omega)]
          have hre := refuse_eq h.ck m.a m.i m.n m.sp ⟨i1, i2⟩
          show (chunkC s.C m.a m.i m.n m.sp).1 = _ ∧ _
          show (chunkC s.C m.a m.i m.n m.sp).1 = (if refuses (r.K.map Kq.kp) m.a m.i m.n = true then _ else _ : Bool × RS).1 ∧ Pair ⟨s.tr, s.jb, s.man, (chunkC s.C m.a m.i m.n m.sp).2⟩ (if refuses (r.K.map Kq.kp) m.a m.i m.n = true then _ else _ : Bool × RS).2
          cases hr : refuses (r.K.map Kq.kp) m.a m.i m.n with
          | true =>
            rw [hr] at hre
            have hC := chunk_same hre
            rw [hre, hC, if_pos rfl]
            exact ⟨rfl, h⟩
          | false =>
            rw [hr] at hre
            rw [hre, if_neg (by simp)]
            refine ⟨rfl, h.tr, h.jb, h.man, ?_, fun k hk => ?_⟩
            · have := keep_ok h.ck m.sp ⟨i1, i2⟩ hr
              dsimp only
              rw [List.map_append]
              exact this
            · rcases List.mem_append.1 hk with hk | hk
              · exact h.h2 k hk
              · obtain rfl := List.mem_singleton.1 hk
                exact ⟨i4, i3⟩
        · refine hno (by unfold RS.bad; rw [← h.jb]; simp [hj]) ?_
          unfold PS.hear PS.hears
          rw [if_neg]; simp [Ms.tj, hj]
      · refine hno (by unfold RS.bad; rw [← h.tr]; simp [ht]) ?_
        unfold PS.hear PS.hears
        rw [if_neg]; simp [Ms.tj, ht]
    · by_cases h7 : m.k = 7
      · rw [ms7 h7] at hm
        injection hm with hm
        subst hm
        obtain ⟨a, c, hMe, _⟩ := hM.2.1 h7
        subst hMe
        by_cases ht : m.t = s.tr
        · by_cases hj : m.j = s.jb
          · have hb : r.bad (Ms.manifest m.t m.j m.i (partsK m m.xs.length)).ok { k := 7, t := m.t, j := m.j, c := m.i, qa := a, qn := (partsK m m.xs.length).length, qc := c } = false := by
              unfold RS.bad
              rw [hok]
              simp [ht, hj, h.tr, h.jb]
            have hh : s.hears (Ms.manifest m.t m.j m.i (partsK m m.xs.length)) = true := by
              unfold PS.hears
              rw [hok]
              simp [Ms.tj, ht, hj]
            unfold RS.hearB PS.hear
            rw [if_pos hh, if_neg (by rw [hb]; simp), if_pos rfl, ← h.man]
            unfold takeM
            cases hmm : s.man with
            | none => exact ⟨rfl, h.tr, h.jb, rfl, h.ck, h.h2⟩
            | some y =>
              refine ⟨rfl, h.tr, h.jb, ?_, h.ck, h.h2⟩
              show some y = r.man
              rw [← h.man, hmm]
          · refine hno (by unfold RS.bad; rw [← h.jb]; simp [hj]) ?_
            unfold PS.hear PS.hears
            rw [if_neg]; simp [Ms.tj, hj]
        · refine hno (by unfold RS.bad; rw [← h.tr]; simp [ht]) ?_
          unfold PS.hear PS.hears
          rw [if_neg]; simp [Ms.tj, ht]
      · obtain ⟨k6, k7⟩ := hM.2.2 h6 h7
        refine hno (by unfold RS.bad; simp [k6, k7]) ?_
        unfold PS.hear
        rw [ms_kind hm h6 h7]
        split <;> rfl
theorem hearO_v (w0 : World) (p bm : Nat) (D : Nat → Prop) (s : PS) (x : Option Ms) (v : Value) (w : World) (h : AsmV w0 w p bm D s) (hm : MsO w v x) :
    Calls Try.prog 10 #[.pointer (some ⟨p, 0, none⟩), v] w fun e w' => e = .returned (.bool (s.hearO x).1) ∧ Fr D w w' ∧ ∃ D' : Nat → Prop, AsmV w0 w' p bm D' (s.hearO x).2 ∧ (∀ g, D' g → D g ∨ w.heap.size ≤ g) := by
  cases x with
  | none =>
    obtain rfl := hm
    refine (hear_none_v w0 p bm D s w h).mono ?_
    rintro e w' ⟨rfl, f⟩
    exact ⟨rfl, f.mono (fun _ _ q => q.elim), D, h.frN f, fun g hg => Or.inl hg⟩
  | some m => exact hear_v w0 p bm D s m v w h hm
theorem AsmV.fr {w0 w w' : World} {p bm : Nat} {D S : Nat → Prop} {s : PS} (h : AsmV w0 w p bm D s) (f : Fr S w w') (hS : ∀ g, D g → ¬ S g) (h0 : ∀ g, S g → w0.heap.size ≤ g) : AsmV w0 w' p bm D s := by
  obtain ⟨A, mb, h1, h2, h3, h4⟩ := h
  exact ⟨A, mb, h1, h2.fr f hS, h3, h4.trans f (fun _ _ q => q) (fun i hi q => by have := h0 i q; omega)⟩
theorem AsmV.base {w0 w1 w : World} {p bm : Nat} {D : Nat → Prop} {s : PS} (h : AsmV w1 w p bm D s) (f : Fr noB w0 w1) : AsmV w0 w p bm D s := by
  obtain ⟨A, mb, h1, h2, h3, h4⟩ := h
  exact ⟨A, mb, h1, h2, fun g hg => Nat.le_trans f.size (h3 g hg), f.seqN h4⟩
/-- a record's values -/
structure RVl where
  t : Int
  j : Int
  c : Int
  wh : Bool
  ok : Bool
  L : List (Pn × List Sp)
def rvl (tr jb : Int) : Option (Int × List (Pn × List Sp)) → RVl
  | none => ⟨0, 0, 0, false, false, []⟩
  | some x => ⟨tr, jb, x.1, wholeL x.2, true, x.2⟩
theorem rdrp_nil (w : World) : RdRP w (.slice none 0 0) [] := ⟨none, 0, rfl, by simp, fun i x hi => by simp at hi⟩
theorem RecRd.val {e : Ending} {w w' : World} {tr jb : Int} {r : Option (Int × List (Pn × List Sp))} (h : RecRd e w w' tr jb r) : ∃ v, e = .returned (.tuple #[.agg #[.int .i64 (rvl tr jb r).t, .int .i64 (rvl tr jb r).j, .int .i64 (rvl tr jb r).c, .bool (rvl tr jb r).wh, v], .bool (rvl tr jb r).ok]) ∧ RdRP w' v (rvl tr jb r).L ∧ Fr noB w w' := by
  obtain ⟨h1, h2, h3⟩ := h
  cases r with
  | none => exact ⟨.slice none 0 0, h2 rfl, rdrp_nil _, h1⟩
  | some x =>
    obtain ⟨v, k1, k2⟩ := h3 x.1 x.2 rfl
    exact ⟨v, k1, k2, h1⟩
theorem record_rv (w0 : World) (p bm : Nat) (D : Nat → Prop) (s : PS) (w : World) (h : AsmV w0 w p bm D s) (hl : ∀ c ps, s.man = some (c, ps) → ps.length ≤ 100) :
    Calls Try.prog 16 #[.pointer (some ⟨p, 0, none⟩)] w fun e w' => ∃ v, e = .returned (.tuple #[.agg #[.int .i64 (rvl s.tr s.jb s.recd).t, .int .i64 (rvl s.tr s.jb s.recd).j, .int .i64 (rvl s.tr s.jb s.recd).c, .bool (rvl s.tr s.jb s.recd).wh, v], .bool (rvl s.tr s.jb s.recd).ok]) ∧ RdRP w' v (rvl s.tr s.jb s.recd).L ∧ Fr noB w w' :=
  (record_v w0 p bm D s w h).mono fun e w' hr => (hr.rd (fun c L e => by
    unfold PS.recd at e
    cases hm : s.man with
    | none => rw [hm] at e; cases e
    | some x =>
      rw [hm] at e
      have e' : (recL s.tr s.C x.2).map (fun L => (x.1, L)) = some (c, L) := e
      rw [recL_eq] at e'
      split at e'
      · simp only [Option.map_some, Option.some.injEq, Prod.mk.injEq] at e'
        rw [← e'.2, List.length_map]
        have := hl x.1 x.2 hm
        omega
      · cases e')).val
theorem rrecord_rv (q : Nat) (E : Nat → Prop) (M0 : Nat) (s : PS) (r : RS) (Mm : MR) (ca : Option Addr) (cc : Nat) (w : World) (h : AR w q E M0 r Mm ca cc) (hp : Pair s r) :
    Calls Try.prog 17 #[.pointer (some ⟨q, 0, none⟩)] w fun e w' => ∃ v, e = .returned (.tuple #[.agg #[.int .i64 (rvl s.tr s.jb s.recd).t, .int .i64 (rvl s.tr s.jb s.recd).j, .int .i64 (rvl s.tr s.jb s.recd).c, .bool (rvl s.tr s.jb s.recd).wh, v], .bool (rvl s.tr s.jb s.recd).ok]) ∧ RdRP w' v (rvl s.tr s.jb s.recd).L ∧ Fr noB w w' := by
  rw [← hp.recd, hp.tr, hp.jb]
  cases hm : r.man with
  | none =>
    have e0 : r.recd s.C = none := by unfold RS.recd; rw [hm]
    rw [e0]
    refine (rrecord_none q E M0 r Mm ca cc w h hm).mono ?_
    rintro e w' ⟨rfl, f⟩
    exact ⟨.slice none 0 0, rfl, rdrp_nil _, f⟩
  | some x =>
    obtain ⟨c, ps⟩ := x
    have e0 : r.recd s.C = (recL r.tr s.C ps).map fun L => (c, L) := by unfold RS.recd; rw [hm]
    rw [e0]
    exact (rrecord_some q E M0 r Mm ca cc s.C c ps w h hp.ck hp.h2 hm).mono fun e w' hr => hr.val
end Go.Proofs.Ytdfkjigkpcgngaa
end

section
set_option linter.unusedVariables false
set_option linter.unusedSimpArgs false
set_option maxRecDepth 100000
namespace Go.Proofs.Ytdfkjigkpcgngaa
open Go.ChangeShapes Go.WideShapes Go.ChangeAt Go.RowKit Go Go.Maps Go.Lib

/-- amid the law's loop -/
structure PlI (w wr : World) (p bm q : Nat) (k : Nat) (s : PS) (r : RS) (D E : Nat → Prop) (Mm : MR) (ca : Option Addr) (cc : Nat) : Prop where
  pa : AsmV w wr p bm D s
  pq : AR wr q E w.heap.size r Mm ca cc
  pr : Pair s r
  ap : ∀ g, D g → ¬ E g
  kl : r.K.length ≤ k
theorem PlI.frN {w wr w' : World} {p bm q k : Nat} {s : PS} {r : RS} {D E : Nat → Prop} {Mm : MR} {ca : Option Addr} {cc : Nat} (h : PlI w wr p bm q k s r D E Mm ca cc) (f : Fr noB wr w') : PlI w w' p bm q k s r D E Mm ca cc := ⟨h.pa.frN f, h.pq.frN f, h.pr, h.ap, h.kl⟩
theorem hearB_len (r : RS) (b : Bool) (M : MR) (ps : List Pn) (x : Kq) : (r.hearB b M ps x).2.K.length ≤ r.K.length + 1 := by
  unfold RS.hearB
  split
  · exact Nat.le_succ _
  · split
    · split <;> exact Nat.le_succ _
    · split
      · exact Nat.le_succ _
      · show (r.K ++ [x]).length ≤ _
        rw [List.length_append]; exact Nat.le_refl _
theorem rdsp_lt {w : World} {a : Option Addr} {n c : Nat} {L : List Sp} (h : RdSp w (.slice a n c) L) : L ≠ [] → ∀ g o, a = some ⟨g, o, none⟩ → g < w.heap.size := by
  intro hne g o e
  obtain ⟨a', c', e', _, _, _, h1⟩ := h
  injection e' with e1 e2 e3
  subst e1
  obtain ⟨x, hx⟩ : ∃ x, L[0]? = some x := by cases L with | nil => exact absurd rfl hne | cons y r => exact ⟨y, rfl⟩
  obtain ⟨g', o', e4, c0, _⟩ := h1 0 x hx
  rw [e] at e4
  injection e4 with e4
  injection e4 with e5 e6
  subst e5
  exact lt_of_cell c0
/-- both hear a message -/
theorem both_hear {w wr w7 w8 w9 : World} {m : OpA} {p bm q k : Nat} {s : PS} {r : RS} {D E D' : Nat → Prop} {Mm : MR} {ca : Option Addr} {cc : Nat} (I : PlI w w7 p bm q k s r D E Mm ca cc) (hk : k < 100) (f8 : Fr D w7 w8) (hA : AsmV w w8 p bm D' (s.hearO m.ms).2) (hD : ∀ g, D' g → D g ∨ w7.heap.size ≤ g) (f9 : Fr noB w8 w9)
    {M : MR} (hM : MsM w9 w8.heap.size m M) (hr9 : RfO w9 (mrV M) m.ms) (hs9 : RdSp w9 (.slice m.sa m.sp.length m.sc) m.sp) (hs0 : m.sp ≠ [] → ∀ g o, m.sa = some ⟨g, o, none⟩ → g < w.heap.size) (h20 : m.xs.length ≤ 20) :
    Calls Try.prog 11 #[.pointer (some ⟨q, 0, none⟩), mrV M] w9 fun e w' => e = .returned (.bool (s.hearO m.ms).1) ∧ Fr noB w w' ∧ ∃ s' r' D E Mm ca cc, PlI w w' p bm q (k + 1) s' r' D E Mm ca cc := by
  have R8 := I.pq.fr f8 (fun g hg => by
    rcases hg with hg | hg
    · exact fun e => I.ap g e hg
    · exact fun e => by have := I.pa.ge g e; omega)
  have R9 := R8.frN f9
  obtain ⟨hb1, hb2⟩ := pair_hear I.pr m hM
  rw [hb1]
  refine (rhear_any q E (fun g => w8.heap.size ≤ g ∧ g < w9.heap.size) w.heap.size r Mm ca cc M (okO m.ms) (partsK m m.xs.length) m.kq w9 R9 (fun w' f => rrA_any _ m.ms w' (hr9.frN f)) (fun g hg => ⟨Nat.le_trans hA.fr0.size hg.1, hg.2⟩) (fun g hg e => by have := (R8.lo g e).2; omega) (fun hb h7 => ?_) (fun hb h6 => ?_)).mono ?_
  · by_cases k6 : m.k = 6
    · rw [hM.1 k6] at h7
      exact absurd h7 (by simp)
    · by_cases k7 : m.k = 7
      · obtain ⟨a, c, e, hp⟩ := hM.2.1 k7
        subst e
        have := partsK_len m m.xs.length
        exact ⟨rfl, hp, by omega⟩
      · exact absurd h7 (hM.2.2 k6 k7).2
  · by_cases k6 : m.k = 6
    · have e := hM.1 k6
      obtain ⟨_, _, ht, hj⟩ := bad_no hb
      rw [e] at ht hj
      refine ⟨?_, hs9, hs0, by have := I.kl; omega⟩
      rw [e]
      unfold Kq.mr OpA.kq
      dsimp only at ht hj ⊢
      rw [ht, hj]
    · by_cases k7 : m.k = 7
      · obtain ⟨a, c, e, hp⟩ := hM.2.1 k7
        rw [e] at h6
        exact absurd h6 (by simp)
      · exact absurd h6 (hM.2.2 k6 k7).1
  · rintro e w' ⟨rfl, ⟨M', ca', cc', E', hR', hE'⟩, f10⟩
    have h8 : ∀ g, D' g → ¬ E g := fun g hg e => by
      rcases hD g hg with q | q
      · exact I.ap g q e
      · have := (I.pq.lo g e).2; omega
    have A10 := (hA.frN f9).fr f10 h8 (fun g hg => (R9.lo g hg).1)
    refine ⟨rfl, A10.fr0, _, _, D', E', M', ca', cc', A10, hR', hb2, fun g hg e => ?_, ?_⟩
    · have hlt := hA.lt g hg
      rcases hE' g e with q | q | q
      · exact h8 g hg q
      · have := q.1; omega
      · have := f9.size; omega
    · have := hearB_len r (okO m.ms) M (partsK m m.xs.length) m.kq
      have := I.kl
      omega

set_option maxHeartbeats 16000000 in
theorem playsA_any (t j : Int) (v : Value) (xs : List OpA) (w : World) (hv : SlR w v 9 (IsOpA w) xs) :
    Calls Try.prog 3 #[.int .i64 t, .int .i64 j, v] w fun e w' => e = .returned (.bool true) ∧ Fr noB w w' := by
  have hfew := fun w' (f : Fr noB w w') => fewOps_any v xs w w' (hv.frame f (fun _ _ q => q)) f
  obtain ⟨va, vc, rfl, hx1, hx2, hx3⟩ := hv
  unfold maxLen at hx2
  obtain ⟨n, hn⟩ : ∃ n, xs.length = n := ⟨_, rfl⟩
  rw [hn] at hx1 ⊢
  simp only [hn] at hfew
  have hnb : n ≤ 9223372036854775807 := by have := hx1.1; omega
  have hget : ∀ k, k < n → ∃ m, xs[k]? = some m := fun k hk => ⟨xs[k]'(by rw [hn]; exact hk), List.getElem?_eq_getElem _⟩
  have hok : fewAB xs = true → n ≤ 100 ∧ ∀ m ∈ xs, m.xs.length ≤ 20 := fun h => by
    unfold fewAB okOpA at h
    simp only [Bool.and_eq_true, List.all_eq_true, decide_eq_true_eq] at h
    exact ⟨by omega, fun m hm => (h.1 m hm).2.1⟩
  replace hn := Lib.hid hn
  replace hx3 := Lib.hid hx3
  replace hfew := Lib.hid hfew
  replace hget := Lib.hid hget
  go_enter Try.func3, Try.ntmps3
  go_wp2_with fail
  go_fit (awake_any w)
  rintro e w2 ⟨rfl, g2⟩
  have hf2 := hfew.out w2 g2
  generalize fewAB xs = fw at *
  cases fw
  · clear hok
    go_wp2_with fail
    go_fit hf2
    rintro e w3 ⟨rfl, f3⟩
    have g3 := g2.seqN f3
    clear f3 hf2 g2
    go_wp2_with fail
    go_fit (awake_any w3)
    rintro e w4 ⟨rfl, f4⟩
    have g4 := g3.seqN f4
    clear f4 g3
    go_wp2_with fail
    go_ret
    exact ⟨rfl, g4⟩
  obtain ⟨hn100, hxs20⟩ := hok rfl
  replace hxs20 := Lib.hid hxs20
  clear hok
  go_wp2_with fail
  go_fit hf2
  rintro e w3 ⟨rfl, f3⟩
  have g3 := g2.seqN f3
  clear f3 hf2 g2 hfew
  go_wp2_with fail
  go_fit (new_v t j w3)
  rintro e w4 ⟨p, bm, D0, rfl, hA4⟩
  have hA4' := hA4.base g3
  have g4 := hA4'.fr0
  obtain ⟨qb, hqb⟩ : ∃ qb, w4.heap.size = qb := ⟨_, rfl⟩
  have fQ : Fr noB w4 (w4.alloc (.cells #[.int .i64 t, .int .i64 j, .int .i64 0, .int .i64 0, .int .i64 0, .int .i64 0, .int .i64 0, .int .i64 0, .int .i64 0, .int .i64 0, .int .i64 0, .int .i64 0, .int .i64 0, .slice none 0 0, .bool false, .slice none 0 0, .slice none 0 0, .bool false, .slice none 0 0] 37)) := (Fr.refl _ _).alloc _
  have bQ := Blk.new w4 37 [.int .i64 t, .int .i64 j, .int .i64 0, .int .i64 0, .int .i64 0, .int .i64 0, .int .i64 0, .int .i64 0, .int .i64 0, .int .i64 0, .int .i64 0, .int .i64 0, .int .i64 0, .slice none 0 0, .bool false, .slice none 0 0, .slice none 0 0, .bool false, .slice none 0 0]
  have hsQ : (w4.alloc (.cells #[.int .i64 t, .int .i64 j, .int .i64 0, .int .i64 0, .int .i64 0, .int .i64 0, .int .i64 0, .int .i64 0, .int .i64 0, .int .i64 0, .int .i64 0, .int .i64 0, .int .i64 0, .slice none 0 0, .bool false, .slice none 0 0, .slice none 0 0, .bool false, .slice none 0 0] 37)).heap.size = qb + 1 := by rw [size_alloc, hqb]
  rw [hqb] at bQ
  have hlt4 := hA4'.lt
  rw [hqb] at hlt4
  have hwq : w.heap.size ≤ qb := by rw [← hqb]; exact g4.size
  have I0 : PlI w (w4.alloc (.cells #[.int .i64 t, .int .i64 j, .int .i64 0, .int .i64 0, .int .i64 0, .int .i64 0, .int .i64 0, .int .i64 0, .int .i64 0, .int .i64 0, .int .i64 0, .int .i64 0, .int .i64 0, .slice none 0 0, .bool false, .slice none 0 0, .slice none 0 0, .bool false, .slice none 0 0] 37)) p bm qb 0 ⟨t, j, none, []⟩ ⟨t, j, none, []⟩ D0 (fun g => g = qb) {} none 0 :=
    ⟨hA4'.frN fQ, ⟨bQ, fun c ps e => (by cases e), World.ownsRow_nil _ _ _ _, fun k hk => (by cases hk), rfl, fun g hg => (by cases hg), fun g hg => (by subst hg; rw [hsQ]; omega), Nat.zero_le _⟩, Pair.new t j, fun g hg e => by have := hlt4 g hg; omega, Nat.le_refl _⟩
  have g5 := g4.seqN fQ
  replace I0 := Lib.hid I0
  replace g5 := Lib.hid g5
  clear hA4 hA4' g4 fQ bQ hsQ hlt4 g3
  go_wp2_with fail
  try rw [hqb]
  replace hqb := Lib.hid hqb
  generalize (w4.alloc (.cells #[.int .i64 t, .int .i64 j, .int .i64 0, .int .i64 0, .int .i64 0, .int .i64 0, .int .i64 0, .int .i64 0, .int .i64 0, .int .i64 0, .int .i64 0, .int .i64 0, .int .i64 0, .slice none 0 0, .bool false, .slice none 0 0, .slice none 0 0, .bool false, .slice none 0 0] 37)) = w5 at *
  replace hwq := Lib.hid hwq
  go_loopg [33] n (fun gk i wr => ∃ (k : Nat) (s : PS) (r : RS) (D E : Nat → Prop) (Mm : MR) (ca : Option Addr) (cc : Nat), k + gk = n ∧ i = .int .i64 k ∧ Hid (PlI w wr p bm qb k s r D E Mm ca cc) ∧ Hid (Fr noB w wr))
  case atStart => exact ⟨0, _, _, _, _, _, _, _, Nat.zero_add _, rfl, I0, g5⟩
  case round =>
    clear I0 g5
    obtain ⟨k, s, r, D, E, Mm, ca, cc, hk, rfl, hI, fr⟩ := hrel
    by_cases hlt : k < n
    · obtain ⟨x, hx⟩ := hget.out k hlt
      obtain ⟨g', o', cs', rfl, _, ⟨rfl, hsp, hri, _⟩, hc⟩ := hx3.out k x hx
      have h20 := hxs20.out x (List.mem_of_getElem? hx)
      have c0 := fr.out.cell (hc 0 _ rfl) (fun q => q)
      have c1 := fr.out.cell (hc 1 _ rfl) (fun q => q)
      have c2 := fr.out.cell (hc 2 _ rfl) (fun q => q)
      have c3 := fr.out.cell (hc 3 _ rfl) (fun q => q)
      have c4 := fr.out.cell (hc 4 _ rfl) (fun q => q)
      have c5 := fr.out.cell (hc 5 _ rfl) (fun q => q)
      have c6 := fr.out.cell (hc 6 _ rfl) (fun q => q)
      have c7 := fr.out.cell (hc 7 _ rfl) (fun q => q)
      have c8 := fr.out.cell (hc 8 _ rfl) (fun q => q)
      rw [Nat.add_zero] at c0
      simp only [← Nat.add_assoc] at c1 c2 c3 c4 c5 c6 c7 c8
      have hsl := rdsp_lt hsp
      have hb1 : (k : Int) < n := by omega
      have hmeas : n - (k + 1) < gk := by omega
      have hkn2 : k + 1 + (n - (k + 1)) = n := by omega
      have hk100 : k < 100 := by omega
      have fA : Fr noB wr (wr.alloc (.cells (opaC x).toArray 39)) := (Fr.refl _ _).alloc _
      have hmsg := messageC_any x (wr.alloc (.cells (opaC x).toArray 39)) (hsp.frN (fr.out.seqN fA)) (hri.frN (fr.out.seqN fA)) h20
      unfold opaC at hmsg fA
      replace hmsg := Lib.hid hmsg
      replace hmeas := Lib.hid hmeas
      replace hkn2 := Lib.hid hkn2
      replace hsl := Lib.hid hsl
      replace hsp := Lib.hid hsp
      replace hk100 := Lib.hid hk100
      replace h20 := Lib.hid h20
      replace hx := Lib.hid hx
      replace fA := Lib.hid fA
      clear hc hri hk
      go_wp2_with fail
      go_fit hmsg.out
      rintro e w7 ⟨mv, rfl, hmo, hmb, f7⟩
      have f17 := fA.out.seqN f7
      have I7 := hI.out.frN f17
      have hA := hearO_v w p bm D s x.ms mv w7 I7.pa hmo
      have hszA : wr.heap.size ≤ (wr.alloc (.cells #[.int .i64 x.k, .int .i64 x.a, .int .i64 x.t, .int .i64 x.j, .int .i64 x.i, .int .i64 x.n, .slice x.sa x.sp.length x.sc, .slice x.ua x.xs.length x.uc, .bool x.lo] 39)).heap.size := fA.out.size
      have hDlt : ∀ g, D g → g < wr.heap.size := hI.out.pa.lt
      have hs7 := hsp.out.frN (fr.out.seqN f17)
      have hkeep := fun w8 (f8 : Fr D w7 w8) => hmb.keep (M0 := w.heap.size) hmo hs7 hsl.out f8 (fun g hg e => by
        have h1 := hDlt g e
        have h2 := I7.pa.ge g e
        rcases hg with hg | hg <;> omega)
      replace hA := Lib.hid hA
      replace hkeep := Lib.hid hkeep
      replace I7 := Lib.hid I7
      replace hs7 := Lib.hid hs7
      have fr7 := Lib.hid (fr.out.seqN f17)
      clear c0 c1 c2 c3 c4 c5 c6 c7 c8 hmsg fA f7 hmo hmb f17 hszA hDlt fr hI
      go_wp2_with fail
      go_fit hA.out
      rintro e w8 ⟨rfl, f8, D8, hA8, hD8⟩
      obtain ⟨ho8, h68⟩ := hkeep.out w8 f8
      have hs8 := hs7.out.fr1 f8 (fun hne g o n c e => fun q => by
        have h1 := hsl.out hne g o (by injection e)
        have h2 := I7.out.pa.ge g q
        omega)
      have hlk := likeB_any x mv w8 h20.out hs8 ho8 h68
      replace hlk := Lib.hid hlk
      replace f8 := Lib.hid f8
      replace hA8 := Lib.hid hA8
      replace hD8 := Lib.hid hD8
      replace hs8 := Lib.hid hs8
      clear hA hkeep ho8 h68 hs7
      go_wp2_with fail
      go_fit hlk.out
      rintro e w9 ⟨u, rfl, hro, hrb, f9⟩
      obtain ⟨M, rfl, hM⟩ := rfo_mr hro hrb
      have hbh := both_hear (wr := wr) I7.out hk100.out f8.out hA8.out hD8.out f9 hM hro (hs8.out.frN f9) hsl.out h20.out
      obtain ⟨bb, hbb⟩ : ∃ bb, (s.hearO x.ms).1 = bb := ⟨_, rfl⟩
      rw [hbb] at hbh ⊢
      have hne : (bb != bb) = false := by simp
      replace hbh := Lib.hid hbh
      replace hbb := Lib.hid hbb
      clear hlk hro hrb f9 hM hs8 f8 hA8 hD8
      go_wp2_with fail
      go_fit hbh.out
      rintro e w10 ⟨rfl, fr10, s', r', D', E', Mm', ca', cc', I10⟩
      have hmp := missing_v w p bm D' s' w10 I10.pa
      clear hbh
      replace hmp := Lib.hid hmp
      replace I10 := Lib.hid I10
      replace fr10 := Lib.hid fr10
      go_wp2_with fail
      go_fit hmp.out
      rintro e w11 ⟨v1, rfl, o11, f11⟩
      have I11 := I10.out.frN f11
      have hmr := rmissing_any qb E' w.heap.size r' Mm' ca' cc' s'.C w11 I11.pq I11.pr.ck I11.pr.h2
      rw [I11.pr.miss] at hmr
      have rd11 := RdI.of_own o11
      have fr11 := Lib.hid (fr10.out.seqN f11)
      replace hmr := Lib.hid hmr
      replace I11 := Lib.hid I11
      replace rd11 := Lib.hid rd11
      clear hmp o11 f11 I10 fr10
      go_wp2_with fail
      go_fit hmr.out
      rintro e w12 ⟨v2, rfl, o12, f12⟩
      have hsi := sameInts_any v1 v2 s'.miss s'.miss w12 (rd11.out.frN f12) (RdI.of_own o12)
      rw [decide_eq_true (rfl : s'.miss = s'.miss)] at hsi
      have I12 := Lib.hid (I11.out.frN f12)
      have fr12 := Lib.hid (fr11.out.seqN f12)
      replace hsi := Lib.hid hsi
      clear hmr o12 f12 I11 fr11 rd11
      go_wp2_with fail
      go_fit hsi.out
      rintro e w13 ⟨rfl, nq, rfl⟩
      have I13 := I12.out.frN ((Fr.refl noB w12).drewN nq)
      have fr13 := Lib.hid (fr12.out.drewN nq)
      generalize w12.drewN nq = w13 at *
      obtain ⟨R, hR⟩ : ∃ R, rvl s'.tr s'.jb s'.recd = R := ⟨_, rfl⟩
      have hrp := record_rv w p bm D' s' w13 I13.pa (fun c ps e => (I13.pq.man c ps (by rw [← I13.pr.man]; exact e)).2.2.1)
      rw [hR] at hrp
      replace hrp := Lib.hid hrp
      replace I13 := Lib.hid I13
      clear hsi I12 fr12
      go_wp2_with fail
      go_fit hrp.out
      rintro e w14 ⟨v3, rfl, rr3, f14⟩
      have rr3' := rr3
      obtain ⟨a3, c3, rfl, _⟩ := rr3'
      obtain ⟨n3, hn3⟩ : ∃ n3, R.L.length = n3 := ⟨_, rfl⟩
      rw [hn3] at rr3 ⊢
      have fB : Fr noB w14 (w14.alloc (.cells #[.int .i64 R.t, .int .i64 R.j, .int .i64 R.c, .bool R.wh, .slice a3 n3 c3] 50)) := (Fr.refl _ _).alloc _
      have bB := Blk.new w14 50 [.int .i64 R.t, .int .i64 R.j, .int .i64 R.c, .bool R.wh, .slice a3 n3 c3]
      have I15 := (I13.out.frN f14).frN fB
      have fr15 := Lib.hid ((fr13.out.seqN f14).seqN fB)
      have hrr := rrecord_rv qb E' w.heap.size s' r' Mm' ca' cc' _ I15.pq I15.pr
      rw [hR] at hrr
      obtain ⟨xb, hxb⟩ : ∃ xb, w14.heap.size = xb := ⟨_, rfl⟩
      rw [hxb] at bB
      have rr15 := Lib.hid (rr3.frN fB)
      replace hrr := Lib.hid hrr
      replace I15 := Lib.hid I15
      replace bB := Lib.hid bB
      clear hrp rr3 I13 fr13 f14 fB hR
      go_wp2_with fail
      try rw [hxb]
      replace hxb := Lib.hid hxb
      go_fit hrr.out
      generalize (w14.alloc (.cells #[.int .i64 R.t, .int .i64 R.j, .int .i64 R.c, .bool R.wh, .slice a3 n3 c3] 50)) = w15 at *
      rintro e w16 ⟨v4, rfl, rr4, f16⟩
      have rr4' := rr4
      obtain ⟨a4, c4, rfl, _⟩ := rr4'
      rw [hn3] at rr4 ⊢
      have fC : Fr noB w16 (w16.alloc (.cells #[.int .i64 R.t, .int .i64 R.j, .int .i64 R.c, .bool R.wh, .slice a4 n3 c4] 50)) := (Fr.refl _ _).alloc _
      have bC := Blk.new w16 50 [.int .i64 R.t, .int .i64 R.j, .int .i64 R.c, .bool R.wh, .slice a4 n3 c4]
      have I17 := Lib.hid ((I15.out.frN f16).frN fC)
      have fr17 := Lib.hid ((fr15.out.seqN f16).seqN fC)
      have bB17 := (f16.seqN fC).blk bB.out (fun q => q)
      have hsm := same16_any R.t R.j R.c R.wh _ _ R.L _ (rr15.out.frN (f16.seqN fC)) (rr4.frN fC)
      obtain ⟨yb, hyb⟩ : ∃ yb, w16.heap.size = yb := ⟨_, rfl⟩
      rw [hyb] at bC
      replace hsm := Lib.hid hsm
      clear hrr rr4 rr15 I15 fr15 f16 fC bB
      go_upto_region 13 with fail
      try rw [hyb]
      replace hyb := Lib.hid hyb
      generalize (w16.alloc (.cells #[.int .i64 R.t, .int .i64 R.j, .int .i64 R.c, .bool R.wh, .slice a4 n3 c4] 50)) = w17 at *
      have x0 : w17.cell? ⟨xb, 0, none⟩ = some (.int .i64 R.t) := bB17.cell 0
      have x1 : w17.cell? ⟨xb, 1, none⟩ = some (.int .i64 R.j) := bB17.cell 1
      have x2 : w17.cell? ⟨xb, 2, none⟩ = some (.int .i64 R.c) := bB17.cell 2
      have x3 : w17.cell? ⟨xb, 3, none⟩ = some (.bool R.wh) := bB17.cell 3
      have x4 : w17.cell? ⟨xb, 4, none⟩ = some (.slice a3 n3 c3) := bB17.cell 4
      have y0 : w17.cell? ⟨yb, 0, none⟩ = some (.int .i64 R.t) := bC.cell 0
      have y1 : w17.cell? ⟨yb, 1, none⟩ = some (.int .i64 R.j) := bC.cell 1
      have y2 : w17.cell? ⟨yb, 2, none⟩ = some (.int .i64 R.c) := bC.cell 2
      have y3 : w17.cell? ⟨yb, 3, none⟩ = some (.bool R.wh) := bC.cell 3
      have y4 : w17.cell? ⟨yb, 4, none⟩ = some (.slice a4 n3 c4) := bC.cell 4
      have hne2 : (R.ok != R.ok) = false := by simp
      replace bB17 := Lib.hid bB17
      replace bC := Lib.hid bC
      replace hn3 := Lib.hid hn3
      go_wp2_with fail
      go_fit hsm.out
      rintro e w18 ⟨rfl, f18⟩
      have I18 := Lib.hid (I17.out.frN f18)
      have fr18 := Lib.hid (fr17.out.seqN f18)
      clear x0 x1 x2 x3 x4 y0 y1 y2 y3 y4 hsm f18 I17 fr17
      go_wp2_with fail
      go_roundg (n - (k + 1))
      case rel => exact ⟨k + 1, s', r', D', E', Mm', ca', cc', hkn2.out, by go_num, I18, fr18⟩
      case measure => exact hmeas.out
    · obtain rfl : k = n := by omega
      go_wp2_with fail
      go_ret
      exact ⟨rfl, fr.out⟩
theorem playsA_cs (t j : Int) (v : Value) (xs : List OpA) (w : World) (_ : (Lit.int .i64 t).wf = true) (_ : (Lit.int .i64 j).wf = true) (hv : SlR w v 9 (IsOpA w) xs) :
    Calls Try.prog 3 #[.int .i64 t, .int .i64 j, v] w fun e w' => e = .returned (.bool true) ∧ Fr noB w w' := playsA_any t j v xs w hv
end Go.Proofs.Ytdfkjigkpcgngaa
end

section
set_option linter.unusedVariables false
set_option linter.unusedSimpArgs false
namespace Go.Proofs.Ytdfkjigkpcgngaa.assemblePlays
open Go.ChangeShapes Go.WideShapes Go.ChangeAt Go.RowKit
open Go.ChangeMaps (open_string shut_string)

theorem own : ownKnob Try.prog.godebug = none := by kernel_rfl
theorem laidOut : laidOutB Try.prog = true := by kernel_rfl

set_option maxRecDepth 100000 in
theorem lifted (os : Os) (started : os.Started) (H : Type) (enc : TypeId × Value → H) :
    ReturnsInHanded {} Try.checked os 3 .any (Rows.assemblePlaysSpec.pre6 enc Try.prog Try.f3 Rows.assemblePlaysRow.domain false) (Rows.assemblePlaysSpec.post enc Try.prog Try.f3 false true false false) := by
  refine returnsInHanded_of_change (C := Try.checked) own started (by kernel_rfl) Try.func3
    (ChangeSpec.witness6 (enc := enc) (C := Try.checked) false ⟨#[], #[.int .i64 0, .int .i64 0, .slice none 0 0], []⟩ 8 (by kernel_rfl) (by kernel_rfl) (by kernel_rfl) (by kernel_rfl)) ?_
  intro W base args ds gs before hval0 hW hcnd _
  have hval : ∀ (j : Nat) t v, Try.f3.params[j]? = some t → args[j]? = some v → Value.okWide Try.prog W .any base t v := hval0
  have hW' := hW
  obtain ⟨p, q, hA0, hV, rfl, hfz, hnd⟩ := hW
  have hA : DataW.TrodAll enc Try.prog W 0 (fun _ => true) true Try.f3.params.toList args.toList ds p := hA0
  rw [Try.params3] at hA hval
  obtain ⟨v0, vs0, d0, ds0, p0, q0, hargs, rfl, rfl, h0, r0⟩ := trodAll_cons hA
  obtain ⟨v1, vs1, d1, ds1, p1, q1, rfl, rfl, rfl, h1, r1⟩ := trodAll_cons r0
  obtain ⟨v2, vs2, d2, ds2, p2, q2, rfl, rfl, rfl, h2, r2⟩ := trodAll_cons r1
  obtain ⟨rfl, rfl, rfl⟩ := trodAll_nil r2
  obtain rfl : args = #[v0, v1, v2] := by cases args; simp_all
  obtain ⟨rfl, rfl⟩ := trodVars_none hV
  obtain ⟨a0, rfl, rfl, rfl, w0⟩ := open_int Try.underlying3 (hval 0 3 v0 rfl rfl) h0
  obtain ⟨a1, rfl, rfl, rfl, w1⟩ := open_int Try.underlying3 (hval 1 3 v1 rfl rfl) h1
  have k2 := h2
  have lt2 : ∀ x ∈ p2, x.block < W.heap.size := by obtain ⟨m, hm⟩ := k2; exact DataW.trod_lt m _ _ _ hm
  obtain ⟨xs2, w2⟩ : ∃ xs, SlR W v2 9 (IsOpA W) xs := by
    obtain ⟨fuel, hf⟩ := h2
    exact slr_of_trod _ Try.underlying22 (by kernel_rfl) (by omega) (okWide_slice Try.underlying22 (hval 2 22 v2 rfl rfl)) hf (opa_open)
  clear hA0 hval0
  refine (playsA_cs a0 a1 v2 xs2 W w0 w1 w2).mono fun e W' ⟨he, fr⟩ => ?_
  have bel := Fr.below fr
  subst he
  exact ⟨_, rfl, _, _, _, [], _, [], hW', trodAll_mk1 (shut_bool Try.underlying4 _), (trodAll_cons_mk (shut_int Try.underlying3 w0) (trodAll_cons_mk (shut_int Try.underlying3 w1) (trodAll_cons_mk (Below.trod laidOut (by kernel_rfl) (of_decide_eq_true (by kernel_rfl)) k2 bel lt2) trodAll_mk0))), rfl, bel.frame _, fun h => by cases h⟩

theorem over : Rows.assemblePlaysRow.holds Try.pinned (OpenSpec.ofChange Rows.assemblePlaysSpec) :=
  OpenClaim.holds_of_wide 3 Try.f3 rfl rfl rfl rfl rfl rfl rfl ⟨rfl, rfl, rfl, rfl, rfl⟩ rfl rfl rfl rfl rfl (by kernel_rfl) Try.func3 (by kernel_rfl)
    (of_decide_eq_true (by kernel_rfl)) (by unfold Func.isWrapper; first | (rw [if_pos (by decide +kernel)]; kernel_rfl) | (rw [if_neg (by decide +kernel)]; exact ⟨rfl, rfl⟩))
    (fun os started H enc _ => lifted os started H enc)

theorem proved : Rows.AssemblePlaysSaid := over
#print axioms proved
end Go.Proofs.Ytdfkjigkpcgngaa.assemblePlays
end
