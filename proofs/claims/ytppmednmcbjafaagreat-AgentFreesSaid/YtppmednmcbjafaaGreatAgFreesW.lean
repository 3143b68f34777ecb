/-
  Stage 12: let go a trace has nothing left at its agent.
-/
import Derived.Test.YtppmednmcbjafaaGreatAgL
set_option linter.unusedVariables false
set_option linter.unusedSimpArgs false
set_option maxRecDepth 100000
set_option maxRecDepth 100000
namespace Go.Proofs.YtppmednmcbjafaaGreat
open Go.RowKit Go Go.Maps Go.Lib

/-- no job was heard of that is 100 or more -/
def AG.Lo (A : AG) : Prop := ∀ t, A.job t < 100 ∧ A.over t < 100 ∧ A.done t < 100
theorem AG.Lo.cr {A : AG} (h : A.Lo) (t o : Int) : (A.cr t o).Lo := by
  unfold AG.cr
  split
  · exact h
  · exact h
theorem AG.Lo.pn {A : AG} (h : A.Lo) {t j : Int} (hj : j < 100) : (A.pn t j).Lo := by
  unfold AG.pn
  split
  · exact h
  split
  · exact h
  intro u
  refine ⟨?_, (h u).2.1, (h u).2.2⟩
  show ((if u = t then some (j, A.now + A.T) else A.hold u).getD (0, 0)).1 < 100
  split
  · exact hj
  · exact (h u).1
theorem AG.Lo.un {A : AG} (h : A.Lo) {t j : Int} (hj : j < 100) : (A.un t j).Lo := by
  have hd : (A.dn t j).Lo := fun u => ⟨(h u).1, (h u).2.1, by
    unfold AG.dn
    simp only
    split
    · have := (h t).2.2; omega
    · exact (h u).2.2⟩
  unfold AG.un
  split
  · intro u
    refine ⟨?_, (hd u).2.1, (hd u).2.2⟩
    show ((if u = t then none else A.hold u).getD (0, 0)).1 < 100
    split
    · simp
    · exact (h u).1
  · exact hd
theorem ms_n {o : OpA} {t j : Int} (h : o.ms = some (.pin t j) ∨ o.ms = some (.unpin t j)) : j = o.n := by
  unfold OpA.ms at h
  by_cases h5 : o.k = 5
  · rw [if_pos h5] at h; rcases h with h | h <;> cases h; rfl
  rw [if_neg h5] at h
  by_cases h6 : o.k = 6
  · rw [if_pos h6] at h; rcases h with h | h <;> cases h
  rw [if_neg h6] at h
  by_cases h7 : o.k = 7
  · rw [if_pos h7] at h; rcases h with h | h <;> cases h; rfl
  rw [if_neg h7] at h
  by_cases h8 : o.k = 8
  · rw [if_pos h8] at h; rcases h with h | h <;> cases h
  rw [if_neg h8] at h
  by_cases h9 : o.k = 9
  · rw [if_pos h9] at h; rcases h with h | h <;> cases h; rfl
  rw [if_neg h9] at h
  by_cases h10 : o.k = 10
  · rw [if_pos h10] at h; rcases h with h | h <;> cases h
  rw [if_neg h10] at h
  rcases h with h | h <;> cases h
theorem AG.Lo.hear {A : AG} (h : A.Lo) (m : Ms) (hm : ∀ t j, m = .pin t j ∨ m = .unpin t j → j < 100) : (A.hear m).Lo := by
  unfold AG.hear
  split
  · exact h
  · cases m with
    | pin t j => exact h.pn (hm t j (Or.inl rfl))
    | unpin t j => exact h.un (hm t j (Or.inr rfl))
    | _ => exact h
theorem AG.Lo.ear {A : AG} (h : A.Lo) (o : OpA) (hn : o.n < 100) : (A.ear o).Lo := by
  unfold AG.ear
  split
  · next m e =>
    refine h.hear m (fun t j q => ?_)
    have : j = o.n := ms_n (by rcases q with rfl | rfl; exact Or.inl e; exact Or.inr e)
    omega
  · exact h

/-- an agent amid the law -/
def FIn (w0 w : World) (p n : Nat) : Prop := ∃ col A, AgIn w0 w p col n A ∧ A.Lo
theorem FIn.frN {w0 w w' : World} {p n : Nat} (h : FIn w0 w p n) (f : Fr noB w w') : FIn w0 w' p n := by
  obtain ⟨col, A, h1, h2⟩ := h
  exact ⟨col, A, h1.frN f, h2⟩
theorem FIn.fr {w0 w : World} {p n : Nat} (h : FIn w0 w p n) : Fr noB w0 w := by
  obtain ⟨col, A, h1, h2⟩ := h
  exact h1.fr
theorem FIn.up {w0 w : World} {p n : Nat} (h : FIn w0 w p n) (hn : n < 100000) : FIn w0 w p (n + 1) := by
  obtain ⟨col, A, ⟨⟨a, ha⟩, h2, h3⟩, h4⟩ := h
  exact ⟨col, A, ⟨⟨a, ha.up (Nat.le_succ n) (by omega)⟩, h2, h3⟩, h4⟩
theorem fin_span {w0 w : World} {p n : Nat} (t : Int) (x : ByteArray) (h : FIn w0 w p n) (hn : n < 100000) : Calls Tryz.prog 13 #[.pointer (some ⟨p, 0, none⟩), .int .i64 t, .string x] w fun e w' => (∃ u z, e = .returned (.tuple #[u, z])) ∧ FIn w0 w' p (n + 1) := by
  obtain ⟨col, A, h1, h2⟩ := h
  exact (ag_spanIn t x h1 hn).mono fun e w' ⟨k1, c2, k2⟩ => ⟨⟨_, _, k1⟩, c2, _, k2, h2⟩
theorem fin_crumb {w0 w : World} {p n : Nat} {t o : Int} (h : FIn w0 w p n) (ht : okI t) (hn : n < 100000) : Calls Tryz.prog 15 #[.pointer (some ⟨p, 0, none⟩), .int .i64 t, .int .i64 o] w fun e w' => (∃ z, e = .returned (.int .i64 z)) ∧ FIn w0 w' p (n + 1) := by
  obtain ⟨col, A, h1, h2⟩ := h
  exact (ag_crumbIn h1 ht hn).mono fun e w' ⟨k1, c2, k2⟩ => ⟨⟨_, k1⟩, c2, _, k2, h2.cr t o⟩
theorem fin_ear {w0 w : World} {p n : Nat} (o : OpA) (ho : o.n < 100) (h : FIn w0 w p n) (hn : n < 100000) : Calls Tryz.prog 23 #[.pointer (some ⟨p, 0, none⟩), o.msv] w fun e w' => (∃ u v, e = .returned (.tuple #[u, v])) ∧ FIn w0 w' p (n + 1) := by
  obtain ⟨col, A, h1, h2⟩ := h
  exact (ag_ear p col n A o w0 w h1 hn).mono fun e w' ⟨u, v, c2, k1, k2⟩ => ⟨⟨u, v, k1⟩, c2, _, k2, h2.ear o ho⟩
theorem ag_hearL {w0 w : World} {p n : Nat} {col : Nat → Nat} {A : AG} (v : Value) (m : Ms) (hv : ∀ u, MsW u v m) (h : AgIn w0 w p col n A) (hn : n < 100000) : Calls Tryz.prog 23 #[.pointer (some ⟨p, 0, none⟩), v] w fun e w' => (∃ a1 c1 u, e = .returned (.tuple #[.slice a1 (A.outs m).1.length c1, u])) ∧ ∃ c2, AgIn w0 w' p c2 (n + 1) (A.hear m) := by
  obtain ⟨a, ha⟩ := h.ag
  refine (ag_hear p col n A a v m w ha hn (hv w)).mono ?_
  rintro e w' ⟨u1, u2, c2, rfl, hto, hk⟩
  obtain ⟨a1, c1, rfl, _⟩ := hk.now.1
  exact ⟨⟨a1, c1, u2, rfl⟩, c2, h.step hto⟩
theorem ag_spansL {w0 w : World} {p n : Nat} {col : Nat → Nat} {A : AG} {t : Int} (h : AgIn w0 w p col n A) (h0 : txt A.K.P t = []) : Calls Tryz.prog 28 #[.pointer (some ⟨p, 0, none⟩), .int .i64 t] w fun e w' => (∃ sa sc, e = .returned (.slice sa 0 sc)) ∧ Fr noB w w' := by
  obtain ⟨a, ha⟩ := h.ag
  have := ag_spans p col n A a t w ha
  rw [h0] at this
  refine this.mono ?_
  rintro e w' ⟨u, rfl, o, f⟩
  obtain ⟨x, y, rfl⟩ := ownsRow_slice o
  exact ⟨⟨x, y, rfl⟩, f⟩
theorem ag_crumbsL {w0 w : World} {p n : Nat} {col : Nat → Nat} {A : AG} {t : Int} (h : AgIn w0 w p col n A) (ht : okI t) (h0 : A.X t = []) : Calls Tryz.prog 30 #[.pointer (some ⟨p, 0, none⟩), .int .i64 t] w fun e w' => (∃ sa sc, e = .returned (.slice sa 0 sc)) ∧ Fr noB w w' := by
  obtain ⟨a, ha⟩ := h.ag
  have := ag_crumbs p col n A a t w ha ht
  rw [h0] at this
  refine this.mono ?_
  rintro e w' ⟨u, rfl, o, f⟩
  obtain ⟨x, y, rfl⟩ := ownsRow_slice o
  exact ⟨⟨x, y, rfl⟩, f⟩
theorem okPin {T J : Int} (h1 : 1 ≤ T) (h2 : T ≤ 9) (h3 : 100 ≤ J) (h4 : J ≤ 200) : Ms.ok (.pin T J) = true ∧ Ms.ok (.unpin T J) = true := by
  have hb : bPin T J = true := by
    unfold bPin inB
    simp
    omega
  exact ⟨hb, hb⟩
/-- what is left of a trace that was let go -/
theorem frees (A : AG) (T J : Int) (h1 : 1 ≤ T) (h2 : T ≤ 9) (h3 : 100 ≤ J) (h4 : J ≤ 200) (h : A.Lo) : ∃ A1 A2 A3 A4, A.hear (.pin T J) = A1 ∧ (A.outs (.pin T J)).1.length = 1 ∧ A1.hear (.unpin T J) = A2 ∧ (A1.outs (.unpin T J)).1.length = 1 ∧ A2.hear (.unpin T J) = A3 ∧ (A2.outs (.unpin T J)).1.length = 1 ∧ A3.hear (.pin T J) = A4 ∧ (A3.outs (.pin T J)).1.length = 0 ∧ A4.job T = 0 ∧ txt A4.K.P T = [] ∧ A4.X T = [] ∧ T ∉ A4.K.loss := by
  obtain ⟨k1, k2⟩ := okPin h1 h2 h3 h4
  obtain ⟨l1, l2, l3⟩ := h T
  have n1 : ¬ (J ≤ A.done T ∨ J < A.job T) := by omega
  have n2 : ¬ (J ≤ A.over T) := by omega
  have hp : ∀ B : AG, B.hear (.pin T J) = B.pn T J := fun B => by unfold AG.hear; rw [if_neg (by rw [k1]; decide)]
  have hu : ∀ B : AG, B.hear (.unpin T J) = B.un T J := fun B => by unfold AG.hear; rw [if_neg (by rw [k2]; decide)]
  have op : ∀ B : AG, (B.outs (.pin T J)).1 = B.pu T J := fun B => by unfold AG.outs; rw [if_neg (by rw [k1]; decide)]
  have ou : ∀ B : AG, (B.outs (.unpin T J)).1.length = 1 := fun B => by unfold AG.outs; rw [if_neg (by rw [k2]; decide)]; rfl
  obtain ⟨A1, e1⟩ : ∃ A1, A.pn T J = A1 := ⟨_, rfl⟩
  have j1 : A1.job T = J := by
    have e1' : A.pn T J = { A with hold := fun u => if u = T then some (J, A.now + A.T) else A.hold u, K := { A.K with pins := outL A.K.pins T ++ [T] } } := by unfold AG.pn; rw [if_neg n1, if_neg n2]
    rw [← e1, e1']
    show ((if T = T then some (J, A.now + A.T) else A.hold T).getD (0, 0)).1 = J
    rw [if_pos rfl]
    rfl
  obtain ⟨A2, e2⟩ : ∃ A2, A1.un T J = A2 := ⟨_, rfl⟩
  have e2' : A2 = (((A1.dn T J).en T).fo T).dr T := by
    rw [← e2]; unfold AG.un; rw [if_pos j1.symm]
  have j2 : A2.job T = 0 := by rw [e2']; unfold AG.job AG.dr AG.fo AG.en; simp
  have p2 : txt A2.K.P T = [] := by rw [e2']; exact txt_drop_same _ _
  have x2 : A2.X T = [] := by rw [e2']; unfold AG.dr; simp
  have s2 : T ∉ A2.K.loss := by rw [e2']; show T ∉ outL _ T; rw [mem_outL]; simp
  have d2 : J ≤ A2.done T := by rw [e2']; show J ≤ (if T = T then max (A1.done T) J else _); rw [if_pos rfl]; omega
  have e3 : A2.un T J = A2.dn T J := by unfold AG.un; rw [if_neg (by rw [j2]; omega)]
  have d3 : J ≤ (A2.dn T J).done T := by show J ≤ (if T = T then max (A2.done T) J else _); rw [if_pos rfl]; omega
  have e4 : (A2.dn T J).pn T J = A2.dn T J := by unfold AG.pn; rw [if_pos (Or.inl d3)]
  refine ⟨A1, A2, A2.dn T J, A2.dn T J, by rw [hp, e1], ?_, by rw [hu, e2], ou _, by rw [hu, e3], ou _, by rw [hp, e4], ?_, j2, p2, x2, s2⟩
  · rw [op]; unfold AG.pu; rw [if_neg n1, if_neg n2]; rfl
  · rw [op]; unfold AG.pu; rw [if_pos (Or.inl d3)]; rfl
theorem umodF (b m k : Int) (h0 : 0 < m) (h1 : m ≤ 1000000) (hk : 0 ≤ k ∧ k ≤ 1000) : ∃ q N : Int, wrap64 ((IntKind.u64.wrap b).tmod m) = q ∧ wrap64 (k + q) = N ∧ k ≤ N ∧ N < k + m := by
  obtain ⟨q, h2, h3, h4⟩ := umod b m h0 (by omega)
  exact ⟨q, k + q, h2, IntWalk.wrap64_in _ (by omega), by omega, by omega⟩
theorem frees_new (w : World) : Calls Tryz.prog 10 #[.int .i64 1, .agg #[.int .i64 3, .int .i64 4, .int .i64 3, .int .i64 4, .int .u64 9, .int .i64 2, .int .i64 1]] w fun e w' => ∃ p, e = .returned (.tuple #[.pointer (some ⟨p, 0, none⟩), .int .i64 0]) ∧ FIn w w' p 0 := by
  refine (bin_new w).mono ?_
  rintro e w' ⟨p, col, rfl, h, _⟩
  refine ⟨p, rfl, col, AA0, h, fun t => ?_⟩
  exact ⟨(by decide : (0 : Int) < 100), (by decide : (0 : Int) < 100), (by decide : (0 : Int) < 100)⟩

set_option maxHeartbeats 8000000 in
theorem agentFrees_any (v : Value) (xs : List OpA) (t0 j0 : Int) (w : World) (hv : SlR w v 4 (IsOpA w) xs) (hw0 : (Lit.int .i64 t0).wf = true) (hw1 : (Lit.int .i64 j0).wf = true) :
    Calls Tryz.prog 5 #[v, .int .i64 t0, .int .i64 j0] w fun e w' => e = .returned (.bool true) ∧ Fr noB w w' := by
  have hfew : ∀ w1, Fr noB w w1 → Calls Tryz.prog 9 #[v] w1 fun e w' => e = .returned (.bool (fewB xs)) ∧ Fr noB w1 w' := fun w1 f => few_any v xs w w1 (hv.frame f (fun _ _ q => q))
  obtain ⟨a, c, rfl, hx1, hx2, hx3⟩ := hv
  unfold maxLen at hx2
  have hok := @fewB_ok xs
  have hget : ∀ k, k < xs.length → ∃ m, xs[k]? = some m := fun k hk => ⟨xs[k], List.getElem?_eq_getElem hk⟩
  generalize hn : xs.length = n at *
  replace hx3 := Lib.hid hx3
  replace hget := Lib.hid hget
  replace hn := Lib.hid hn
  replace hfew := Lib.hid hfew
  replace hok := Lib.hid hok
  obtain ⟨hx1, _⟩ := hx1
  generalize fewB xs = F at *
  obtain ⟨q9, T, hq9, hT, hT1, hT2⟩ := umodF t0 9 1 (by omega) (by omega) (by omega)
  obtain ⟨qj, J, hqj, hJ, hJ1, hJ2⟩ := umodF j0 100 100 (by omega) (by omega) (by omega)
  have hokT : okI T := okI_of (by omega) (by omega)
  go_enter Tryz.func5, Tryz.ntmps5
  go_wp2_with fail
  go_fit (awake_any w)
  rintro e w1 ⟨rfl, f1⟩
  simp only [hT, hJ]
  clear hq9 hT hqj hJ
  go_wp2_with fail
  go_fit (hfew.out w1 f1)
  rintro e w2 ⟨rfl, f2⟩
  have g2 := f1.seqN f2
  clear f1 f2 hfew
  cases F
  · go_wp2_with fail
    go_fit (awake_any w2)
    rintro e w3 ⟨rfl, f3⟩
    have g3 := g2.seqN f3
    go_wp2_with fail
    go_ret
    exact ⟨rfl, g3⟩
  · obtain ⟨hn2, _⟩ := hok.out rfl
    clear hok
    go_wp2_with fail
    go_fit (cfg_any w2)
    rintro e w3 ⟨rfl, f3⟩
    have g3 := g2.seqN f3
    clear f3 g2
    go_wp2_with fail
    go_fit (frees_new w3)
    rintro e w4 ⟨p, rfl, h4⟩
    have b4 : FIn w w4 p 0 := by
      obtain ⟨col, A, h1, h2⟩ := h4
      exact ⟨col, A, ⟨h1.ag, g3.seqN h1.fr, fun q hq => h1.lo q (Nat.lt_of_lt_of_le hq g3.size)⟩, h2⟩
    clear h4 g3
    go_wp2_with fail
    go_loopw [46] (fun i wr => ∃ k : Nat, k ≤ n ∧ i = .int .i64 k ∧ FIn w wr p k) (fun i _ => n - (RowKit.intOf i).toNat)
    case atStart => exact ⟨0, by omega, rfl, b4⟩
    case round =>
      obtain ⟨k, hk, rfl, hB⟩ := hrel
      clear b4
      by_cases hlt : k < n
      · obtain ⟨m, hm⟩ := hget.out k hlt
        obtain ⟨g, o, cs, rfl, hcs, ⟨rfl, hw1, hw2, hw3, hsm⟩, hc⟩ := hx3.out k m hm
        have fr := hB.fr
        have c0 := fr.cell (hc 0 _ rfl) (fun q => q)
        have c1 := fr.cell (hc 1 _ rfl) (fun q => q)
        have c2 := fr.cell (hc 2 _ rfl) (fun q => q)
        have c3 := fr.cell (hc 3 _ rfl) (fun q => q)
        rw [Nat.add_zero] at c0
        simp only [← Nat.add_assoc] at c1 c2 c3
        have hmsg := message_any m
        have hear := fun (w' : World) (ho : m.n < 100) (h : FIn w w' p k) => fin_ear m ho h (by omega)
        generalize m.msv = mv at hmsg hear
        replace hmsg := Lib.hid hmsg
        replace hear := Lib.hid hear
        obtain ⟨kk, t, z, s⟩ := m
        simp only at hmsg hear c0 c1 c2 c3 hw1 hw2 hw3 hsm
        have fA := (Fr.refl noB wr).alloc (.cells #[.int .i64 kk, .int .i64 t, .int .i64 z, .string s] 36)
        have hA := Lib.hid (hB.frN fA)
        replace hm := Lib.hid hm
        clear hc hB
        by_cases hz : 100 ≤ z
        · have hd : decide (100 ≤ z) = true := by simpa using hz
          have gA := hA.out.fr
          go_wp2_with fail
          go_ret
          exact ⟨rfl, gA⟩
        have hz' : z < 100 := by omega
        have hd : decide (100 ≤ z) = false := by simpa using hz'
        clear fr hz
        by_cases k1 : kk = 1
        · subst k1
          go_wp2_with fail
          go_fit (fin_span t s hA.out (by omega))
          rintro e wC ⟨⟨y, y2, rfl⟩, hC⟩
          clear hA c0 c1 c2 c3 fA
          go_wp2_with fail
          go_roundw
          case rel => exact ⟨k + 1, by omega, by go_num, hC⟩
          case measure => simp [RowKit.intOf]; omega
        by_cases k2 : kk = 2
        · subst k2
          go_wp2_with fail
          go_fit (fin_crumb hA.out hw2 (by omega))
          rintro e wC ⟨⟨y, rfl⟩, hC⟩
          clear hA c0 c1 c2 c3 fA
          go_wp2_with fail
          go_roundw
          case rel => exact ⟨k + 1, by omega, by go_num, hC⟩
          case measure => simp [RowKit.intOf]; omega
        by_cases k3 : kk = 3
        · subst k3
          have hC := hA.out.up (by omega)
          go_wp2_with fail
          go_roundw
          case rel => exact ⟨k + 1, by omega, by go_num, hC⟩
          case measure => simp [RowKit.intOf]; omega
        by_cases k4 : kk = 4
        · subst k4
          have hC := hA.out.up (by omega)
          go_wp2_with fail
          go_roundw
          case rel => exact ⟨k + 1, by omega, by go_num, hC⟩
          case measure => simp [RowKit.intOf]; omega
        · have d1 : decide (kk = 1) = false := by simpa using k1
          have d2 : decide (kk = 2) = false := by simpa using k2
          have d3 : decide (kk = 3) = false := by simpa using k3
          have d4 : decide (kk = 4) = false := by simpa using k4
          go_wp2_with fail
          go_fit (hmsg.out _)
          rintro e wB2 ⟨rfl, fB2⟩
          have hB2 := hA.out.frN fB2
          clear hA c0 c1 c2 c3 fA
          go_wp2_with fail
          go_fit (hear.out wB2 hz' hB2)
          rintro e wC ⟨⟨y, y2, rfl⟩, hC⟩
          clear hB2
          go_wp2_with fail
          go_roundw
          case rel => exact ⟨k + 1, by omega, by go_num, hC⟩
          case measure => simp [RowKit.intOf]; omega
      · obtain rfl : k = n := by omega
        obtain ⟨col, A, hA, hLo⟩ := hB
        obtain ⟨A1, A2, A3, A4, e1, l1, e2, l2, e3, l3, e4, l4, z1, z2, z3, z4⟩ := frees A T J (by omega) (by omega) (by omega) (by omega) hLo
        have hp := fun (B : AG) (c : Nat → Nat) (u : World) (m : Nat) (hm : m < 100000) (h : AgIn w u p c m B) => ag_hearL (.iface 94 (.agg #[.int .i64 T, .int .i64 J])) (.pin T J) (fun _ => rfl) h hm
        have hu := fun (B : AG) (c : Nat → Nat) (u : World) (m : Nat) (hm : m < 100000) (h : AgIn w u p c m B) => ag_hearL (.iface 95 (.agg #[.int .i64 T, .int .i64 J])) (.unpin T J) (fun _ => rfl) h hm
        have s1 := fun u => hp A col u k (by omega)
        have s2 := fun c u => hu A1 c u (k + 1) (by omega)
        have s3 := fun c u => hu A2 c u (k + 1 + 1) (by omega)
        have s4 := fun c u => hp A3 c u (k + 1 + 1 + 1) (by omega)
        rw [e1, l1] at s1
        rw [e2, l2] at s2
        rw [e3, l3] at s3
        rw [e4, l4] at s4
        replace s1 := Lib.hid s1
        replace s2 := Lib.hid s2
        replace s3 := Lib.hid s3
        replace s4 := Lib.hid s4
        clear hp hu e1 l1 e2 l2 e3 l3 e4 l4 hx3 hget hn hLo
        go_wp2_with fail
        go_fit (s1.out wr hA)
        rintro e w5 ⟨⟨x1, x2, x3, rfl⟩, cA, h5⟩
        go_wp2_with fail
        go_fit (s2.out cA w5 h5)
        rintro e w6 ⟨⟨y1, y2, y3, rfl⟩, cB, h6⟩
        go_wp2_with fail
        go_fit (s3.out cB w6 h6)
        rintro e w7 ⟨⟨u1, u2, u3, rfl⟩, cC, h7⟩
        go_wp2_with fail
        go_fit (s4.out cC w7 h7)
        rintro e w8 ⟨⟨v1, v2, v3, rfl⟩, cD, h8⟩
        clear hA h5 h6 h7 s1 s2 s3 s4
        have hj := ag_jobIn h8 hokT
        rw [z1] at hj
        replace hj := Lib.hid hj
        go_wp2_with fail
        go_fit hj.out
        rintro e w9 ⟨rfl, hw9⟩
        obtain rfl := hw9.symm
        clear hw9 hj
        go_wp2_with fail
        go_fit (ag_spansL h8 z2)
        rintro e wA ⟨⟨r1, r2, rfl⟩, fA⟩
        have hA := h8.frN fA
        clear h8 fA
        go_wp2_with fail
        go_fit (ag_crumbsL hA hokT z3)
        rintro e wB ⟨⟨r3, r4, rfl⟩, fB⟩
        have hB := hA.frN fB
        clear hA fB
        have hl := ag_lostIn hB hokT
        rw [show decide (T ∈ A4.K.loss) = false by simpa using z4] at hl
        replace hl := Lib.hid hl
        go_wp2_with fail
        go_fit hl.out
        rintro e wC ⟨rfl, fC⟩
        have hC := hB.frN fC
        go_wp2_with fail
        go_ret
        exact ⟨rfl, hC.fr⟩
end Go.Proofs.YtppmednmcbjafaaGreat
