/-
  The coordinator's Tick: what all jobs say, by their numbers.
-/
import Derived.Test.YtidcoddefebdpaaCoordC
import Derived.Test.YtidcoddefebdpaaJobOutsD
import Derived.Deep.LoopGhost
set_option linter.unusedVariables false
set_option linter.unusedSimpArgs false
set_option maxRecDepth 100000
set_option maxRecDepth 100000
namespace Go.Proofs.Ytidcoddefebdpaa
open Go.RowKit Go Go.Maps Go.Lib

theorem wpList_append_rd2 {P : Program} (w : World) {ops : Array Oper} {rest : List Oper} {o : Oper} {a : Act} {Q : Exit → Act → World → Prop} (hgd : o.guard = none) (s x : Operand) (t : TypeId)
    (ho : o.op = .call { callee := .builtin .append, args := #[s, x], argTypes := #[t, t] })
    (base : Nat) (e : TypeId) (i : TypeInfo) (z : Value) (size bytes : Nat) (ht : P.underlying t = some (.slice e)) (hi : P.info? e = some i) (hz : i.zero = some z)
    (hsize : i.size = size) (hby : i.bytes = bytes) (hzs : z.cells.size = size) (hsz : 0 < size)
    (v : Value) (n : Nat) (xs : List Value) (hs : a.eval s = v) (hown : w.ownsRow base e size v n xs)
    (m : Nat) (u : Value) (news : List Value) (hx : a.eval x = u) (hu : (u = .slice none 0 0 ∧ m = 0 ∧ news = []) ∨ ∃ ad c, u = .slice (some ad) m c ∧ ∀ j q, news[j]? = some q → w.cell? (ad.add j) = some q) (hl : news.length = m * size) (h1 : ∀ u ∈ news, u.oneCell' = true)
    (h63 : n + m ≤ maxLen) (hbytes : (n + m) * bytes ≤ 140737488355328) (hbase : base ≤ w.heap.size)
    (h : ∀ v' w', w'.ownsRow base e size v' (n + m) (xs ++ news) → Fr (rowB v) w w' → Moved w v v' → wpList P ops Q rest (a.put o.dst v') w') : wpList P ops Q (o :: rest) a w := by
  rcases hu with ⟨rfl, rfl, rfl⟩ | ⟨ad, c, rfl, hnews⟩
  · exact wpList_append_own_none hgd s x t ho base e i size ht hi v n xs hs hown hx (h v w (by simpa using hown) (Fr.refl _ _) (Or.inl rfl))
  · refine wpList_append_at w (by simp [Region.wanted, hgd]) s x t ho base e i z size bytes ht hi hz hsize hby hzs hsz v n xs hs hown ad m c news hx hl hnews h1 h63 hbytes hbase fun v' w' q1 q2 q3 => h v' w' q1 ((Fr.refl _ w).grown q2 (fun k hk _ => hk)) q3
theorem zgC_one (j : JS) (pv : Value) : ∀ u ∈ zgC (j.zg pv), u.oneCell' = true := by
  have key : ∀ (L : List Int) (m : Value), m.oneCell' = true → ∀ u ∈ zgC (L.map fun x => (x, m)), u.oneCell' = true := by
    intro L m hm u hu
    unfold zgC at hu
    obtain ⟨x, hx, hu⟩ := List.mem_flatMap.1 hu
    obtain ⟨y, hy, rfl⟩ := List.mem_map.1 hx
    simp only [List.mem_cons, List.not_mem_nil, or_false] at hu
    rcases hu with rfl | rfl
    · rfl
    · exact hm
  intro u hu
  unfold JS.zg at hu
  split at hu
  · exact key _ _ rfl u hu
  · split at hu
    · have hu' : u ∈ (Value.int .i64 (-1)) :: (mManifest j.tr j.id j.cl pv) :: zgC ((whichL (fun _ => true) j 4).map fun x => (x, mCollect j.tr j.id)) := hu
      rcases List.mem_cons.1 hu' with rfl | hu'
      · rfl
      · rcases List.mem_cons.1 hu' with rfl | hu'
        · rfl
        · exact key _ _ rfl u hu'
    · split at hu
      · exact key _ _ rfl u hu
      · cases hu
theorem zgC_len (G : List (Int × Value)) : (zgC G).length = G.length * 2 := by
  unfold zgC
  induction G with
  | nil => rfl
  | cons x r ih =>
    rw [List.flatMap_cons, List.length_append, ih]
    simp only [List.length_cons, List.length_nil]
    omega
theorem zgC_app (G H : List (Int × Value)) : zgC (G ++ H) = zgC G ++ zgC H := by unfold zgC; rw [List.flatMap_append]
theorem zg_len5 (j : JS) (pv : Value) : (j.zg pv).length ≤ 5 := by
  unfold JS.zg
  have h1 := whichL_len (fun v => !v.p) j 4
  have h2 := whichL_len (fun _ => true) j 4
  have h3 := whichL_len (fun v => !v.f) j 4
  split
  · rw [List.length_map]; omega
  · split
    · rw [List.length_cons, List.length_map]; omega
    · split
      · rw [List.length_map]; omega
      · simp
/-- what all jobs say -/
def tickG : List JE → List Value → List (Int × Value)
  | e :: r, pv :: ps => e.j.zg pv ++ tickG r ps
  | _, _ => []
theorem tickG_snoc (Q : List JE) (P : List Value) (e : JE) (pv : Value) (h : Q.length = P.length) : tickG (Q ++ [e]) (P ++ [pv]) = tickG Q P ++ e.j.zg pv := by
  induction Q generalizing P with
  | nil =>
    cases P with
    | nil => simp [tickG]
    | cons y r => simp at h
  | cons x r ih =>
    cases P with
    | nil => simp at h
    | cons y s =>
      simp only [List.length_cons] at h
      show x.j.zg y ++ tickG (r ++ [e]) (s ++ [pv]) = _
      rw [ih s (by omega)]
      show _ = x.j.zg y ++ tickG r s ++ _
      rw [List.append_assoc]
theorem tickG_len (Q : List JE) (P : List Value) : (tickG Q P).length ≤ 5 * Q.length := by
  induction Q generalizing P with
  | nil => simp [tickG]
  | cons x r ih =>
    cases P with
    | nil => simp [tickG]
    | cons y s =>
      show (x.j.zg y ++ tickG r s).length ≤ _
      rw [List.length_append, List.length_cons]
      have := zg_len5 x.j y
      have := ih s
      omega
/-- the jobs by their numbers are the jobs in their order -/
theorem sorted_is {C : CS} (h : C.wf) {ss : List NJ} (hp : ss.Perm ((C.Q.map JE.kv).map (·.2))) (hs : ss.Pairwise (fun x y => x.1 ≤ y.1)) : ss = C.Q.map fun e => (e.n, some e.p) := by
  have e1 : (C.Q.map JE.kv).map (·.2) = C.Q.map fun e => (e.n, some e.p) := by rw [List.map_map]; rfl
  rw [e1] at hp
  have hn : (C.Q.map (·.n)).Pairwise (· < ·) := h.nn
  have hs2 : (C.Q.map fun e => ((e.n, some e.p) : NJ)).Pairwise (fun x y => x.1 ≤ y.1) := by
    rw [List.pairwise_map] at hn ⊢
    exact hn.imp (fun q => by show _ ≤ _; omega)
  refine List.Perm.eq_of_pairwise (le := fun x y : NJ => x.1 ≤ y.1) (fun a b ha hb h1 h2 => ?_) hs hs2 hp
  have ha' := hp.mem_iff.1 ha
  obtain ⟨x, hx, rfl⟩ := List.mem_map.1 ha'
  obtain ⟨y, hy, rfl⟩ := List.mem_map.1 hb
  have hxy : x.n = y.n := by
    have h1' : x.n ≤ y.n := h1
    have h2' : y.n ≤ x.n := h2
    omega
  have hnd : (C.Q.map (·.n)).Nodup := hn.imp (fun q => by omega)
  have key : ∀ (Q : List JE), (Q.map (·.n)).Nodup → x ∈ Q → y ∈ Q → x = y := by
    intro Q
    induction Q with
    | nil => intro _ hx; cases hx
    | cons z r ih =>
      intro hn h1 h2
      rw [List.map_cons, List.nodup_cons] at hn
      rcases List.mem_cons.1 h1 with rfl | k1
      · rcases List.mem_cons.1 h2 with rfl | k2
        · rfl
        · exact absurd (show x.n ∈ r.map (·.n) from List.mem_map.2 ⟨y, k2, hxy.symm⟩) hn.1
      · rcases List.mem_cons.1 h2 with rfl | k2
        · exact absurd (show y.n ∈ r.map (·.n) from List.mem_map.2 ⟨x, k1, hxy⟩) hn.1
        · exact ih hn.2 k1 k2
  rw [key C.Q hnd hx hy]
def TickPost (e : Ending) (w w' : World) (Q : List JE) : Prop := ∃ u P, e = .returned u ∧ Q.length = P.length ∧ w'.ownsRow w.heap.size 47 2 u (tickG Q P).length (zgC (tickG Q P)) ∧ (∀ (i : Nat) (e : JE) (pv : Value), Q[i]? = some e → P[i]? = some pv → e.j.ph = 2 → RdPs w' pv (e.j.psl e.X e.j.all)) ∧ Fr noB w w'
set_option maxHeartbeats 8000000 in
theorem tick_co (c bm : Nat) (U : Nat → Prop) (C : CS) (w : World) (h : Co w c bm U C) :
    Calls Try.prog 12 #[.pointer (some ⟨c, 0, none⟩)] w fun e w' => TickPost e w w' C.Q := by
  have c2 : w.cell? ⟨c, 2, none⟩ = some (.map (some bm)) := h.blk.cell 2
  have hQ8 : C.Q.length ≤ 8 := by have := h.wf.len; have := h.wf.m8; omega
  have hv := values_any bm w
  have f1 : Fr noB w (w.alloc (.cells #[.map (some bm)] 60)) := (Fr.refl _ _).alloc _
  have H1 := h.frN f1
  have hsz : (w.alloc (.cells #[.map (some bm)] 60)).heap.size = w.heap.size + 1 := size_alloc _ _
  have hcell := (Blk.new w 60 [.map (some bm)]).cell 0
  have hs := sorted_any w.heap.size bm C.Q.length (C.Q.map JE.kv) (by rw [List.length_map]; omega) (w.alloc (.cells #[.map (some bm)] 60)) (by rw [hsz]; omega) hcell H1.mp
  obtain ⟨i0, hi, hz0, hz1, hz2⟩ := info_parts infoOut
  obtain ⟨N, hN⟩ : ∃ N, C.Q.length = N := ⟨_, rfl⟩
  rw [hN] at hQ8
  have hget : ∀ k, k < N → ∃ e, C.Q[k]? = some e := fun k hk => ⟨C.Q[k]'(by omega), List.getElem?_eq_getElem (by omega)⟩
  replace hs := Lib.hid hs
  replace hv := Lib.hid hv
  replace h := Lib.hid h
  replace H1 := Lib.hid H1
  replace f1 := Lib.hid f1
  replace hN := Lib.hid hN
  replace hget := Lib.hid hget
  clear hsz hcell
  go_enter Try.func12, Try.ntmps12
  go_wp2_with fail
  go_fit hv.out
  rintro e w1 ⟨rfl, rfl⟩
  go_wp2_with fail
  go_fit hs.out
  generalize (w.alloc (.cells #[.map (some bm)] 60)) = w1 at *
  rintro e w2 ⟨sv, ss, rfl, hp, hpw, os, f2⟩
  have hss := sorted_is h.out.wf hp hpw
  have hsl : ss.length = N := by rw [hss, List.length_map]; exact hN.out
  have g2 := f1.out.seqN f2
  obtain ⟨sa, sc, rfl⟩ := ownsRow_slice os
  rw [hsl] at os ⊢
  have hcell : ∀ k e, C.Q[k]? = some e → ∃ g, sa = some ⟨g, 0, none⟩ ∧ ∀ w', Fr noB w2 w' → w'.cell? ⟨g, k * 2, none⟩ = some (.int .i64 e.n) ∧ w'.cell? ⟨g, k * 2 + 1, none⟩ = some (.pointer (some ⟨e.p, 0, none⟩)) := fun k e hk => by
    have hkl := (List.getElem?_eq_some_iff.1 hk).1
    obtain ⟨g, cap, e1, _⟩ := ownsRow_some os (by have := hN.out; omega)
    injection e1 with e1 e2 e3
    subst e1
    have hsk : ss[k]? = some (e.n, some e.p) := by rw [hss, List.getElem?_map, hk]; rfl
    have hcc : ∀ i v, (celN (e.n, some e.p))[i]? = some v → w2.cell? ⟨g, k * 2 + i, none⟩ = some v := fun i v hi => by
      have hi2 : i < 2 := (List.getElem?_eq_some_iff.1 hi).1
      have h2 := flat_getC ss k i _ hsk hi2
      have h3 := os.cells (g := g) rfl (k * 2 + i) v (by rw [h2]; exact hi)
      rw [add_none, Nat.zero_add] at h3
      exact h3
    exact ⟨g, rfl, fun w' f => ⟨f.cell (hcc 0 _ rfl) (fun q => q), f.cell (hcc 1 _ rfl) (fun q => q)⟩⟩
  obtain ⟨B, hB⟩ : ∃ B, w2.heap.size = B := ⟨_, rfl⟩
  replace hcell := Lib.hid hcell
  replace hss := Lib.hid hss
  replace os := Lib.hid os
  replace hB := Lib.hid hB
  clear hp hpw c2 hs hv f2 H1 f1
  go_wp2_with fail
  go_loopg [4, 17] N (fun gk vl vi wr => ∃ (k : Nat) (P : List Value) (D : Nat → Prop), k + gk = N ∧ vi = .int .i64 k ∧ Hid (k = P.length) ∧ Hid (wr.ownsRow B 47 2 vl (tickG (C.Q.take k) P).length (zgC (tickG (C.Q.take k) P))) ∧ Hid (∀ (i : Nat) (e : JE) (pv : Value), C.Q[i]? = some e → P[i]? = some pv → e.j.ph = 2 → RdPsD wr D pv (e.j.psl e.X e.j.all)) ∧ Hid (∀ g, D g → g < wr.heap.size ∧ vl.ownBlock ≠ some g) ∧ Fr noB w2 wr)
  case atStart => exact ⟨0, [], noB, Nat.zero_add _, rfl, Lib.hid rfl, Lib.hid (World.ownsRow_nil _ _ _ _), Lib.hid (fun i e pv _ hi => by simp at hi), Lib.hid (fun g hg => hg.elim), Fr.refl _ _⟩
  case round =>
    obtain ⟨k, P, D, hk, rfl, hkP, hown, hrd, hDr, fr⟩ := hrel
    by_cases hlt : k < N
    · obtain ⟨e, he⟩ := hget.out k hlt
      obtain ⟨g, rfl, hc⟩ := hcell.out k e he
      obtain ⟨c0, c1⟩ := hc wr fr
      have hem := List.mem_of_getElem? he
      have Hr := h.out.frN (g2.seqN fr)
      have hb1 : (k : Int) < N := by omega
      have hmeas : N - (k + 1) < gk := by omega
      have hkn2 : k + 1 + (N - (k + 1)) = N := by omega
      have fA : Fr noB wr (wr.alloc (.cells #[.int .i64 e.n, .pointer (some ⟨e.p, 0, none⟩)] 64)) := (Fr.refl _ _).alloc _
      have hout := pouts_D e.p _ _ _ _ ((Hr.frN fA).jobs e hem) ((Hr.frN fA).wf.inv e hem)
      replace hout := Lib.hid hout
      replace hmeas := Lib.hid hmeas
      replace hkn2 := Lib.hid hkn2
      replace fA := Lib.hid fA
      replace he := Lib.hid he
      replace Hr := Lib.hid Hr
      replace hem := Lib.hid hem
      generalize e.n = en at *
      clear hc hk
      go_wp2_with fail
      go_fit hout.out
      rintro e' w5 ⟨u, pv, rfl, o5, r5, f5⟩
      have fr5 := (fr.seqN fA.out).seqN f5
      have own5 := ownsRow_fr hown.out (fA.out.seqN f5) (fun _ _ q => q)
      have hG5 := zg_len5 e.j pv
      have hGl := tickG_len (C.Q.take k) P
      have htk : (C.Q.take k).length = k := by rw [List.length_take]; have := hN.out; omega
      have hone := zgC_one e.j pv
      have hfl := zgC_len (e.j.zg pv)
      have hwB : B ≤ w5.heap.size := by have := fr5.size; have := hB.out; omega
      have hor : (u = .slice none 0 0 ∧ (e.j.zg pv).length = 0 ∧ zgC (e.j.zg pv) = []) ∨ ∃ ad c, u = .slice (some ad) (e.j.zg pv).length c ∧ ∀ j q, (zgC (e.j.zg pv))[j]? = some q → w5.cell? (ad.add j) = some q := by
        rcases o5.2 with ⟨h1, h2⟩ | ⟨g', cap, cur, h1, _⟩
        · exact Or.inl ⟨h1, h2, List.eq_nil_of_length_eq_zero (by rw [hfl, h2])⟩
        · exact Or.inr ⟨⟨g', 0, none⟩, cap, h1, fun j q hj => o5.cells (g := g') (by rw [h1]; rfl) j q hj⟩
      have htk2 : C.Q.take (k + 1) = C.Q.take k ++ [e] := by rw [List.take_add_one, he.out]; rfl
      have hsn := tickG_snoc (C.Q.take k) P e pv (by rw [htk]; exact hkP.out)
      rw [← htk2] at hsn
      obtain ⟨n1, hn1⟩ : ∃ n1, (tickG (C.Q.take k) P).length = n1 := ⟨_, rfl⟩
      obtain ⟨m1, hm1⟩ : ∃ m1, (e.j.zg pv).length = m1 := ⟨_, rfl⟩
      obtain ⟨X1, hX1⟩ : ∃ X1, zgC (tickG (C.Q.take k) P) = X1 := ⟨_, rfl⟩
      obtain ⟨X, hX⟩ : ∃ X, zgC (e.j.zg pv) = X := ⟨_, rfl⟩
      rw [hX, hm1] at hor hfl
      rw [hX] at hone
      rw [hX1, hn1] at own5
      rw [hn1, htk] at hGl
      rw [hm1] at hG5
      have hszA := fA.out.size
      have hsz5 := f5.size
      obtain ⟨D2, hD2⟩ : ∃ D2 : Nat → Prop, D2 = fun g => D g ∨ (wr.heap.size ≤ g ∧ g < w5.heap.size ∧ u4.ownBlock ≠ some g) := ⟨_, rfl⟩
      have hD2lt : ∀ g, D2 g → g < w5.heap.size ∧ u4.ownBlock ≠ some g := fun g hg => by
        rw [hD2] at hg
        rcases hg with hg | hg
        · have := hDr.out g hg; exact ⟨by omega, this.2⟩
        · exact hg.2
      have hrd2 : ∀ (i : Nat) (e' : JE) (pv' : Value), C.Q[i]? = some e' → (P ++ [pv])[i]? = some pv' → e'.j.ph = 2 → RdPsD w5 D2 pv' (e'.j.psl e'.X e'.j.all) := fun i e' pv' h1 h2 h3 => by
        rcases Nat.lt_or_ge i P.length with q | q
        · rw [List.getElem?_append_left q] at h2
          exact ((hrd.out i e' pv' h1 h2 h3).fr (fA.out.seqN f5) (fun _ _ q => q)).mono (fun g hg => by rw [hD2]; exact Or.inl hg)
        · have hik : i = P.length := by
            have := (List.getElem?_eq_some_iff.1 h2).1
            rw [List.length_append] at this
            simp at this
            omega
          subst hik
          rw [List.getElem?_append_right (Nat.le_refl _), Nat.sub_self] at h2
          simp at h2
          subst h2
          have hee : e' = e := by
            have := he.out
            rw [hkP.out, h1] at this
            injection this
          subst hee
          refine (r5 h3).mono (fun g hg => ?_)
          rw [hD2]
          exact Or.inr ⟨by omega, hg.2, fun q => by have := (hown.out.lt g q).2; omega⟩
      have hkP2 : k + 1 = (P ++ [pv]).length := by rw [List.length_append, hkP.out]; rfl
      replace hn1 := Lib.hid hn1
      replace hm1 := Lib.hid hm1
      replace hX1 := Lib.hid hX1
      replace hX := Lib.hid hX
      replace hor := Lib.hid hor
      replace hone := Lib.hid hone
      replace hfl := Lib.hid hfl
      replace hsn := Lib.hid hsn
      replace hrd2 := Lib.hid hrd2
      replace hkP2 := Lib.hid hkP2
      replace hD2lt := Lib.hid hD2lt
      replace hD2 := Lib.hid hD2
      replace fr5 := Lib.hid fr5
      clear hout o5 r5 f5 fA hown hrd fr c0 c1 htk htk2 hszA hsz5 hDr
      go_wp2_with (first
        | (at_builtin; go_must (refine wpList_append_rd2 _ rfl (.tmp 21) (.tmp 24) 39 rfl B 47 i0 _ 2 24 Try.underlying39 hi hz0 hz1 hz2 rfl (by decide) _ n1 X1 rfl own5 m1 u X rfl hor.out hfl.out hone.out ?_ ?_ hwB ?_))
        | fail)
      · unfold maxLen; omega
      · omega
      intro v8 w8 o8 f8 mv8
      have fr8 : Fr noB w2 w8 := fr5.out.trans f8 (fun _ _ q => q) (fun i hi q => by
        have h1 := (own5.lt i q).1
        have h2 := hB.out
        omega)
      have hrd8 : ∀ (i : Nat) (e' : JE) (pv' : Value), C.Q[i]? = some e' → (P ++ [pv])[i]? = some pv' → e'.j.ph = 2 → RdPsD w8 D2 pv' (e'.j.psl e'.X e'.j.all) := fun i e' pv' h1 h2 h3 => (hrd2.out i e' pv' h1 h2 h3).fr f8 (fun g hg q => (hD2lt.out g hg).2 q)
      have hD8 : ∀ g, D2 g → g < w8.heap.size ∧ v8.ownBlock ≠ some g := fun g hg => by
        obtain ⟨h1, h2⟩ := hD2lt.out g hg
        refine ⟨Nat.lt_of_lt_of_le h1 f8.size, fun q => ?_⟩
        rcases mv8 with h | h
        · exact h2 (by rw [← h]; exact q)
        · rw [h] at q
          injection q with q
          omega
      have o8' : w8.ownsRow B 47 2 v8 (tickG (C.Q.take (k + 1)) (P ++ [pv])).length (zgC (tickG (C.Q.take (k + 1)) (P ++ [pv]))) := by
        rw [hsn.out, zgC_app, List.length_append, hX.out, hX1.out, hn1.out, hm1.out]
        exact o8
      replace o8' := Lib.hid o8'
      replace hrd8 := Lib.hid hrd8
      replace hD8 := Lib.hid hD8
      clear o8 f8 mv8 own5 hor hone hfl
      go_wp2_with fail
      go_roundg (N - (k + 1))
      case rel => exact ⟨k + 1, P ++ [pv], D2, hkn2.out, by go_num, hkP2, o8', hrd8, hD8, fr8⟩
      case measure => exact hmeas.out
    · obtain rfl : k = N := by omega
      have htk : C.Q.take k = C.Q := List.take_of_length_le (by rw [hN.out]; exact Nat.le_refl _)
      rw [htk] at hown
      go_wp2_with fail
      go_ret
      exact ⟨_, P, rfl, by rw [hN.out]; exact hkP.out, ownsRow_mono hown.out (by have := g2.size; have := hB.out; omega), fun i e' pv' h1 h2 h3 => (hrd.out i e' pv' h1 h2 h3).ps, g2.seqN fr⟩
end Go.Proofs.Ytidcoddefebdpaa
