/-
  What a job says while it ships: the manifest to the collector, and to each agent that it collects.
-/
import Derived.Test.YtidcoddefebdpaaGreatJobNew
import Derived.Laws.AppendOwnNone
set_option linter.unusedVariables false
set_option linter.unusedSimpArgs false
set_option maxRecDepth 100000
namespace Go.Proofs.YtidcoddefebdpaaGreat
open Go.RowKit Go Go.Lib

theorem wp_append_rd {P : Program} {w : World} {o : Oper} {a : Act} {K : Act → World → Prop} {Q : Exit → Act → World → Prop} (s x : Operand) (t : TypeId)
    (ho : o.op = .call { callee := .builtin .append, args := #[s, x], argTypes := #[t, t] })
    (base : Nat) (e : TypeId) (i : TypeInfo) (z : Value) (size bytes : Nat) (ht : P.underlying t = some (.slice e)) (hi : P.info? e = some i) (hz : i.zero = some z)
    (hsize : i.size = size) (hby : i.bytes = bytes) (hzs : z.cells.size = size) (hsz : 0 < size)
    (v : Value) (n : Nat) (xs : List Value) (hs : a.eval s = v) (hown : w.ownsRow base e size v n xs)
    (m : Nat) (u : Value) (news : List Value) (hx : a.eval x = u) (hu : (u = .slice none 0 0 ∧ m = 0 ∧ news = []) ∨ ∃ ad c, u = .slice (some ad) m c ∧ ∀ j q, news[j]? = some q → w.cell? (ad.add j) = some q) (hl : news.length = m * size) (h1 : ∀ u ∈ news, u.oneCell' = true)
    (h63 : n + m ≤ maxLen) (hbytes : (n + m) * bytes ≤ 140737488355328) (hbase : base ≤ w.heap.size)
    (h : ∀ v' w', w'.ownsRow base e size v' (n + m) (xs ++ news) → Fr (fun k => v.ownBlock = some k) w w' → K (a.put o.dst v') w') : o.wp P a w K Q := by
  rcases hu with ⟨rfl, rfl, rfl⟩ | ⟨ad, c, rfl, hnews⟩
  · have hrun := run_append_owned_none (P := P) (w := w) base t o.type e i size ht hi v n xs hown
    unfold Oper.wp
    simp [execOp, ho, resolve, invoke, builtin, hs, hx, hrun, Result.andThen]
    exact h v w (by simpa using hown) (Fr.refl _ _)
  · exact wp_append_at w s x t ho base e i z size bytes ht hi hz hsize hby hzs hsz v n xs hs hown ad m c news hx hl hnews h1 h63 hbytes hbase fun v' w' q1 q2 _ => h v' w' q1 ((Fr.refl _ w).grown q2 (fun k hk _ => hk))
theorem fr_own {w3 w7 w9 : World} {e : TypeId} {k n : Nat} {v : Value} {xs : List Value} (h : w7.ownsRow w3.heap.size e k v n xs) (f7 : Fr noB w3 w7) (f9 : Fr (fun q => v.ownBlock = some q) w7 w9) : Fr noB w3 w9 :=
  f7.trans f9 (fun _ _ q => q) (fun i hi q => by have := (h.lt i q).1; omega)
theorem own_src {w : World} {B n size : Nat} {e : TypeId} {v : Value} {xs : List Value} (h : w.ownsRow B e size v n xs) : (v = .slice none 0 0 ∧ n = 0 ∧ xs = []) ∨ ∃ ad c, v = .slice (some ad) n c ∧ ∀ j q, xs[j]? = some q → w.cell? (ad.add j) = some q := by
  rcases h.2 with ⟨h1, h2⟩ | ⟨g, cap, cur, h1, _⟩
  · refine Or.inl ⟨h1, h2, List.eq_nil_of_length_eq_zero ?_⟩
    rw [h.1, h2, Nat.zero_mul]
  · subst h1
    exact Or.inr ⟨⟨g, 0, none⟩, cap, rfl, fun j q hq => h.cells (g := g) rfl j q hq⟩
theorem outC_one (L : List Int) (T : TypeId) (g : Array Value) : ∀ u ∈ outC L (.iface T (.agg g)), u.oneCell' = true := fun u hu => by
  unfold outC at hu
  obtain ⟨a, _, hu⟩ := List.mem_flatMap.1 hu
  simp only [List.mem_cons, List.not_mem_nil, or_false] at hu
  rcases hu with rfl | rfl <;> rfl

set_option maxHeartbeats 4000000 in
set_option maxRecDepth 10000 in
theorem outs_2 (p : Nat) (j : JS) (w : World) (h : Jb w p j) (hph : j.ph = 2) (hall : noneL (fun v => !v.p) j = true) (hX : ∀ a, a < 4 → ∃ xs, RdI w (.slice (j.at a).t.a (j.at a).t.n (j.at a).t.c) xs ∧ xs.length ≤ 1000) :
    Calls Tryz.prog 25 #[.pointer (some ⟨p, 0, none⟩)] w fun e w' => ∃ u pa pc, e = .returned u ∧ w'.ownsRow w.heap.size 76 2 u ((whichL (fun _ => true) j 4).length + 1) ([.int .i64 (-1), mManifest j.tr j.id j.cl (.slice pa (whichL (fun _ => true) j 4).length pc)] ++ outC (whichL (fun _ => true) j 4) (mCollect j.tr j.id)) ∧ Fr noB w w' := by
  unfold mCollect mManifest
  have hp := phase_any p j w h
  rw [hph] at hp
  have hm := manifest_any p j w h (by omega) hall hX
  have hlen := whichL_len (fun _ => true) j 4
  have hvis := fun (w' : World) (f : Fr noB w w') => visited_any p j w' (h.frN f)
  generalize whichL (fun _ => true) j 4 = L at *
  have hte := fun (v : Value) (w' : World) (hv : RdI w' v L) => toEach_any v L 96 #[.int .i64 j.tr, .int .i64 j.id] w' hv (by omega)
  have hfj : ∀ w', Fr noB w w' → w'.cell? ⟨p, 1, none⟩ = some (.int .i64 j.tr) ∧ w'.cell? ⟨p, 0, none⟩ = some (.int .i64 j.id) := fun w' f => ⟨(h.frN f).cell 1, (h.frN f).cell 0⟩
  replace hfj := Lib.hid hfj
  replace hte := Lib.hid hte
  replace hvis := Lib.hid hvis
  clear h hX
  go_enter Tryz.func25, Tryz.ntmps25
  go_wp2_with fail
  refine hp.mono ?_
  rintro e w1 ⟨rfl, hw1⟩
  obtain rfl := hw1.symm
  clear hp
  go_wp2_with fail
  refine hm.mono ?_
  rintro e w2 ⟨pa, pc, cs, rfl, o2, f2⟩
  clear hm
  generalize hLn : L.length = n at *
  replace hLn := Lib.hid hLn
  have bM := Blk.new w2 101 [.int .i64 j.tr, .int .i64 j.id, .int .i64 j.cl, .slice pa n pc]
  have fM := f2.alloc (.cells #[.int .i64 j.tr, .int .i64 j.id, .int .i64 j.cl, .slice pa n pc] 101)
  obtain ⟨w3, hw3⟩ : ∃ w3, w3 = w2.alloc (.cells #[.int .i64 j.tr, .int .i64 j.id, .int .i64 j.cl, .slice pa n pc] 101) := ⟨_, rfl⟩
  go_upto_region 6 with fail
  rw [← hw3]
  replace bM : Blk w3 w2.heap.size 101 [.int .i64 j.tr, .int .i64 j.id, .int .i64 j.cl, .slice pa n pc] := by rw [hw3]; exact bM
  replace fM : Fr noB w w3 := by rw [hw3]; exact fM
  clear hw3 f2 o2
  generalize w2.heap.size = mb at *
  have hfacts : ∀ w', Fr noB w3 w' → (w'.cell? ⟨p, 1, none⟩ = some (.int .i64 j.tr) ∧ w'.cell? ⟨p, 0, none⟩ = some (.int .i64 j.id)) ∧ w'.cell? ⟨mb, 0, none⟩ = some (.int .i64 j.tr) ∧ w'.cell? ⟨mb, 1, none⟩ = some (.int .i64 j.id) ∧ w'.cell? ⟨mb, 2, none⟩ = some (.int .i64 j.cl) ∧ w'.cell? ⟨mb, 3, none⟩ = some (.slice pa n pc) := fun w' f => ⟨hfj.out w' (fM.seqN f), (f.blk bM (fun q => q)).cell 0, (f.blk bM (fun q => q)).cell 1, (f.blk bM (fun q => q)).cell 2, (f.blk bM (fun q => q)).cell 3⟩
  replace hfacts := Lib.hid hfacts
  obtain ⟨i0, hi0, hz0, hz1, hz2⟩ : ∃ i0, Tryz.prog.info? 76 = some i0 ∧ i0.zero = some (.agg #[.int .i64 0, .nilIface]) ∧ i0.size = 2 ∧ i0.bytes = 24 := by
    have hI := infoOut
    cases hq : Tryz.prog.info? 76 with
    | none => rw [hq] at hI; cases hI
    | some k => rw [hq] at hI; simp at hI; exact ⟨k, rfl, hI⟩
  have hone := outC_one L 96 #[.int .i64 j.tr, .int .i64 j.id]
  have hll := outC_len L (.iface 96 (.agg #[.int .i64 j.tr, .int .i64 j.id]))
  have hlit : ((w3.alloc (.cells #[.int .i64 (-1), .iface 101 (.agg #[.int .i64 j.tr, .int .i64 j.id, .int .i64 j.cl, .slice pa n pc])] 76)).drew).ownsRow w3.heap.size 76 2 (.slice (some ⟨w3.heap.size, 0, none⟩) 1 1) 1 [.int .i64 (-1), .iface 101 (.agg #[.int .i64 j.tr, .int .i64 j.id, .int .i64 j.cl, .slice pa n pc])] := own_new w3 76 [.int .i64 (-1), .iface 101 (.agg #[.int .i64 j.tr, .int .i64 j.id, .int .i64 j.cl, .slice pa n pc])] 2 1 rfl (by unfold maxLen; omega)
  rw [hLn.out] at hll
  replace hlit := Lib.hid hlit
  obtain ⟨OC, hOC⟩ : ∃ OC, OC = outC L (.iface 96 (.agg #[.int .i64 j.tr, .int .i64 j.id])) := ⟨_, rfl⟩
  rw [← hOC] at hone hll hte
  replace hOC := Lib.hid hOC
  replace hone := Lib.hid hone
  replace hll := Lib.hid hll
  have hn4 : n ≤ 4 := hlen
  have hsz1 : 1 + n ≤ maxLen := by unfold maxLen; omega
  have hsz2 : (1 + n) * 24 ≤ 140737488355328 := by omega
  have h02 : 0 < 2 := by omega
  have hlitA : ∀ wq : World, w3.heap.size ≤ wq.heap.size → (wq.alloc (.cells #[.int .i64 (-1), .iface 101 (.agg #[.int .i64 j.tr, .int .i64 j.id, .int .i64 j.cl, .slice pa n pc])] 76)).ownsRow w3.heap.size 76 2 (.slice (some ⟨wq.heap.size, 0, none⟩) 1 1) 1 [.int .i64 (-1), .iface 101 (.agg #[.int .i64 j.tr, .int .i64 j.id, .int .i64 j.cl, .slice pa n pc])] := fun wq hq => ownsRow_mono (own_new wq 76 [.int .i64 (-1), .iface 101 (.agg #[.int .i64 j.tr, .int .i64 j.id, .int .i64 j.cl, .slice pa n pc])] 2 1 rfl (by unfold maxLen; omega)) hq
  replace hlitA := Lib.hid hlitA
  go_region_held3 (fun w' => (w'.cell? ⟨p, 1, none⟩ = some (.int .i64 j.tr) ∧ w'.cell? ⟨p, 0, none⟩ = some (.int .i64 j.id)) ∧ w'.cell? ⟨mb, 0, none⟩ = some (.int .i64 j.tr) ∧ w'.cell? ⟨mb, 1, none⟩ = some (.int .i64 j.id) ∧ w'.cell? ⟨mb, 2, none⟩ = some (.int .i64 j.cl) ∧ w'.cell? ⟨mb, 3, none⟩ = some (.slice pa n pc))
    (first | exact hfacts.out _ g9 | exact hfacts.out _ f7 | exact hfacts.out _ (f7.alloc _) | exact hfacts.out _ f5 | exact hfacts.out _ (f5.alloc _) | exact hfacts.out _ (((Fr.refl noB _).alloc _).drew) | exact hfacts.out _ ((Fr.refl noB _).alloc _) | exact hfacts.out _ ((Fr.refl noB _).drewN 1) | fail)
    (first
     | (have qq := tok1; clear qq; rw [if_pos (by rfl)]; refine (wp_append_rd (.tmp 32) (.tmp 45) 43 rfl w3.heap.size 76 i0 _ 2 24 Tryz.underlying43 hi0 hz0 hz1 hz2 rfl h02 (.slice (some ⟨w3.heap.size, 0, none⟩) 1 1) 1 [.int .i64 (-1), .iface 101 (.agg #[.int .i64 j.tr, .int .i64 j.id, .int .i64 j.cl, .slice pa n pc])] (by simp [Act.eval, Act.put]) olit1 n v7 OC (by simp [Act.eval, Act.put]) (own_src o7) hll.out hone.out hsz1 hsz2 f7.size ?_); intro v9 w9 o9 f9; have g9 := fr_own olit1 f7 f9)
     | (have qq := tok2; clear qq; rw [if_pos (by rfl)]; refine (wp_append_rd (.tmp 32) (.tmp 45) 43 rfl w3.heap.size 76 i0 _ 2 24 Tryz.underlying43 hi0 hz0 hz1 hz2 rfl h02 (.slice (some ⟨w5.heap.size, 0, none⟩) 1 1) 1 [.int .i64 (-1), .iface 101 (.agg #[.int .i64 j.tr, .int .i64 j.id, .int .i64 j.cl, .slice pa n pc])] (by simp [Act.eval, Act.put]) olit2 n v7 OC (by simp [Act.eval, Act.put]) (own_src o7) hll.out hone.out hsz1 hsz2 f7.size ?_); intro v9 w9 o9 f9; have g9 := fr_own olit2 f7 f9)
     | (have qq := tok3; clear qq; rw [if_pos (by rfl)]; refine (wp_append_rd (.tmp 32) (.tmp 45) 43 rfl w3.heap.size 76 i0 _ 2 24 Tryz.underlying43 hi0 hz0 hz1 hz2 rfl h02 (.slice (some ⟨w7.heap.size, 0, none⟩) 1 1) 1 [.int .i64 (-1), .iface 101 (.agg #[.int .i64 j.tr, .int .i64 j.id, .int .i64 j.cl, .slice pa n pc])] (by simp [Act.eval, Act.put]) (hlitA.out w7 f7.size) n v7 OC (by simp [Act.eval, Act.put]) (own_src (ownsRow_fr o7 ((Fr.refl noB w7).alloc _) (fun _ _ q => q))) hll.out hone.out hsz1 hsz2 (f7.alloc _).size ?_); intro v9 w9 o9 f9; have g9 := fr_own (hlitA.out w7 f7.size) (f7.alloc _) f9)
     | (go_at_call 42; have qq := lit5; clear qq; refine (hte.out v5 w5 r5).mono ?_; rintro e w7 ⟨v7, rfl, o7, f70⟩; have f7 : Fr noB w3 w7 := f5.seqN f70; have olit1 := ownsRow_fr lit5 f70 (fun _ _ q => q); have tok1 : True := trivial)
     | (go_at_call 42; have qq := tokV; clear qq; refine (hte.out v5 w5 r5).mono ?_; rintro e w7 ⟨v7, rfl, o7, f70⟩; have f7 : Fr noB w3 w7 := f5.seqN f70; have tok3 : True := trivial)
     | (go_at_call 42; have qq := tokV; clear qq; refine (hte.out v5 _ (r5.fr ((Fr.refl noB w5).alloc _) (fun _ _ _ _ _ q => q))).mono ?_; rintro e w7 ⟨v7, rfl, o7, f70⟩; have f7 : Fr noB w3 w7 := (f5.alloc _).seqN f70; have olit2 := ownsRow_fr (hlitA.out w5 f5.size) f70 (fun _ _ q => q); have tok2 : True := trivial)
     | (go_at_call 46; refine (hvis.out w3.drew (fM.seqN (Fr.refl noB _).drew)).mono ?_; rintro e w5 ⟨v5, rfl, o5, f50⟩; have f5 : Fr noB w3 w5 := ((Fr.refl noB w3).drew).seqN f50; have r5 : RdI w5 v5 L := RdI.of_own o5; have tokV : True := trivial)
     | (go_at_call 46; refine (hvis.out _ (fM.seqN (((Fr.refl noB _).alloc _).drew))).mono ?_; rintro e w5 ⟨v5, rfl, o5, f50⟩; have f5 : Fr noB w3 w5 := (((Fr.refl noB w3).alloc _).drew).seqN f50; have r5 : RdI w5 v5 L := RdI.of_own o5; have lit5 := ownsRow_fr hlit.out f50 (fun _ _ q => q))
     | fail)
  all_goals (
    have hw3 : w.heap.size ≤ w3.heap.size := fM.size
    have o10 := ownsRow_mono o9 hw3
    rw [Nat.add_comm] at o10
    try go_wp2_with fail
    go_ret
    exact ⟨v9, pa, pc, rfl, by rw [hLn.out, ← hOC.out]; exact o10, fM.seqN g9⟩)
end Go.Proofs.YtidcoddefebdpaaGreat
