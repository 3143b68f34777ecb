/-
  An agent hears: what goes up, and over.
  An agent hears: what goes over, what it lets go.
  An agent hears: collecting, letting go; any message.
  An agent hears any message.
-/
import Derived.Test.YtppmednmcbjafaaGreatAgA1
import Derived.Test.YtppmednmcbjafaaGreatSpanS6
section
set_option linter.unusedVariables false
set_option linter.unusedSimpArgs false
set_option maxRecDepth 100000
set_option maxRecDepth 100000
set_option maxRecDepth 10000
namespace Go.Proofs.YtppmednmcbjafaaGreat
open Go.RowKit Go Go.Maps Go.Lib

/-- a slice of messages -/
def OutW (w : World) (v : Value) (ms : List Ms) : Prop := ∃ a c, v = .slice a ms.length c ∧ ms.length ≤ c ∧ ms.length ≤ 9223372036854775807 ∧ ∀ i m, ms[i]? = some m → ∃ g o x, a = some ⟨g, o, none⟩ ∧ w.cell? ⟨g, o + i, none⟩ = some x ∧ MsW w x m
theorem OutW.nil (w : World) : OutW w (.slice none 0 0) [] := ⟨none, 0, rfl, by simp, by simp, fun i m h => by simp at h⟩
theorem OutW.one {N : Nat → Prop} {w : World} {g : Nat} {t : TypeId} {x : Value} {m : Ms} (hb : Blk w g t [x]) (hg : N g) (hm : Kept N w (fun u => MsW u x m)) : Kept N w (fun u => OutW u (.slice (some ⟨g, 0, none⟩) 1 1) [m]) := fun w' f => by
  have b := f.blk hb (fun q => q hg)
  refine ⟨_, 1, rfl, by simp, by simp, fun i m' hi => ?_⟩
  have hi0 : i = 0 := by have := (List.getElem?_eq_some_iff.1 hi).1; simp at this; omega
  subst hi0
  simp at hi
  subst hi
  exact ⟨g, 0, x, rfl, b.cell 0, hm w' f⟩
theorem free_new {w : World} {p n : Nat} {col : Nat → Nat} {A : AG} {a : Ad} (h : AgA w p col n A a) {n0 q : Nat} (h0 : n0 ≤ q) (h1 : w.heap.size ≤ q) : freeB n0 col q := by
  refine ⟨h0, ?_⟩
  rcases Nat.eq_zero_or_pos (col q) with e | e
  · exact e
  · have := h.low q (by omega); omega

/-- what goes up: the trace can't be pinned for the job any more -/
theorem ag_gone (p : Nat) (col : Nat → Nat) (n : Nat) (A : AG) (a : Ad) (t j : Int) (w : World) (h : AgA w p col n A a) : Calls Tryz.prog 127 #[.pointer (some ⟨p, 0, none⟩), .int .i64 t, .int .i64 j] w fun e w' => ∃ v, e = .returned v ∧ Fr noB w w' ∧ Kept (freeB w.heap.size col) w' (fun u => OutW u v [.gone A.id t j]) := by
  have d0 : w.cell? ⟨p, 0, none⟩ = some (.int .i64 A.id) := h.blk.cell 0
  have f := (Fr.refl noB w).alloc (.cells #[mGone A.id t j] 60)
  have b := Blk.new w 60 [mGone A.id t j]
  have hk : Kept (freeB w.heap.size col) (w.alloc (.cells #[mGone A.id t j] 60)) (fun u => OutW u (.slice (some ⟨w.heap.size, 0, none⟩) 1 1) [.gone A.id t j]) :=
    OutW.one b (free_new h (Nat.le_refl _) (Nat.le_refl _)) (Kept.any (fun u => rfl))
  unfold mGone at hk f
  clear h b
  replace hk := Lib.hid hk
  generalize A.id = ai at *
  go_enter Tryz.func127, Tryz.ntmps127
  go_wp2_with fail
  go_ret
  exact ⟨_, rfl, f, hk.out⟩

def AG.pn (A : AG) (t j : Int) : AG := if j ≤ A.done t ∨ j < A.job t then A else if j ≤ A.over t then A else { A with hold := fun u => if u = t then some (j, A.now + A.T) else A.hold u, K := { A.K with pins := outL A.K.pins t ++ [t] } }
def AG.pu (A : AG) (t j : Int) : List Ms := if j ≤ A.done t ∨ j < A.job t then [] else if j ≤ A.over t then [.gone A.id t j] else [.pinned ⟨A.id, t, j, (txt A.K.P t).length, A.X t, decide (t ∈ A.K.loss)⟩]
theorem dlook {w : World} {p n : Nat} {col : Nat → Nat} {A : AG} {a : Ad} (h : AgA w p col n A a) {t : Int} (ht : okI t) : (Instr.lookup 108 (.map (some a.dm)) (.int .i64 t) false).run Tryz.prog w = .ok (.int .i64 (A.done t)) w := by
  have := h.dm.run_look KI Tryz.underlying108 (zeroInt w) mkI_inj t ht
  rw [h.hD t] at this
  exact this
/-- granted, and pinned -/
theorem ag_grant {p n : Nat} {col : Nat → Nat} {A : AG} {a : Ad} {t j : Int} {w : World} (h : AgA w p col n A a) (ht : okI t) (hn : n < 100000) : Calls Tryz.prog 128 #[.pointer (some ⟨a.lg, 0, none⟩), .int .i64 t, .int .i64 j] w fun e w' => e = .returned (.tuple #[]) ∧ (∃ a2, a2.k = a.k ∧ AgA w' p col (n + 1) { A with hold := fun u => if u = t then some (j, A.now + A.T) else A.hold u } a2) ∧ Fr (fun q => col q ≠ 0) w w' := by
  obtain ⟨z1, z2, z3, z4⟩ := h.z1
  refine (lgrant_any _ _ _ _ _ _ t j _ _ w h.ls ht (by omega)).mono ?_
  rintro e w' ⟨he, ls, f⟩
  have hu := h.up (Nat.le_succ n) (by omega)
  have e3 : ∀ q c, col q = c → c ≠ 3 → ¬ lsB a.lg a.lh a.lo q := fun q c h1 h2 h3 => h2 (by rw [← h1]; exact h.c3 q h3)
  refine ⟨he, ⟨{ a with G := t :: a.G, H := withKey a.H t (j, A.now + A.T) }, rfl, ?_⟩, f.mono (fun q _ hq => by rw [h.c3 q hq]; decide)⟩
  exact ⟨f.blk h.blk (e3 _ _ h.c9 (by decide)), h.kp.fr f (fun q hq => e3 _ _ (h.c1 q hq) (by decide)), h.cm.fr f (fun q hq => e3 _ _ (h.c2 q hq) (by decide)), ls, fun u => by
      by_cases hu : u = t
      · subst hu; rw [look_withKey_same]; simp
      · rw [look_withKey_other _ _ hu, h.hH u]; simp [hu], h.hO,
    fun i hi => f.blk (h.k i hi) (e3 _ _ (h.c4 i hi) (by omega)), hu.kb, h.dm.fr f (e3 _ _ h.c8 (by decide)), h.hD,
    h.c1, fun q hq => h.c2 q (cmB_w hq), h.c3, h.c4, h.c8, h.c9, fun q hq => Nat.lt_of_lt_of_le (h.low q hq) f.size, ⟨hu.z1.1, by simp; omega, hu.z1.2.2.1, hu.z1.2.2.2⟩, hu.z2, hu.zn, h.zi⟩
theorem pin_len (P : List Int) (t : Int) : (outL P t ++ [t]).length ≤ P.length + 1 := by
  have := outL_len P t
  simp; omega

set_option maxHeartbeats 4000000 in
theorem ag_pin (p : Nat) (col : Nat → Nat) (n : Nat) (A : AG) (a : Ad) (t j : Int) (w : World) (h : AgA w p col n A a) (ht : 1 ≤ t ∧ t ≤ 65535) (hn : n < 100000) : Calls Tryz.prog 94 #[.pointer (some ⟨p, 0, none⟩), .int .i64 t, .int .i64 j] w fun e w' => ∃ v c2, e = .returned v ∧ ATo w w' p col (n + 1) (A.pn t j) c2 ∧ Kept (freeB w.heap.size c2) w' (fun u => OutW u v (A.pu t j)) := by
  have hok : okI t := okI_of (by omega) (by omega)
  have hu := h.up (Nat.le_succ n) (by omega)
  have d0 : w.cell? ⟨p, 0, none⟩ = some (.int .i64 A.id) := h.blk.cell 0
  have d1 : w.cell? ⟨p, 1, none⟩ = some (.pointer (some ⟨a.k, 0, none⟩)) := h.blk.cell 1
  have d3 : w.cell? ⟨p, 3, none⟩ = some (.pointer (some ⟨a.lg, 0, none⟩)) := h.blk.cell 3
  have d8 : w.cell? ⟨p, 8, none⟩ = some (.map (some a.dm)) := h.blk.cell 8
  have hlk := dlook h hok
  have hjb := ljob_any _ _ _ _ _ _ t _ _ w h.ls hok
  rw [h.hH t] at hjb
  have hjb2 : Calls Tryz.prog 77 #[.pointer (some ⟨a.lg, 0, none⟩), .int .i64 t] w fun e w' => e = .returned (.int .i64 (A.job t)) ∧ w' = w := hjb
  have hov := lover_any _ _ _ _ _ _ t _ _ w h.ls hok
  rw [h.hO t] at hov
  have hgo := ag_gone p col n A a t j w h
  clear hjb
  unfold AG.pn AG.pu
  by_cases h1 : j ≤ A.done t
  · rw [if_pos (Or.inl h1), if_pos (Or.inl h1)]
    have i1 : decide (j ≤ A.done t) = true := by simpa using h1
    have hfin : ATo w w p col (n + 1) A col := ATo.same hu (Fr.refl _ _)
    generalize A.done t = dn at *
    replace hfin := Lib.hid hfin
    replace hjb2 := Lib.hid hjb2
    replace hov := Lib.hid hov
    replace hgo := Lib.hid hgo
    clear h hu
    go_enter Tryz.func94, Tryz.ntmps94
    go_wp2_with fail
    go_ret
    exact ⟨_, _, rfl, hfin.out, Kept.any OutW.nil⟩
  have i1 : decide (j ≤ A.done t) = false := by simpa using h1
  by_cases h2 : j < A.job t
  · rw [if_pos (Or.inr h2), if_pos (Or.inr h2)]
    have i2 : decide (j < A.job t) = true := by simpa using h2
    have hfin : ATo w w p col (n + 1) A col := ATo.same hu (Fr.refl _ _)
    generalize A.done t = dn at *
    generalize A.job t = jb at *
    replace hfin := Lib.hid hfin
    replace hjb2 := Lib.hid hjb2
    replace hov := Lib.hid hov
    replace hgo := Lib.hid hgo
    clear h hu
    go_enter Tryz.func94, Tryz.ntmps94
    go_wp2_with fail
    go_fit hjb2.out
    rintro e w1 ⟨rfl, hw⟩
    obtain rfl := hw.symm
    go_wp2_with fail
    go_ret
    exact ⟨_, _, rfl, hfin.out, Kept.any OutW.nil⟩
  have i2 : decide (j < A.job t) = false := by simpa using h2
  have hnn : ¬ (j ≤ A.done t ∨ j < A.job t) := by omega
  rw [if_neg hnn, if_neg hnn]
  clear hnn
  by_cases h3 : j ≤ A.over t
  · rw [if_pos h3, if_pos h3]
    have i3 : decide (j ≤ A.over t) = true := by simpa using h3
    have hfin : ∀ w', Fr noB w w' → ATo w w' p col (n + 1) A col := fun w' f => ATo.same hu f
    generalize A.done t = dn at *
    generalize A.job t = jb at *
    generalize A.over t = ov at *
    replace hfin := Lib.hid hfin
    replace hjb2 := Lib.hid hjb2
    replace hov := Lib.hid hov
    replace hgo := Lib.hid hgo
    clear h hu
    go_enter Tryz.func94, Tryz.ntmps94
    go_wp2_with fail
    go_fit hjb2.out
    rintro e w1 ⟨rfl, hw⟩
    obtain rfl := hw.symm
    go_wp2_with fail
    go_fit hov.out
    rintro e w1 ⟨rfl, hw⟩
    obtain rfl := hw.symm
    go_wp2_with fail
    go_fit hgo.out
    rintro e w1 ⟨v, rfl, f, hk⟩
    obtain ⟨va, vn, vc, rfl⟩ : ∃ va vn vc, v = .slice va vn vc := by obtain ⟨x, y, e, _⟩ := hk.now; exact ⟨x, _, y, e⟩
    replace hk := Lib.hid hk
    go_wp2_with fail
    go_ret
    exact ⟨_, _, rfl, hfin.out _ f, hk.out⟩
  have i3 : decide (j ≤ A.over t) = false := by simpa using h3
  rw [if_neg h3, if_neg h3]
  have hgr := ag_grant (j := j) h hok hn
  have hz2 := h.z2
  have hlw := h.low
  generalize A.done t = dn at *
  generalize A.job t = jb at *
  generalize A.over t = ov at *
  replace hgr := Lib.hid hgr
  replace hjb2 := Lib.hid hjb2
  replace hov := Lib.hid hov
  replace hlw := Lib.hid hlw
  clear h hu hgo
  go_enter Tryz.func94, Tryz.ntmps94
  go_wp2_with fail
  go_fit hjb2.out
  rintro e w1 ⟨rfl, hw⟩
  obtain rfl := hw.symm
  go_wp2_with fail
  go_fit hov.out
  rintro e w1 ⟨rfl, hw⟩
  obtain rfl := hw.symm
  go_wp2_with fail
  go_fit hgr.out
  rintro e w1 ⟨rfl, ⟨a1, hk1, h1a⟩, f1⟩
  have e1 : w1.cell? ⟨p, 1, none⟩ = some (.pointer (some ⟨a1.k, 0, none⟩)) := h1a.blk.cell 1
  have hpn := kpin_any _ _ _ _ _ _ _ _ _ t w1 h1a.kp hok (by have := hz2.1; show A.K.pins.length < 1000000; omega)
  have hnext : ∀ w2, KTo w1 w2 a1.k a1.g a1.bp a1.bl a1.B A.N a1.wa { A.K with pins := outL A.K.pins t ++ [t] } → ∃ c2, ATo w1 w2 p col (n + 1) { A with hold := fun u => if u = t then some (j, A.now + A.T) else A.hold u, K := { A.K with pins := outL A.K.pins t ++ [t] } } c2 := fun w2 kt =>
    h1a.keeper kt (Nat.le_refl _) (by omega) ⟨Nat.le_trans (pin_len _ _) (by have := hz2.1; omega), by have := hz2.2.1; show A.K.loss.length ≤ n + 1; omega, by have := hz2.2.2; show A.K.gone.length ≤ n + 1; omega⟩
  replace hpn := Lib.hid hpn
  replace hnext := Lib.hid hnext
  replace h1a := Lib.hid h1a
  clear d0 d1 d3 d8 hlk hgr hjb2 hov hk1
  go_wp2_with fail
  go_fit hpn.out
  rintro e w2 ⟨rfl, kt⟩
  obtain ⟨c2, hto⟩ := hnext.out w2 kt
  have hto0 : ATo w w2 p col (n + 1) { A with hold := fun u => if u = t then some (j, A.now + A.T) else A.hold u, K := { A.K with pins := outL A.K.pins t ++ [t] } } c2 := ATo.trans (n := n + 1) (A := { A with hold := fun u => if u = t then some (j, A.now + A.T) else A.hold u }) ⟨⟨a1, h1a.out⟩, f1, fun _ _ => rfl⟩ hto
  obtain ⟨⟨a2, h2a⟩, f2, hc2⟩ := hto
  have hsz : w.heap.size ≤ w2.heap.size := hto0.2.1.size
  have e0 : w2.cell? ⟨p, 0, none⟩ = some (.int .i64 A.id) := h2a.blk.cell 0
  have e1 : w2.cell? ⟨p, 1, none⟩ = some (.pointer (some ⟨a2.k, 0, none⟩)) := h2a.blk.cell 1
  have e2 : w2.cell? ⟨p, 2, none⟩ = some (.pointer (some ⟨a2.cg, 0, none⟩)) := h2a.blk.cell 2
  have hsp : ∀ w', Fr noB w2 w' → Calls Tryz.prog 74 #[.pointer (some ⟨a2.k, 0, none⟩), .int .i64 t] w' fun e w'' => ∃ u, e = .returned u ∧ w''.ownsRow w'.heap.size 38 3 u (txt A.K.P t).length ((spansOf t (txt A.K.P t)).flatMap spC) ∧ Fr noB w' w'' := fun w' f => by
    have hh := kspans_any _ _ _ _ _ _ _ _ _ t w' (h2a.frN f).kp
    exact hh
  have hof : ∀ w', Fr noB w2 w' → Calls Tryz.prog 76 #[.pointer (some ⟨a2.cg, 0, none⟩), .int .i64 t] w' fun e w'' => ∃ v, e = .returned v ∧ w''.ownsRow w'.heap.size 3 1 v (A.X t).length (rowV (A.X t)) ∧ Fr noB w' w'' := fun w' f => by
    have hh := cof_any _ _ _ _ _ t _ _ w' (h2a.frN f).cm hok
    exact hh
  have hlo : ∀ w', Fr noB w2 w' → Calls Tryz.prog 78 #[.pointer (some ⟨a2.k, 0, none⟩), .int .i64 t] w' fun e w'' => e = .returned (.bool (decide (t ∈ A.K.loss))) ∧ Fr noB w' w'' := fun w' f => by
    have hh := klost_any _ _ _ _ _ _ _ _ _ t w' (h2a.frN f).kp hok
    exact hh
  have hS : ∀ w', Fr noB w2 w' → w'.cell? ⟨p, 0, none⟩ = some (.int .i64 A.id) ∧ w'.cell? ⟨p, 1, none⟩ = some (.pointer (some ⟨a2.k, 0, none⟩)) ∧ w'.cell? ⟨p, 2, none⟩ = some (.pointer (some ⟨a2.cg, 0, none⟩)) := fun w' f => ⟨f.cell e0 (fun q => q), f.cell e1 (fun q => q), f.cell e2 (fun q => q)⟩
  have hfree : ∀ q, w2.heap.size ≤ q → freeB w.heap.size c2 q := fun q hq => free_new h2a (by omega) hq
  have hfin : ∀ w9, Fr noB w2 w9 → ATo w w9 p col (n + 1) { A with hold := fun u => if u = t then some (j, A.now + A.T) else A.hold u, K := { A.K with pins := outL A.K.pins t ++ [t] } } c2 := fun w9 f9 => ATo.wrapN (Fr.refl noB w) hto0 f9
  clear e0 e1 e2 h2a f2 hc2 hto0 kt hnext hpn h1a f1
  generalize (spansOf t (txt A.K.P t)).flatMap spC = cs at *
  generalize hLL : (txt A.K.P t).length = L at *
  generalize hX : A.X t = Xt at *
  generalize hlq : decide (t ∈ A.K.loss) = lo at *
  generalize hid : A.id = ai at *
  replace hid := Lib.hid hid
  replace hX := Lib.hid hX
  replace hLL := Lib.hid hLL
  replace hlq := Lib.hid hlq
  have fq := (Fr.refl noB w2).drewN 1
  replace hsp := Lib.hid hsp
  replace hof := Lib.hid hof
  replace hlo := Lib.hid hlo
  replace hS := Lib.hid hS
  replace hfree := Lib.hid hfree
  replace hfin := Lib.hid hfin
  clear hz2 i1 i2 i3 h1 h2 h3
  go_wp2_with fail
  go_region_held3 (fun w' => w'.cell? ⟨p, 0, none⟩ = some (.int .i64 ai) ∧ w'.cell? ⟨p, 1, none⟩ = some (.pointer (some ⟨a2.k, 0, none⟩)) ∧ w'.cell? ⟨p, 2, none⟩ = some (.pointer (some ⟨a2.cg, 0, none⟩)))
    (first | exact hS.out _ fq | exact hS.out _ (fq.alloc _) | exact hS.out _ ((Fr.refl noB _).drewN 1) | fail)
    (first
     | (go_at_call 78; refine (hlo.out _ fq).mono ?_; rintro e w7 ⟨rfl, f7⟩; have fq := fq.seqN f7; have f7 := Lib.hid f7)
     | (go_at_call 76; refine (hof.out _ fq).mono ?_; rintro e w6 ⟨u6, rfl, o6, f6⟩; obtain ⟨ua, uc, rfl⟩ := ownsRow_slice o6; have hB6 := Lib.hid fq.size; have fq := fq.seqN f6; have o6 := Lib.hid o6)
     | (go_at_call 74; refine (hsp.out _ fq).mono ?_; rintro e w5 ⟨u5, rfl, o5, f5⟩; obtain ⟨va, vc, rfl⟩ := ownsRow_slice o5; have fq := fq.seqN f5)
     | fail)
  all_goals (
    go_wp2_with fail
    go_ret
    obtain rfl := hid.out
    obtain rfl := hX.out
    obtain rfl := hLL.out
    obtain rfl := hlq.out
    have fA := fq.alloc (.cells #[.iface 133 (.agg #[.int .i64 A.id, .int .i64 t, .int .i64 j, .int .i64 (txt A.K.P t).length, .slice ua (A.X t).length uc, .bool (decide (t ∈ A.K.loss))])] 60)
    refine ⟨_, c2, rfl, hfin.out _ fA, ?_⟩
    refine OutW.one (m := .pinned ⟨A.id, t, j, (txt A.K.P t).length, A.X t, decide (t ∈ A.K.loss)⟩) (Blk.new _ 60 [.iface 133 (.agg #[.int .i64 A.id, .int .i64 t, .int .i64 j, .int .i64 (txt A.K.P t).length, .slice ua (A.X t).length uc, .bool (decide (t ∈ A.K.loss))])]) (hfree.out _ fq.size) ?_
    have k6 := (Kept.ints (N := freeB w.heap.size c2) o6.out (fun q hq => hfree.out q (Nat.le_trans hB6.out (o6.out.lt q hq).1))).stepN f7.out
    exact fun w' f' => ⟨_, rfl, (k6.stepN ((Fr.refl noB _).alloc (.cells #[.iface 133 (.agg #[.int .i64 A.id, .int .i64 t, .int .i64 j, .int .i64 (txt A.K.P t).length, .slice ua (A.X t).length uc, .bool (decide (t ∈ A.K.loss))])] 60))) w' f'⟩)
end Go.Proofs.YtppmednmcbjafaaGreat
end

section
set_option linter.unusedVariables false
set_option linter.unusedSimpArgs false
set_option maxRecDepth 100000
set_option maxRecDepth 10000
namespace Go.Proofs.YtppmednmcbjafaaGreat
open Go.RowKit Go Go.Maps Go.Lib

theorem Tryz.infoMsgI : (Tryz.prog.info? 60).map (fun i => (i.zero, i.size, i.bytes)) = some (some .nilIface, 1, 16) := by kernel_rfl
theorem OutW.own {N : Nat → Prop} {w : World} {B n : Nat} {ty : TypeId} {v : Value} {vs : List Value} {ms : List Ms} (o : w.ownsRow B ty 1 v n vs) (hN : ∀ q, v.ownBlock = some q → N q) (hl : ms.length = n) (hb : n ≤ 9223372036854775807) (hm : ∀ (i : Nat) (x : Value) (m : Ms), vs[i]? = some x → ms[i]? = some m → Kept N w (fun u => MsW u x m)) : Kept N w (fun u => OutW u v ms) := fun w' f => by
  have o2 := ownsRow_fr o f (fun g hg q => q (hN g hg))
  have hvl : vs.length = n := by have := o.1; omega
  rcases o2.2 with ⟨rfl, h1⟩ | ⟨g, cap, cur, rfl, h1, h2, h3, h4, h5⟩
  · have : ms = [] := List.eq_nil_of_length_eq_zero (by omega)
    subst this
    exact OutW.nil w'
  · subst hl
    refine ⟨_, cap, rfl, h3, hb, fun i m hi => ?_⟩
    have hil : i < ms.length := (List.getElem?_eq_some_iff.1 hi).1
    have hx : vs[i]? = some vs[i] := List.getElem?_eq_getElem (by omega)
    have hc := o2.cells (g := g) rfl i _ hx
    rw [Addr.add_lit] at hc
    exact ⟨g, 0, vs[i], rfl, hc, hm i _ m hx hi w' f⟩

/-- what goes over of a trace -/
def AG.cks (A : AG) (t j : Int) : List Ms := (chkL (spansOf t (txt A.K.P t))).mapIdx fun i l => .chunk A.id t j i (chkL (spansOf t (txt A.K.P t))).length l
theorem one_if (t : TypeId) (v : Value) : ∀ u ∈ [Value.iface t v], u.oneCell' = true := by intro u hu; simp at hu; subst hu; rfl
set_option maxHeartbeats 4000000 in
theorem ag_chunks (p : Nat) (col : Nat → Nat) (n : Nat) (A : AG) (a : Ad) (t j : Int) (w : World) (h : AgA w p col n A a) : Calls Tryz.prog 130 #[.pointer (some ⟨p, 0, none⟩), .int .i64 t, .int .i64 j] w fun e w' => ∃ v, e = .returned v ∧ Fr noB w w' ∧ Kept (freeB w.heap.size col) w' (fun u => OutW u v (A.cks t j)) := by
  obtain ⟨i0, hi, hz0, hz1, hz2⟩ := info_parts Tryz.infoMsgI
  have d1 : w.cell? ⟨p, 1, none⟩ = some (.pointer (some ⟨a.k, 0, none⟩)) := h.blk.cell 1
  have d0 : ∀ w', Fr noB w w' → w'.cell? ⟨p, 0, none⟩ = some (.int .i64 A.id) := fun w' f => (h.frN f).blk.cell 0
  have hsp := kspans_any _ _ _ _ _ _ _ _ _ t w h.kp
  have hlen : (txt A.K.P t).length ≤ 48 := h.kp.po.len t
  have hfree : ∀ q, w.heap.size ≤ q → freeB w.heap.size col q := fun q hq => free_new h hq hq
  have hcl := spansOf_len t (txt A.K.P t)
  unfold AG.cks
  generalize (txt A.K.P t).length = TL at *
  generalize spansOf t (txt A.K.P t) = L at *
  generalize A.id = ai at *
  clear h
  obtain ⟨BW, hBW⟩ : ∃ B, w.heap.size = B := ⟨_, rfl⟩
  rw [hBW] at hsp hfree ⊢
  replace hBW := Lib.hid hBW
  replace hsp := Lib.hid hsp
  replace hfree := Lib.hid hfree
  replace d0 := Lib.hid d0
  go_enter Tryz.func130, Tryz.ntmps130
  go_wp2_with fail
  go_fit hsp.out
  rintro e w1 ⟨u, rfl, o1, f1⟩
  have rd1 : RdSp w1 u L := RdSp.of_own o1 hcl
  have hck := chunks_any u L w1 rd1 (by omega)
  clear d1 rd1 o1
  replace hck := Lib.hid hck
  replace hcl := Lib.hid hcl
  go_wp2_with fail
  go_fit hck.out
  rintro e w2 ⟨v', P, rfl, o2, op2, hP, f2⟩
  have fr2 := f1.seqN f2
  have hs1 := f1.size
  have hs2 := f2.size
  have hB : BW ≤ w1.heap.size := by rw [← hBW.out]; exact hs1
  have hB2 : BW ≤ w2.heap.size := by omega
  obtain ⟨va, vc, rfl⟩ := ownsRow_slice o2
  have hcell : ∀ k q, P[k]? = some q → ∀ w', Fr noB w2 w' → ∃ g, va = some ⟨g, 0, none⟩ ∧ w'.cell? ⟨g, 0 + k, none⟩ = some q.1 := fun k q hk w' f => by
    rcases o2.2 with ⟨e1, h1⟩ | ⟨g, cap, cur, e1, h1, h2, h3, h4, h5⟩
    · rw [List.eq_nil_of_length_eq_zero h1] at hk; simp at hk
    · cases e1
      have hx : (P.map Prod.fst)[k]? = some q.1 := by rw [List.getElem?_map, hk]; rfl
      have hc := (ownsRow_fr o2 f (fun _ _ q => q)).cells (g := g) rfl k _ hx
      rw [Addr.add_lit] at hc
      exact ⟨g, rfl, hc⟩
  have hsl : ∀ q ∈ P, ∃ sa sc, q.1 = .slice sa q.2.length sc := fun q hq => by obtain ⟨x, y, e⟩ := ownsRow_slice (op2 q hq); exact ⟨x, y, e⟩
  have hcap : P.length ≤ vc ∧ vc ≤ 9223372036854775807 ∨ P.length = 0 := by
    rcases o2.2 with ⟨e1, h1⟩ | ⟨g, cap, cur, e1, h1, h2, h3, h4, h5⟩
    · exact Or.inr h1
    · cases e1; unfold maxLen at h4; exact Or.inl ⟨h3, by omega⟩
  have hPl : P.length = (chkL L).length := by rw [← hP]; simp
  have hcs := (chk_props L.length L rfl).2
  have hPb : P.length ≤ 100 := by
    have h3 := hcs.1
    have := hcl.out
    omega
  have hml : (P.map Prod.snd).length = P.length := by simp
  obtain ⟨VL, hVL⟩ : ∃ VL : List Value, VL = P.mapIdx fun i q => .iface 138 (.agg #[.int .i64 ai, .int .i64 t, .int .i64 j, .int .i64 i, .int .i64 P.length, q.1]) := ⟨_, rfl⟩
  have hVl : VL.length = P.length := by rw [hVL]; simp
  have hVk : ∀ k q, P[k]? = some q → VL.take (k + 1) = VL.take k ++ [.iface 138 (.agg #[.int .i64 ai, .int .i64 t, .int .i64 j, .int .i64 k, .int .i64 P.length, q.1])] := fun k q hk => by
    have hkl : k < VL.length := by rw [hVl]; exact (List.getElem?_eq_some_iff.1 hk).1
    rw [List.take_succ_eq_append_getElem hkl]
    congr 2
    have : VL[k]? = some (.iface 138 (.agg #[.int .i64 ai, .int .i64 t, .int .i64 j, .int .i64 k, .int .i64 P.length, q.1])) := by
      rw [hVL, List.getElem?_mapIdx, hk]; rfl
    rw [List.getElem?_eq_getElem hkl] at this
    exact Option.some.inj this
  have hfin : ∀ w9 vl, w9.ownsRow w2.heap.size 60 1 vl P.length VL → Fr noB w2 w9 → Kept (freeB BW col) w9 (fun u => OutW u vl ((chkL L).mapIdx fun i l => .chunk ai t j i (chkL L).length l)) := fun w9 vl o9 f9 => by
    rw [← hP, hml]
    refine OutW.own o9 (fun q hq => hfree.out q (Nat.le_trans hB2 (o9.lt q hq).1)) (by simp) (by omega) (fun i x m hx hm => ?_)
    rw [hVL, List.getElem?_mapIdx] at hx
    rw [List.getElem?_mapIdx, List.getElem?_map] at hm
    cases hq : P[i]? with
    | none => rw [hq] at hx; cases hx
    | some q =>
      rw [hq] at hx hm
      simp only [Option.map_some, Option.some.injEq] at hx hm
      subst hx hm
      have oq := ownsRow_fr (op2 q (List.mem_of_getElem? hq)) f9 (fun _ _ q => q)
      exact fun w' f' => ⟨q.1, rfl, RdSp.of_own (ownsRow_fr oq f' (fun g hg z => z (hfree.out g (Nat.le_trans hB (oq.lt g hg).1)))) rfl⟩
  have hget : ∀ k, k < P.length → ∃ q, P[k]? = some q := fun k hk => ⟨P[k], List.getElem?_eq_getElem hk⟩
  have hmem : ∀ k q, P[k]? = some q → q ∈ P := fun k q hk => List.mem_of_getElem? hk
  obtain ⟨N, hN⟩ : ∃ N, P.length = N := ⟨_, rfl⟩
  rw [hN] at hget hcap hPb hVk hfin o2 ⊢
  obtain ⟨B2, hB2e⟩ : ∃ B, w2.heap.size = B := ⟨_, rfl⟩
  rw [hB2e] at hfin hB2
  have hB2w : B2 = w2.heap.size := hB2e.symm
  replace hB2w := Lib.hid hB2w
  clear hB2e hs1 hs2
  clear hPl hcs hml
  have hNb : (N : Int) ≤ 100 := by omega
  replace hN := Lib.hid hN
  replace hfin := Lib.hid hfin
  replace hget := Lib.hid hget
  replace hVk := Lib.hid hVk
  replace hVL := Lib.hid hVL
  replace hVl := Lib.hid hVl
  replace hcell := Lib.hid hcell
  replace hsl := Lib.hid hsl
  replace hmem := Lib.hid hmem
  replace hP := Lib.hid hP
  replace op2 := Lib.hid op2
  replace o2 := Lib.hid o2
  have own0 : w2.ownsRow B2 60 1 (.slice none 0 0) 0 (VL.take 0) := World.ownsRow_nil _ _ _ _
  replace own0 := Lib.hid own0
  clear hck hsp hlen
  go_wp2_with fail
  go_loopg [7, 20] N (fun gk vl vi wr => ∃ k : Nat, k + gk = N ∧ vi = .int .i64 k ∧ Hid (wr.ownsRow B2 60 1 vl k (VL.take k)) ∧ Fr noB w2 wr)
  case atStart => exact ⟨0, by omega, rfl, own0, Fr.refl _ _⟩
  case round =>
    clear own0
    obtain ⟨k, hk, rfl, hown, fr⟩ := hrel
    by_cases hlt : k < N
    · obtain ⟨q, hq⟩ := hget.out k hlt
      obtain ⟨g, rfl, hc⟩ := hcell.out k q hq wr fr
      obtain ⟨sa, sc, hqs⟩ := hsl.out q (hmem.out k q hq)
      rw [hqs, Nat.zero_add] at hc
      have e0 := d0.out wr (fr2.seqN fr)
      have hcp : N ≤ vc := by rcases hcap with h | h <;> omega
      have hb1 : (k : Int) < N := by omega
      have hvk := hVk.out k q hq
      rw [hqs] at hvk
      have hmeas : gk - 1 < gk := by omega
      have hgk : k + 1 + (gk - 1) = N := by omega
      generalize q.2.length = ql at *
      have f5 : Fr noB wr (wr.alloc (.cells #[.iface 138 (.agg #[.int .i64 ai, .int .i64 t, .int .i64 j, .int .i64 k, .int .i64 N, .slice sa ql sc])] 60)) := (Fr.refl _ _).alloc _
      have ow5 := ownsRow_fr hown.out f5 (fun _ _ q => q)
      have hw5 : B2 ≤ (wr.alloc (.cells #[.iface 138 (.agg #[.int .i64 ai, .int .i64 t, .int .i64 j, .int .i64 k, .int .i64 N, .slice sa ql sc])] 60)).heap.size := by have := (fr.seqN f5).size; have := hB2w.out; omega
      have cn := cell_new wr (.iface 138 (.agg #[.int .i64 ai, .int .i64 t, .int .i64 j, .int .i64 k, .int .i64 N, .slice sa ql sc])) 60
      replace hq := Lib.hid hq
      replace hvk := Lib.hid hvk
      replace hmeas := Lib.hid hmeas
      replace hgk := Lib.hid hgk
      replace hqs := Lib.hid hqs
      clear hk
      go_wp2_with (first
        | (at_builtin; go_must (refine wpList_append_at _ rfl (.tmp 25) (.tmp 38) 62 rfl B2 60 i0 _ 1 16 Tryz.underlying62 hi hz0 hz1 hz2 rfl (by decide) _ k (VL.take k) rfl ow5 ⟨wr.heap.size, 0, none⟩ 1 1 [.iface 138 (.agg #[.int .i64 ai, .int .i64 t, .int .i64 j, .int .i64 k, .int .i64 N, .slice sa ql sc])] rfl rfl cn (one_if _ _) ?_ ?_ hw5 ?_))
        | fail)
      · unfold maxLen; omega
      · omega
      intro v8 w8 o8 gr8 _
      have f8 : Fr (rowB u7) (wr.alloc (.cells #[.iface 138 (.agg #[.int .i64 ai, .int .i64 t, .int .i64 j, .int .i64 k, .int .i64 N, .slice sa ql sc])] 60)) w8 := (Fr.refl _ _).grown gr8 (fun z hz _ => hz)
      have fr8 : Fr noB w2 w8 := (fr.seqN f5).trans f8 (fun _ _ q => q) (fun i hi q => by have := (hown.out.lt i q).1; have := hB2w.out; omega)
      rw [← hvk.out] at o8
      replace o8 := Lib.hid o8
      clear gr8 f8 ow5 cn f5 hc e0 hown
      go_wp2_with fail
      go_roundg (gk - 1)
      case rel => exact ⟨k + 1, hgk.out, by go_num, o8, fr8⟩
      case measure => exact hmeas.out
    · obtain rfl : k = N := by omega
      have hkk : wr.ownsRow B2 60 1 u7 k VL := by
        have h1 := hown.out
        rwa [List.take_of_length_le (by rw [hVl.out, hN.out]; exact Nat.le_refl _)] at h1
      have hout := hfin.out wr u7 hkk fr
      obtain ⟨x1, x2, rfl⟩ := ownsRow_slice hkk
      replace hout := Lib.hid hout
      clear hkk hown
      go_wp2_with fail
      go_ret
      exact ⟨_, rfl, fr2.seqN fr, hout.out⟩
end Go.Proofs.YtppmednmcbjafaaGreat
end

section
set_option linter.unusedVariables false
set_option linter.unusedSimpArgs false
set_option maxRecDepth 100000
set_option maxRecDepth 10000
namespace Go.Proofs.YtppmednmcbjafaaGreat
open Go.RowKit Go Go.Maps Go.Lib

/-- what goes up and over, asked to collect -/
def AG.co (A : AG) (t j : Int) : List Ms × List Ms := if j = A.job t then ([], A.cks t j) else if j ≤ A.done t then ([], []) else ([.gone A.id t j], [])
theorem Kept.and {N : Nat → Prop} {w : World} {R T : World → Prop} (h : Kept N w R) (k : Kept N w T) : Kept N w (fun u => R u ∧ T u) := fun w' f => ⟨h w' f, k w' f⟩
theorem OutW.shape {w : World} {v : Value} {ms : List Ms} (h : OutW w v ms) : ∃ va vn vc, v = .slice va vn vc := by obtain ⟨x, y, e, _⟩ := h; exact ⟨x, _, y, e⟩
set_option maxHeartbeats 2000000 in
theorem ag_collect (p : Nat) (col : Nat → Nat) (n : Nat) (A : AG) (a : Ad) (t j : Int) (w : World) (h : AgA w p col n A a) (ht : 1 ≤ t ∧ t ≤ 65535) : Calls Tryz.prog 95 #[.pointer (some ⟨p, 0, none⟩), .int .i64 t, .int .i64 j] w fun e w' => ∃ vu vo, e = .returned (.tuple #[vu, vo]) ∧ Fr noB w w' ∧ Kept (freeB w.heap.size col) w' (fun u => OutW u vu (A.co t j).1 ∧ OutW u vo (A.co t j).2) := by
  have hok : okI t := okI_of (by omega) (by omega)
  have d3 : w.cell? ⟨p, 3, none⟩ = some (.pointer (some ⟨a.lg, 0, none⟩)) := h.blk.cell 3
  have d8 : w.cell? ⟨p, 8, none⟩ = some (.map (some a.dm)) := h.blk.cell 8
  have hlk := dlook h hok
  have hjb := ljob_any _ _ _ _ _ _ t _ _ w h.ls hok
  rw [h.hH t] at hjb
  have hjb2 : Calls Tryz.prog 77 #[.pointer (some ⟨a.lg, 0, none⟩), .int .i64 t] w fun e w' => e = .returned (.int .i64 (A.job t)) ∧ w' = w := hjb
  have hgo := ag_gone p col n A a t j w h
  have hch := ag_chunks p col n A a t j w h
  clear hjb h
  unfold AG.co
  by_cases h1 : j = A.job t
  · rw [if_pos h1]
    have i1 : (j == A.job t) = true := by simpa using h1
    generalize A.job t = jb at *
    replace hjb2 := Lib.hid hjb2
    replace hch := Lib.hid hch
    replace hgo := Lib.hid hgo
    replace h1 := Lib.hid h1
    go_enter Tryz.func95, Tryz.ntmps95
    go_wp2_with fail
    go_fit hjb2.out
    rintro e w1 ⟨rfl, hw⟩
    obtain rfl := hw.symm
    go_wp2_with fail
    go_fit hch.out
    rintro e w1 ⟨v, rfl, f, hk⟩
    obtain ⟨va, vn, vc, rfl⟩ := hk.now.shape
    replace hk := Lib.hid hk
    go_wp2_with fail
    go_ret2
    exact ⟨_, _, rfl, f, (Kept.any OutW.nil).and hk.out⟩
  rw [if_neg h1]
  have i1 : (j == A.job t) = false := by simpa using h1
  by_cases h2 : j ≤ A.done t
  · rw [if_pos h2]
    have i2 : decide (j ≤ A.done t) = true := by simpa using h2
    generalize A.job t = jb at *
    generalize A.done t = dn at *
    replace hjb2 := Lib.hid hjb2
    replace hch := Lib.hid hch
    replace hgo := Lib.hid hgo
    replace h1 := Lib.hid h1
    go_enter Tryz.func95, Tryz.ntmps95
    go_wp2_with fail
    go_fit hjb2.out
    rintro e w1 ⟨rfl, hw⟩
    obtain rfl := hw.symm
    go_wp2_with fail
    go_ret2
    exact ⟨_, _, rfl, Fr.refl _ _, (Kept.any OutW.nil).and (Kept.any OutW.nil)⟩
  · rw [if_neg h2]
    have i2 : decide (j ≤ A.done t) = false := by simpa using h2
    generalize A.job t = jb at *
    generalize A.done t = dn at *
    replace hjb2 := Lib.hid hjb2
    replace hch := Lib.hid hch
    replace hgo := Lib.hid hgo
    replace h1 := Lib.hid h1
    go_enter Tryz.func95, Tryz.ntmps95
    go_wp2_with fail
    go_fit hjb2.out
    rintro e w1 ⟨rfl, hw⟩
    obtain rfl := hw.symm
    go_wp2_with fail
    go_fit hgo.out
    rintro e w1 ⟨v, rfl, f, hk⟩
    obtain ⟨va, vn, vc, rfl⟩ := hk.now.shape
    replace hk := Lib.hid hk
    go_wp2_with fail
    go_ret2
    exact ⟨_, _, rfl, f, hk.out.and (Kept.any OutW.nil)⟩

/-! ### letting go -/
def AG.dn (A : AG) (t j : Int) : AG := { A with done := fun u => if u = t then max (A.done t) j else A.done u }
def AG.en (A : AG) (t : Int) : AG := { A with hold := fun u => if u = t then none else A.hold u }
def AG.fo (A : AG) (t : Int) : AG := { A with K := { A.K with P := without A.K.P t, pins := outL A.K.pins t, loss := outL A.K.loss t } }
def AG.dr (A : AG) (t : Int) : AG := { A with X := fun k => if k = t then [] else A.X k }
def AG.un (A : AG) (t j : Int) : AG := if j = A.job t then (((A.dn t j).en t).fo t).dr t else A.dn t j
theorem ag_end {p n : Nat} {col : Nat → Nat} {A : AG} {a : Ad} {t : Int} {w : World} (h : AgA w p col n A a) (ht : okI t) : Calls Tryz.prog 131 #[.pointer (some ⟨a.lg, 0, none⟩), .int .i64 t] w fun e w' => e = .returned (.tuple #[]) ∧ ATo w w' p col n (A.en t) col := by
  refine (lend_any _ _ _ _ _ _ t _ _ w h.ls ht).mono ?_
  rintro e w' ⟨he, ls, f⟩
  exact ⟨he, h.lease ls f (Nat.le_refl n) h.zn (hold := fun u => if u = t then none else A.hold u) (over := A.over) (fun u => by
    by_cases hu : u = t
    · subst hu; rw [look_without_same]; simp
    · rw [look_without_other _ hu, h.hH u]; simp [hu]) h.hO ⟨h.z1.1, h.z1.2.1⟩⟩
theorem ag_forget {p n : Nat} {col : Nat → Nat} {A : AG} {a : Ad} {t : Int} {w : World} (h : AgA w p col n A a) (ht : okI t) : Calls Tryz.prog 132 #[.pointer (some ⟨a.k, 0, none⟩), .int .i64 t] w fun e w' => e = .returned (.tuple #[]) ∧ ∃ c2, ATo w w' p col n (A.fo t) c2 := by
  refine (kforget_any _ _ _ _ _ _ _ _ _ t w h.kp ht).mono ?_
  rintro e w' ⟨he, kt⟩
  exact ⟨he, h.keeper kt (Nat.le_refl n) h.zn ⟨Nat.le_trans (outL_len _ _) h.z2.1, Nat.le_trans (outL_len _ _) h.z2.2.1, h.z2.2.2⟩⟩
theorem ag_drop {p n : Nat} {col : Nat → Nat} {A : AG} {a : Ad} {t : Int} {w : World} (h : AgA w p col n A a) (ht : okI t) : Calls Tryz.prog 133 #[.pointer (some ⟨a.cg, 0, none⟩), .int .i64 t] w fun e w' => e = .returned (.tuple #[]) ∧ ∃ c2, ATo w w' p col n (A.dr t) c2 := by
  refine (cdrop_any _ _ _ _ _ t _ _ w h.cm ht).mono ?_
  rintro e w' ⟨he, cm, f⟩
  exact ⟨he, h.crumb cm f (fun q hq => by unfold onlyB at hq; exact Or.inr (Or.inl hq)) (Nat.le_refl n) h.zn (fun q hq hb => by
    rcases hb with e1 | e1 | ⟨y, hy, e1⟩
    · exact Or.inl e1
    · exact Or.inr (Or.inl e1)
    · exact Or.inr (Or.inr ⟨y, (mem_without.1 hy).1, e1⟩)) h.z1.2.2.1⟩
theorem len_withKey (D : List (Int × Int)) (t x : Int) : (withKey D t x).length ≤ D.length + 1 := by
  unfold withKey without
  rw [List.length_cons]
  have := List.length_filter_le (fun p : Int × Int => decide (p.1 ≠ t)) D
  omega
set_option maxHeartbeats 4000000 in
theorem ag_unpin (p : Nat) (col : Nat → Nat) (n : Nat) (A : AG) (a : Ad) (t j : Int) (w : World) (h : AgA w p col n A a) (ht : 1 ≤ t ∧ t ≤ 65535) (hn : n < 100000) : Calls Tryz.prog 96 #[.pointer (some ⟨p, 0, none⟩), .int .i64 t, .int .i64 j] w fun e w' => ∃ v c2, e = .returned v ∧ ATo w w' p col (n + 1) (A.un t j) c2 ∧ Kept (freeB w.heap.size c2) w' (fun u => OutW u v [.unpinned A.id t j]) := by
  have hok : okI t := okI_of (by omega) (by omega)
  have hX := h.frN ((Fr.refl noB w).drew)
  have hlk := dlook hX hok
  have d8 : w.cell? ⟨p, 8, none⟩ = some (.map (some a.dm)) := h.blk.cell 8
  have hlow := h.low
  have hdm := hX.dm
  have hz4 := h.z1.2.2.2
  have hnext : ∀ w2, Mp Tryz.prog 3 klI mkI w2 a.dm (a.D.length + 1) (withKey a.D t (max (A.done t) j)) → Fr (onlyB a.dm) w.drew w2 → ATo w w2 p col (n + 1) (A.dn t j) col := fun w2 m2 f2 => by
    have h9 := hX.letgo (m2.tight (Nat.le_refl _)) f2 (Nat.le_succ n) (by omega) (done := fun u => if u = t then max (A.done t) j else A.done u) (fun u => by
      by_cases hu : u = t
      · subst hu; rw [look_withKey_same]; simp
      · rw [look_withKey_other _ _ hu, h.hD u]; simp [hu]) (by have := len_withKey a.D t (max (A.done t) j); omega)
    exact ATo.wrapN ((Fr.refl noB w).drew) h9 (Fr.refl _ _)
  generalize A.done t = dn at *
  replace hnext := Lib.hid hnext
  replace hlow := Lib.hid hlow
  clear h hX
  go_enter Tryz.func96, Tryz.ntmps96
  go_wp2_with fail
  go_still_tail 13, (by kernel_rfl)
  change wpList _ _ _ _ _ w.drew
  go_wp2_with (first
    | (at_mapUpdate; refine wpList_put_mp _ rfl _ _ _ 108 rfl KI Tryz.underlying108 mkI_inj hdm (by unfold maxLen; omega) t (max dn j) hok rfl rfl (by first | rfl | (simp [mkI]; done)) ?_; intro w3 m3 f3; have hto3 := Lib.hid (hnext.out w3 m3 f3); obtain ⟨a3, h3b⟩ := hto3.out.1; have e3 : w3.cell? ⟨p, 3, none⟩ = some (.pointer (some ⟨a3.lg, 0, none⟩)) := h3b.blk.cell 3; have h3a := Lib.hid h3b; clear m3 f3 h3b)
    | fail)
  replace hto3 := hto3.out
  replace h3a := h3a.out
  have hjb := ljob_any _ _ _ _ _ _ t _ _ w3 h3a.ls hok
  rw [h3a.hH t] at hjb
  have hjb2 : Calls Tryz.prog 77 #[.pointer (some ⟨a3.lg, 0, none⟩), .int .i64 t] w3 fun e w' => e = .returned (.int .i64 (A.job t)) ∧ w' = w3 := hjb
  clear hjb hnext hdm hlk d8
  generalize hjj : A.job t = jb at *
  have e0 : w3.cell? ⟨p, 0, none⟩ = some (.int .i64 A.id) := h3a.blk.cell 0
  have hend := ag_end h3a hok
  have e31 := hto3
  replace hto3 := Lib.hid hto3
  replace hjb2 := Lib.hid hjb2
  replace hend := Lib.hid hend
  replace h3a := Lib.hid h3a
  replace hjj := Lib.hid hjj
  clear e31
  by_cases h1 : j = jb
  · have i1 : (j == jb) = true := by simpa using h1
    replace h1 := Lib.hid h1
    clear e0
    go_wp2_with fail
    go_fit hjb2.out
    rintro e w4 ⟨rfl, hw⟩
    obtain rfl := hw.symm
    go_wp2_with fail
    go_fit hend.out
    rintro e w4 ⟨rfl, hto4⟩
    have hto4b := hto3.out.trans hto4
    obtain ⟨⟨a4, h4a⟩, _, _⟩ := hto4
    have e1 : w4.cell? ⟨p, 1, none⟩ = some (.pointer (some ⟨a4.k, 0, none⟩)) := h4a.blk.cell 1
    have hfo := ag_forget h4a hok
    replace hto4b := Lib.hid hto4b
    replace hfo := Lib.hid hfo
    clear h4a e3 hend hto3 h3a
    go_wp2_with fail
    go_fit hfo.out
    rintro e w5 ⟨rfl, c5, hto5⟩
    have hto5b := hto4b.out.trans hto5
    obtain ⟨⟨a5, h5a⟩, _, _⟩ := hto5
    have e2 : w5.cell? ⟨p, 2, none⟩ = some (.pointer (some ⟨a5.cg, 0, none⟩)) := h5a.blk.cell 2
    have hdr := ag_drop h5a hok
    replace hto5b := Lib.hid hto5b
    replace hdr := Lib.hid hdr
    clear h5a e1 hfo hto4b
    go_wp2_with fail
    go_fit hdr.out
    rintro e w6 ⟨rfl, c6, hto6⟩
    have hto6b := hto5b.out.trans hto6
    obtain ⟨⟨a6, h6a⟩, _, _⟩ := hto6
    have e0 : w6.cell? ⟨p, 0, none⟩ = some (.int .i64 A.id) := h6a.blk.cell 0
    have hfree := free_new h6a hto6b.2.1.size (Nat.le_refl _)
    replace hto6b := Lib.hid hto6b
    replace hfree := Lib.hid hfree
    clear h6a e2 hdr hto5b
    go_wp2_with fail
    go_ret
    refine ⟨_, c6, rfl, ?_, OutW.one (m := .unpinned A.id t j) (Blk.new w6 60 [mUnpinned A.id t j]) hfree.out (Kept.any (fun u => rfl))⟩
    unfold AG.un
    rw [if_pos (by rw [hjj.out]; exact h1.out)]
    exact ATo.wrapN (Fr.refl noB w) hto6b.out ((Fr.refl noB w6).alloc _)
  · have i1 : (j == jb) = false := by simpa using h1
    have hfree := free_new h3a.out hto3.out.2.1.size (Nat.le_refl _)
    replace h1 := Lib.hid h1
    replace hfree := Lib.hid hfree
    go_wp2_with fail
    go_fit hjb2.out
    rintro e w4 ⟨rfl, hw⟩
    obtain rfl := hw.symm
    clear hend
    go_wp2_with fail
    go_ret
    refine ⟨_, col, rfl, ?_, OutW.one (m := .unpinned A.id t j) (Blk.new w3 60 [mUnpinned A.id t j]) hfree.out (Kept.any (fun u => rfl))⟩
    unfold AG.un
    rw [if_neg (by rw [hjj.out]; exact h1.out)]
    exact ATo.wrapN (Fr.refl noB w) hto3.out ((Fr.refl noB w3).alloc _)

/-! ### any message -/
def AG.hear (A : AG) (m : Ms) : AG := if m.ok = false then A else match m with
  | .pin t j => A.pn t j
  | .unpin t j => A.un t j
  | _ => A
def AG.outs (A : AG) (m : Ms) : List Ms × List Ms := if m.ok = false then ([], []) else match m with
  | .pin t j => (A.pu t j, [])
  | .collect t j => A.co t j
  | .unpin t j => ([.unpinned A.id t j], [])
  | _ => ([], [])
theorem pin_rng {t j : Int} (h : bPin t j = true) : (1 ≤ t ∧ t ≤ 65535) ∧ 1 ≤ j ∧ j ≤ 1073741824 := by
  unfold bPin at h
  rw [Bool.and_eq_true] at h
  exact ⟨inB_lim h.1, inB_lim h.2⟩
end Go.Proofs.YtppmednmcbjafaaGreat
end

section
set_option linter.unusedVariables false
set_option linter.unusedSimpArgs false
set_option maxRecDepth 100000
set_option maxRecDepth 10000
namespace Go.Proofs.YtppmednmcbjafaaGreat
open Go.RowKit Go Go.Maps Go.Lib

/-- what is answered to a message that may be -/
def Ans (w w' : World) (p n : Nat) (col : Nat → Nat) (A : AG) (m : Ms) (e : Ending) : Prop := ∃ vu vo c2, e = .returned (.tuple #[vu, vo]) ∧ ATo w w' p col (n + 1) (A.hear m) c2 ∧ Kept (freeB w.heap.size c2) w' (fun u => OutW u vu (A.outs m).1 ∧ OutW u vo (A.outs m).2)
theorem Ans.none {w w' : World} {p n : Nat} {col : Nat → Nat} {A : AG} {a : Ad} {m : Ms} (h : AgA w p col n A a) (hn : n < 100000) (f : Fr noB w w') (h1 : A.hear m = A) (h2 : A.outs m = ([], [])) : Ans w w' p n col A m (.returned (.tuple #[.slice none 0 0, .slice none 0 0])) :=
  ⟨_, _, col, rfl, by rw [h1]; exact ATo.same (h.up (Nat.le_succ n) (by omega)) f, by rw [h2]; exact (Kept.any OutW.nil).and (Kept.any OutW.nil)⟩

set_option maxHeartbeats 1000000 in
theorem ans_Trigger (p : Nat) (a t c : Int) (w : World) : Calls Tryz.prog 63 #[.pointer (some ⟨p, 0, none⟩), mTrigger a t c] w fun e w' => e = .returned (.tuple #[.slice none 0 0, .slice none 0 0]) ∧ Fr noB w w' := by
  unfold mTrigger
  have q0 := as_Trigger_Pin
  have q1 := as_Trigger_Collect
  have q2 := as_Trigger_Unpin
  go_enter Tryz.func63, Tryz.ntmps63
  go_wp2_with fail
  go_ret2
  exact ⟨rfl, Fr.refl _ _⟩

set_option maxHeartbeats 1000000 in
theorem ans_Pinned (p : Nat) (a t j c : Int) (sa : Option Addr) (sn sc : Nat) (lo : Bool) (w : World) : Calls Tryz.prog 63 #[.pointer (some ⟨p, 0, none⟩), mPinned a t j c (.slice sa sn sc) lo] w fun e w' => e = .returned (.tuple #[.slice none 0 0, .slice none 0 0]) ∧ Fr noB w w' := by
  unfold mPinned
  have q0 := as_Pinned_Pin
  have q1 := as_Pinned_Collect
  have q2 := as_Pinned_Unpin
  go_enter Tryz.func63, Tryz.ntmps63
  go_wp2_with fail
  go_ret2
  exact ⟨rfl, Fr.refl _ _⟩

set_option maxHeartbeats 1000000 in
theorem ans_Gone (p : Nat) (a t j : Int) (w : World) : Calls Tryz.prog 63 #[.pointer (some ⟨p, 0, none⟩), mGone a t j] w fun e w' => e = .returned (.tuple #[.slice none 0 0, .slice none 0 0]) ∧ Fr noB w w' := by
  unfold mGone
  have q0 := as_Gone_Pin
  have q1 := as_Gone_Collect
  have q2 := as_Gone_Unpin
  go_enter Tryz.func63, Tryz.ntmps63
  go_wp2_with fail
  go_ret2
  exact ⟨rfl, Fr.refl _ _⟩

set_option maxHeartbeats 1000000 in
theorem ans_Chunk (p : Nat) (a t j i c : Int) (sa : Option Addr) (sn sc : Nat) (w : World) : Calls Tryz.prog 63 #[.pointer (some ⟨p, 0, none⟩), mChunk a t j i c (.slice sa sn sc)] w fun e w' => e = .returned (.tuple #[.slice none 0 0, .slice none 0 0]) ∧ Fr noB w w' := by
  unfold mChunk
  have q0 := as_Chunk_Pin
  have q1 := as_Chunk_Collect
  have q2 := as_Chunk_Unpin
  go_enter Tryz.func63, Tryz.ntmps63
  go_wp2_with fail
  go_ret2
  exact ⟨rfl, Fr.refl _ _⟩

set_option maxHeartbeats 1000000 in
theorem ans_Manifest (p : Nat) (t j c : Int) (sa : Option Addr) (sn sc : Nat) (w : World) : Calls Tryz.prog 63 #[.pointer (some ⟨p, 0, none⟩), mManifest t j c (.slice sa sn sc)] w fun e w' => e = .returned (.tuple #[.slice none 0 0, .slice none 0 0]) ∧ Fr noB w w' := by
  unfold mManifest
  have q0 := as_Manifest_Pin
  have q1 := as_Manifest_Collect
  have q2 := as_Manifest_Unpin
  go_enter Tryz.func63, Tryz.ntmps63
  go_wp2_with fail
  go_ret2
  exact ⟨rfl, Fr.refl _ _⟩

set_option maxHeartbeats 1000000 in
theorem ans_Stored (p : Nat) (t j : Int) (w : World) : Calls Tryz.prog 63 #[.pointer (some ⟨p, 0, none⟩), mStored t j] w fun e w' => e = .returned (.tuple #[.slice none 0 0, .slice none 0 0]) ∧ Fr noB w w' := by
  unfold mStored
  have q0 := as_Stored_Pin
  have q1 := as_Stored_Collect
  have q2 := as_Stored_Unpin
  go_enter Tryz.func63, Tryz.ntmps63
  go_wp2_with fail
  go_ret2
  exact ⟨rfl, Fr.refl _ _⟩

set_option maxHeartbeats 1000000 in
theorem ans_Unpinned (p : Nat) (a t j : Int) (w : World) : Calls Tryz.prog 63 #[.pointer (some ⟨p, 0, none⟩), mUnpinned a t j] w fun e w' => e = .returned (.tuple #[.slice none 0 0, .slice none 0 0]) ∧ Fr noB w w' := by
  unfold mUnpinned
  have q0 := as_Unpinned_Pin
  have q1 := as_Unpinned_Collect
  have q2 := as_Unpinned_Unpin
  go_enter Tryz.func63, Tryz.ntmps63
  go_wp2_with fail
  go_ret2
  exact ⟨rfl, Fr.refl _ _⟩

set_option maxHeartbeats 2000000 in
theorem ans_Pin (p : Nat) (col : Nat → Nat) (n : Nat) (A : AG) (a : Ad) (t j : Int) (w : World) (h : AgA w p col n A a) (hn : n < 100000) (hok : Ms.ok (.pin t j) = true) : Calls Tryz.prog 63 #[.pointer (some ⟨p, 0, none⟩), mPin t j] w fun e w' => Ans w w' p n col A (.pin t j) e := by
  have hr := pin_rng hok
  have fX := (Fr.refl noB w).alloc (.cells #[.int .i64 t, .int .i64 j] 94)
  have hpn := ag_pin p col n A a t j _ (h.frN fX) hr.1 hn
  have hlow := h.low
  have e1 : A.hear (.pin t j) = A.pn t j := by unfold AG.hear; rw [if_neg (by rw [hok]; decide)]
  have e2 : A.outs (.pin t j) = (A.pu t j, []) := by unfold AG.outs; rw [if_neg (by rw [hok]; decide)]
  unfold Ans
  rw [e1, e2]
  have hsz : w.heap.size ≤ (w.alloc (.cells #[.int .i64 t, .int .i64 j] 94)).heap.size := fX.size
  unfold mPin
  have q0 := as_Pin_Pin
  clear h e1 e2 hok
  generalize A.pn t j = A2 at *
  generalize A.pu t j = ms at *
  replace hpn := Lib.hid hpn
  replace hlow := Lib.hid hlow
  go_enter Tryz.func63, Tryz.ntmps63
  go_wp2_with fail
  go_fit hpn.out
  rintro e w1 ⟨v, c2, rfl, hto, hk⟩
  obtain ⟨va, vn, vc, rfl⟩ := hk.now.shape
  replace hto := Lib.hid hto
  replace hk := Lib.hid hk
  go_wp2_with fail
  go_ret2
  exact ⟨_, _, c2, rfl, ATo.wrapN fX hto.out (Fr.refl _ _), fun w' f => ⟨hk.out w' (f.mono (fun q _ z y => z ⟨Nat.le_trans hsz y.1, y.2⟩)), OutW.nil w'⟩⟩
set_option maxHeartbeats 2000000 in
theorem ans_Unpin (p : Nat) (col : Nat → Nat) (n : Nat) (A : AG) (a : Ad) (t j : Int) (w : World) (h : AgA w p col n A a) (hn : n < 100000) (hok : Ms.ok (.unpin t j) = true) : Calls Tryz.prog 63 #[.pointer (some ⟨p, 0, none⟩), mUnpin t j] w fun e w' => Ans w w' p n col A (.unpin t j) e := by
  have hr := pin_rng (t := t) (j := j) hok
  have fX := (Fr.refl noB w).alloc (.cells #[.int .i64 t, .int .i64 j] 95)
  have hpn := ag_unpin p col n A a t j _ (h.frN fX) hr.1 hn
  have hlow := h.low
  have e1 : A.hear (.unpin t j) = A.un t j := by unfold AG.hear; rw [if_neg (by rw [hok]; decide)]
  have e2 : A.outs (.unpin t j) = ([.unpinned A.id t j], []) := by unfold AG.outs; rw [if_neg (by rw [hok]; decide)]
  unfold Ans
  rw [e1, e2]
  have hsz : w.heap.size ≤ (w.alloc (.cells #[.int .i64 t, .int .i64 j] 95)).heap.size := fX.size
  unfold mUnpin
  have q0 := as_Unpin_Pin
  have q1 := as_Unpin_Collect
  have q2 := as_Unpin_Unpin
  clear h e1 e2 hok
  generalize A.un t j = A2 at *
  generalize [Ms.unpinned A.id t j] = ms at *
  replace hpn := Lib.hid hpn
  replace hlow := Lib.hid hlow
  go_enter Tryz.func63, Tryz.ntmps63
  go_wp2_with fail
  go_fit hpn.out
  rintro e w1 ⟨v, c2, rfl, hto, hk⟩
  obtain ⟨va, vn, vc, rfl⟩ := hk.now.shape
  replace hto := Lib.hid hto
  replace hk := Lib.hid hk
  go_wp2_with fail
  go_ret2
  exact ⟨_, _, c2, rfl, ATo.wrapN fX hto.out (Fr.refl _ _), fun w' f => ⟨hk.out w' (f.mono (fun q _ z y => z ⟨Nat.le_trans hsz y.1, y.2⟩)), OutW.nil w'⟩⟩
set_option maxHeartbeats 2000000 in
theorem ans_Collect (p : Nat) (col : Nat → Nat) (n : Nat) (A : AG) (a : Ad) (t j : Int) (w : World) (h : AgA w p col n A a) (hn : n < 100000) (hok : Ms.ok (.collect t j) = true) : Calls Tryz.prog 63 #[.pointer (some ⟨p, 0, none⟩), mCollect t j] w fun e w' => Ans w w' p n col A (.collect t j) e := by
  have hr := pin_rng (t := t) (j := j) hok
  have fX := (Fr.refl noB w).alloc (.cells #[.int .i64 t, .int .i64 j] 99)
  have hpn := ag_collect p col n A a t j _ (h.frN fX) hr.1
  have hlow := h.low
  have e1 : A.hear (.collect t j) = A := by unfold AG.hear; rw [if_neg (by rw [hok]; decide)]
  have e2 : A.outs (.collect t j) = A.co t j := by unfold AG.outs; rw [if_neg (by rw [hok]; decide)]
  have hu := h.up (Nat.le_succ n) (by omega)
  unfold Ans
  rw [e1, e2]
  have hsz : w.heap.size ≤ (w.alloc (.cells #[.int .i64 t, .int .i64 j] 99)).heap.size := fX.size
  unfold mCollect
  have q0 := as_Collect_Pin
  have q1 := as_Collect_Collect
  clear h e1 e2 hok
  generalize (A.co t j).1 = ms at *
  generalize (A.co t j).2 = mt at *
  replace hpn := Lib.hid hpn
  replace hlow := Lib.hid hlow
  replace hu := Lib.hid hu
  go_enter Tryz.func63, Tryz.ntmps63
  go_wp2_with fail
  go_fit hpn.out
  rintro e w1 ⟨v, vo, rfl, f1, hk⟩
  obtain ⟨va, vn, vc, rfl⟩ := hk.now.1.shape
  obtain ⟨ua, un, uc, rfl⟩ := hk.now.2.shape
  replace hk := Lib.hid hk
  go_wp2_with fail
  go_ret2
  exact ⟨_, _, col, rfl, ATo.same hu.out (fX.seqN f1), fun w' f => hk.out w' (f.mono (fun q _ z y => z ⟨Nat.le_trans hsz y.1, y.2⟩))⟩
theorem ag_answer (p : Nat) (col : Nat → Nat) (n : Nat) (A : AG) (a : Ad) (v : Value) (m : Ms) (w : World) (h : AgA w p col n A a) (hn : n < 100000) (hv : MsW w v m) (hok : m.ok = true) : Calls Tryz.prog 63 #[.pointer (some ⟨p, 0, none⟩), v] w fun e w' => Ans w w' p n col A m e := by
  have hk : ¬ m.ok = false := by rw [hok]; decide
  cases m with
  | pin t j => obtain rfl := hv; exact ans_Pin p col n A a t j w h hn hok
  | unpin t j => obtain rfl := hv; exact ans_Unpin p col n A a t j w h hn hok
  | collect t j => obtain rfl := hv; exact ans_Collect p col n A a t j w h hn hok
  | pinned q => obtain ⟨u, rfl, x, y, rfl, _⟩ := hv; exact (ans_Pinned p _ _ _ _ _ _ _ _ w).mono fun e w' ⟨he, f⟩ => by rw [he]; exact Ans.none h hn f (by unfold AG.hear; rw [if_neg hk]) (by unfold AG.outs; rw [if_neg hk])
  | chunk => obtain ⟨u, rfl, x, y, rfl, _⟩ := hv; exact (ans_Chunk p _ _ _ _ _ _ _ _ w).mono fun e w' ⟨he, f⟩ => by rw [he]; exact Ans.none h hn f (by unfold AG.hear; rw [if_neg hk]) (by unfold AG.outs; rw [if_neg hk])
  | manifest => obtain ⟨u, rfl, x, y, rfl, _⟩ := hv; exact (ans_Manifest p _ _ _ _ _ _ w).mono fun e w' ⟨he, f⟩ => by rw [he]; exact Ans.none h hn f (by unfold AG.hear; rw [if_neg hk]) (by unfold AG.outs; rw [if_neg hk])
  | trigger => obtain rfl := hv; exact (ans_Trigger p _ _ _ w).mono fun e w' ⟨he, f⟩ => by rw [he]; exact Ans.none h hn f (by unfold AG.hear; rw [if_neg hk]) (by unfold AG.outs; rw [if_neg hk])
  | gone => obtain rfl := hv; exact (ans_Gone p _ _ _ w).mono fun e w' ⟨he, f⟩ => by rw [he]; exact Ans.none h hn f (by unfold AG.hear; rw [if_neg hk]) (by unfold AG.outs; rw [if_neg hk])
  | stored => obtain rfl := hv; exact (ans_Stored p _ _ w).mono fun e w' ⟨he, f⟩ => by rw [he]; exact Ans.none h hn f (by unfold AG.hear; rw [if_neg hk]) (by unfold AG.outs; rw [if_neg hk])
  | unpinned => obtain rfl := hv; exact (ans_Unpinned p _ _ _ w).mono fun e w' ⟨he, f⟩ => by rw [he]; exact Ans.none h hn f (by unfold AG.hear; rw [if_neg hk]) (by unfold AG.outs; rw [if_neg hk])

theorem Ans.shape {w w' : World} {p n : Nat} {col : Nat → Nat} {A : AG} {m : Ms} {e : Ending} (h : Ans w w' p n col A m e) : ∃ a1 n1 c1 a2 n2 c2, e = .returned (.tuple #[.slice a1 n1 c1, .slice a2 n2 c2]) := by
  obtain ⟨vu, vo, c2, rfl, hto, hk⟩ := h
  obtain ⟨va, vn, vc, rfl⟩ := hk.now.1.shape
  obtain ⟨ua, un, uc, rfl⟩ := hk.now.2.shape
  exact ⟨_, _, _, _, _, _, rfl⟩
theorem Ans.fr {w wA w' : World} {p n : Nat} {col : Nat → Nat} {A : AG} {m : Ms} {e : Ending} (f : Fr noB w wA) (h : Ans wA w' p n col A m e) : Ans w w' p n col A m e := by
  obtain ⟨vu, vo, c2, he, hto, hk⟩ := h
  exact ⟨vu, vo, c2, he, ATo.wrapN f hto (Fr.refl _ _), fun w2 f2 => hk w2 (f2.mono (fun q _ z y => z ⟨Nat.le_trans f.size y.1, y.2⟩))⟩
set_option maxHeartbeats 2000000 in
theorem ag_hear (p : Nat) (col : Nat → Nat) (n : Nat) (A : AG) (a : Ad) (v : Value) (m : Ms) (w : World) (h : AgA w p col n A a) (hn : n < 100000) (hv : MsW w v m) : Calls Tryz.prog 23 #[.pointer (some ⟨p, 0, none⟩), v] w fun e w' => Ans w w' p n col A m e := by
  have d8 : w.cell? ⟨p, 8, none⟩ = some (.map (some a.dm)) := h.blk.cell 8
  have hne := run_eql_map_nil (P := Tryz.prog) w 108 _ _ (some a.dm) Tryz.underlying108
  have hrt := right_ms v m w hv
  cases hok : m.ok with
  | false =>
    rw [hok] at hrt
    have hno : ∀ w', Fr noB w w' → Ans w w' p n col A m (.returned (.tuple #[.slice none 0 0, .slice none 0 0])) := fun w' f => Ans.none h hn f (by unfold AG.hear; rw [if_pos hok]) (by unfold AG.outs; rw [if_pos hok])
    replace hrt := Lib.hid hrt
    replace hno := Lib.hid hno
    replace hok := Lib.hid hok
    replace hv := Lib.hid hv
    clear h
    go_enter Tryz.func23, Tryz.ntmps23
    go_wp2_with fail
    go_fit hrt.out
    rintro e w1 ⟨rfl, f⟩
    go_wp2_with fail
    go_ret2
    exact hno.out _ f
  | true =>
    rw [hok] at hrt
    have hyes : ∀ w', Fr noB w w' → Calls Tryz.prog 63 #[.pointer (some ⟨p, 0, none⟩), v] w' fun e w'' => Ans w w'' p n col A m e := fun w' f => (ag_answer p col n A a v m w' (h.frN f) hn (hv.frN f) hok).mono fun e w'' hh => hh.fr f
    replace hrt := Lib.hid hrt
    replace hyes := Lib.hid hyes
    replace hok := Lib.hid hok
    replace hv := Lib.hid hv
    clear h
    go_enter Tryz.func23, Tryz.ntmps23
    go_wp2_with fail
    go_fit hrt.out
    rintro e w1 ⟨rfl, f⟩
    go_wp2_with fail
    go_fit (hyes.out w1 f)
    intro e w2 hR
    obtain ⟨a1, n1, c1, a2, n2, c2, rfl⟩ := hR.shape
    replace hR := Lib.hid hR
    go_wp2_with fail
    go_ret2
    exact hR.out
theorem right_nil (w : World) : Calls Tryz.prog 62 #[.nilIface] w fun e w' => e = .returned (.bool false) ∧ Fr noB w w' := right_of ((mayBe_nil w).mono fun e w' ⟨h1, h2⟩ => ⟨h1, by rw [h2]; exact Fr.refl _ _⟩)
theorem ag_hear_nil (p : Nat) (col : Nat → Nat) (n : Nat) (A : AG) (a : Ad) (w : World) (h : AgA w p col n A a) : Calls Tryz.prog 23 #[.pointer (some ⟨p, 0, none⟩), .nilIface] w fun e w' => e = .returned (.tuple #[.slice none 0 0, .slice none 0 0]) ∧ Fr noB w w' := by
  have d8 : w.cell? ⟨p, 8, none⟩ = some (.map (some a.dm)) := h.blk.cell 8
  have hne := run_eql_map_nil (P := Tryz.prog) w 108 _ _ (some a.dm) Tryz.underlying108
  have hrt := right_nil w
  clear h
  replace hrt := Lib.hid hrt
  go_enter Tryz.func23, Tryz.ntmps23
  go_wp2_with fail
  go_fit hrt.out
  rintro e w1 ⟨rfl, f⟩
  go_wp2_with fail
  go_ret2
  exact ⟨rfl, f⟩
end Go.Proofs.YtppmednmcbjafaaGreat
end
