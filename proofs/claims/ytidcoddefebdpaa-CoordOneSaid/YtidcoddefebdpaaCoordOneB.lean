/-
  What CoordOne asks: plain; what the outs of a tick are of; the map of traces that were seen; a coordinator that is none.
-/
import Derived.Test.YtidcoddefebdpaaCoordOneA
set_option linter.unusedVariables false
set_option linter.unusedSimpArgs false
set_option maxRecDepth 100000
namespace Go.Proofs.Ytidcoddefebdpaa
open Go.RowKit Go Go.Maps Go.Lib

theorem umod8 (b : Int) : ∃ q N : Int, wrap64 ((IntKind.u64.wrap b).tmod 8) = q ∧ wrap64 (1 + q) = N ∧ 1 ≤ N ∧ N ≤ 8 := by
  obtain ⟨q, h2, h3, h4⟩ := umod b 8 (by decide) (by decide)
  exact ⟨q, 1 + q, h2, IntWalk.wrap64_in _ (by omega), by omega, by omega⟩
theorem other_mo (C : CS) (m : Ms) : (C.other m).1.mo = C.mo := by
  unfold CS.other
  cases C.at m.tj.1 with
  | none => rfl
  | some x =>
    dsimp only
    unfold CS.told
    split
    · rfl
    · split <;> rfl
theorem begin_one (C : CS) (a t : Int) (pn : Nat) : (C.begin a t 0 pn).1.mo = C.mo ∧ C.la ≤ (C.begin a t 0 pn).1.la ∧ (C.begin a t 0 pn).1.la ≤ C.la + 1 ∧ ((C.at t).isSome = true → (C.begin a t 0 pn).1 = C) := by
  unfold CS.begin
  split
  · exact ⟨rfl, Int.le_refl _, by show C.la ≤ C.la + 1; omega, fun _ => rfl⟩
  · rename_i h
    have hn : ¬ (C.at t).isSome = true := fun q => h (Or.inr q)
    split
    · exact ⟨rfl, Int.le_refl _, by show C.la ≤ C.la + 1; omega, fun q => absurd q hn⟩
    · exact ⟨rfl, by show C.la ≤ C.la + 1; omega, Int.le_refl _, fun q => absurd q hn⟩
/-- what a call's message makes of the numbers -/
theorem hearO_one (C : CS) (m : OpJ) (pn : Nat) : (C.hearO m.ms pn).1.mo = C.mo ∧ C.la ≤ (C.hearO m.ms pn).1.la ∧ (C.hearO m.ms pn).1.la ≤ C.la + 1 ∧ ((C.at m.t).isSome = true → m.k = 1 → (C.hearO m.ms pn).1 = C) := by
  have no : (C.hearO m.ms pn) = (C, none) → (C.hearO m.ms pn).1.mo = C.mo ∧ C.la ≤ (C.hearO m.ms pn).1.la ∧ (C.hearO m.ms pn).1.la ≤ C.la + 1 ∧ ((C.at m.t).isSome = true → m.k = 1 → (C.hearO m.ms pn).1 = C) := fun e => by
    rw [e]
    exact ⟨rfl, Int.le_refl _, by show C.la ≤ C.la + 1; omega, fun _ _ => rfl⟩
  cases hok : m.okm
  · exact no (hearO_bad hok pn)
  · cases hms : m.ms with
    | none => exact hms ▸ no (by rw [hms]; rfl)
    | some x =>
      have hxo : x.ok = true := by unfold OpJ.okm at hok; rw [hms] at hok; exact hok
      by_cases h1 : m.k = 1
      · obtain rfl := ms_trig hms h1
        have e : C.hearO (some (.trigger m.a m.t 0)) pn = C.begin m.a m.t 0 pn := hear_trig hxo pn
        rw [e]
        obtain ⟨q1, q2, q3, q4⟩ := begin_one C m.a m.t pn
        exact ⟨q1, q2, q3, fun q _ => q4 q⟩
      · have e : C.hearO (some x) pn = C.other x := hear_oth (noTr_ms hms h1) pn hxo
        rw [e]
        obtain ⟨e1, e2⟩ := other_num C x
        exact ⟨other_mo C x, by rw [e1]; exact Int.le_refl _, by rw [e1]; omega, fun _ q => absurd q h1⟩
/-- what is said is of a trace and a job -/
def OfNow (m : Value) (t n : Int) : Prop := ∀ w, Calls Try.prog 13 #[m] w fun e w' => e = .returned (.tuple #[.int .i64 t, .int .i64 n, .bool true]) ∧ Fr noB w w'
theorem zg_of {w : World} {j : JS} {X : Nat → List Int} {pv : Value} (h : j.ph = 2 → RdPs w pv (j.psl X j.all)) : ∀ y ∈ j.zg pv, OfNow y.2 j.tr j.id ∧ ∃ T u, y.2 = .iface T u := by
  intro y hy
  unfold JS.zg at hy
  split at hy
  · obtain ⟨x, _, rfl⟩ := List.mem_map.1 hy
    exact ⟨fun w => of_of (v := .nilIface) (of_Pin j.tr j.id w), _, _, rfl⟩
  · split at hy
    · rename_i h2
      rcases List.mem_cons.1 hy with rfl | hy
      · obtain ⟨a, c, rfl, _⟩ := h h2
        exact ⟨fun w => of_of (v := .nilIface) (of_Manifest j.tr j.id j.cl a _ c w), _, _, rfl⟩
      · obtain ⟨x, _, rfl⟩ := List.mem_map.1 hy
        exact ⟨fun w => of_of (v := .nilIface) (of_Collect j.tr j.id w), _, _, rfl⟩
    · split at hy
      · obtain ⟨x, _, rfl⟩ := List.mem_map.1 hy
        exact ⟨fun w => of_of (v := .nilIface) (of_Unpin j.tr j.id w), _, _, rfl⟩
      · cases hy
theorem tick_of {w : World} : ∀ (Q : List JE) (P : List Value), Q.length = P.length → (∀ (i : Nat) (e : JE) (pv : Value), Q[i]? = some e → P[i]? = some pv → e.j.ph = 2 → RdPs w pv (e.j.psl e.X e.j.all)) → ∀ y ∈ tickG Q P, ∃ e ∈ Q, OfNow y.2 e.j.tr e.j.id ∧ ∃ T u, y.2 = .iface T u
  | [], _, _, _, y, hy => by simp [tickG] at hy
  | e :: Q, [], h, _, y, hy => by simp at h
  | e :: Q, pv :: P, h, hp, y, hy => by
    have eG : tickG (e :: Q) (pv :: P) = e.j.zg pv ++ tickG Q P := rfl
    rw [eG] at hy
    rcases List.mem_append.1 hy with q | q
    · exact ⟨e, List.mem_cons_self .., zg_of (hp 0 e pv rfl rfl) y q⟩
    · obtain ⟨e', he', ho⟩ := tick_of Q P (by simpa using h) (fun i e' pv' k1 k2 => hp (i + 1) e' pv' (by simpa using k1) (by simpa using k2)) y q
      exact ⟨e', List.mem_cons_of_mem _ he', ho⟩
def mkT (b : Bool) : Value := .bool b
theorem mkT_inj (x y : Bool) (h : mkT x = mkT y) : x = y := by simpa [mkT] using h
/-- the traces that were seen: some of these jobs' -/
def Sn (w : World) (b : Nat) (C : CS) : Prop := ∃ L : List (Int × Bool), Mp Try.prog 3 klI mkT w b L.length L ∧ ∀ k ∈ L.map (·.1), k ∈ C.Q.map fun e => e.j.tr
theorem Sn.fr {w w' : World} {b : Nat} {C : CS} {S : Nat → Prop} (h : Sn w b C) (f : Fr S w w') (hS : ¬ S b) : Sn w' b C := by
  obtain ⟨L, h1, h2⟩ := h
  exact ⟨L, h1.fr f hS, h2⟩
theorem Sn.len {w : World} {b : Nat} {C : CS} (h : Sn w b C) : ∃ n : Nat, n ≤ C.Q.length ∧ ∀ ty, (Builtin.len_ #[44] ty #[.map (some b)]).run Try.prog w = .ok (.int .i64 n) w := by
  obtain ⟨L, h1, h2⟩ := h
  refine ⟨L.length, ?_, fun ty => h1.run_len Try.underlying44 ty⟩
  have := nodup_le h1.nodup h2
  simpa using this
theorem Sn.new (w : World) (C : CS) : Sn (w.alloc (.map #[] 0)) w.heap.size C := ⟨[], Mp.made w, fun k hk => by cases hk⟩
theorem Sn.put {w : World} {b : Nat} {C : CS} (h : Sn w b C) (hw : C.wf) {e : JE} (he : e ∈ C.Q) (ht : okI e.j.tr) : ∃ w', (Instr.mapUpdate 44 (.map (some b)) (.int .i64 e.j.tr) (.bool true)).run Try.prog w = .ok () w' ∧ Sn w' b C ∧ Fr (onlyB b) w w' := by
  obtain ⟨L, h1, h2⟩ := h
  have h8 : L.length ≤ C.Q.length := by have := nodup_le h1.nodup h2; simpa using this
  have hl := hw.len
  have hm := hw.m8
  obtain ⟨w', hp, mp, f⟩ := h1.run_put keyIJ Try.underlying44 mkT_inj (by unfold maxLen; omega) e.j.tr true ht
  refine ⟨w', hp, ⟨_, mp.tight (Nat.le_refl _), fun k hk => ?_⟩, f⟩
  obtain ⟨q, hq, rfl⟩ := List.mem_map.1 hk
  unfold withKey at hq
  rcases List.mem_cons.1 hq with rfl | hq
  · exact List.mem_map.2 ⟨e, he, rfl⟩
  · exact h2 _ (List.mem_map.2 ⟨q, (mem_without.1 hq).1, rfl⟩)
set_option maxHeartbeats 1000000 in
theorem none_hear (v : Value) (w : World) : Calls Try.prog 10 #[.pointer none, v] w fun e w' => e = .returned (.slice none 0 0) ∧ w' = w := by
  go_enter Try.func10, Try.ntmps10
  go_wp2_with fail
  go_ret
  exact ⟨rfl, rfl⟩
set_option maxHeartbeats 1000000 in
theorem none_tick (w : World) : Calls Try.prog 12 #[.pointer none] w fun e w' => e = .returned (.slice none 0 0) ∧ w' = w := by
  go_enter Try.func12, Try.ntmps12
  go_wp2_with fail
  go_ret
  exact ⟨rfl, rfl⟩
set_option maxHeartbeats 1000000 in
theorem none_jobs (w : World) : Calls Try.prog 8 #[.pointer none] w fun e w' => e = .returned (.int .i64 0) ∧ w' = w := by
  go_enter Try.func8, Try.ntmps8
  go_wp2_with fail
  go_ret
  exact ⟨rfl, rfl⟩
set_option maxHeartbeats 1000000 in
theorem none_of (t : Int) (w : World) : Calls Try.prog 9 #[.pointer none, .int .i64 t] w fun e w' => e = .returned (.pointer none) ∧ w' = w := by
  go_enter Try.func9, Try.ntmps9
  go_wp2_with fail
  go_ret
  exact ⟨rfl, rfl⟩
set_option maxHeartbeats 1000000 in
theorem none_last (w : World) : Calls Try.prog 7 #[.pointer none] w fun e w' => e = .returned (.int .i64 0) ∧ w' = w := by
  go_enter Try.func7, Try.ntmps7
  go_wp2_with fail
  go_ret
  exact ⟨rfl, rfl⟩
set_option maxHeartbeats 1000000 in
theorem none_refused (w : World) : Calls Try.prog 15 #[.pointer none] w fun e w' => e = .returned (.int .i64 0) ∧ w' = w := by
  go_enter Try.func15, Try.ntmps15
  go_wp2_with fail
  go_ret
  exact ⟨rfl, rfl⟩
end Go.Proofs.Ytidcoddefebdpaa
