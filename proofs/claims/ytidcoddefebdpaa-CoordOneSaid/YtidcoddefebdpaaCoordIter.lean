/-
  The jobs of the coordinator's map, each once: maps.Values, slices.Collect.
-/
import Derived.Test.YtidcoddefebdpaaMapA
import Derived.Shelf.SlIterI.Collect
set_option linter.unusedVariables false
set_option linter.unusedSimpArgs false
set_option maxRecDepth 100000
set_option linter.unusedSectionVars false
set_option maxRecDepth 100000
namespace Go.Proofs.Ytidcoddefebdpaa
open Go.RowKit Go Go.Maps Go.Sort Go.Shelf Go.Proofs

section
variable {α κ : Type} [DecidableEq κ] {P : Program} {K : TypeId} {kv : κ → Value} {kl : κ → Lit} {ok : κ → Prop} {mk : α → Value} {b r n : Nat} {L td : List (κ × α)}
variable (w : World) {F : Fence} {nF : Nat} {ops : Array Oper} {rest : List Oper} {o : Oper} {a : Act} {Q : Exit → Act → World → Prop}
/-- 'range m' inside a fence -/
theorem wpListIn_range_mp (hg : o.guard = none) (m : Operand) (t : TypeId) (hop : o.op = Op.range t m) (KL : KeyLit P K kv kl ok) {e : TypeId} (ht : P.underlying t = some (.map K e))
    (h : Mp P K kl mk w b n L) (hm : a.eval m = .map (some b))
    (hK : ∀ w', Rg P K kl mk w' b w.heap.size n L L → w.grownBy w' none → w'.heap.size = w.heap.size + 1 → wpListIn F nF P ops Q rest (a.put o.dst (.pointer (some ⟨w.heap.size, 0, none⟩))) w') : wpListIn F nF P ops Q (o :: rest) a w := by
  have h0 := h
  obtain ⟨es, ho, hp, hn2⟩ := h
  refine wpListIn_range_own w hg m t hop K e KL.keyed ht _ b n _ hm ho fun w' h1 h2 h3 => ?_
  exact hK w' ⟨es, _, _, h1, hp, hn2, hn2, fun p hp => hp, fun k => (Mp.atKey KL h0 ho hp k (.map [])).2⟩ h2 h3
/-- the step inside a fence; keys are ints -/
theorem wpListIn_next_rg {L td : List (Int × α)} {kvi : Int → Value} {kli : Int → Lit} {oki : Int → Prop} (e1 : kvi = fun k => .int .i64 k) (e2 : kli = fun k => .int .i64 k) (hg : o.guard = none) (it : Operand) (hop : o.op = Op.next it false) (KL : KeyLit P K kvi kli oki) (hk : P.underlying K = some (.int .i64)) (hi : ∀ x y, mk x = mk y → x = y)
    (h : Rg P K kli mk w b r n L td) (hit : a.eval it = .pointer (some ⟨r, 0, none⟩))
    (hDone : td = [] → wpListIn F nF P ops Q rest (a.put o.dst (.tuple #[.bool false])) w)
    (hMore : ∀ (x : Int) (c : α) (w' : World), (x, c) ∈ td → Rg P K kli mk w' b r n L (without td x) → w'.rangeLeft b r < w.rangeLeft b r → w.grownBy w' (some r) → w'.heap.size = w.heap.size →
      (Instr.entry (.pointer (some ⟨r, 0, none⟩))).run P w' = .ok (.tuple #[.int .i64 x, mk c]) w' → wpListIn F nF P ops Q rest (a.put o.dst (.tuple #[.bool true, .int .i64 x, mk c])) w') : wpListIn F nF P ops Q (o :: rest) a w := by
  subst e1 e2
  obtain ⟨es, left, cnt, hr, hp, hn1, hn2, hsub, hl⟩ := h
  have hr0 := hr
  refine wpListIn_next_ranges w hg it hop K KL.keyed (heldR mk) (Value.int .i64) mk (fun key kl hkey => by obtain ⟨x, rfl, _⟩ := Maps.keyOf_int_inv hk hkey; exact ⟨x, rfl⟩)
    (fun v y hv => by obtain ⟨c, rfl, _⟩ := heldR_inv hv; exact ⟨c, rfl⟩) b r n _ left cnt hit hr (fun h0 hlf => hDone (look_nil_of fun k => by rw [← hl]; exact hlf _))
    (fun x c kl y w' cnt' hkey hlk hv hat hrg hlt hgr hsz hen => ?_)
  obtain ⟨x', ex, rfl, hwx⟩ := Maps.keyOf_int_inv hk hkey
  cases ex
  rw [heldR_mk hi c] at hv
  cases hv
  have h1 : (look td x).isSome = true := by rw [← hl]; exact hlk
  obtain ⟨c', hc'⟩ := look_isSome_iff.1 h1
  have h2 := look_mem hn1 (hsub _ hc')
  have h3 := (Mp.atKey KL ⟨es, hr0.owns, hp, hn1⟩ hr0.owns hp x (.map [])).1
  rw [hat, h2] at h3
  simp at h3
  subst h3
  refine hMore x c w' hc' ⟨es, _, _, hrg, hp, hn1, nodup_without hn2 x, fun p hp => hsub p (mem_without.1 hp).1, fun k => left_without KL hl x k⟩ ?_ hgr hsz hen
  rw [hrg.left_eq, hr0.left_eq]
  exact hlt
theorem Rg.of_walks {w w' : World} (h : Rg P K kl mk w b r n L td) (hk : KeepsWalks w w') : Rg P K kl mk w' b r n L td ∧ w'.rangeLeft b r = w.rangeLeft b r := by
  obtain ⟨es, left, cnt, h1, h2⟩ := h
  have h3 := h1.of_walks hk
  exact ⟨⟨es, left, cnt, h3, h2⟩, by rw [h3.left_eq, h1.left_eq]⟩
end
/-- a job and its number, as the map holds them -/
abbrev NJ := Int × Option Nat
def pJ (o : Option Nat) : Option Addr := o.map fun p => ⟨p, 0, none⟩
def mkN (x : NJ) : Value := .agg #[.int .i64 x.1, .pointer (pJ x.2)]
def celN (x : NJ) : List Value := [.int .i64 x.1, .pointer (pJ x.2)]
theorem pJ_inj (a b : Option Nat) (h : pJ a = pJ b) : a = b := by
  cases a <;> cases b <;> simp_all [pJ]
theorem mkN_inj (x y : NJ) (h : mkN x = mkN y) : x = y := by
  obtain ⟨a, b⟩ := x
  obtain ⟨c, d⟩ := y
  unfold mkN at h
  simp only [Value.agg.injEq, Array.mk.injEq, List.cons.injEq, Value.int.injEq, Value.pointer.injEq, true_and, and_true] at h
  rw [h.1, pJ_inj _ _ h.2]
theorem zeroN (w : World) : (zeroValue 64).run Try.prog w = .ok (mkN (0, none)) w := by kernel_rfl
theorem mem_perm {td : List (Int × NJ)} (hn : (td.map (·.1)).Nodup) {x : Int} {c : NJ} (h : (x, c) ∈ td) : (c :: (without td x).map (·.2)).Perm (td.map (·.2)) := by
  induction td with
  | nil => cases h
  | cons p r ih =>
    rw [List.map_cons, List.nodup_cons] at hn
    rcases List.mem_cons.1 h with e | h2
    · subst e
      have hw : without ((x, c) :: r) x = r := by
        unfold without
        rw [List.filter_cons]
        simp only [ne_eq, not_true_eq_false, decide_false]
        rw [List.filter_eq_self.2]
        · rfl
        · intro q hq
          have : q.1 ≠ x := fun e => hn.1 (List.mem_map.2 ⟨q, hq, e⟩)
          simpa using this
      rw [hw]
      exact List.Perm.refl _
    · have hpx : p.1 ≠ x := fun e => hn.1 (List.mem_map.2 ⟨_, h2, e.symm⟩)
      have hw : without (p :: r) x = p :: without r x := by
        unfold without
        rw [List.filter_cons]
        simp [hpx]
      rw [hw, List.map_cons, List.map_cons]
      exact (List.Perm.swap _ _ _).trans ((ih hn.2 h2).cons _)

set_option maxHeartbeats 1000000 in
/-- the iterator over the map's values: each comes once, in some order -/
theorem values1_in (F : Fence) (n : Nat) (hf : F.fn 34) (hro : F.round = none) (hn : 1 ≤ n) (l Bm b nn : Nat) (L : List (Int × NJ)) (J : List NJ → World → Prop)
    (hY : ∀ pre x W, J pre W → pre.length < L.length → YieldAt F (n - 1) Try.prog l #[mkN x] W fun e W' => e = .returned (.bool true) ∧ J (pre ++ [x]) W' ∧ KeepsWalks W W')
    (W : World) (hJ : AbidesFrom W.heap.size J) (hm : W.cell? ⟨Bm, 0, none⟩ = some (.map (some b))) (hown : Mp Try.prog 3 klI mkN W b nn L) (h0 : J [] W) :
    CallsIn F n Try.prog 34 #[.func (.yield l) #[] #[], .pointer (some ⟨Bm, 0, none⟩)] W fun e W' => (∃ v, e = .returned v) ∧ ∃ ss, ss.Perm (L.map (·.2)) ∧ J ss W' := by
  have KL := keyLit_int (P := Try.prog) Try.underlying3
  refine callsIn_of_wp Try.func34 rfl hf ?_ hro
  simp only [Try.ntmps34, List.size_toArray, List.length_cons, List.length_nil, Nat.reduceAdd, Nat.reduceSub, Array.replicate_succ, Array.replicate_zero, List.push_toArray, List.append_toArray, List.nil_append, List.cons_append]
  gi_wp2_with (first
    | (gi_at_range; refine wpListIn_range_mp _ rfl _ 60 rfl KL Try.underlying60 hown rfl ?_; intro w0 hrg0 hg0 hs0)
    | gi_in)
  go_frame
  gi_loopw [4] (fun _ wr => ∃ (td : List (Int × NJ)) (ss : List NJ), Rg Try.prog 3 klI mkN wr b W.heap.size nn L td ∧ (ss ++ td.map (·.2)).Perm (L.map (·.2)) ∧ (td.map (·.1)).Nodup ∧ J ss wr)
    (fun _ wr => wr.rangeLeft b W.heap.size)
  case atStart =>
    exact ⟨L, [], hrg0, by simp, hown.nodup, hJ [] W w0 none h0 hg0 (fun r e => by cases e)⟩
  case round =>
    obtain ⟨td, ss, hrg, hp, htn, hJs⟩ := hrel
    gi_wp2_with (first
      | (gi_at_next; refine wpListIn_next_rg _ rfl rfl rfl _ rfl KL Try.underlying3 mkN_inj hrg rfl ?_ ?_)
      | gi_in)
    · intro htd
      gi_wp2
      go_end0
      exact ⟨⟨_, rfl⟩, ss, by simpa [htd] using hp, hJs⟩
    · intro x cn co w2 hmem hrg2 hlt hg2 hs2 hen
      have hJ2 : J ss w2 := hJ ss wr w2 (some W.heap.size) hJs hg2 (fun r e => by cases e; exact ⟨Nat.le_refl _, by obtain ⟨es, left, cnt, h1, _⟩ := hrg; exact h1.iter_walk⟩)
      have hJ3 : J ss (w2.alloc (.cells #[.int .i64 cn, .pointer (pJ co)] 64)) := hJ ss w2 _ none hJ2 ⟨rfl, rfl, rfl, by simp, fun k hk _ => Below.heap_alloc _ _ k hk⟩ (fun r e => by cases e)
      have hrg3 := hrg2.fr ((Fr.refl noB w2).alloc (.cells #[.int .i64 cn, .pointer (pJ co)] 64)) (fun q => q) (fun q => q)
      have hmp := mem_perm htn hmem
      have hpl : ss.length < L.length := by
        have h1 := hp.length_eq
        have h2 := hmp.length_eq
        simp only [List.length_append, List.length_map, List.length_cons] at h1 h2
        omega
      obtain ⟨fn, tmps, assign, body, hy, hR⟩ := hY ss (cn, co) _ hJ3 hpl
      unfold mkN at hen hy
      dsimp only at hen hy
      clear hs2
      gi_wp2
      refine hR.mono ?_
      rintro e W3 ⟨rfl, hJ4, hk3⟩
      gi_wp2
      obtain ⟨hrg4, hl4⟩ := hrg3.1.of_walks hk3
      have hlr := hrg3.2
      go_roundw
      case rel =>
        refine ⟨without td x, ss ++ [(cn, co)], hrg4, ?_, nodup_without htn x, hJ4⟩
        rw [List.append_assoc]
        exact ((List.Perm.append_left ss hmp)).trans hp
      case measure => rw [hl4, hlr]; exact hlt
end Go.Proofs.Ytidcoddefebdpaa
