/-
  The jobs of the coordinator's map, each once: maps.Values, slices.Collect.
  slices.AppendSeq, slices.Collect over the iterator of the map's values.
  slices.SortFunc of jobs by their numbers; slices.SortedFunc(maps.Values(m), ..).
-/
import Derived.Test.YtidcoddefebdpaaGreatMapA
import Derived.Shelf.SlIterI.Collect
import Derived.Test.YtidcoddefebdpaaGreatAppend
import Derived.Test.YtidcoddefebdpaaGreatShelf2
import Derived.Shelf.SlSortCmp.NoneTotal
section
set_option linter.unusedVariables false
set_option linter.unusedSimpArgs false
set_option maxRecDepth 100000
set_option linter.unusedSectionVars false
set_option maxRecDepth 100000
namespace Go.Proofs.YtidcoddefebdpaaGreat
open Go.RowKit Go Go.Maps Go.Sort Go.Shelf Go.Proofs

section
variable {α κ : Type} [DecidableEq κ] {P : Program} {K : TypeId} {kv : κ → Value} {kl : κ → Lit} {ok : κ → Prop} {mk : α → Value} {b r n : Nat} {L td : List (κ × α)}
variable (w : World) {F : Fence} {nF : Nat} {ops : Array Oper} {rest : List Oper} {o : Oper} {a : Act} {Q : Exit → Act → World → Prop}
/-- 'range m' inside a fence -/
theorem wpListIn_range_mp (hg : o.guard = none) (m : Operand) (t : TypeId) (hop : o.op = Op.range t m) (KL : KeyLit P K kv kl ok) {e : TypeId} (ht : P.underlying t = some (.map K e))
    (h : Mp P K kl mk w b n L) (hm : a.eval m = .map (some b))
    (hK : ∀ w', Rg P K kl mk w' b w.heap.size n L L → w.grownBy w' none → w'.heap.size = w.heap.size + 1 → wpListIn F nF P ops Q rest (a.put o.dst (.pointer (some ⟨w.heap.size, 0, none⟩))) w') : wpListIn F nF P ops Q (o :: rest) a w := by
  have h0 := h
  obtain ⟨es, ho, hp, hn2⟩ := h
  refine wpListIn_range_own w hg m t hop K e KL.keyed ht _ b n _ hm ho fun w' h1 h2 h3 => ?_
  exact hK w' ⟨es, _, _, h1, hp, hn2, hn2, fun p hp => hp, fun k => (Mp.atKey KL h0 ho hp k (.map [])).2⟩ h2 h3
/-- the step inside a fence; keys are ints -/
theorem wpListIn_next_rg {L td : List (Int × α)} {kvi : Int → Value} {kli : Int → Lit} {oki : Int → Prop} (e1 : kvi = fun k => .int .i64 k) (e2 : kli = fun k => .int .i64 k) (hg : o.guard = none) (it : Operand) (hop : o.op = Op.next it false) (KL : KeyLit P K kvi kli oki) (hk : P.underlying K = some (.int .i64)) (hi : ∀ x y, mk x = mk y → x = y)
    (h : Rg P K kli mk w b r n L td) (hit : a.eval it = .pointer (some ⟨r, 0, none⟩))
    (hDone : td = [] → wpListIn F nF P ops Q rest (a.put o.dst (.tuple #[.bool false])) w)
    (hMore : ∀ (x : Int) (c : α) (w' : World), (x, c) ∈ td → Rg P K kli mk w' b r n L (without td x) → w'.rangeLeft b r < w.rangeLeft b r → w.grownBy w' (some r) → w'.heap.size = w.heap.size →
      (Instr.entry (.pointer (some ⟨r, 0, none⟩))).run P w' = .ok (.tuple #[.int .i64 x, mk c]) w' → wpListIn F nF P ops Q rest (a.put o.dst (.tuple #[.bool true, .int .i64 x, mk c])) w') : wpListIn F nF P ops Q (o :: rest) a w := by
  subst e1 e2
  obtain ⟨es, left, cnt, hr, hp, hn1, hn2, hsub, hl⟩ := h
  have hr0 := hr
  refine wpListIn_next_ranges w hg it hop K KL.keyed (heldR mk) (Value.int .i64) mk (fun key kl hkey => by obtain ⟨x, rfl, _⟩ := Maps.keyOf_int_inv hk hkey; exact ⟨x, rfl⟩)
    (fun v y hv => by obtain ⟨c, rfl, _⟩ := heldR_inv hv; exact ⟨c, rfl⟩) b r n _ left cnt hit hr (fun h0 hlf => hDone (look_nil_of fun k => by rw [← hl]; exact hlf _))
    (fun x c kl y w' cnt' hkey hlk hv hat hrg hlt hgr hsz hen => ?_)
  obtain ⟨x', ex, rfl, hwx⟩ := Maps.keyOf_int_inv hk hkey
  cases ex
  rw [heldR_mk hi c] at hv
  cases hv
  have h1 : (look td x).isSome = true := by rw [← hl]; exact hlk
  obtain ⟨c', hc'⟩ := look_isSome_iff.1 h1
  have h2 := look_mem hn1 (hsub _ hc')
  have h3 := (Mp.atKey KL ⟨es, hr0.owns, hp, hn1⟩ hr0.owns hp x (.map [])).1
  rw [hat, h2] at h3
  simp at h3
  subst h3
  refine hMore x c w' hc' ⟨es, _, _, hrg, hp, hn1, nodup_without hn2 x, fun p hp => hsub p (mem_without.1 hp).1, fun k => left_without KL hl x k⟩ ?_ hgr hsz hen
  rw [hrg.left_eq, hr0.left_eq]
  exact hlt
theorem Rg.of_walks {w w' : World} (h : Rg P K kl mk w b r n L td) (hk : KeepsWalks w w') : Rg P K kl mk w' b r n L td ∧ w'.rangeLeft b r = w.rangeLeft b r := by
  obtain ⟨es, left, cnt, h1, h2⟩ := h
  have h3 := h1.of_walks hk
  exact ⟨⟨es, left, cnt, h3, h2⟩, by rw [h3.left_eq, h1.left_eq]⟩
end
/-- a job and its number, as the map holds them -/
abbrev NJ := Int × Option Nat
def pJ (o : Option Nat) : Option Addr := o.map fun p => ⟨p, 0, none⟩
def mkN (x : NJ) : Value := .agg #[.int .i64 x.1, .pointer (pJ x.2)]
def celN (x : NJ) : List Value := [.int .i64 x.1, .pointer (pJ x.2)]
theorem pJ_inj (a b : Option Nat) (h : pJ a = pJ b) : a = b := by
  cases a <;> cases b <;> simp_all [pJ]
theorem mkN_inj (x y : NJ) (h : mkN x = mkN y) : x = y := by
  obtain ⟨a, b⟩ := x
  obtain ⟨c, d⟩ := y
  unfold mkN at h
  simp only [Value.agg.injEq, Array.mk.injEq, List.cons.injEq, Value.int.injEq, Value.pointer.injEq, true_and, and_true] at h
  rw [h.1, pJ_inj _ _ h.2]
theorem zeroN (w : World) : (zeroValue 79).run Tryz.prog w = .ok (mkN (0, none)) w := by kernel_rfl
theorem mem_perm {td : List (Int × NJ)} (hn : (td.map (·.1)).Nodup) {x : Int} {c : NJ} (h : (x, c) ∈ td) : (c :: (without td x).map (·.2)).Perm (td.map (·.2)) := by
  induction td with
  | nil => cases h
  | cons p r ih =>
    rw [List.map_cons, List.nodup_cons] at hn
    rcases List.mem_cons.1 h with e | h2
    · subst e
      have hw : without ((x, c) :: r) x = r := by
        unfold without
        rw [List.filter_cons]
        simp only [ne_eq, not_true_eq_false, decide_false]
        rw [List.filter_eq_self.2]
        · rfl
        · intro q hq
          have : q.1 ≠ x := fun e => hn.1 (List.mem_map.2 ⟨q, hq, e⟩)
          simpa using this
      rw [hw]
      exact List.Perm.refl _
    · have hpx : p.1 ≠ x := fun e => hn.1 (List.mem_map.2 ⟨_, h2, e.symm⟩)
      have hw : without (p :: r) x = p :: without r x := by
        unfold without
        rw [List.filter_cons]
        simp [hpx]
      rw [hw, List.map_cons, List.map_cons]
      exact (List.Perm.swap _ _ _).trans ((ih hn.2 h2).cons _)

set_option maxHeartbeats 1000000 in
/-- the iterator over the map's values: each comes once, in some order -/
theorem values1_in (F : Fence) (n : Nat) (hf : F.fn 41) (hro : F.round = none) (hn : 1 ≤ n) (l Bm b nn : Nat) (L : List (Int × NJ)) (J : List NJ → World → Prop)
    (hY : ∀ pre x W, J pre W → pre.length < L.length → YieldAt F (n - 1) Tryz.prog l #[mkN x] W fun e W' => e = .returned (.bool true) ∧ J (pre ++ [x]) W' ∧ KeepsWalks W W')
    (W : World) (hJ : AbidesFrom W.heap.size J) (hm : W.cell? ⟨Bm, 0, none⟩ = some (.map (some b))) (hown : Mp Tryz.prog 3 klI mkN W b nn L) (h0 : J [] W) :
    CallsIn F n Tryz.prog 41 #[.func (.yield l) #[] #[], .pointer (some ⟨Bm, 0, none⟩)] W fun e W' => (∃ v, e = .returned v) ∧ ∃ ss, ss.Perm (L.map (·.2)) ∧ J ss W' := by
  have KL := keyLit_int (P := Tryz.prog) Tryz.underlying3
  refine callsIn_of_wp Tryz.func41 rfl hf ?_ hro
  simp only [Tryz.ntmps41, List.size_toArray, List.length_cons, List.length_nil, Nat.reduceAdd, Nat.reduceSub, Array.replicate_succ, Array.replicate_zero, List.push_toArray, List.append_toArray, List.nil_append, List.cons_append]
  gi_wp2_with (first
    | (gi_at_range; refine wpListIn_range_mp _ rfl _ 72 rfl KL Tryz.underlying72 hown rfl ?_; intro w0 hrg0 hg0 hs0)
    | gi_in)
  go_frame
  gi_loopw [4] (fun _ wr => ∃ (td : List (Int × NJ)) (ss : List NJ), Rg Tryz.prog 3 klI mkN wr b W.heap.size nn L td ∧ (ss ++ td.map (·.2)).Perm (L.map (·.2)) ∧ (td.map (·.1)).Nodup ∧ J ss wr)
    (fun _ wr => wr.rangeLeft b W.heap.size)
  case atStart =>
    exact ⟨L, [], hrg0, by simp, hown.nodup, hJ [] W w0 none h0 hg0 (fun r e => by cases e)⟩
  case round =>
    obtain ⟨td, ss, hrg, hp, htn, hJs⟩ := hrel
    gi_wp2_with (first
      | (gi_at_next; refine wpListIn_next_rg _ rfl rfl rfl _ rfl KL Tryz.underlying3 mkN_inj hrg rfl ?_ ?_)
      | gi_in)
    · intro htd
      gi_wp2
      go_end0
      exact ⟨⟨_, rfl⟩, ss, by simpa [htd] using hp, hJs⟩
    · intro x cn co w2 hmem hrg2 hlt hg2 hs2 hen
      have hJ2 : J ss w2 := hJ ss wr w2 (some W.heap.size) hJs hg2 (fun r e => by cases e; exact ⟨Nat.le_refl _, by obtain ⟨es, left, cnt, h1, _⟩ := hrg; exact h1.iter_walk⟩)
      have hJ3 : J ss (w2.alloc (.cells #[.int .i64 cn, .pointer (pJ co)] 79)) := hJ ss w2 _ none hJ2 ⟨rfl, rfl, rfl, by simp, fun k hk _ => Below.heap_alloc _ _ k hk⟩ (fun r e => by cases e)
      have hrg3 := hrg2.fr ((Fr.refl noB w2).alloc (.cells #[.int .i64 cn, .pointer (pJ co)] 79)) (fun q => q) (fun q => q)
      have hmp := mem_perm htn hmem
      have hpl : ss.length < L.length := by
        have h1 := hp.length_eq
        have h2 := hmp.length_eq
        simp only [List.length_append, List.length_map, List.length_cons] at h1 h2
        omega
      obtain ⟨fn, tmps, assign, body, hy, hR⟩ := hY ss (cn, co) _ hJ3 hpl
      unfold mkN at hen hy
      dsimp only at hen hy
      clear hs2
      gi_wp2
      refine hR.mono ?_
      rintro e W3 ⟨rfl, hJ4, hk3⟩
      gi_wp2
      obtain ⟨hrg4, hl4⟩ := hrg3.1.of_walks hk3
      have hlr := hrg3.2
      go_roundw
      case rel =>
        refine ⟨without td x, ss ++ [(cn, co)], hrg4, ?_, nodup_without htn x, hJ4⟩
        rw [List.append_assoc]
        exact ((List.Perm.append_left ss hmp)).trans hp
      case measure => rw [hl4, hlr]; exact hlt
end Go.Proofs.YtidcoddefebdpaaGreat
end

section
set_option linter.unusedVariables false
set_option linter.unusedSimpArgs false
set_option maxRecDepth 100000
set_option maxRecDepth 100000
namespace Go.Proofs.YtidcoddefebdpaaGreat
open Go.RowKit Go Go.Maps Go.Sort Go.Shelf Go.Proofs

def apAssign : Code := (Code.region 2 #[{ dst := some 5, op := Op.alloc 79, type := 0, pos := "iter.go:51", after := #[], guard := none }, { dst := none, op := Op.store 79 (Operand.tmp 5) (Operand.tmp 7), type := 0, pos := "iter.go:51", after := #[{ on := 0, ground := Ground.data }, { on := 0, ground := Ground.phase }], guard := none }] false)
def apBody : Code := (Code.block 1 (Code.region 3 #[{ dst := some 8, op := Op.load 82 (Operand.tmp 2), type := 82, pos := "iter.go:52", after := #[], guard := none }, { dst := some 9, op := Op.load 79 (Operand.tmp 5), type := 79, pos := "iter.go:52", after := #[], guard := none }, { dst := some 10, op := Op.buildSlice 82 1 #[(0, Operand.tmp 9)], type := 82, pos := "iter.go:52", after := #[{ on := 1, ground := Ground.data }], guard := none }, { dst := some 11, op := Op.call { callee := Callee.builtin Builtin.append, args := #[Operand.tmp 8, Operand.tmp 10], argTypes := #[82, 82] }, type := 82, pos := "iter.go:52", after := #[{ on := 0, ground := Ground.data }, { on := 2, ground := Ground.data }], guard := none }, { dst := none, op := Op.store 82 (Operand.tmp 2) (Operand.tmp 11), type := 0, pos := "iter.go:52", after := #[{ on := 3, ground := Ground.data }, { on := 3, ground := Ground.chain }, { on := 0, ground := Ground.phase }, { on := 1, ground := Ground.phase }, { on := 2, ground := Ground.phase }, { on := 3, ground := Ground.phase }], guard := none }] false))
def apRec (fn : FuncId) (sv : Value) (Bs D : Nat) (st : LoopState) (pend : Option Code) : Loop :=
  { state := st, pending := pend, fn, tmps := #[.slice none 0 0, sv, .pointer (some ⟨Bs, 0, none⟩), undef, .slice none 0 0, undef, sv, undef, undef, undef, undef, undef, undef], params := #[7], assign := apAssign, body := apBody, defers := D }
/-- between two rounds -/
structure ApAt (w0 : World) (fn : FuncId) (sv : Value) (Bs l D : Nat) (ss : List NJ) (W : World) : Prop where
  box : ∃ v, W.heap[Bs]? = some (.cells #[v] 82 (0, 0)) ∧ W.ownsRow w0.heap.size 79 2 v ss.length (ss.flatMap celN)
  L : W.heap[l]? = some (.loop (apRec fn sv Bs D .ready none))
  K : W.heap[D]? = some (.deferred (some []))
  below : Below w0.heap.size w0 W
theorem ap_abides (w0 : World) (fn : FuncId) (sv : Value) (Bs l D B : Nat) (hB : w0.heap.size ≤ B) : AbidesFrom B (ApAt w0 fn sv Bs l D) := fun s W W' row h hg hrow => by
  have hrow' : ∀ r, row = some r → ∃ o : Obj, W.heap[r]? = some o ∧ o.isWalk = true := fun r e => (hrow r e).2
  obtain ⟨v, hv, hr⟩ := h.box
  exact ⟨⟨v, (grownBy_keeps hg hrow' hv rfl).trans hv, ownsRow_abides_a hr hg hrow'⟩, (grownBy_keeps hg hrow' h.L rfl).trans h.L, (grownBy_keeps hg hrow' h.K rfl).trans h.K,
    h.below.grown hg h.below.size (fun k e => Nat.le_trans hB (hrow k e).1)⟩
theorem infoN : (Tryz.prog.info? 79).map (fun i => (i.zero, i.size, i.bytes)) = some (some (.agg #[.int .i64 0, .pointer none]), 2, 16) := by kernel_rfl
theorem celN_one (x : NJ) : ∀ v ∈ celN x, v.oneCell' = true := by
  intro v hv
  unfold celN at hv
  simp only [List.mem_cons, List.not_mem_nil, or_false] at hv
  rcases hv with rfl | rfl <;> rfl
theorem news_cel (w : World) (x : NJ) : ∀ j u, (celN x)[j]? = some u → (w.alloc (.cells (celN x).toArray 79)).cell? ((⟨w.heap.size, 0, none⟩ : Addr).add j) = some u := by
  intro j u hj
  rw [show (⟨w.heap.size, 0, none⟩ : Addr).add j = ⟨w.heap.size, j, none⟩ by unfold Addr.add; split <;> simp_all]
  rw [← hj]
  exact (Blk.new w 79 (celN x)).cell j
set_option maxHeartbeats 4000000 in
theorem apYield (F : Fence) (m : Nat) (w0 : World) (fn : FuncId) (hfn : F.fn fn) (sv : Value) (Bs l D : Nat) (hBl : Bs ≠ l) (hDl : D ≠ l) (hDB : D ≠ Bs) (h0B : w0.heap.size ≤ Bs) (h0l : w0.heap.size ≤ l)
    (N : Nat) (hN : N ≤ 1000) (ss : List NJ) (x : NJ) (W : World) (h : ApAt w0 fn sv Bs l D ss W) (hlen : ss.length < N) :
    YieldAt F m Tryz.prog l #[mkN x] W fun e W' => e = .returned (.bool true) ∧ ApAt w0 fn sv Bs l D (ss ++ [x]) W' ∧ KeepsWalks W W' := by
  have hne : 82 ≠ 79 := by decide
  obtain ⟨i0, hi, hz0, hz1, hz2⟩ := info_parts infoN
  obtain ⟨v, hv, hrow⟩ := h.box
  obtain ⟨xn, xo⟩ := x
  refine ⟨fn, #[.slice none 0 0, sv, .pointer (some ⟨Bs, 0, none⟩), undef, .slice none 0 0, undef, sv, mkN (xn, xo), undef, undef, undef, undef, undef], apAssign, apBody, by simpa [apRec] using run_yield (P := Tryz.prog) (args := #[mkN (xn, xo)]) h.L rfl, roundIn_of_wpIn hfn ?_⟩
  unfold mkN
  dsimp only
  have hl : l < W.heap.size := (Array.getElem?_eq_some_iff.1 h.L).1
  -- the round's own variable
  obtain ⟨Wa, hWa⟩ : ∃ Wa, W.alloc (.cells #[.int .i64 xn, .pointer (pJ xo)] 79) = Wa := ⟨_, rfl⟩
  have hga : W.grownBy Wa none := by rw [← hWa]; exact ⟨rfl, rfl, rfl, by simp, fun k hk _ => Below.heap_alloc _ _ k hk⟩
  have olda : ∀ k, k < W.heap.size → Wa.heap[k]? = W.heap[k]? := fun k hk => hga.block k hk (by simp)
  have hBlt0 : Bs < W.heap.size := (Array.getElem?_eq_some_iff.1 hv).1
  have hDlt0 : D < W.heap.size := (Array.getElem?_eq_some_iff.1 h.K).1
  have hka : KeepsWalks W Wa := by rw [← hWa]; exact KeepsWalks.alloc _ _
  have hva : Wa.heap[Bs]? = some (.cells #[v] 82 (0, 0)) := (olda Bs hBlt0).trans hv
  have hKa : Wa.heap[D]? = some (.deferred (some [])) := (olda D hDlt0).trans h.K
  have hLa : Wa.heap[l]? = some (.loop (apRec fn sv Bs D .ready none)) := (olda l hl).trans h.L
  have hxa : Blk Wa W.heap.size 79 [.int .i64 xn, .pointer (pJ xo)] := by rw [← hWa]; exact Blk.new W 79 _
  have hrowa : Wa.ownsRow w0.heap.size 79 2 v ss.length (ss.flatMap celN) := by rw [← hWa]; exact hrow.alloc _
  have hba : Below w0.heap.size w0 Wa := h.below.grown hga h.below.size (fun k e => by cases e)
  have hbr := run_beginRound (P := Tryz.prog) hLa rfl
  obtain ⟨W2, hW2⟩ : ∃ W2, Wa.putObj l (.loop { apRec fn sv Bs D .ready none with state := .busy }) = W2 := ⟨_, rfl⟩
  rw [hW2] at hbr
  have hla : l < Wa.heap.size := (Array.getElem?_eq_some_iff.1 hLa).1
  have hlx : W.heap.size ≠ l := by omega
  have hg2 : Wa.grownBy W2 (some l) := by rw [← hW2]; exact grownBy_putObj_a _ _ _
  have hk2 : KeepsWalks Wa W2 := by rw [← hW2]; exact KeepsWalks.putObj _ hLa rfl
  have hv2 : W2.heap[Bs]? = some (.cells #[v] 82 (0, 0)) := by rw [← hW2]; exact (World.putObj_heap_other hBl).trans hva
  have hK2 : W2.heap[D]? = some (.deferred (some [])) := by rw [← hW2]; exact (World.putObj_heap_other hDl).trans hKa
  have hL2 : W2.heap[l]? = some (.loop { apRec fn sv Bs D .ready none with state := .busy }) := by rw [← hW2]; exact World.putObj_heap_same hla
  have hx2 : Blk W2 W.heap.size 79 [.int .i64 xn, .pointer (pJ xo)] := by unfold Blk at hxa ⊢; rw [← hW2]; exact (World.putObj_heap_other hlx).trans hxa
  have hrow2 : W2.ownsRow w0.heap.size 79 2 v ss.length (ss.flatMap celN) := hrowa.kept hg2 (ownsRow_ne_a hrowa hLa (fun cur e => by first | cases e | exact hne (Obj.cells.inj e).2.1))
  have hb2 : Below w0.heap.size w0 W2 := hba.grown hg2 hba.size (fun k e => by cases e; exact h0l)
  clear hW2
  have x0 : W2.cell? ⟨W.heap.size, 0, none⟩ = some (.int .i64 xn) := hx2.cell 0
  have x1 : W2.cell? ⟨W.heap.size, 1, none⟩ = some (.pointer (pJ xo)) := hx2.cell 1
  obtain ⟨hc2, hf2⟩ := cell_of_box_a hv2
  have hBlt : Bs < W2.heap.size := (Array.getElem?_eq_some_iff.1 hv2).1
  have hl2 : l < W2.heap.size := (Array.getElem?_eq_some_iff.1 hL2).1
  have hDlt : D < W2.heap.size := (Array.getElem?_eq_some_iff.1 hK2).1
  have ne_of : ∀ {j : Nat} {o : Obj}, W2.heap[j]? = some o → (∀ cur, o ≠ .cells cur 79 (0, 0)) → some j ≠ v.ownBlock := fun hj hno => by
    rcases ownsRow_ne_a hrow2 hj hno with e | e
    · rw [e]; simp
    · exact fun e' => e e'.symm
  have hcn := news_cel W2 (xn, xo)
  unfold apAssign
  gi_wp2_with gi_round_op_a
  unfold apBody
  gi_wp2_with (first
    | (gi_at_builtin; refine wpListIn_append_own _ rfl _ _ 82 rfl w0.heap.size 79 i0 (.agg #[.int .i64 0, .pointer none]) 2 16 Tryz.underlying82 hi hz0 hz1 hz2 rfl (by decide) _ _ _ rfl (hrow2.alloc _) ⟨W2.heap.size, 0, none⟩ 1 1 (celN (xn, xo)) rfl rfl hcn (celN_one (xn, xo)) (by unfold maxLen; omega) (by omega) (by have := hb2.size; simp; omega) ?_; intro v' w3 hown' hg3 hnil3
       have hv3 : w3.heap[Bs]? = some (.cells #[v] 82 (0, 0)) := (hg3.block Bs (by simp; omega) (ne_of hv2 (fun cur e => by first | cases e | exact hne (Obj.cells.inj e).2.1))).trans ((Below.heap_alloc _ _ Bs hBlt).trans hv2)
       obtain ⟨hc3, hf3⟩ := cell_of_box_a hv3
       obtain ⟨g', cap', cur', rfl, hbase', hgb', hr1, hr2, hr3, hr4⟩ : ∃ g' cap' cur', v' = .slice (some ⟨g', 0, none⟩) (ss.length + 1) cap' ∧ w0.heap.size ≤ g' ∧ w3.heap[g']? = some (.cells cur' 79 (0, 0)) ∧ ss.length + 1 ≤ cap' ∧ cap' ≤ maxLen ∧ cur'.size = cap' * 2 ∧ cur'.toList.take ((ss.length + 1) * 2) = ss.flatMap celN ++ celN (xn, xo) := by
         rcases hown'.2 with ⟨_, h0⟩ | h'
         · exact absurd h0 (by omega)
         · exact h'
       go_frame)
    | gi_round_op_a)
  have hg3' : (W2.alloc (.cells (celN (xn, xo)).toArray 79)).grownBy w3 v.ownBlock := hg3
  have hL3 : w3.heap[l]? = some (.loop { apRec fn sv Bs D .ready none with state := .busy }) := (hg3'.block l (by simp; omega) (ne_of hL2 (fun cur e => by first | cases e | exact hne (Obj.cells.inj e).2.1))).trans ((Below.heap_alloc _ _ l hl2).trans hL2)
  have hK3 : w3.heap[D]? = some (.deferred (some [])) := (hg3'.block D (by simp; omega) (ne_of hK2 (fun cur e => by first | cases e | exact hne (Obj.cells.inj e).2.1))).trans ((Below.heap_alloc _ _ D hDlt).trans hK2)
  obtain ⟨w4, hw4⟩ : ∃ w4, w3.setCell ⟨Bs, 0, none⟩ (.slice (some ⟨g', 0, none⟩) (ss.length + 1) cap') = w4 := ⟨_, rfl⟩
  rw [hw4]
  have hg4 : w3.grownBy w4 (some Bs) := by rw [← hw4]; exact grownBy_setCell0_a _ _ _
  have hv4 : w4.heap[Bs]? = some (.cells #[.slice (some ⟨g', 0, none⟩) (ss.length + 1) cap'] 82 (0, 0)) := by rw [← hw4]; exact heap_setCell_box_a _ hv3
  have hL4 : w4.heap[l]? = some (.loop { apRec fn sv Bs D .ready none with state := .busy }) := (hg4.block l (Array.getElem?_eq_some_iff.1 hL3).1 (fun e => hBl (by cases e; rfl))).trans hL3
  have hK4 : w4.heap[D]? = some (.deferred (some [])) := (hg4.block D (Array.getElem?_eq_some_iff.1 hK3).1 (fun e => hDB (by cases e; rfl))).trans hK3
  have hrow4 := hown'.kept hg4 (ownsRow_ne_a hown' hv3 (fun cur e => by first | cases e | exact hne (Obj.cells.inj e).2.1))
  have hl4 : l < w4.heap.size := (Array.getElem?_eq_some_iff.1 hL4).1
  have hb3 : Below w0.heap.size w0 w3 := (hb2.alloc hb2.size _).grown hg3' (by have := hb2.size; simp; omega) (fun k e => (hrow2.lt k e).1)
  have hb4 : Below w0.heap.size w0 w4 := hb3.grown hg4 hb3.size (fun k e => by cases e; exact h0B)
  have hk4 : KeepsWalks W w4 := (((hka.trans hk2).trans (KeepsWalks.alloc _ _)).trans (KeepsWalks.of_grownBy hg3' (ownsRow_not_walk_a (hrow2.alloc _)))).trans (by rw [← hw4]; exact KeepsWalks.setCell _ _ _)
  clear hw4
  refine ⟨_, _, run_endRound none hL4, rfl, ⟨⟨_, (World.putObj_heap_other hBl).trans hv4, ?_⟩, World.putObj_heap_same hl4, (World.putObj_heap_other hDl).trans hK4, hb4.grown (grownBy_putObj_a _ _ _) hb4.size (fun k e => by cases e; exact h0l)⟩, hk4.trans (KeepsWalks.putObj _ hL4 rfl)⟩
  have := hrow4.kept (grownBy_putObj_a w4 l (.loop { { apRec fn sv Bs D .ready none with state := .busy } with state := if (none : Option Code).isNone then .ready else .done, pending := none })) (ownsRow_ne_a hrow4 hL4 (fun cur e => by first | cases e | exact hne (Obj.cells.inj e).2.1))
  rw [List.flatMap_append, List.length_append]
  simpa using this


set_option maxHeartbeats 2000000 in
/-- slices.AppendSeq(nil, seq): what the iterator gave, in its order -/
theorem appendSeq_in (F : Fence) (n : Nat) (hfn0 : F.fn 58) (hro : F.round = none) (hn : 2 ≤ n) (g : Nat) (lb : Array Value) (hFg : F.fn g) (eg : ∀ args w, (callFunc g args).run Tryz.prog w = .ok (.enter g args) w)
    (SP : List NJ → Prop) (N : Nat) (hN : N ≤ 1000) (w : World) (hseq : SeqGives F (n - 1) Tryz.prog g lb mkN SP N w) :
    CallsIn F n Tryz.prog 58 #[.slice none 0 0, .func (.func g) #[] lb] w fun e w' => ∃ (v : Value) (ss : List NJ), e = .returned v ∧ SP ss ∧ w'.ownsRow w.heap.size 79 2 v ss.length (ss.flatMap celN) ∧ Below w.heap.size w w' := by
  have h1 : 1 ≤ n := by omega
  have hne : 82 ≠ 79 := by decide
  refine callsIn_of_wp_marks Tryz.func58 rfl hfn0 ?_ hro
  simp only [Tryz.ntmps58, List.size_toArray, List.length_cons, List.length_nil, Nat.reduceAdd, Nat.reduceSub, Array.replicate_succ, Array.replicate_zero, List.push_toArray, List.append_toArray, List.nil_append, List.cons_append]
  gi_wp2
  refine wpIn_rangeFunc ?_
  intro fn hfn
  rw [hro]
  obtain ⟨W0, hW0⟩ : ∃ W0, w.alloc (.cells #[.slice none 0 0] 82) = W0 := ⟨_, rfl⟩
  have hs0 : W0.heap.size = w.heap.size + 1 := by rw [← hW0]; simp
  have hv0 : W0.heap[w.heap.size]? = some (.cells #[.slice none 0 0] 82 (0, 0)) := by rw [← hW0]; exact World.alloc_heap_new w _
  have hb0 : Below w.heap.size w W0 := by rw [← hW0]; exact (Below.refl _ w).alloc (Nat.le_refl _) _
  rw [hW0]
  obtain ⟨W1, hW1⟩ : ∃ W1, (W0.alloc (.deferred (some []))).alloc (.loop (apRec fn (.func (.func g) #[] lb) w.heap.size W0.heap.size .ready none)) = W1 := ⟨_, rfl⟩
  have hold : ∀ k, k < W0.heap.size → W1.heap[k]? = W0.heap[k]? := fun k hk => by
    rw [← hW1]; exact (Below.heap_alloc _ _ k (by simp; omega)).trans (Below.heap_alloc _ _ k hk)
  have hb1 : Below w.heap.size w W1 := by rw [← hW1]; exact (hb0.alloc hb0.size _).alloc (by have := hb0.size; simp; omega) _
  have hs1 : W1.heap.size = W0.heap.size + 2 := by rw [← hW1]; simp
  have hM : ApAt w fn (.func (.func g) #[] lb) w.heap.size (W0.heap.size + 1) W0.heap.size [] W1 :=
    ⟨⟨_, (hold w.heap.size (by omega)).trans hv0, ⟨rfl, .inl ⟨rfl, rfl⟩⟩⟩,
     by rw [← hW1]; have := World.alloc_heap_new (W0.alloc (.deferred (some []))) (.loop (apRec fn (.func (.func g) #[] lb) w.heap.size W0.heap.size .ready none)); rwa [World.size_alloc] at this,
     by rw [← hW1]; exact (Below.heap_alloc _ _ _ (by simp)).trans (World.alloc_heap_new W0 _), hb1⟩
  refine ⟨W0.heap.size + 1, [{ target := .collected W0.heap.size, args := #[] }], W1, { target := .fn (.func g) lb, args := #[.func (.yield (W0.heap.size + 1)) #[] #[]] }, W1, g,
    #[.func (.yield (W0.heap.size + 1)) #[] #[]] ++ lb, W1, ?_, ?_, ?_, ?_, fun _ => h1, ?_⟩
  · rw [← hW1]; exact run_enterLoop_outer _ _ _ _ _
  · simp [resolve, go_sem]
  · intro f' hf'; simp [Target.leads] at hf'; subst hf'; exact hFg
  · simp [invoke, go_sem, eg]
  · refine (hseq (W0.heap.size + 1) (ApAt w fn (.func (.func g) #[] lb) w.heap.size (W0.heap.size + 1) W0.heap.size) W1 hb1 (ap_abides _ _ _ _ _ _ _ hb1.size)
      (fun pre x W hJ hl => apYield F (n - 1 - 1) w fn hfn _ w.heap.size (W0.heap.size + 1) W0.heap.size (by omega) (by omega) (by omega) (Nat.le_refl _) (by omega) N hN pre x W hJ hl) hM).mono ?_
    rintro e W2 ⟨⟨v0, rfl⟩, ss, hS, h2⟩
    obtain ⟨v, hv, hrow⟩ := h2.box
    have hend := run_endLoop (P := Tryz.prog) h2.L (by simp [apRec])
    obtain ⟨W3, hW3⟩ : ∃ W3, W2.putObj (W0.heap.size + 1) (.loop { apRec fn (.func (.func g) #[] lb) w.heap.size W0.heap.size .ready none with state := .exhausted }) = W3 := ⟨_, rfl⟩
    rw [hW3] at hend
    have hg3 : W2.grownBy W3 (some (W0.heap.size + 1)) := by rw [← hW3]; exact grownBy_putObj_a _ _ _
    have hv3 : W3.heap[w.heap.size]? = some (.cells #[v] 82 (0, 0)) := by rw [← hW3]; exact (World.putObj_heap_other (by omega)).trans hv
    have hK3 : W3.heap[W0.heap.size]? = some (.deferred (some [])) := by rw [← hW3]; exact (World.putObj_heap_other (by omega)).trans h2.K
    have hrow3 := hrow.kept hg3 (ownsRow_ne_a hrow h2.L (fun cur e => by first | cases e | exact hne (Obj.cells.inj e).2.1))
    have hb3 : Below w.heap.size w W3 := h2.below.grown hg3 h2.below.size (fun k e => by cases e; omega)
    obtain ⟨hc3, hf3⟩ := cell_of_box_a hv3
    clear hW3
    refine ⟨none, W3, hend, ?_⟩
    gi_wp2
    rw [← hs0]
    refine ⟨by simp, .inl ⟨_, _, rfl, run_takeDeferred hK3, ?_⟩⟩
    exact ⟨_, results_tmp rfl _ _ _, v, ss, rfl, hS, hrow3.kept (grownBy_putObj_a _ _ _) (ownsRow_ne_a hrow3 hK3 (fun cur e => by first | cases e | exact hne (Obj.cells.inj e).2.1)), hb3.grown (grownBy_putObj_a _ _ _) hb3.size (fun k e => by cases e; omega)⟩
theorem values_gives (n : Nat) (hn : 1 ≤ n) (Bm b nn : Nat) (L : List (Int × NJ)) (w : World) (hBm : Bm < w.heap.size) (hm : w.cell? ⟨Bm, 0, none⟩ = some (.map (some b))) (hown : Mp Tryz.prog 3 klI mkN w b nn L) :
    SeqGives Fence.wide n Tryz.prog 41 #[.pointer (some ⟨Bm, 0, none⟩)] mkN (fun ss => ss.Perm (L.map (·.2))) L.length w := fun l J W hW hJ hY h0 =>
  values1_in Fence.wide n trivial rfl hn l Bm b nn L J hY W hJ ((hW.cell (p := ⟨Bm, 0, none⟩) hBm).trans hm) (hown.block (hW.block b hown.lt)) h0
set_option maxHeartbeats 1000000 in
/-- slices.Collect(maps.Values(m)) -/
theorem collect_any (Bm b nn : Nat) (L : List (Int × NJ)) (hl : L.length ≤ 1000) (w : World) (hBm : Bm < w.heap.size) (hm : w.cell? ⟨Bm, 0, none⟩ = some (.map (some b))) (hown : Mp Tryz.prog 3 klI mkN w b nn L) :
    Calls Tryz.prog 39 #[.func (.func 41) #[] #[.pointer (some ⟨Bm, 0, none⟩)]] w fun e w' => ∃ (v : Value) (ss : List NJ), e = .returned v ∧ ss.Perm (L.map (·.2)) ∧ w'.ownsRow w.heap.size 79 2 v ss.length (ss.flatMap celN) ∧ Fr noB w w' := by
  have eg : ∀ args w, (callFunc 41 args).run Tryz.prog w = .ok (.enter 41 args) w := enters_of Tryz.func41 (by kernel_rfl) rfl
  have hc : Calls Tryz.prog 58 #[.slice none 0 0, .func (.func 41) #[] #[.pointer (some ⟨Bm, 0, none⟩)]] w fun e w' => ∃ (v : Value) (ss : List NJ), e = .returned v ∧ ss.Perm (L.map (·.2)) ∧ w'.ownsRow w.heap.size 79 2 v ss.length (ss.flatMap celN) ∧ Below w.heap.size w w' :=
    (callsIn_wide (n := 3)).1 (appendSeq_in Fence.wide 3 trivial rfl (by omega) 41 #[.pointer (some ⟨Bm, 0, none⟩)] trivial eg _ L.length hl w (values_gives 2 (by omega) Bm b nn L w hBm hm hown))
  clear hown hm
  go_enter Tryz.func39, Tryz.ntmps39
  go_wp2_with fail
  go_fit hc
  rintro e w' ⟨v, ss, rfl, hp, ho, hb⟩
  go_wp2_with fail
  go_ret
  exact ⟨v, ss, rfl, hp, ho, Fr.of_below hb⟩
set_option maxHeartbeats 1000000 in
theorem values_any (b : Nat) (w : World) : Calls Tryz.prog 24 #[.map (some b)] w fun e w' => e = .returned (.func (.func 41) #[] #[.pointer (some ⟨w.heap.size, 0, none⟩)]) ∧ w' = w.alloc (.cells #[.map (some b)] 72) := by
  go_enter Tryz.func24, Tryz.ntmps24
  go_wp2_with fail
  go_ret
  exact ⟨rfl, rfl⟩
end Go.Proofs.YtidcoddefebdpaaGreat
end

section
set_option linter.unusedVariables false
set_option linter.unusedSimpArgs false
set_option maxRecDepth 100000
namespace Go.Proofs.YtidcoddefebdpaaGreat
open Go.RowKit Go Go.Lib Go.Sort Go.Shelf

theorem spF_len (l : List NJ) : (l.flatMap celN).length = l.length * 2 := by
  induction l with
  | nil => rfl
  | cons b r ih => rw [List.flatMap_cons, List.length_append, ih, List.length_cons]; show 2 + _ = _; omega
theorem flat_getC : ∀ (L : List NJ) (i q : Nat) (m : NJ), L[i]? = some m → q < 2 → (L.flatMap celN)[i * 2 + q]? = (celN m)[q]?
  | [], i, q, m, h, _ => by simp at h
  | x :: r, i, q, m, h, hq => by
    rw [List.flatMap_cons]
    have hz : (celN x).length = 2 := rfl
    cases i with
    | zero =>
      simp at h; subst h
      rw [Nat.zero_mul, Nat.zero_add, List.getElem?_append_left (by rw [hz]; exact hq)]
    | succ i =>
      have h' : r[i]? = some m := by simpa using h
      have := flat_getC r i q m h' hq
      rw [List.getElem?_append_right (by rw [hz]; omega), hz, show (i + 1) * 2 + q - 2 = i * 2 + q by omega]
      exact this
theorem flatK_eq (d : Array NJ) : flatK celN 2 d = (d.toList.flatMap celN).toArray := by
  refine ext_get! (by rw [size_flatK]; simp only [List.size_toArray]; rw [spF_len]; simp) fun t ht => ?_
  have ht' : t < d.size * 2 := by simpa using ht
  rw [get_flatK _ _ _ _ ht']
  have hk : t / 2 < d.size := by omega
  have h1 := flat_getC d.toList (t / 2) (t % 2) d[t / 2]! (by rw [List.getElem?_eq_getElem (by simpa using hk)]; simp [hk]) (by omega)
  rw [show t / 2 * 2 + t % 2 = t by omega] at h1
  have h2 : t < (d.toList.flatMap celN).length := by rw [spF_len]; simpa using ht'
  have h3 : t % 2 < (celN d[t / 2]!).length := by show t % 2 < 2; omega
  rw [List.getElem?_eq_getElem h2, List.getElem?_eq_getElem h3] at h1
  rw [getElem!_pos (celN d[t / 2]!) (t % 2) h3, getElem!_pos (d.toList.flatMap celN).toArray t (by simpa using h2)]
  simp only [Option.some.injEq] at h1
  rw [← h1]; simp

def cmpQ (x y : NJ) : Int := Lib.compareInt x.1 y.1
theorem ltQ (x y : NJ) : ltOf cmpQ x y = decide (x.1 < y.1) := by
  unfold ltOf cmpQ Lib.compareInt
  by_cases h1 : x.1 < y.1
  · simp [h1]
  · by_cases h2 : y.1 < x.1 <;> simp [h1, h2]
theorem swoQ : SWO (ltOf cmpQ) where
  irrefl x := by rw [ltQ]; simp
  trans x y z h1 h2 := by rw [ltQ] at *; simp at *; omega
  ntrans x y z h1 h2 := by rw [ltQ] at *; simp at *; omega
set_option maxHeartbeats 1000000 in
theorem clo_cmp (x y : NJ) (W : World) : Calls Tryz.prog 21 #[mkN x, mkN y] W fun e w' => e = .returned (.int .i64 (cmpQ x y)) ∧ ∃ q os', w' = Sort.grow (W.drewN q) os' := by
  obtain ⟨x1, x2⟩ := x
  obtain ⟨y1, y2⟩ := y
  have hcon := fun W' => Tryz.cmp_Compare_int x1 y1 W'
  unfold cmpQ mkN
  dsimp only
  generalize Lib.compareInt x1 y1 = r at hcon ⊢
  go_enter Tryz.func21, Tryz.ntmps21
  go_wp2_with fail
  refine (hcon _).mono ?_
  rintro e w' ⟨rfl, hw⟩
  obtain rfl := hw.symm
  go_wp2_with fail
  go_ret
  exact ⟨rfl, 0, _, by rw [alloc_eq_grow, alloc_eq_grow, grow_grow]; rfl⟩
theorem cmpLaysQ (blk off size : Nat) (w : World) : CmpLays Tryz.prog 21 #[] celN 2 cmpQ blk off size w := fun _ _ _ _ x y => clo_cmp x y _

theorem holds_of_blockV {w : World} {g : Nat} {cur : Array Value} {e : TypeId} {F : Array Value} (hb : w.heap[g]? = some (.cells cur e (0, 0))) (ht : cur.toList.take F.size = F.toList) : Holds id w g 0 F := by
  intro j hj
  refine ⟨?_, by simp [World.frozen?, hb]⟩
  have h1 : (cur.toList.take F.size)[j]? = F.toList[j]? := by rw [ht]
  rw [List.getElem?_take_of_lt hj] at h1
  simp only [World.cell?, hb, Nat.zero_add]
  simp only [Option.isSome_none, Bool.false_eq_true, if_false]
  rw [← Array.getElem?_toList, h1]
  simp [hj]
theorem heap_sortedV {w : World} {g n : Nat} {os : Array Obj} {cur : Array Value} {e : TypeId} {fr : Nat × Nat} (F : Array Value) (hb : w.heap[g]? = some (.cells cur e fr)) :
    (Sort.grow (putRow id (Sort.ahead w n) g 0 F) os).heap[g]? = some (.cells (putCells id 0 F cur) e fr) := by
  have hg : g < w.heap.size := (Array.getElem?_eq_some_iff.1 hb).1
  rw [heap_grow_old _ _ (by simpa using hg)]
  simp [putRow, mapBlock, Sort.ahead, Array.getElem?_modify, hb, onCells]
theorem grownBy_sortedV {w : World} {g n : Nat} {os : Array Obj} (F : Array Value) : w.grownBy (Sort.grow (putRow id (Sort.ahead w n) g 0 F) os) (some g) := by
  refine ⟨rfl, rfl, rfl, by simp, fun k hk hne => ?_⟩
  rw [heap_grow_old _ _ (by simpa using hk)]
  have : g ≠ k := fun e => hne (by rw [e])
  simp [putRow, mapBlock, Sort.ahead, Array.getElem?_modify, this]
theorem take_putCellsV (cur F : Array Value) (h : F.size ≤ cur.size) : (putCells id 0 F cur).toList.take F.size = F.toList := by
  apply List.ext_getElem?
  intro j
  by_cases hj : j < F.size
  · rw [List.getElem?_take_of_lt hj, Array.getElem?_toList]
    simp [putCells, hj, show j < cur.size by omega]
  · rw [List.getElem?_take_eq_none (by omega), List.getElem?_eq_none (by simp; omega)]

theorem sortN_own (v : Value) (d : List NJ) (B n : Nat) (w : World) (h : w.ownsRow B 79 2 v n (d.flatMap celN)) (hl : d.length = n) (hs : n < 4611686018427387904) :
    Calls Tryz.prog 40 #[v, .func (.func 21) #[] #[]] w fun e w' => e = .returned (.tuple #[]) ∧ ∃ d' : List NJ, d'.Perm d ∧ d'.Pairwise (fun x y => x.1 ≤ y.1) ∧ w'.ownsRow B 79 2 v n (d'.flatMap celN) ∧ w.grownBy w' v.ownBlock := by
  rcases h.2 with ⟨rfl, h1⟩ | ⟨g, cap, cur, rfl, hbg, hg, hnc, hcm, hcs, htake⟩
  · subst h1
    have : d = [] := List.eq_nil_of_length_eq_zero hl
    subst this
    have hc := AnyF.slices_SortFunc_none Tryz.sortN none 0 (.func (.func 21) #[] #[]) w
    change Calls Tryz.prog 40 _ _ _ at hc
    refine hc.mono ?_
    rintro e w' ⟨rfl, rfl⟩
    exact ⟨rfl, [], List.Perm.refl _, List.Pairwise.nil, h, ⟨rfl, rfl, rfl, Nat.le_refl _, fun _ _ _ => rfl⟩⟩
  · have hlt : g < w.heap.size := (Array.getElem?_eq_some_iff.1 hg).1
    have hH : HoldsK celN 2 w g 0 d.toArray := by
      unfold HoldsK
      rw [flatK_eq]
      refine holds_of_blockV hg ?_
      simp only [List.size_toArray, List.toList_toArray]
      rw [spF_len, hl]; exact htake
    have hds : d.toArray.size = n := by simpa using hl
    have eg : ∀ args w, (callFunc 21 args).run Tryz.prog w = .ok (.enter 21 args) w := enters_of Tryz.func21 (by kernel_rfl) rfl
    have hcon := AnyQ.slices_SortFunc Tryz.sortN 2 Tryz.isAgg79 Tryz.sizeOf79 celN (fun _ => rfl) celN_one cmpQ swoQ 21 #[] g 0 cap d.toArray w eg (cmpLaysQ g 0 _ w) hH hlt (by rw [hds]; exact hs)
    change Calls Tryz.prog 40 _ _ _ at hcon
    rw [hds] at hcon
    refine hcon.mono ?_
    rintro e w' ⟨rfl, d', m, os, hp, hso, rfl⟩
    have hsz : d'.size = n := by rw [hp.1]; exact hds
    refine ⟨rfl, d'.toList, ?_, ?_, ⟨by rw [spF_len]; simp [hsz], Or.inr ⟨g, cap, putCells id 0 (flatK celN 2 d') cur, rfl, hbg, heap_sortedV _ hg, hnc, hcm, by simp [putCells, hcs], ?_⟩⟩, grownBy_sortedV _⟩
    · have := hp.2.2
      rw [Array.extract_eq_self_of_le (by omega), Array.extract_eq_self_of_le (by omega)] at this
      simpa using this
    · rw [List.pairwise_iff_getElem]
      intro i j hi hj hij
      have hj' : j < n := by rw [← hsz]; simpa using hj
      have := hso i j (Nat.zero_le _) hij hj'
      rw [ltQ, getElem!_pos d' j (by omega), getElem!_pos d' i (by omega)] at this
      simp only [decide_eq_false_iff_not] at this
      simp only [Array.getElem_toList]
      omega
    · have := take_putCellsV cur (flatK celN 2 d') (by rw [size_flatK, hcs, hsz]; exact Nat.mul_le_mul_right 2 hnc)
      rw [size_flatK, hsz, flatK_eq] at this
      rw [flatK_eq]
      simpa using this
set_option maxHeartbeats 1000000 in
/-- slices.SortedFunc(maps.Values(m), byNumber): the map's jobs by their numbers -/
theorem sorted_any (Bm b nn : Nat) (L : List (Int × NJ)) (hl : L.length ≤ 1000) (w : World) (hBm : Bm < w.heap.size) (hm : w.cell? ⟨Bm, 0, none⟩ = some (.map (some b))) (hown : Mp Tryz.prog 3 klI mkN w b nn L) :
    Calls Tryz.prog 23 #[.func (.func 41) #[] #[.pointer (some ⟨Bm, 0, none⟩)], .func (.func 21) #[] #[]] w fun e w' => ∃ (v : Value) (ss : List NJ), e = .returned v ∧ ss.Perm (L.map (·.2)) ∧ ss.Pairwise (fun x y => x.1 ≤ y.1) ∧ w'.ownsRow w.heap.size 79 2 v ss.length (ss.flatMap celN) ∧ Fr noB w w' := by
  have hc := collect_any Bm b nn L hl w hBm hm hown
  clear hown hm
  go_enter Tryz.func23, Tryz.ntmps23
  go_wp2_with fail
  go_fit hc
  rintro e w1 ⟨v, ss, rfl, hp, ho, f1⟩
  have hlen : ss.length = L.length := by have := hp.length_eq; rwa [List.length_map] at this
  have hs := sortN_own v ss w.heap.size ss.length w1 ho rfl (by omega)
  replace hs := Lib.hid hs
  replace hp := Lib.hid hp
  replace ho := Lib.hid ho
  replace f1 := Lib.hid f1
  clear hc
  go_wp2_with fail
  go_fit hs.out
  rintro e w2 ⟨rfl, d, hpd, hpw, hod, hg⟩
  have hdl : d.length = ss.length := hpd.length_eq
  have f2 : Fr noB w w2 := f1.out.grown hg (fun k hk hlt => by have := (ho.out.lt k hk).1; omega)
  replace hpw := Lib.hid hpw
  replace hpd := Lib.hid hpd
  replace hod := Lib.hid hod
  replace hdl := Lib.hid hdl
  clear hg hs
  go_wp2_with fail
  go_ret
  exact ⟨v, d, rfl, hpd.out.trans hp.out, hpw.out, by rw [hdl.out]; exact hod.out, f2⟩
end Go.Proofs.YtidcoddefebdpaaGreat
end
