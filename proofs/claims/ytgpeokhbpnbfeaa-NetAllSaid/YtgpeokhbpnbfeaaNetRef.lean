/-
  The plain net that the law of the stage plays beside the net.
-/
import Derived.Test.YtgpeokhbpnbfeaaNet
set_option linter.unusedVariables false
set_option linter.unusedSimpArgs false
namespace Go.Proofs.Ytgpeokhbpnbfeaa
open Go.RowKit Go Go.Lib

def toC (ms : List (Int × ByteArray)) : List Value := ms.map fun m => .int .i64 m.1
def sC (ms : List (Int × ByteArray)) : List Value := ms.map fun m => .string m.2
/-- A plain net at block r. -/
def Rn (w : World) (r B : Nat) (ms : List (Int × ByteArray)) : Prop :=
  ∃ aT cT aS cS, Blk w r 30 [.slice aT ms.length cT, .slice aS ms.length cS] ∧ w.ownsRow B 3 1 (.slice aT ms.length cT) ms.length (toC ms) ∧ w.ownsRow B 9 1 (.slice aS ms.length cS) ms.length (sC ms) ∧ r < B ∧ B ≤ w.heap.size ∧ ms.length ≤ 200
/-- what a plain net's calls may write -/
def touchedR (w : World) (r B : Nat) : Nat → Prop := fun k => k = r ∨ (B ≤ k ∧ ∃ cs t, w.heap[k]? = some (.cells cs t (0, 0)) ∧ (t = 3 ∨ t = 9))
theorem Rn.drewN {w : World} {g B : Nat} {ms : List (Int × ByteArray)} (h : Rn w g B ms) (n : Nat) : Rn (w.drewN n) g B ms := h

theorem rplace_none (r B : Nat) (k : Int) (w : World) (h : Rn w r B []) : Calls Try.prog 8 #[.pointer (some ⟨r, 0, none⟩), .int .i64 k] w fun e w' => e = .returned (.int .i64 (-1)) ∧ w' = w := by
  obtain ⟨aT, cT, aS, cS, hb, _⟩ := h
  have c1 : w.cell? ⟨r, 1, none⟩ = some (.slice aS 0 cS) := hb.cell 1
  go_enter Try.func8, Try.ntmps8
  go_wp2
  go_ret
  exact ⟨rfl, rfl⟩
theorem rplace_any (r B : Nat) (ms : List (Int × ByteArray)) (k : Int) (w : World) (h : Rn w r B ms) (hn : 0 < ms.length) : Calls Try.prog 8 #[.pointer (some ⟨r, 0, none⟩), .int .i64 k] w fun e w' => e = .returned (.int .i64 (placeN k ms.length)) ∧ w' = w := by
  obtain ⟨aT, cT, aS, cS, hb, _, _, _, _, hl⟩ := h
  have hm := place_wrap k ms.length hn hl
  generalize ms.length = n at *
  have c1 : w.cell? ⟨r, 1, none⟩ = some (.slice aS n cS) := hb.cell 1
  have hd : ((n : Int) == 0) = false := by simp; omega
  replace hm := Lib.hid hm
  go_enter Try.func8, Try.ntmps8
  go_wp2
  rw [hm.out]
  go_ret
  exact ⟨rfl, rfl⟩

theorem rsend_full (r B : Nat) (ms : List (Int × ByteArray)) (to : Int) (s : ByteArray) (w : World) (h : Rn w r B ms) (hf : ms.length = 200) :
    Calls Try.prog 10 #[.pointer (some ⟨r, 0, none⟩), .int .i64 to, .string s] w fun e w' => e = .returned (.int .i64 6) ∧ w' = w := by
  obtain ⟨aT, cT, aS, cS, hb, _⟩ := h
  rw [hf] at hb
  have c1 : w.cell? ⟨r, 1, none⟩ = some (.slice aS 200 cS) := hb.cell 1
  go_enter Try.func10, Try.ntmps10
  go_wp2
  go_ret
  exact ⟨rfl, rfl⟩
theorem rdrop_none (r B : Nat) (k : Int) (w : World) (h : Rn w r B []) : Calls Try.prog 13 #[.pointer (some ⟨r, 0, none⟩), .int .i64 k] w fun e w' => e = .returned (.bool false) ∧ w' = w := by
  go_enter Try.func13, Try.ntmps13
  go_wp2_with fail
  refine (rplace_none r B k w h).mono ?_
  rintro e w' ⟨rfl, hw⟩
  obtain rfl := hw.symm
  go_wp2_with fail
  go_ret
  exact ⟨rfl, rfl⟩

theorem Try.infoInt : (Try.prog.info? 3).map (fun i => (i.zero, i.size, i.bytes)) = some (some (.int .i64 0), 1, 8) := by kernel_rfl
theorem Try.infoStr : (Try.prog.info? 9).map (fun i => (i.zero, i.size, i.bytes)) = some (some (.string ⟨#[]⟩), 1, 16) := by kernel_rfl

theorem step_append_at {P : Program} {ops : Array Oper} {o : Oper} {a : Act} {w : World} {K : Act → World → Prop} {Q : Exit → Act → World → Prop} {E : Prop} (hgd : o.guard = none) (s x : Operand) (t : TypeId)
    (ho : o.op = .call { callee := .builtin .append, args := #[s, x], argTypes := #[t, t] })
    (base : Nat) (e : TypeId) (i : TypeInfo) (z : Value) (size bytes : Nat) (ht : P.underlying t = some (.slice e)) (hi : P.info? e = some i) (hz : i.zero = some z)
    (hsize : i.size = size) (hby : i.bytes = bytes) (hzs : z.cells.size = size) (hsz : 0 < size)
    (v : Value) (n : Nat) (xs : List Value) (hs : a.eval s = v) (hown : w.ownsRow base e size v n xs)
    (ad : Addr) (m c : Nat) (news : List Value) (hx : a.eval x = .slice (some ad) m c) (hl : news.length = m * size) (hnews : ∀ j u, news[j]? = some u → w.cell? (ad.add j) = some u) (h1 : ∀ u ∈ news, u.oneCell' = true)
    (h63 : n + m ≤ maxLen) (hbytes : (n + m) * bytes ≤ 140737488355328) (hbase : base ≤ w.heap.size)
    (h : ∀ v' w', w'.ownsRow base e size v' (n + m) (xs ++ news) → w.grownBy w' v.ownBlock → K (a.put o.dst v') w') :
    if Region.wanted o (yielded ops a.tmps) = true then Oper.wp P o a w K Q else E := by
  have hw : Region.wanted o (yielded ops a.tmps) = true := by simp [Region.wanted, hgd]
  rw [if_pos hw]
  exact wp_append_at w s x t ho base e i z size bytes ht hi hz hsize hby hzs hsz v n xs hs hown ad m c news hx hl hnews h1 h63 hbytes hbase (fun v' w' h1 h2 _ => h v' w' h1 h2)

theorem wp_then {P : Program} {c : Code} {K K' : Act → World → Prop} {Q : Exit → Act → World → Prop} {a : Act} {w : World} (h : Code.wp P c (Exit.then K' Q) a w) (hk : ∀ a w, K' a w → Exit.then K Q Exit.normal a w) : Code.wp P c (Exit.then K Q) a w :=
  Code.wp_mono (fun e a w hq => by cases e <;> first | exact hk _ _ hq | exact hq) h

/-- What is read of a row by 'xs[:i]' and 'xs[i+1:]', wherever nothing old has turned. -/
theorem row_parts {w : World} {B e : Nat} {g c n : Nat} {cs : List Value} (h : w.ownsRow B e 1 (.slice (some ⟨g, 0, none⟩) n c) n cs) (i : Nat) (hi : i < n) :
    ∃ A : Addr, (if c = i + 1 then some (⟨g, 0, none⟩ : Addr) else some ⟨g, i + 1, none⟩) = some A ∧
    (∀ w', Fr noB w w' → ∀ j u, (cs.take i)[j]? = some u → w'.cell? ((⟨g, 0, none⟩ : Addr).add j) = some u) ∧
    (∀ w', Fr noB w w' → ∀ j u, (cs.drop (i + 1))[j]? = some u → w'.cell? (A.add j) = some u) := by
  have hc : ∀ w', Fr noB w w' → ∀ j u, cs[j]? = some u → w'.cell? ⟨g, j, none⟩ = some u := fun w' f j u hu => by
    have := h.cells rfl j u hu
    rw [Addr.add_lit, Nat.zero_add] at this
    exact f.cell this (fun q => q)
  have hl : cs.length = n := by have := h.1; omega
  by_cases hq : c = i + 1
  · refine ⟨⟨g, 0, none⟩, by simp [hq], fun w' f j u hu => ?_, fun w' f j u hu => ?_⟩
    · rw [Addr.add_lit, Nat.zero_add]
      exact hc w' f j u (by
        have := (List.getElem?_eq_some_iff.1 hu).1
        simp at this
        rwa [List.getElem?_take_of_lt (by omega)] at hu)
    · have h2 := (List.getElem?_eq_some_iff.1 hu).1
      have h3 : n ≤ c := by
        rcases h.2 with ⟨e1, _⟩ | ⟨_, _, _, e1, _, _, e4, _⟩
        · cases e1
        · cases e1; exact e4
      simp at h2
      omega
  · refine ⟨⟨g, i + 1, none⟩, by simp [hq], fun w' f j u hu => ?_, fun w' f j u hu => ?_⟩
    · rw [Addr.add_lit, Nat.zero_add]
      exact hc w' f j u (by
        have := (List.getElem?_eq_some_iff.1 hu).1
        simp at this
        rwa [List.getElem?_take_of_lt (by omega)] at hu)
    · rw [Addr.add_lit]
      rw [List.getElem?_drop] at hu
      exact hc w' f _ u hu

set_option maxRecDepth 10000 in
set_option maxHeartbeats 4000000 in
theorem rdrop_any (r B : Nat) (ms : List (Int × ByteArray)) (k : Int) (w : World) (h : Rn w r B ms) (hn : 0 < ms.length) :
    Calls Try.prog 13 #[.pointer (some ⟨r, 0, none⟩), .int .i64 k] w fun e w' => e = .returned (.bool true) ∧ Rn w' r B (ms.take (placeN k ms.length) ++ ms.drop (placeN k ms.length + 1)) ∧ Fr (touchedR w r B) w w' := by
  have hP := rplace_any r B ms k w h hn
  have hp := placeN_lt k ms.length hn
  obtain ⟨aT, cT, aS, cS, hb, hT, hS, hrB, hBw, hl⟩ := h
  obtain ⟨i0, hi, hz0, hz1, hz2⟩ := info_parts Try.infoInt
  obtain ⟨i1, hi1, hs0, hs1, hs2⟩ := info_parts Try.infoStr
  generalize placeN k ms.length = i at *
  have hlen : (ms.take i ++ ms.drop (i + 1)).length = ms.length - 1 := by simp; omega
  have hd : decide ((i : Int) < 0) = false := by simp
  have hnl : ((toC ms).take i).length = i * 1 ∧ ((toC ms).drop (i + 1)).length = (ms.length - (i + 1)) * 1 := by unfold toC; simp; omega
  have hone : (∀ u ∈ (toC ms).take i, u.oneCell' = true) ∧ (∀ u ∈ (toC ms).drop (i + 1), u.oneCell' = true) := by
    constructor <;> intro u hu
    · have := List.mem_of_mem_take hu; unfold toC at this; simp at this; obtain ⟨_, _, _, rfl⟩ := this; rfl
    · have := List.mem_of_mem_drop hu; unfold toC at this; simp at this; obtain ⟨_, _, _, rfl⟩ := this; rfl
  obtain ⟨gT, cT', hv, _⟩ := ownsRow_some hT hn
  cases hv
  obtain ⟨gS, cS', hv, _⟩ := ownsRow_some hS hn
  cases hv
  have hcap : ms.length ≤ cT ∧ cT ≤ 9223372036854775807 := by
    rcases hT.2 with ⟨e1, _⟩ | ⟨_, _, _, e1, _, _, e4, e5, _⟩
    · cases e1
    · cases e1; unfold maxLen at e5; exact ⟨e4, by omega⟩
  have hcap2 : ms.length ≤ cS ∧ cS ≤ 9223372036854775807 := by
    rcases hS.2 with ⟨e1, _⟩ | ⟨_, _, _, e1, _, _, e4, e5, _⟩
    · cases e1
    · cases e1; unfold maxLen at e5; exact ⟨e4, by omega⟩
  obtain ⟨A, hA, hr1, hr2⟩ := row_parts hT i hp
  replace hr1 := Lib.hid hr1
  replace hr2 := Lib.hid hr2
  generalize hN : ms.length = n at *
  replace hN := Lib.hid hN
  replace hlen := Lib.hid hlen
  replace hnl := Lib.hid hnl
  replace hone := Lib.hid hone
  have c0 : w.cell? ⟨r, 0, none⟩ = some (.slice (some ⟨gT, 0, none⟩) n cT) := hb.cell 0
  have hb' := Lib.hid hb
  have hS' := Lib.hid hS
  clear hb hT hS
  have hO : (w.drew.alloc (.cells #[] 3)).ownsRow w.heap.size 3 1 (.slice (some ⟨w.heap.size, 0, none⟩) 0 0) 0 [] := own_new w.drew 3 [] 1 0 rfl (Nat.zero_le _)
  have fO : Fr noB w (w.drew.alloc (.cells #[] 3)) := (Fr.refl noB w).drew.alloc _
  have c0A : (w.alloc (.cells #[] 3)).cell? ⟨r, 0, none⟩ = some (.slice (some ⟨gT, 0, none⟩) n cT) := fO.cell c0 (fun q => q)
  have hwr : IntKind.i64.wrap ((i : Int) + 1) = (i : Int) + 1 := by rw [IntKind.wrap_i64]; omega
  have hic : i ≤ cT := by omega
  have hic1 : i + 1 ≤ cT := by omega
  have hin1 : (0 : Int) ≤ (i : Int) + 1 := by omega
  have hin2 : (i : Int) + 1 ≤ (n : Int) := by omega
  have mixed : Try.prog.follows Departure.mixedOrders = true := by kernel_rfl
  go_enter Try.func13, Try.ntmps13
  go_wp2_with fail
  refine hP.mono ?_
  rintro e w' ⟨rfl, hw⟩
  obtain rfl := hw.symm
  clear hP
  go_wp2_with fail
  obtain ⟨R, hR⟩ : ∃ R : Act → World → Prop, R = fun a W => ∃ u2 u3 u4 u6 u7 u8 u9 u10 u11 u12 u13 u14 u15 u16 u17 u18 u19 u20 u21 u22 u23 u24 u25 u26 u27 u28 u29 u30 u31 u32 u33 u34 u35 u36 u37 u38 u39 u40 u41 u42 u43 u44 u45 u46 u47 u48 : Value, a = { tmps := #[.pointer (some ⟨r, 0, none⟩), .int .i64 k, u2, u3, u4, .int .i64 i, u6, u7, u8, u9, u10, u11, u12, u13, u14, u15, u16, u17, u18, u19, u20, u21, u22, u23, u24, u25, u26, u27, u28, u29, u30, u31, u32, u33, u34, u35, u36, u37, u38, u39, u40, u41, u42, u43, u44, u45, u46, u47, u48], defers := [] } ∧ ∃ a2 k2, Blk W r 30 [.slice a2 (i + (n - (i + 1))) k2, .slice (some ⟨gS, 0, none⟩) n cS] ∧ W.ownsRow w.heap.size 3 1 (.slice a2 (i + (n - (i + 1))) k2) (i + (n - (i + 1))) ((toC ms).take i ++ (toC ms).drop (i + 1)) ∧ Fr (onlyB r) w W := ⟨_, rfl⟩
  have hR1 : ∀ a W, _ → R a W := fun a W hq => (congrFun (congrFun hR a) W).mpr hq
  have hR2 : ∀ a W, R a W → _ := fun a W hq => (congrFun (congrFun hR a) W).mp hq
  clear hR
  replace hR1 := Lib.hid hR1
  replace hR2 := Lib.hid hR2
  refine wp_then (K' := R) ?_ (fun a W hq => ?_)
  focus (
    go_region_law_o (first
      | (refine step_append_at rfl (.tmp 12) (.tmp 18) 27 rfl w.heap.size 3 i0 _ 1 8 Try.underlying27 hi hz0 hz1 hz2 rfl (by omega) (.slice (some ⟨w.heap.size, 0, none⟩) 0 0) 0 [] (by simp [Act.eval, Act.put]) hO ⟨gT, 0, none⟩ i cT _ (by simp [Act.eval, Act.put]) hnl.out.1 (hr1.out _ fO) hone.out.1 (by unfold maxLen; omega) (by omega) fO.size ?_; intro v1 w1 o1 gr1; have f1 := fO.grown gr1 (fun q hq hlt => by simp [Value.ownBlock] at hq; omega); have c01 : w1.cell? ⟨r, 0, none⟩ = some (.slice (some ⟨gT, 0, none⟩) n cT) := f1.cell c0 (fun q => q))
      | (refine step_append_at rfl (.tmp 19) (.tmp 26) 27 rfl w.heap.size 3 i0 _ 1 8 Try.underlying27 hi hz0 hz1 hz2 rfl (by omega) v1 _ _ (by simp [Act.eval, Act.put]) o1 A (n - (i + 1)) (cT - (i + 1)) _ (by simp [Act.eval, Act.put, hA]) hnl.out.2 (hr2.out _ f1) hone.out.2 (by unfold maxLen; omega) (by omega) f1.size ?_; intro v2 w2 o2 gr2; obtain ⟨a2, k2, rfl⟩ := ownsRow_slice o2; have f2 := f1.grown gr2 (fun q hq hlt => by have := (o1.lt q hq).1; omega); have b2 := f2.blk hb'.out (fun q => q); have fz2 := b2.frozen 0; have c02 : w2.cell? ⟨r, 0, none⟩ = some (.slice (some ⟨gT, 0, none⟩) n cT) := b2.cell 0))
    all_goals (
      rw [Nat.zero_add, List.nil_append] at o2
      have b3 := b2.set 0 (.slice a2 (i + (n - (i + 1))) k2)
      have o3 := ownsRow_fr o2 ((Fr.refl (onlyB r) w2).store (g := r) (i := 0) (v := .slice a2 (i + (n - (i + 1))) k2) (onlyB_self r)) (fun q hq => by have := (o2.lt q hq).1; unfold onlyB; omega)
      have f3 : Fr (onlyB r) w _ := (f2.mono (fun _ _ z => False.elim z)).store (g := r) (i := 0) (v := .slice a2 (i + (n - (i + 1))) k2) (onlyB_self r)
      refine hR1.out _ _ ⟨_, _, _, _, _, _, _, _, _, _, _, _, _, _, _, _, _, _, _, _, _, _, _, _, _, _, _, _, _, _, _, _, _, _, _, _, _, _, _, _, _, _, _, _, _, _, rfl, _, _, b3, o3, f3⟩))
  replace hq := hR2.out _ _ hq
  dsimp only at hq
  obtain ⟨u2, u3, u4, u6, u7, u8, u9, u10, u11, u12, u13, u14, u15, u16, u17, u18, u19, u20, u21, u22, u23, u24, u25, u26, u27, u28, u29, u30, u31, u32, u33, u34, u35, u36, u37, u38, u39, u40, u41, u42, u43, u44, u45, u46, u47, u48, rfl, a2, k2, b3, o3, f3⟩ := hq
  clear hR1 hR2
  clear c0 c0A hO fO hr1 hr2 hnl hone hA hd
  have c5 : W.cell? ⟨r, 1, none⟩ = some (.slice (some ⟨gS, 0, none⟩) n cS) := b3.cell 1
  have hgS : B ≤ gS := (hS'.out.lt gS rfl).1
  have oS := ownsRow_fr hS'.out f3 (fun q hq => by cases hq; show ¬ gS = r; omega)
  obtain ⟨A5, hA5, hr1, hr2⟩ := row_parts oS i hp
  have hnl : ((sC ms).take i).length = i * 1 ∧ ((sC ms).drop (i + 1)).length = (n - (i + 1)) * 1 := by have := hN.out; unfold sC; rw [List.length_take, List.length_drop, List.length_map, this]; omega
  have hone : (∀ u ∈ (sC ms).take i, u.oneCell' = true) ∧ (∀ u ∈ (sC ms).drop (i + 1), u.oneCell' = true) := by
    constructor <;> intro u hu
    · have := List.mem_of_mem_take hu; unfold sC at this; simp at this; obtain ⟨_, _, _, rfl⟩ := this; rfl
    · have := List.mem_of_mem_drop hu; unfold sC at this; simp at this; obtain ⟨_, _, _, rfl⟩ := this; rfl
  have hO : (W.drew.alloc (.cells #[] 9)).ownsRow W.heap.size 9 1 (.slice (some ⟨W.heap.size, 0, none⟩) 0 0) 0 [] := own_new W.drew 9 [] 1 0 rfl (Nat.zero_le _)
  have fO : Fr noB W (W.drew.alloc (.cells #[] 9)) := (Fr.refl noB W).drew.alloc _
  have c5A : (W.alloc (.cells #[] 9)).cell? ⟨r, 1, none⟩ = some (.slice (some ⟨gS, 0, none⟩) n cS) := fO.cell c5 (fun q => q)
  have hicS : i ≤ cS := by omega
  have hic1S : i + 1 ≤ cS := by omega
  have hWW : w.heap.size ≤ W.heap.size := f3.size
  replace hr1 := Lib.hid hr1
  replace hr2 := Lib.hid hr2
  replace hnl := Lib.hid hnl
  replace hone := Lib.hid hone
  replace b3 := Lib.hid b3
  replace o3 := Lib.hid o3
  replace oS := Lib.hid oS
  replace f3 := Lib.hid f3
  go_wp2_with fail
  go_region_law_o (first
    | (refine step_append_at rfl (.tmp 31) (.tmp 37) 28 rfl W.heap.size 9 i1 _ 1 16 Try.underlying28 hi1 hs0 hs1 hs2 rfl (by omega) (.slice (some ⟨W.heap.size, 0, none⟩) 0 0) 0 [] (by simp [Act.eval, Act.put]) hO ⟨gS, 0, none⟩ i cS _ (by simp [Act.eval, Act.put]) hnl.out.1 (hr1.out _ fO) hone.out.1 (by unfold maxLen; omega) (by omega) fO.size ?_; intro v1 w1 o1 gr1; have f1 := fO.grown gr1 (fun q hq hlt => by simp [Value.ownBlock] at hq; omega); have c01 : w1.cell? ⟨r, 1, none⟩ = some (.slice (some ⟨gS, 0, none⟩) n cS) := f1.cell c5 (fun q => q))
    | (refine step_append_at rfl (.tmp 38) (.tmp 45) 28 rfl W.heap.size 9 i1 _ 1 16 Try.underlying28 hi1 hs0 hs1 hs2 rfl (by omega) v1 _ _ (by simp [Act.eval, Act.put]) o1 A5 (n - (i + 1)) (cS - (i + 1)) _ (by simp [Act.eval, Act.put, hA5]) hnl.out.2 (hr2.out _ f1) hone.out.2 (by unfold maxLen; omega) (by omega) f1.size ?_; intro v2 w2 o2 gr2; obtain ⟨a6, k6, rfl⟩ := ownsRow_slice o2; have f2 := f1.grown gr2 (fun q hq hlt => by have := (o1.lt q hq).1; omega); have b2 := f2.blk b3.out (fun q => q); have fz2 := b2.frozen 1; have c02 : w2.cell? ⟨r, 1, none⟩ = some (.slice (some ⟨gS, 0, none⟩) n cS) := b2.cell 1))
  all_goals (
    have hn1 : i + (n - (i + 1)) = n - 1 := by omega
    rw [Nat.zero_add, List.nil_append] at o2
    have b6 := b2.set 1 (.slice a6 (i + (n - (i + 1))) k6)
    have fs : Fr (onlyB r) w2 (w2.setCell ⟨r, 1, none⟩ (.slice a6 (i + (n - (i + 1))) k6)) := (Fr.refl (onlyB r) w2).store (onlyB_self r)
    have o6 := ownsRow_fr o2 fs (fun q hq => by have := (o2.lt q hq).1; unfold onlyB; omega)
    have oT := ownsRow_fr (ownsRow_fr o3.out f2 (fun _ _ z => z)) fs (fun q hq => by have := (o3.out.lt q hq).1; unfold onlyB; omega)
    have f6 : Fr (touchedR w r B) w w2 := (f3.out.mono (fun k _ hk => Or.inl hk)).seqN f2
    have o6' := Lib.hid (ownsRow_mono o6 (show B ≤ W.heap.size by omega))
    have oT' := Lib.hid (ownsRow_mono oT (show B ≤ w.heap.size by omega))
    replace b6 := Lib.hid b6
    replace f6 := Lib.hid f6
    have hz6 : B ≤ w2.heap.size := by have := f2.size; omega
    clear o2 o6 oT fs b2 f2 gr2 o1 f1 gr1 c01 c02 fz2 fO hO c5 c5A
    go_wp2_with fail
    go_ret
    have e1 : toC (ms.take i ++ ms.drop (i + 1)) = (toC ms).take i ++ (toC ms).drop (i + 1) := by unfold toC; rw [List.map_append, List.map_take, List.map_drop]
    have e2 : sC (ms.take i ++ ms.drop (i + 1)) = (sC ms).take i ++ (sC ms).drop (i + 1) := by unfold sC; rw [List.map_append, List.map_take, List.map_drop]
    rw [hn1] at b6 o6' oT' ⊢
    refine ⟨rfl, ⟨a2, k2, a6, k6, by rw [hlen.out]; exact b6.out, by rw [hlen.out, e1]; exact oT'.out, by rw [hlen.out, e2]; exact o6'.out, hrB, ?_, by rw [hlen.out]; omega⟩, f6.out.store (Or.inl rfl)⟩
    simp [World.setCell]; omega)

set_option maxRecDepth 10000 in
theorem rsend_any (r B : Nat) (ms : List (Int × ByteArray)) (to : Int) (s : ByteArray) (w : World) (h : Rn w r B ms) (hf : ms.length < 200) :
    Calls Try.prog 10 #[.pointer (some ⟨r, 0, none⟩), .int .i64 to, .string s] w fun e w' => e = .returned (.int .i64 0) ∧ Rn w' r B (ms ++ [(to, s)]) ∧ Fr (touchedR w r B) w w' := by
  obtain ⟨aT, cT, aS, cS, hb, hT, hS, hrB, hBw, hl⟩ := h
  obtain ⟨i0, hi, hz0, hz1, hz2⟩ := info_parts Try.infoInt
  obtain ⟨i1, hi1, hs0, hs1, hs2⟩ := info_parts Try.infoStr
  have hlen : (ms ++ [(to, s)]).length = ms.length + 1 := by simp
  generalize hN : ms.length = n at *
  replace hN := Lib.hid hN
  replace hlen := Lib.hid hlen
  have c0 : w.cell? ⟨r, 0, none⟩ = some (.slice aT n cT) := hb.cell 0
  have c1 : w.cell? ⟨r, 1, none⟩ = some (.slice aS n cS) := hb.cell 1
  have f0 := hb.frozen 0
  have fA := (Fr.refl noB w).alloc (.cells #[.int .i64 to] 3)
  have hA := ownsRow_fr hT fA (fun _ _ q => q)
  have hA2 := ownsRow_fr hS fA (fun _ _ q => q)
  have bA := fA.blk hb (fun q => q)
  have hN1 := cell_new w (.int .i64 to) 3
  have kT : ∀ q, (Value.slice aT n cT).ownBlock = some q → touchedR w r B q := fun q hq => by
    have hlt := hT.lt q hq
    rcases hT.2 with ⟨e1, _⟩ | ⟨g, cap, cur, e1, e2, e3, _⟩
    · rw [e1] at hq; cases hq
    · rw [e1] at hq; cases hq; exact Or.inr ⟨hlt.1, _, _, e3, Or.inl rfl⟩
  have kS : ∀ q, (Value.slice aS n cS).ownBlock = some q → touchedR w r B q := fun q hq => by
    have hlt := hS.lt q hq
    rcases hS.2 with ⟨e1, _⟩ | ⟨g, cap, cur, e1, e2, e3, _⟩
    · rw [e1] at hq; cases hq
    · rw [e1] at hq; cases hq; exact Or.inr ⟨hlt.1, _, _, e3, Or.inr rfl⟩
  have hTS : ∀ q, (Value.slice aS n cS).ownBlock = some q → (Value.slice aT n cT).ownBlock ≠ some q := fun q hq hq2 => by
    rcases hS.2 with ⟨e1, _⟩ | ⟨g, cap, cur, e1, e2, e3, _⟩
    · rw [e1] at hq; cases hq
    · rw [e1] at hq; cases hq
      rcases hT.2 with ⟨t1, _⟩ | ⟨g', cap', cur', t1, t2, t3, _⟩
      · rw [t1] at hq2; cases hq2
      · rw [t1] at hq2; cases hq2
        rw [e3] at t3; cases t3
  have hBT : ∀ q, (Value.slice aT n cT).ownBlock = some q → B ≤ q := fun q hq => (hT.lt q hq).1
  have hBS : ∀ q, (Value.slice aS n cS).ownBlock = some q → B ≤ q ∧ q < w.heap.size := fun q hq => hS.lt q hq
  clear hT hS
  go_enter Try.func10, Try.ntmps10
  go_wp2_with (first
    | (at_builtin; go_must (refine wpList_append_at _ rfl (.tmp 17) (.tmp 19) 27 rfl B 3 i0 _ 1 8 Try.underlying27 hi hz0 hz1 hz2 rfl (by omega) _ n _ rfl hA ⟨w.heap.size, 0, none⟩ 1 1 [.int .i64 to] rfl rfl hN1 (one_int _ _) ?_ ?_ ?_ ?_))
    | fail)
  · unfold maxLen; omega
  · omega
  · have := fA.size; omega
  intro v' w1 o1 gr1 mv
  have oS := ownsRow_other hA2 gr1 hTS
  have apart := moved_apart mv hA2 (fun q hq h2 => hTS q h2 hq)
  have b1 : Blk w1 r _ _ := ((Fr.refl (fun k => B ≤ k) _).grown gr1 (fun q hq _ => hBT q hq)).blk bA (fun q => by omega)
  have f1 : Fr (touchedR w r B) w w1 := ((Fr.refl (touchedR w r B) w).alloc (.cells #[.int .i64 to] 3)).grown gr1 (fun q hq _ => kT q hq)
  obtain ⟨a1, k1, hv⟩ := ownsRow_slice o1
  rw [hv] at o1 apart ⊢
  have fz := b1.frozen 0
  have fc : w1.cell? ⟨r, 0, none⟩ = some (.slice aT n cT) := b1.cell 0
  have b2 := b1.set 0 (.slice a1 (n + 1) k1)
  have fs : Fr (onlyB r) w1 _ := (Fr.refl (onlyB r) w1).store (g := r) (i := 0) (v := .slice a1 (n + 1) k1) (onlyB_self r)
  have o2 := ownsRow_fr o1 fs (fun q hq => by have := (o1.lt q hq).1; unfold onlyB; omega)
  have oS2 := ownsRow_fr oS fs (fun q hq => by have := (oS.lt q hq).1; unfold onlyB; omega)
  have f2 := f1.store (g := r) (i := 0) (v := .slice a1 (n + 1) k1) (Or.inl rfl)
  clear hv gr1 mv c0 c1 f0 hA hA2 bA hN1 o1 oS b1 f1 fs fA hTS hBT
  have d1 : (w1.setCell ⟨r, 0, none⟩ (.slice a1 (n + 1) k1)).cell? ⟨r, 1, none⟩ = some (.slice aS n cS) := b2.cell 1
  have hz3 : B ≤ (w1.setCell ⟨r, 0, none⟩ (.slice a1 (n + 1) k1)).heap.size := Nat.le_trans hBw f2.size
  have gB := (Fr.refl noB (w1.setCell ⟨r, 0, none⟩ (.slice a1 (n + 1) k1))).alloc (.cells #[.string s] 9)
  have oS3 := ownsRow_fr oS2 gB (fun _ _ q => q)
  have o3 := ownsRow_fr o2 gB (fun _ _ q => q)
  have b3 := gB.blk b2 (fun q => q)
  have f3 : Fr (touchedR w r B) w _ := f2.seqN gB
  have hz4 := gB.size
  have hN2 := cell_new (w1.setCell ⟨r, 0, none⟩ (.slice a1 (n + 1) k1)) (.string s) 9
  rw [show (w1.setCell ⟨r, 0, none⟩ (.slice a1 (n + 1) k1)).heap.size = w1.heap.size by simp [World.setCell]] at hN2
  clear oS2 gB o2
  go_wp2_with (first
    | (at_builtin; go_must (refine wpList_append_at _ rfl (.tmp 27) (.tmp 29) 28 rfl B 9 i1 _ 1 16 Try.underlying28 hi1 hs0 hs1 hs2 rfl (by omega) _ n _ rfl oS3 _ 1 1 [.string s] rfl rfl hN2 ?_ ?_ ?_ ?_ ?_))
    | fail)
  · intro u hu; simp at hu; subst hu; rfl
  · unfold maxLen; omega
  · omega
  · omega
  clear d1 fz fc b2 f2 hz3 hz4 hN2
  intro v2 w2 o4 gr2 mv2
  have oT4 := ownsRow_other o3 gr2 (fun q h1 h2 => apart q h1 h2)
  have b4 : Blk w2 r _ _ := ((Fr.refl (fun k => B ≤ k) _).grown gr2 (fun q hq _ => (hBS q hq).1)).blk b3 (fun q => by omega)
  have f4 : Fr (touchedR w r B) w w2 := f3.grown gr2 (fun q hq _ => kS q hq)
  obtain ⟨a2, k2, hv⟩ := ownsRow_slice o4
  rw [hv] at o4 ⊢
  have fz := b4.frozen 1
  have fc : w2.cell? ⟨r, 1, none⟩ = some (.slice aS n cS) := b4.cell 1
  have b5 := b4.set 1 (.slice a2 (n + 1) k2)
  have fs : Fr (onlyB r) w2 _ := (Fr.refl (onlyB r) w2).store (g := r) (i := 1) (v := .slice a2 (n + 1) k2) (onlyB_self r)
  have o5 := ownsRow_fr o4 fs (fun q hq => by have := (o4.lt q hq).1; unfold onlyB; omega)
  have oT5 := ownsRow_fr oT4 fs (fun q hq => by have := (oT4.lt q hq).1; unfold onlyB; omega)
  clear hv gr2 mv2 o3 oS3 b3 f3 o4 oT4 b4
  go_wp2
  go_ret
  refine ⟨rfl, ⟨a1, k1, a2, k2, by rw [hlen.out]; exact b5, by rw [hlen.out]; unfold toC; rw [List.map_append]; exact oT5, by rw [hlen.out]; unfold sC; rw [List.map_append]; exact o5, hrB, ?_, by rw [hlen.out]; omega⟩, f4.store (Or.inl rfl)⟩
  have := f4.size; simp [World.setCell]; omega
end Go.Proofs.Ytgpeokhbpnbfeaa
