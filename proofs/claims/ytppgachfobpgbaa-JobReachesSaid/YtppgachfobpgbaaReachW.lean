/-
  What the law JobReaches walks.
-/
import Derived.Test.YtppgachfobpgbaaReachL
import Derived.Test.YtppgachfobpgbaaMsgMan
set_option linter.unusedVariables false
set_option linter.unusedSimpArgs false
namespace Go.Proofs.Ytppgachfobpgbaa
open Go.RowKit Go Go.Lib

def HL (G : List (List Int)) (T : Nat) : List (List Int) := (List.range T).map fun i => lN (G.getD i []) 4
theorem HL_len (G : List (List Int)) (T : Nat) : (HL G T).length = T := by unfold HL; simp
theorem HL_get (G : List (List Int)) (T i : Nat) (h : i < T) : (HL G T).getD i [] = lN (G.getD i []) 4 := by unfold HL; simp [List.getD, h]
theorem infoRow : (Try.prog.info? 31).map (fun i => (i.zero, i.size, i.bytes)) = some (some (.slice none 0 0), 1, 24) := by kernel_rfl

/-- what each agent is to tell, as it lies in a row of rows, none of it in block p -/
def TR (w : World) (gt p T : Nat) (H : List (List Int)) : Prop := gt ≠ p ∧ ∀ i, i < T → ∃ sa sc, w.cell? ⟨gt, i, none⟩ = some (.slice sa (H.getD i []).length sc) ∧ RdI w (.slice sa (H.getD i []).length sc) (H.getD i []) ∧ ∀ g o, sa = some ⟨g, o, none⟩ → g ≠ p
theorem TR.fr {w w' : World} {gt p T : Nat} {H : List (List Int)} {S : Nat → Prop} (h : TR w gt p T H) (f : Fr S w w') (hS : ∀ q, q ≠ p → ¬ S q) : TR w' gt p T H :=
  ⟨h.1, fun i hi => by
    obtain ⟨sa, sc, h1, h2, h3⟩ := h.2 i hi
    exact ⟨sa, sc, f.cell h1 (hS _ h.1), h2.fr f (fun g o n c e => hS _ (h3 g o (by injection e))), h3⟩⟩
theorem TR.frN {w w' : World} {gt p T : Nat} {H : List (List Int)} (h : TR w gt p T H) (f : Fr noB w w') : TR w' gt p T H := h.fr f (fun _ _ q => q)
theorem TR.nm {w : World} {gt p T cap : Nat} {H : List (List Int)} (h : TR w gt p T H) (hl : H.length = T) (hc : T ≤ cap) : Nm w (.slice (some ⟨gt, 0, none⟩) T cap) H :=
  ⟨_, cap, by rw [hl], by omega, fun i hi => by
    obtain ⟨sa, sc, h1, h2, _⟩ := h.2 i (by omega)
    exact ⟨gt, 0, _, rfl, by rw [Nat.zero_add]; exact h1, h2⟩⟩

/-- How far a job is behind r rounds of pins alone. -/
def Far2 (n r : Nat) (j : JS) : Prop := (EInv n j ∧ j.ph = 1 ∧ noneL (fun v => !v.p) j = false ∧ r ≤ j.cnt) ∨ (EInv n j ∧ j.ph = 2 ∧ noneL (fun v => !v.p) j = true)
theorem none_false {so : Vis → Bool} {j : JS} (h : noneL so j = false) : ∃ b, b < 4 ∧ (j.at b).v = true ∧ so (j.at b) = true := by
  cases hq : whichL so j 4 with
  | nil => unfold noneL at h; rw [hq] at h; cases h
  | cons x r =>
    have : x ∈ whichL so j 4 := by rw [hq]; exact List.mem_cons_self ..
    obtain ⟨b, hb, _, h1, h2⟩ := which_mem.1 this
    exact ⟨b, hb, h1, h2⟩
theorem Far2.end {n : Nat} {j : JS} (h : Far2 n n j) (hn : n ≤ 4) : j.ph = 2 ∧ noneL (fun v => !v.p) j = true := by
  rcases h with ⟨e, _, h1, h2⟩ | ⟨_, h1, h2⟩
  · obtain ⟨b, hb, hv, hp⟩ := none_false h1
    have := cnt_lt e hn hb hv (by simpa using hp)
    omega
  · exact ⟨h1, h2⟩
theorem I1.far2 {n c r : Nat} {L : List Int} {j : JS} (h : I1 n c L L.length j) (hr : r ≤ c) (hl : 0 < L.length) : Far2 n (r + 1) j := by
  have := h.cnt
  rcases h.ph with q | ⟨q, qn⟩
  · exact Or.inl ⟨h.e, q, h.stop q, by omega⟩
  · exact Or.inr ⟨h.e, q, qn⟩
theorem far2_new (t c : Int) (n A : Nat) (hA : A < n) (hn : n ≤ 4) : Far2 n 0 (JS.new 1 t c n A) := by
  rcases far_new t c n A hA hn with ⟨a, b, c, d⟩ | ⟨_, b, _⟩ | ⟨b, _⟩ | ⟨b, _⟩
  · exact Or.inl ⟨a, b, c, d⟩
  all_goals (
    have h1 : (JS.new 1 t c n A).ph = 1 := by unfold JS.new; rw [upd_ph]
    rw [h1] at b
    omega)
/-- rows of rows: told, one more -/
theorem pin_cl (j : JS) (a : Nat) (t : Told) (xs : List Int) : (j.pin a t xs).cl = j.cl := by
  have hu : ∀ (j : JS) (k : Nat) (f : Vis → Vis), (j.upd k f).cl = j.cl := fun j k f => by unfold JS.upd; split <;> rfl
  have hm : ∀ (xs : List Int) (j : JS), (xs.foldl JS.mark j).cl = j.cl := by
    intro xs
    induction xs with
    | nil => intro j; rfl
    | cons x r ih =>
      intro j
      rw [List.foldl_cons, ih]
      unfold JS.mark
      split
      · exact hu j _ _
      · rfl
  have h1 : (j.pin1 a t xs).cl = j.cl := by unfold JS.pin1; rw [hm, hu]
  unfold JS.pin
  split
  · exact h1
  · exact h1
theorem new_two2 (t c : Int) (n A : Nat) : (JS.new 1 t c n A).two = (t, 1) ∧ (JS.new 1 t c n A).cl = c := ⟨new_two t c n A, by unfold JS.new JS.upd; split <;> rfl⟩
theorem sameInts_same (v u : Value) (xs : List Int) (w : World) (hv : RdI w v xs) (hu : RdI w u xs) : Calls Try.prog 20 #[v, u] w fun e w' => e = .returned (.bool true) ∧ Fr noB w w' := by
  refine (sameInts_any v u xs xs w hv hu).mono ?_
  rintro e w' ⟨rfl, q, rfl⟩
  exact ⟨by rw [decide_eq_true rfl], (Fr.refl noB w).drewN q⟩
theorem bTr_c {a t c : Int} (h : bTrigger a t c = true) : inB 0 3 c = true := by
  unfold bTrigger at h
  simp only [Bool.and_eq_true] at h
  exact h.2.2
theorem type_ne {w : World} {B B' k k' n n' : Nat} {v v' : Value} {xs xs' : List Value} (h : w.ownsRow B 31 k v n xs) (h' : w.ownsRow B' 3 k' v' n' xs') : ∀ q, v.ownBlock = some q → v'.ownBlock ≠ some q := by
  intro q e e'
  obtain ⟨c1, h1⟩ := row_typeJ h e
  obtain ⟨c2, h2⟩ := row_typeJ h' e'
  rw [h1] at h2
  simp only [Option.some.injEq, Obj.cells.injEq] at h2
  exact absurd h2.2.1 (by decide)
def RowsOk (w : World) (B k : Nat) (H : List (List Int)) (vals : List Value) : Prop := ∀ i, i < k → ∃ vi, vals[i]? = some vi ∧ w.ownsRow B 3 1 vi (H.getD i []).length (rowV (H.getD i []))
theorem tr_of {w : World} {B p T : Nat} {tv : Value} {vals : List Value} {H : List (List Int)} (h : w.ownsRow B 31 1 tv T vals) (hr : RowsOk w B T H vals) (hT : 0 < T) (hp : p < B) : ∃ gt cap, tv = .slice (some ⟨gt, 0, none⟩) T cap ∧ T ≤ cap ∧ TR w gt p T H := by
  obtain ⟨g, cap, rfl, hg⟩ := ownsRow_some h hT
  have hcap : T ≤ cap := by
    rcases h.2 with ⟨e, _⟩ | ⟨g', cap', cur, e, _, _, h3, _⟩
    · cases e
    · cases e; exact h3
  refine ⟨g, cap, rfl, hcap, by omega, fun i hi => ?_⟩
  obtain ⟨vi, h1, h2⟩ := hr i hi
  obtain ⟨sa, sc, rfl⟩ := ownsRow_slice h2
  have hc := h.cells (g := g) rfl i _ h1
  rw [Addr.add_lit, Nat.zero_add] at hc
  exact ⟨sa, sc, hc, RdI.of_own h2, fun g' o e => by have := addr_own h2 e; omega⟩

set_option maxHeartbeats 8000000 in
set_option maxRecDepth 10000 in
theorem reaches_any (n0 a t c : Int) (v : Value) (G : List (List Int)) (w : World) (hv : SlR w v 1 (IsNmJ w) G) :
    Calls Try.prog 4 #[.int .i64 n0, .agg #[.int .i64 a, .int .i64 t, .int .i64 c], v] w fun e w' => e = .returned (.bool true) ∧ Fr noB w w' := by
  obtain ⟨va, vc, rfl, hx1, hx2, hx3⟩ := hv
  obtain ⟨z, hz, z0, z1⟩ := umod n0 4 (by omega) (by omega)
  obtain ⟨y, hy, y0, y1⟩ := umodv a (1 + z) (by omega) (by omega) (1 + z) rfl
  obtain ⟨T, hT⟩ : ∃ T : Nat, 1 + z = T := ⟨(1 + z).toNat, by omega⟩
  obtain ⟨A, rfl⟩ : ∃ A : Nat, y = A := ⟨y.toNat, by omega⟩
  have hu : IntKind.u64.wrap (1 + z) = 1 + z := by rw [IntKind.wrap_u64]; omega
  rw [hu] at hy
  have hnz : ¬ (1 + z = 0) := by omega
  have hnz2 : ((1 : Int) + z == 0) = false := by simp; omega
  generalize hn : G.length = n at *
  unfold maxLen at hx2
  have hnb : n ≤ 9223372036854775807 := by omega
  replace hn := Lib.hid hn
  replace hx3 := Lib.hid hx3
  replace hT := Lib.hid hT
  have fX := (Fr.refl noB w).alloc (.cells #[.int .i64 A, .int .i64 t, .int .i64 c] 23)
  have bX := Blk.new w 23 [.int .i64 A, .int .i64 t, .int .i64 c]
  go_enter Try.func4, Try.ntmps4
  go_wp2_with fail
  have hT2 := hT.out
  rw [hT2] at hy
  clear hz hu hnz hnz2 hT y0
  rw [hT2, hy]
  clear hy
  have hAT : A < T := by have := hT2.symm; omega
  have hT4 : T ≤ 4 := by omega
  clear hT2 y1 z0 z1
  cases hbT : bTrigger A t c with
  | false =>
    refine (new_no 1 T A t c _ hbT).mono ?_
    rintro e w1 ⟨rfl, f1⟩
    have g1 := fX.seqN f1
    clear hbT bX fX f1 hx3
    go_wp2_with fail
    refine (awake_any _).mono ?_
    rintro e w2 ⟨rfl, f2⟩
    have g2 := g1.seqN f2
    clear g1 f2
    go_wp2_with fail
    refine (awake_any _).mono ?_
    rintro e w3 ⟨rfl, f3⟩
    have g3 := g2.seqN f3
    go_wp2_with fail
    go_ret
    exact ⟨rfl, g3⟩
  | true =>
    have htt := bTr_t hbT
    have hcc := Lib.hid (bTr_c hbT)
    refine (new_any 1 t c T A _ hbT (by omega) (by omega) hAT hT4).mono ?_
    rintro e w1 ⟨p, rfl, hpp, ja, f1⟩
    have g1 := fX.seqN f1
    have b1 := f1.blk bX (fun q => q)
    have hfar := far2_new t c T A hAT hT4
    have hri := RInv.new t c T A (HL G T) (fun _ => []) hAT hT4 (HL_len G T)
    have htwo := new_two2 t c T A
    have hbp : w.heap.size < p := by simp at hpp; omega
    have hp1 : p < w1.heap.size := (ja 0).lt
    generalize JS.new 1 t c T A = j0 at *
    generalize hbt : w.heap.size = bt at *
    have hwp : ¬ p < w.heap.size := by omega
    replace hwp := Lib.hid hwp
    clear hbT bX fX f1 hpp hbt
    go_wp2_with fail
    refine (awake_any _).mono ?_
    rintro e w2 ⟨rfl, f2⟩
    have g2 := g1.seqN f2
    have b2 := f2.blk b1 (fun q => q)
    have j2 := (ja w2.heap.size).frN f2
    have hp2 : p < w2.heap.size := by have := f2.size; omega
    obtain ⟨X0, hX0, hri⟩ : ∃ X0, JG w2 p w2.heap.size j0 X0 ∧ RInv T A t (HL G T) j0 X0 := ⟨_, j2, hri⟩
    clear g1 b1 f2 ja j2 hp1
    by_cases hnT : n < T
    · have hd : decide ((n : Int) < (T : Int)) = true := by simpa using hnT
      have hd2 : decide (n < T) = true := by simpa using hnT
      clear hx3 hfar htwo b2 hX0 hri
      go_wp2_with fail
      refine (awake_any _).mono ?_
      rintro e w3 ⟨rfl, f3⟩
      have g3 := g2.seqN f3
      go_wp2_with fail
      go_ret
      exact ⟨rfl, g3⟩
    have hd : decide ((n : Int) < (T : Int)) = false := by simpa using hnT
    have hd2 : decide (n < T) = false := by simpa using hnT
    obtain ⟨L, hLL⟩ : ∃ L, L = w2.heap.size := ⟨_, rfl⟩
    rw [← hLL] at hX0 hp2
    replace hfar := Lib.hid hfar
    replace hri := Lib.hid hri
    have hB : Hid (w2.heap.size = L) := Lib.hid hLL.symm
    replace htwo := Lib.hid htwo
    replace g2 := Lib.hid g2
    replace b2 := Lib.hid b2
    have hz2 : L ≤ w2.heap.size := by omega
    clear hLL
    have o0 : (w2.alloc (.cells #[] 31)).ownsRow L 31 1 (.slice (some ⟨w2.heap.size, 0, none⟩) 0 0) 0 [] := ownsRow_mono (own_new w2 31 [] 1 0 rfl (by unfold maxLen; omega)) (by rw [hB.out]; exact Nat.le_refl _)
    have fT0 : Fr noB w2 (w2.alloc (.cells #[] 31)) := (Fr.refl noB w2).alloc _
    have hHG := fun i hi => HL_get G T i hi
    have hHn := HL_len G T
    generalize HL G T = H at *
    replace hHG := Lib.hid hHG
    replace hHn := Lib.hid hHn
    obtain ⟨i0, hi0, hz0, hz1, hz2'⟩ : ∃ i0, Try.prog.info? 3 = some i0 ∧ i0.zero = some (.int .i64 0) ∧ i0.size = 1 ∧ i0.bytes = 8 := by
      have hI := infoIntR
      cases hq : Try.prog.info? 3 with
      | none => rw [hq] at hI; cases hI
      | some k => rw [hq] at hI; simp at hI; exact ⟨k, rfl, hI⟩
    obtain ⟨i1, hi1', hy0, hy1, hy2⟩ : ∃ i1, Try.prog.info? 31 = some i1 ∧ i1.zero = some (.slice none 0 0) ∧ i1.size = 1 ∧ i1.bytes = 24 := by
      have hI := infoRow
      cases hq : Try.prog.info? 31 with
      | none => rw [hq] at hI; cases hI
      | some k => rw [hq] at hI; simp at hI; exact ⟨k, rfl, hI⟩
    go_wp2_with fail
    go_loopg [8, 51] T (fun gk tv i wr => ∃ (k : Nat) (vals : List Value), k + gk = T ∧ i = .int .i64 k ∧ Hid (wr.ownsRow L 31 1 tv k vals) ∧ Hid (RowsOk wr L k H vals) ∧ Fr noB w2 wr)
    case atStart => exact ⟨0, [], Nat.zero_add _, rfl, Lib.hid o0, Lib.hid (fun i hi => absurd hi (Nat.not_lt_zero _)), fT0⟩
    case round =>
      clear o0 fT0
      obtain ⟨k, vals, hk, rfl, ownT, rows, fT⟩ := hrel
      by_cases hkT : k < T
      · obtain ⟨Gb, hGb⟩ : ∃ Gb, G[k]? = some Gb := ⟨G[k]'(by rw [hn.out]; omega), List.getElem?_eq_getElem _⟩
        have hGd : G.getD k [] = Gb := by simp [List.getD, hGb]
        have hHk : H.getD k [] = lN Gb 4 := by rw [hHG.out k hkT, hGd]
        obtain ⟨gn, on, csn, rfl, _, ⟨sa, sl, sc, rfl, hrd⟩, hcn⟩ := hx3.out k Gb hGb
        have hcn0 := hcn 0 _ rfl
        have hslG : sl = Gb.length := by obtain ⟨_, _, e, _⟩ := hrd; injection e
        have hGl : Gb.length ≤ 9223372036854775807 := by obtain ⟨_, _, _, h, _⟩ := hrd; exact h
        have hbn1 : (k : Int) < n := by omega
        have hbn0 : (0 : Int) ≤ k := by omega
        have hbd : k < n := by omega
        have gw := g2.out.seqN fT
        have hcells : ∀ w5, Fr noB wr w5 → w5.cell? ⟨gn, on + k, none⟩ = some (.slice sa sl sc) ∧ RdI w5 (.slice sa sl sc) Gb := by
          intro w5 f5
          refine ⟨?_, hrd.fr (gw.seqN f5) (fun _ _ _ _ _ q => q)⟩
          have := (gw.seqN f5).cell hcn0 (fun q => q)
          rwa [Nat.mul_one, Nat.add_zero] at this
        obtain ⟨wS, hwS⟩ : ∃ wS : World, wS = wr := ⟨_, rfl⟩
        rw [← hwS] at hcells ownT rows fT ⊢
        clear hwS gw
        obtain ⟨B2, hB2⟩ : ∃ B2, wS.heap.size = B2 := ⟨_, rfl⟩
        have hLB2 : L ≤ B2 := by rw [← hB2]; have h7 := fT.size; have := hB.out; omega
        replace hB2 := Lib.hid hB2
        replace hcells := Lib.hid hcells
        replace hHk := Lib.hid hHk
        clear hcn hcn0 hrd hGb hGd
        subst hslG
        go_wp2_with fail
        go_loopg [10, 54] 4 (fun gk3 lv i w5 => ∃ k2 : Nat, k2 + gk3 = 4 ∧ i = .int .i64 k2 ∧ Hid (w5.ownsRow B2 3 1 lv (lN Gb k2).length (rowV (lN Gb k2))) ∧ Fr noB wS w5)
        case atStart => exact ⟨0, Nat.zero_add _, rfl, Lib.hid (World.ownsRow_nil _ _ _ _), Fr.refl _ _⟩
        case round =>
          obtain ⟨k2, hk2, rfl, own, f5⟩ := hrel
          by_cases hk2T : k2 < 4
          · obtain ⟨d2, d3⟩ := hcells.out _ f5
            obtain ⟨_, _, e1, _, _, hrow⟩ := d3
            injection e1 with e1 _ e1c
            subst e1 e1c
            have own0 : Hid (wr.ownsRow B2 3 1 _ (l4 Gb k2 0).length (rowV (l4 Gb k2 0))) := Lib.hid (by rw [l4_zero]; exact own.out)
            have hl4 := fun q => l4_len Gb k2 q
            have hsucc := lN_succ Gb k2
            have hskip := fun q h1 h2 => l4_skip (G := Gb) (k := k2) (q := q) h1 h2
            have hadd := fun q h1 h2 h3 => l4_add (G := Gb) (k := k2) (q := q) h1 h2 h3
            generalize hM : Gb.length = M at *
            replace hM := Lib.hid hM
            replace hrow := Lib.hid hrow
            replace hsucc := Lib.hid hsucc
            replace hskip := Lib.hid hskip
            replace hadd := Lib.hid hadd
            replace hl4 := Lib.hid hl4
            have hrw5 : Hid (∀ w6, Fr noB wS w6 → ∀ q, q < M → ∀ g5 o5, sa = some ⟨g5, o5, none⟩ → w6.cell? ⟨g5, o5 + q, none⟩ = some (.int .i64 (Gb.getD q 0))) := Lib.hid (fun w6 f6 q hq g5 o5 e => by
              obtain ⟨_, d3⟩ := hcells.out w6 f6
              obtain ⟨_, _, e1, _, _, hr⟩ := d3
              injection e1 with e1
              subst e1
              obtain ⟨g9, o9, e9, hc⟩ := hr q (by rw [hM.out]; exact hq)
              rw [e] at e9
              cases e9
              exact hc)
            clear own
            go_wp2_with fail
            clear d2
            go_loopw [10, 62] (fun lv i w6 => ∃ q : Nat, q ≤ M ∧ i = .int .i64 q ∧ Hid (w6.ownsRow B2 3 1 lv (l4 Gb k2 q).length (rowV (l4 Gb k2 q))) ∧ Fr noB wS w6) (fun _ i _ => M - (RowKit.intOf i).toNat)
            case atStart => exact ⟨0, Nat.zero_le _, rfl, own0, f5⟩
            case round =>
              clear own0
              obtain ⟨q, hq, rfl, own, f6⟩ := hrel
              by_cases hqM : q < M
              · obtain ⟨g5, o5, rfl, hc5⟩ := hrow.out q hqM
                have e5 := hrw5.out _ f6 q hqM g5 o5 rfl
                have hsk := hskip.out q hqM
                have had := hadd.out q hqM
                have hlq := hl4.out q
                generalize Gb.getD q 0 = x at *
                clear hc5
                by_cases hxk : x = k2
                · by_cases hmm : (k2 : Int) ∈ Gb.take q
                  · have hs := hsk (Or.inr hmm)
                    have hhas := l4_has hmm
                    have ownX := own.out
                    rw [← hs] at ownX
                    have hlen : (l4 Gb k2 q).length = (lN Gb k2).length + 1 := by rw [hhas, List.length_append]; rfl
                    have own2 := own.out
                    rw [hlen] at own2
                    obtain ⟨g7, cap7, rfl, hg7⟩ := ownsRow_some own2 (by omega)
                    have c7 := last_own own2 (i := (lN Gb k2).length) (by rw [hlen]; omega)
                    rw [hhas, show ((lN Gb k2) ++ [(k2 : Int)]).getD (lN Gb k2).length 0 = (k2 : Int) by simp [List.getD]] at c7
                    have hm7 : (lN Gb k2).length ≤ 5 := by have := lN_len Gb k2; omega
                    generalize (lN Gb k2).length = m7 at *
                    subst hxk
                    replace ownX := Lib.hid ownX
                    replace hlen := Lib.hid hlen
                    replace hmm := Lib.hid hmm
                    clear own own2 hs hhas hsk had
                    go_wp2_with fail
                    go_roundw
                    case rel => exact ⟨q + 1, by omega, by go_num, ownX, f6⟩
                    case measure => simp [RowKit.intOf]; omega
                  · obtain ⟨ha1, ha2⟩ := had hxk hmm
                    have own2 := own.out
                    rw [ha1] at own2
                    have hmk : ∀ y ∈ lN Gb k2, y ≠ (k2 : Int) := fun y hy => by have := lN_mem hy; omega
                    have hlk := lN_len Gb k2
                    generalize lN Gb k2 = O at *
                    subst hxk
                    replace hmm := Lib.hid hmm
                    replace ha2 := Lib.hid ha2
                    have hBw : B2 ≤ wr.heap.size := by rw [← hB2.out]; exact f6.size
                    have hA := ownsRow_fr own2 ((Fr.refl noB wr).alloc (.cells #[.int .i64 (k2 : Int)] 3)) (fun _ _ q => q)
                    have hNw := cell_new wr (.int .i64 (k2 : Int)) 3
                    clear own hsk had ha1
                    rcases Nat.eq_zero_or_pos O.length with hz | hz
                    · obtain ⟨a7, c7, rfl⟩ := ownsRow_slice own2
                      rw [hz] at hA own2 ⊢
                      replace hz := Lib.hid hz
                      clear own2
                      go_wp2_with (first
                        | (at_builtin; go_must (refine wpList_append_at _ rfl (.tmp 84) (.tmp 86) 31 rfl B2 3 i0 _ 1 8 Try.underlying31 hi0 hz0 hz1 hz2' rfl (by omega) _ 0 _ rfl hA ⟨wr.heap.size, 0, none⟩ 1 1 [.int .i64 k2] rfl rfl hNw (one_int _ _) ?_ ?_ ?_ ?_))
                        | fail)
                      · unfold maxLen; omega
                      · omega
                      · have := ((Fr.refl noB wr).alloc (.cells #[.int .i64 (k2 : Int)] 3)).size; omega
                      intro v' w7 o7 gr7 _
                      have o7 : w7.ownsRow B2 3 1 v' (O.length + 1) (rowV O ++ [.int .i64 (k2 : Int)]) := by rw [hz.out]; exact o7
                      have hA' : (wr.alloc (.cells #[.int .i64 (k2 : Int)] 3)).ownsRow B2 3 1 (.slice a7 0 c7) O.length (rowV O) := by rw [hz.out]; exact hA
                      obtain ⟨own3, fr3'⟩ := grow_int hB2 f6 hA' o7 gr7
                      rw [← ha2.out] at own3
                      replace own3 := Lib.hid own3
                      clear hA hA' hNw o7 gr7
                      go_wp2_with fail
                      go_roundw
                      case rel => exact ⟨q + 1, by omega, by go_num, own3, fr3'⟩
                      case measure => simp [RowKit.intOf]; omega
                    · obtain ⟨m7, hm7⟩ : ∃ m7, O.length = m7 + 1 := ⟨O.length - 1, by omega⟩
                      have own4 := own2
                      rw [hm7] at own4
                      obtain ⟨g7, cap7, rfl, hg7⟩ := ownsRow_some own4 (by omega)
                      have c7 := last_own own4 (i := m7) (by omega)
                      have hy7 : O.getD m7 0 ≠ (k2 : Int) := hmk _ (List.mem_of_getElem? (show O[m7]? = some (O.getD m7 0) by simp [List.getD, show m7 < O.length by omega]))
                      generalize O.getD m7 0 = y7 at *
                      have hyb : (y7 != (k2 : Int)) = true := by simpa using hy7
                      have hm5 : m7 ≤ 5 := by omega
                      rw [hm7] at hA
                      replace hm7 := Lib.hid hm7
                      replace hy7 := Lib.hid hy7
                      clear own2 own4 hz hlk
                      go_wp2_with (first
                        | (at_builtin; go_must (refine wpList_append_at _ rfl (.tmp 84) (.tmp 86) 31 rfl B2 3 i0 _ 1 8 Try.underlying31 hi0 hz0 hz1 hz2' rfl (by omega) _ (m7 + 1) _ rfl hA ⟨wr.heap.size, 0, none⟩ 1 1 [.int .i64 k2] rfl rfl hNw (one_int _ _) ?_ ?_ ?_ ?_))
                        | fail)
                      · unfold maxLen; omega
                      · omega
                      · have := ((Fr.refl noB wr).alloc (.cells #[.int .i64 (k2 : Int)] 3)).size; omega
                      intro v' w7 o7 gr7 _
                      rw [← hm7.out] at o7 hA
                      obtain ⟨own3, fr3'⟩ := grow_int hB2 f6 hA o7 gr7
                      rw [← ha2.out] at own3
                      replace own3 := Lib.hid own3
                      clear hA hNw o7 gr7 c7
                      go_wp2_with fail
                      go_roundw
                      case rel => exact ⟨q + 1, by omega, by go_num, own3, fr3'⟩
                      case measure => simp [RowKit.intOf]; omega
                · have hs := hsk (Or.inl hxk)
                  have hxb : (x == (k2 : Int)) = false := beq_eq_false_iff_ne.2 hxk
                  have ownX := own.out
                  rw [← hs] at ownX
                  replace ownX := Lib.hid ownX
                  replace hxk := Lib.hid hxk
                  clear own hs hsk had
                  go_wp2_with fail
                  go_roundw
                  case rel => exact ⟨q + 1, by omega, by go_num, ownX, f6⟩
                  case measure => simp [RowKit.intOf]; omega
              · obtain rfl : q = M := by omega
                have own1 := own.out
                rw [← hsucc.out] at own1
                replace own1 := Lib.hid own1
                clear own hrow
                go_wp2_with fail
                go_roundg (4 - k2 - 1)
                case rel => exact ⟨k2 + 1, by omega, by go_num, own1, f6⟩
                case measure => omega
          · obtain rfl : k2 = 4 := by omega
            obtain ⟨lva, lvc, rfl⟩ := ownsRow_slice own.out
            have ownT5 := ownsRow_fr ownT.out f5 (fun _ _ q => q)
            have rows5 : RowsOk wr L k H vals := fun i hi => by
              obtain ⟨vi, h1, h2⟩ := rows.out i hi
              exact ⟨vi, h1, ownsRow_fr h2 f5 (fun _ _ q => q)⟩
            have own5 : wr.ownsRow L 3 1 (.slice lva (H.getD k []).length lvc) (H.getD k []).length (rowV (H.getD k [])) := by rw [hHk.out]; exact ownsRow_mono own.out hLB2
            rw [← hHk.out]
            have fT5 := fT.seqN f5
            have hLw : L ≤ wr.heap.size := by have h7 := f5.size; have := hB2.out; omega
            have hA := ownsRow_fr ownT5 ((Fr.refl noB wr).alloc (.cells #[.slice lva (H.getD k []).length lvc] 31)) (fun _ _ q => q)
            have hNw := cell_new wr (.slice lva (H.getD k []).length lvc) 31
            have hvl : vals.length = k := by have := ownT.out.1; simpa using this
            generalize hHX : H.getD k [] = HX at *
            replace hHX := Lib.hid hHX
            generalize hhl : HX.length = hx at *
            replace hhl := Lib.hid hhl
            replace own5 := Lib.hid own5
            replace rows5 := Lib.hid rows5
            replace hvl := Lib.hid hvl
            clear own hcells f5 rows ownT ownT5
            go_wp2_with (first
              | (at_builtin; go_must (refine wpList_append_at _ rfl (.tmp 90) (.tmp 92) 67 rfl L 31 i1 _ 1 24 Try.underlying67 hi1' hy0 hy1 hy2 rfl (by omega) _ k _ rfl hA ⟨wr.heap.size, 0, none⟩ 1 1 [.slice lva hx lvc] rfl rfl hNw (fun u hu => by (simp at hu; subst hu; rfl)) ?_ ?_ ?_ ?_))
              | fail)
            · unfold maxLen; omega
            · omega
            · have := ((Fr.refl noB wr).alloc (.cells #[.slice lva hx lvc] 31)).size; omega
            intro tv' w7 o7 gr7 _
            have fr7 := (fT5.alloc (.cells #[.slice lva hx lvc] 31)).grown gr7 (fun q hq hlt => by have := (hA.lt q hq).1; have := hB.out; omega)
            have fOld : Fr (fun q => (Value.ownBlock _ = some q)) (wr.alloc (.cells #[.slice lva hx lvc] 31)) w7 := (Fr.refl _ _).grown gr7 (fun q hq _ => hq)
            have rows7 : RowsOk w7 L (k + 1) H (vals ++ [.slice lva hx lvc]) := fun i hi => by
              rcases Nat.lt_or_ge i k with h | h
              · obtain ⟨vi, h1, h2⟩ := rows5.out i h
                have h3 := ownsRow_fr h2 ((Fr.refl noB wr).alloc (.cells #[.slice lva hx lvc] 31)) (fun _ _ q => q)
                exact ⟨vi, by rw [List.getElem?_append_left (by rw [hvl.out]; exact h)]; exact h1, ownsRow_fr h3 fOld (fun g hg q => type_ne hA h3 g q hg)⟩
              · obtain rfl : i = k := by omega
                have h3 := ownsRow_fr own5.out ((Fr.refl noB wr).alloc (.cells #[.slice lva hx lvc] 31)) (fun _ _ q => q)
                refine ⟨.slice lva hx lvc, by rw [List.getElem?_append_right (by rw [hvl.out]; exact Nat.le_refl _), hvl.out]; simp, ?_⟩
                rw [hHX.out, hhl.out]
                exact ownsRow_fr h3 fOld (fun g hg q => type_ne hA h3 g q hg)
            replace rows7 := Lib.hid rows7
            replace o7 := Lib.hid o7
            clear hA hNw gr7 fOld own5 rows5 fT5
            go_wp2_with fail
            go_roundg (T - k - 1)
            case rel => exact ⟨k + 1, _, by omega, by go_num, o7, rows7, fr7⟩
            case measure => omega
      · obtain rfl : k = T := by omega
        obtain ⟨gt, tcap, rfl, hcapT, hTR⟩ := tr_of ownT.out rows.out (by omega) hp2
        have gw := g2.out.seqN fT
        have bB := fT.blk b2.out (fun q => q)
        have hJ0 := hX0.frN fT
        have hL0 : L ≤ wr.heap.size := by have := fT.size; omega
        have q0 := as_Pin_Pin
        have q1 := as_Manifest_Pin
        have q2 := as_Collect_Pin
        have hHm : Hid (∀ b, b < k → ∀ x ∈ H.getD b [], 0 ≤ x ∧ x ≤ 3) := Lib.hid (fun b hb x hx => by rw [hHG.out b hb] at hx; have := lN_mem hx; omega)
        have hHr : Hid (∀ b, b < k → risB (-1) (H.getD b []) = true) := Lib.hid (fun b hb => by rw [hHG.out b hb]; exact lN_ris _ 4 (by omega) (-1) (by omega))
        replace hTR := Lib.hid hTR
        replace gw := Lib.hid gw
        replace bB := Lib.hid bB
        clear ownT rows fT g2 b2 hX0 hx3 hB hz2 hi0 hz0 hz1 hz2' hi1' hy0 hy1 hy2
        go_wp2_with fail
        go_loopg [96] k (fun gk i wr => ∃ (r : Nat) (j : JS) (X : Nat → List Int), r + gk = k ∧ i = .int .i64 r ∧ JG wr p L j X ∧ Hid (Far2 k r j) ∧ Hid (RInv k A t H j X) ∧ Hid (j.two = (t, 1) ∧ j.cl = c) ∧ Hid (Blk wr bt 23 [.int .i64 A, .int .i64 t, .int .i64 c]) ∧ Hid (TR wr gt p k H) ∧ Hid (Fr noB w wr) ∧ L ≤ wr.heap.size)
        case atStart => exact ⟨0, j0, X0, Nat.zero_add _, rfl, hJ0, hfar, hri, htwo, bB, hTR, gw, hL0⟩
        case round =>
          clear hJ0 hfar hri htwo bB hTR gw hL0
          obtain ⟨r, j, X, hk, rfl, hJ, hfar, hri, htwo, bB, hTR, fr, hL⟩ := hrel
          by_cases hlt : r < k
          · rcases hfar.out with ⟨e, ph, nn, rc⟩ | ⟨e, ph, nn⟩
            · go_wp2_with fail
              refine (outs1_jg p L j X _ hJ ph).mono ?_
              rintro e2 w3 ⟨u, rfl, o3, f3⟩
              have hJ3 := hJ.frN f3
              have bB3 := f3.blk bB.out (fun q => q)
              have hTR3 := hTR.out.frN f3
              have fr3 := fr.out.seqN f3
              have hp3 : p < wr.heap.size := hJ.lt
              have hL3 : L ≤ w3.heap.size := by have := f3.size; omega
              have htj : t = j.tr ∧ 1 = j.id := by have := htwo.out.1; unfold JS.two at this; simp only [Prod.mk.injEq] at this; exact ⟨this.1.symm, this.2.symm⟩
              have hi1 := I1.start e ph nn
              have hV0 : 0 < (whichL (fun v => !v.p) j 4).length := by
                rcases Nat.eq_zero_or_pos (whichL (fun v => !v.p) j 4).length with q | q
                · exfalso
                  unfold noneL at nn
                  rw [q] at nn
                  cases nn
                · exact q
              obtain ⟨g, cap, rfl, hg, hoc⟩ := out_own o3 hV0
              have hgp : g ≠ p := by omega
              obtain ⟨V, hV⟩ : ∃ V, V = whichL (fun v => !v.p) j 4 := ⟨_, rfl⟩
              have hVn : V.Nodup := by rw [hV]; exact which_nodup _ _
              have hN4 : V.length ≤ 4 := by rw [hV]; exact whichL_len _ _ _
              have hVm : ∀ x ∈ V, ∃ b : Nat, b < 4 ∧ x = (b : Int) ∧ b < k := fun x hx => by
                rw [hV] at hx
                obtain ⟨b, hb, e1, e2, _⟩ := which_mem.1 hx
                exact ⟨b, hb, e1, e.vn b hb e2⟩
              have hle : (whichL (fun v => !v.p) j 4).length = V.length := by rw [hV]
              rw [← hV] at hi1 hoc hV0
              rw [hle]
              have htr1 : j.tr = t := htj.1.symm
              have hid1 : j.id = 1 := htj.2.symm
              rw [htr1, hid1] at hoc
              generalize hc0 : j.cnt = cc at *
              generalize hN : V.length = N at *
              replace hoc := Lib.hid hoc
              replace fr3 := Lib.hid fr3
              replace bB3 := Lib.hid bB3
              replace hTR3 := Lib.hid hTR3
              replace hVm := Lib.hid hVm
              replace hVn := Lib.hid hVn
              replace hN := Lib.hid hN
              replace hi1 := Lib.hid hi1
              clear hfar hJ bB hTR fr f3 o3 hL hle htr1 hid1 ph nn e htj hV hc0
              go_wp2_with fail
              go_loopg [101] N (fun gk2 i w4 => ∃ (q : Nat) (j4 : JS) (X4 : Nat → List Int), q + gk2 = N ∧ i = .int .i64 q ∧ JG w4 p L j4 X4 ∧ Hid (I1 k cc V q j4) ∧ Hid (RInv k A t H j4 X4) ∧ Hid (j4.two = (t, 1) ∧ j4.cl = c) ∧ Hid (Blk w4 bt 23 [.int .i64 A, .int .i64 t, .int .i64 c]) ∧ Hid (TR w4 gt p k H) ∧ Hid (Fr noB w w4) ∧ Fr (onlyB p) w3 w4 ∧ L ≤ w4.heap.size)
              case atStart => exact ⟨0, j, X, Nat.zero_add _, rfl, hJ3, hi1, hri, htwo, bB3, hTR3, fr3, Fr.refl _ _, hL3⟩
              case round =>
                clear hJ3 bB3 hTR3 fr3 hL3 hi1 htwo hri
                obtain ⟨q, j4, X4, hk4, rfl, hJ4, hi4, hri4, htwo4, bB4, hTR4, fr4, f34, hL4⟩ := hrel
                by_cases hkn : q < N
                · obtain ⟨c0, c1⟩ := (hoc.out.fr f34 (fun q => hgp (by unfold onlyB at q; exact q))) q (by rw [hN.out]; exact hkn)
                  have hkV : q < V.length := by rw [hN.out]; exact hkn
                  have hxm : V.getD q 0 ∈ V := List.mem_of_getElem? (show V[q]? = some (V.getD q 0) by simp [List.getD, hkV])
                  obtain ⟨b, hb4, hxb, hbT⟩ := hVm.out _ hxm
                  have hstep := fun (tt : Told) (xs : List Int) (hx : ∀ x ∈ xs, 0 ≤ x ∧ x ≤ 3) => I1.step hi4.out hVn.out hkV hxb (t := tt) (xs := xs) hx
                  obtain ⟨_, hvb, hpb, _⟩ := hstep told0 [] (fun x hx => by cases hx)
                  have hph4 := hi4.out.go hkV
                  have htj4 : t = j4.tr ∧ 1 = j4.id := by have := htwo4.out.1; unfold JS.two at this; simp only [Prod.mk.injEq] at this; exact ⟨this.1.symm, this.2.symm⟩
                  replace htj4 := Lib.hid htj4
                  have hmem := hHm.out b hbT
                  have hris := hHr.out b hbT
                  have hE4 := hi4.out.e
                  have hri5 := RInv.pin hri4.out hE4 hHn.out hT4 (by omega) hb4 hvb hmem
                  rw [hxb] at c0
                  unfold mPin at c1
                  have fA := ((Fr.refl noB wr).alloc (.cells #[.int .i64 (b : Int), .iface 70 (.agg #[.int .i64 t, .int .i64 1])] 58)).alloc (.cells #[.int .i64 t, .int .i64 1] 70)
                  have bO := ((Fr.refl noB (wr.alloc (.cells #[.int .i64 (b : Int), .iface 70 (.agg #[.int .i64 t, .int .i64 1])] 58))).alloc (.cells #[.int .i64 t, .int .i64 1] 70)).blk (Blk.new wr 58 [.int .i64 (b : Int), .iface 70 (.agg #[.int .i64 t, .int .i64 1])]) (fun q => q)
                  have hJA := hJ4.frN fA
                  have frA := fr4.out.seqN fA
                  have bBA := fA.blk bB4.out (fun q => q)
                  have hTRA := hTR4.out.frN fA
                  have f3A := f34.seqN fA
                  have hLA : L ≤ ((wr.alloc (.cells #[.int .i64 (b : Int), .iface 70 (.agg #[.int .i64 t, .int .i64 1])] 58)).alloc (.cells #[.int .i64 t, .int .i64 1] 70)).heap.size := by have := fA.size; omega
                  obtain ⟨wA, hwA⟩ : ∃ wA, wA = ((wr.alloc (.cells #[.int .i64 (b : Int), .iface 70 (.agg #[.int .i64 t, .int .i64 1])] 58)).alloc (.cells #[.int .i64 t, .int .i64 1] 70)) := ⟨_, rfl⟩
                  have hxop : Hid (wr.heap.size ≠ p) := Lib.hid (by have := hJ4.lt; omega)
                  have hbn0 : (0 : Int) ≤ b := by omega
                  have hbn1 : (b : Int) < k := by omega
                  go_upto_region 30 with fail
                  rw [← hwA] at hJA frA bBA hTRA f3A hLA bO ⊢
                  clear hwA hJ4 hi4 fr4 bB4 hTR4 f34 c0 c1 hxm hxb hkV fA hri4 hE4
                  obtain ⟨sa, sc, ct0, hrd, hne⟩ := hTRA.2 b hbT
                  have hcells : ∀ w5, Fr noB wA w5 → w5.cell? ⟨wr.heap.size, 0, none⟩ = some (.int .i64 (b : Int)) ∧ w5.cell? ⟨bt, 1, none⟩ = some (.int .i64 t) ∧ w5.cell? ⟨gt, b, none⟩ = some (.slice sa (H.getD b []).length sc) := fun w5 f5 => ⟨(f5.blk bO (fun q => q)).cell 0, (f5.blk bBA (fun q => q)).cell 1, f5.cell ct0 (fun q => q)⟩
                  have hnl : (H.getD b []).length ≤ 9223372036854775807 := by obtain ⟨_, _, _, h, _⟩ := hrd; exact h
                  have hear := fun w5 (f5 : Fr noB wA w5) => hear_pin1 p L j4 X4 b t 0 false sa sc (H.getD b []) w5 (hJA.frN f5) (by have := f5.size; omega) hp2 (hrd.fr f5 (fun _ _ _ _ _ q => q)) (pinB_yes hb4 htt hris) hne htj4.out.1 htj4.out.2 hph4 hvb hpb
                  unfold mPinned at hear
                  have hst2 := (hstep ⟨b, t, 1, 0, none, (H.getD b []).length, 0, false⟩ (H.getD b []) hmem).2.2.2
                  have htwo5 : (j4.pin b ⟨b, t, 1, 0, none, (H.getD b []).length, 0, false⟩ (H.getD b [])).two = (t, 1) ∧ (j4.pin b ⟨b, t, 1, 0, none, (H.getD b []).length, 0, false⟩ (H.getD b [])).cl = c := ⟨by rw [pin_two]; exact htwo4.out.1, by rw [pin_cl]; exact htwo4.out.2⟩
                  generalize j4.pin b ⟨b, t, 1, 0, none, (H.getD b []).length, 0, false⟩ (H.getD b []) = j5 at *
                  generalize (fun k => if k = b then H.getD b [] else X4 k) = X5 at *
                  generalize wr.heap.size = xo at *
                  replace hcells := Lib.hid hcells
                  replace hear := Lib.hid hear
                  replace hst2 := Lib.hid hst2
                  replace htwo5 := Lib.hid htwo5
                  replace hri5 := Lib.hid hri5
                  generalize hHb : (H.getD b []).length = hbl at *
                  replace hHb := Lib.hid hHb
                  clear hrd hne hris hmem hJA hph4 hvb hpb htj4 hstep htwo4 bO ct0
                  replace bBA := Lib.hid bBA
                  replace hTRA := Lib.hid hTRA
                  replace frA := Lib.hid frA
                  go_region_held3 (fun w' => w'.cell? ⟨xo, 0, none⟩ = some (.int .i64 (b : Int)) ∧ w'.cell? ⟨bt, 1, none⟩ = some (.int .i64 t) ∧ w'.cell? ⟨gt, b, none⟩ = some (.slice sa hbl sc))
                    (first | exact tok8 | exact hcells.out _ ((Fr.refl noB _).drewN 1) | fail)
                    (first
                      | (go_at_call 14; refine (hear.out _ ((Fr.refl noB _).drewN 1)).mono ?_; rintro e8 w8 ⟨rfl, hJ8, f8⟩; have f9 : Fr (onlyB p) wA w8 := (((Fr.refl noB wA).drewN 1).mono (fun _ _ q => False.elim q)).seqB f8 (fun _ => rfl); have tok8 : w8.cell? ⟨xo, 0, none⟩ = some (.int .i64 (b : Int)) ∧ w8.cell? ⟨bt, 1, none⟩ = some (.int .i64 t) ∧ w8.cell? ⟨gt, b, none⟩ = some (.slice sa hbl sc) := ⟨f9.cell (hcells.out wA (Fr.refl _ _)).1 (fun q => hxop.out (by unfold onlyB at q; exact q)), f9.cell (hcells.out wA (Fr.refl _ _)).2.1 (fun q => by unfold onlyB at q; omega), f9.cell (hcells.out wA (Fr.refl _ _)).2.2 (fun q => hTRA.out.1 (by unfold onlyB at q; exact q))⟩)
                      | fail)
                  have fr8 := Lib.hid (frA.out.seqB f9 (fun q => absurd q hwp.out))
                  have bB8 := Lib.hid (f9.blk bBA.out (fun q => by unfold onlyB at q; omega))
                  have hTR8 := Lib.hid (hTRA.out.fr f9 (fun q hq e => hq (by unfold onlyB at e; exact e)))
                  have f38 := f3A.trans f9 (U := onlyB p) (fun _ _ q => q) (fun _ _ q => q)
                  have hL8 : L ≤ w8.heap.size := by have := f9.size; omega
                  clear hcells hear frA bBA hTRA f3A hLA f8 f9 tok8
                  go_wp2_with fail
                  go_roundg (N - q - 1)
                  case rel => exact ⟨q + 1, j5, X5, by omega, by go_num, hJ8, hst2, hri5, htwo5, bB8, hTR8, fr8, f38, hL8⟩
                  case measure => omega
                · obtain rfl : q = N := by omega
                  have hfar4 : Hid (Far2 k (r + 1) j4) := Lib.hid (by
                    have h1 := hi4.out
                    rw [← hN.out] at h1 hV0
                    exact I1.far2 h1 rc hV0)
                  clear f34 hoc hi4
                  go_wp2_with fail
                  go_roundg (k - r - 1)
                  case rel => exact ⟨r + 1, j4, X4, by omega, by go_num, hJ4, hfar4, hri4, htwo4, bB4, hTR4, fr4, hL4⟩
                  case measure => omega
            · go_wp2_with fail
              refine (outs2_jg p L j X _ hJ ph nn).mono ?_
              rintro e2 w3 ⟨u, mf, rfl, o3, f3⟩
              have hJ3 := hJ.frN f3
              have bB3 := f3.blk bB.out (fun q => q)
              have hTR3 := hTR.out.frN f3
              have fr3 := fr.out.seqN f3
              have hL3 : L ≤ w3.heap.size := by have := f3.size; omega
              have hfar3 : Hid (Far2 k (r + 1) j) := Lib.hid (Or.inr ⟨e, ph, nn⟩)
              have hmx : (whichL (fun _ => true) j 4).length ≤ 4 := whichL_len _ _ _
              have hout : ∃ g cap, u = .slice (some ⟨g, 0, none⟩) ((whichL (fun _ => true) j 4).length + 1) cap ∧ (∀ w4, Fr noB w3 w4 → w4.cell? ⟨g, 0, none⟩ = some (.int .i64 (-1)) ∧ w4.cell? ⟨g, 1, none⟩ = some (.iface 62 (.agg mf)) ∧ ∀ i, i < (whichL (fun _ => true) j 4).length → w4.cell? ⟨g, (i + 1) * 2, none⟩ = some (.int .i64 ((whichL (fun _ => true) j 4).getD i 0)) ∧ w4.cell? ⟨g, (i + 1) * 2 + 1, none⟩ = some (mCollect j.tr j.id)) := by
                obtain ⟨g, cap, rfl, hg⟩ := ownsRow_some o3 (by omega)
                have hc : ∀ q x, ([.int .i64 (-1), .iface 62 (.agg mf)] ++ outC (whichL (fun _ => true) j 4) (mCollect j.tr j.id))[q]? = some x → w3.cell? ⟨g, q, none⟩ = some x := fun q x hq => by
                  have := o3.cells (g := g) rfl q x hq
                  rwa [Addr.add_lit, Nat.zero_add] at this
                refine ⟨g, cap, rfl, fun w4 f => ⟨f.cell (hc 0 _ rfl) (fun q => q), f.cell (hc 1 _ rfl) (fun q => q), fun i hi => ?_⟩⟩
                obtain ⟨h1, h2⟩ := outC_get (whichL (fun _ => true) j 4) (mCollect j.tr j.id) i hi
                refine ⟨f.cell (hc _ _ ?_) (fun q => q), f.cell (hc _ _ ?_) (fun q => q)⟩
                · rw [show (i + 1) * 2 = i * 2 + 1 + 1 by omega]; simpa using h1
                · rw [show (i + 1) * 2 + 1 = i * 2 + 1 + 1 + 1 by omega]; simpa using h2
              obtain ⟨g, cap, rfl, hcell⟩ := hout
              generalize whichL (fun _ => true) j 4 = V at *
              generalize hN : V.length = N at *
              replace hcell := Lib.hid hcell
              replace fr3 := Lib.hid fr3
              replace bB3 := Lib.hid bB3
              replace hTR3 := Lib.hid hTR3
              clear hfar hJ bB hTR fr f3 o3 hL hN ph nn e
              go_wp2_with fail
              go_loopg [101] (N + 1) (fun gk2 i w4 => ∃ q : Nat, q + gk2 = N + 1 ∧ i = .int .i64 q ∧ JG w4 p L j X ∧ Hid (Blk w4 bt 23 [.int .i64 A, .int .i64 t, .int .i64 c]) ∧ Hid (TR w4 gt p k H) ∧ Hid (Fr noB w w4) ∧ Fr noB w3 w4 ∧ L ≤ w4.heap.size)
              case atStart => exact ⟨0, Nat.zero_add _, rfl, hJ3, bB3, hTR3, fr3, Fr.refl _ _, hL3⟩
              case round =>
                clear hJ3 bB3 hTR3 fr3 hL3
                obtain ⟨q, hkq, rfl, hJ4, bB4, hTR4, fr4, f34, hL4⟩ := hrel
                by_cases hk0 : q = 0
                · subst hk0
                  obtain ⟨c0, c1, _⟩ := hcell.out _ f34
                  have fA := ((Fr.refl noB wr).alloc (.cells #[.int .i64 (-1), .iface 62 (.agg mf)] 58)).alloc (.cells #[.int .i64 0, .int .i64 0] 70)
                  have hJA := hJ4.frN fA
                  have frA := Lib.hid (fr4.out.seqN fA)
                  have bBA := Lib.hid (fA.blk bB4.out (fun q => q))
                  have hTRA := Lib.hid (hTR4.out.frN fA)
                  have f3A := f34.seqN fA
                  have hLA : L ≤ ((wr.alloc (.cells #[.int .i64 (-1), .iface 62 (.agg mf)] 58)).alloc (.cells #[.int .i64 0, .int .i64 0] 70)).heap.size := by have := fA.size; omega
                  clear hJ4 fr4 bB4 hTR4 f34 fA
                  go_wp2_with fail
                  go_roundg (N + 1 - 0 - 1)
                  case rel => exact ⟨1, by omega, by go_num, hJA, bBA, hTRA, frA, f3A, hLA⟩
                  case measure => omega
                · obtain ⟨q, rfl⟩ : ∃ q', q = q' + 1 := ⟨q - 1, by omega⟩
                  by_cases hkn : q < N
                  · obtain ⟨_, _, hci⟩ := hcell.out _ f34
                    obtain ⟨c0, c1⟩ := hci q hkn
                    unfold mCollect at c1
                    generalize V.getD q 0 = x at *
                    have fA := ((Fr.refl noB wr).alloc (.cells #[.int .i64 x, .iface 90 (.agg #[.int .i64 j.tr, .int .i64 j.id])] 58)).alloc (.cells #[.int .i64 0, .int .i64 0] 70)
                    have hJA := hJ4.frN fA
                    have frA := Lib.hid (fr4.out.seqN fA)
                    have bBA := Lib.hid (fA.blk bB4.out (fun q => q))
                    have hTRA := Lib.hid (hTR4.out.frN fA)
                    have f3A := f34.seqN fA
                    have hLA : L ≤ ((wr.alloc (.cells #[.int .i64 x, .iface 90 (.agg #[.int .i64 j.tr, .int .i64 j.id])] 58)).alloc (.cells #[.int .i64 0, .int .i64 0] 70)).heap.size := by have := fA.size; omega
                    clear hJ4 fr4 bB4 hTR4 f34 fA hci
                    go_wp2_with fail
                    go_roundg (N + 1 - (q + 1) - 1)
                    case rel => exact ⟨q + 1 + 1, by omega, by go_num, hJA, bBA, hTRA, frA, f3A, hLA⟩
                    case measure => omega
                  · obtain rfl : q = N := by omega
                    clear f34 hcell
                    go_wp2_with fail
                    go_roundg (k - r - 1)
                    case rel => exact ⟨r + 1, j, X, by omega, by go_num, hJ4, hfar3, hri, htwo, bB4, hTR4, fr4, hL4⟩
                    case measure => omega
          · obtain rfl : r = k := by omega
            obtain ⟨hph, hall⟩ := Far2.end hfar.out hT4
            have htt1 := htwo.out.1
            have htcl := htwo.out.2
            have htj : j.tr = t ∧ j.id = 1 := by have := htt1; unfold JS.two at this; simp only [Prod.mk.injEq] at this; exact this
            have hV4 := whichL_len (fun _ => true) j 4
            have hVs := which_sorted (fun _ => true) j
            have hVA : (A : Int) ∈ whichL (fun _ => true) j 4 := which_mem.2 ⟨A, by omega, rfl, hri.out.st, rfl⟩
            have hVm : ∀ x ∈ whichL (fun _ => true) j 4, ∃ b : Nat, b < 4 ∧ x = (b : Int) ∧ b < r ∧ (j.at b).p = true := fun x hx => by
              obtain ⟨b, hb, e1, e2, _⟩ := which_mem.1 hx
              have hpp := none_iff.1 hall b hb e2
              have hb2 := hri.out.rch b hb e2
              have hb3 : (b : Int) < r := by
                have := hb2.range
                rw [hHn.out] at this
                omega
              exact ⟨b, hb, e1, by omega, by simpa using hpp⟩
            have hvis := fun w' (f : Fr noB wr w') => vis_any p L j X w' (hJ.frN f)
            have hRe := fun (L' : List Int) hs hL => RInv.all hri.out hT4 hHn.out hAT hall (L := L') hs hL
            have hmf := manifest_jg p L j X _ hJ (by rw [hph]; omega) hall
            rw [htj.1, htj.2, htcl] at hmf
            have hpha := fun w' (f : Fr noB wr w') => phase_jg p L j X w' (hJ.frN f)
            rw [hph] at hpha
            obtain ⟨V, hV⟩ : ∃ V, V = whichL (fun _ => true) j 4 := ⟨_, rfl⟩
            rw [← hV] at hvis hRe hmf hV4 hVs hVm hVA
            replace hV := Lib.hid hV
            have hV0 : 0 < V.length := List.length_pos_of_mem hVA
            have hVp : ∀ x ∈ V, 0 ≤ x := fun x hx => by obtain ⟨b, _, e, _⟩ := hVm x hx; omega
            have hNm := fun w' (f : Fr noB wr w') => (hTR.out.frN f).nm hHn.out hcapT
            have hHl : ∀ l ∈ H, l.length ≤ 1000 ∧ ∀ x ∈ l, okI x := fun l hl => by
              obtain ⟨i, hi, rfl⟩ := List.getElem_of_mem hl
              have hi2 : i < r := by rw [← hHn.out]; exact hi
              have e1 : H[i] = H.getD i [] := by simp [List.getD, hi]
              rw [e1, hHG.out i hi2]
              exact ⟨by have := lN_len (G.getD i []) 4; omega, fun x hx => by have := lN_mem hx; exact okI_of (by omega) (by omega)⟩
            have hre := fun w' (f : Fr noB wr w') => rreach_any (A : Int) _ H w' (hNm w' f) (okI_of (by omega) (by omega)) (by rw [hHn.out]; omega) hHl
            have hcl3 : inB 0 3 c = true := hcc.out
            replace hre := Lib.hid hre
            replace hvis := Lib.hid hvis
            replace hpha := Lib.hid hpha
            replace hRe := Lib.hid hRe
            replace hmf := Lib.hid hmf
            clear hfar hall hph htt1 htcl htj hHl hNm
            go_wp2_with fail
            refine hmf.out.mono ?_
            rintro e4 w4 ⟨pa, pc, cs, rfl, o4, hparts, f4⟩
            obtain ⟨gm, cpm, e5, hgm⟩ := ownsRow_some o4 hV0
            injection e5 with e51 _ e53
            subst e51 e53
            have hpr : ∀ i, i < V.length → PartR w4 gm i (V.getD i 0) t 1 := fun i hi => by
              obtain ⟨ta, tc, k1, k2, _⟩ := hparts i hi
              have hxm : V.getD i 0 ∈ V := List.mem_of_getElem? (show V[i]? = some (V.getD i 0) by simp [List.getD, hi])
              obtain ⟨b, hb4, hxb, hbr, hpb⟩ := hVm _ hxm
              rw [hxb] at k1 k2 ⊢
              rw [Int.toNat_natCast] at k1 k2
              obtain ⟨ht1, hX1⟩ := hri.out.told b hb4 hpb
              rw [ht1] at k1 k2
              rw [hX1] at k2
              refine ⟨0, ta, (H.getD b []).length, tc, false, H.getD b [], fun q u hq => ?_, k2, pinB_yes hb4 htt (hHr.out b hbr)⟩
              have h9 := o4.cells (g := gm) rfl (i * 6 + q) u (k1 q u hq)
              rwa [Addr.add_lit, Nat.zero_add] at h9
            have f5 := f4.alloc (.cells #[.int .i64 t, .int .i64 1, .int .i64 c, .slice (some ⟨gm, 0, none⟩) V.length pc] 62)
            have b5 := Blk.new w4 62 [.int .i64 t, .int .i64 1, .int .i64 c, .slice (some ⟨gm, 0, none⟩) V.length pc]
            have bB5 := f5.blk bB.out (fun q => q)
            have hpr5 := fun i hi => (hpr i hi).frN ((Fr.refl noB w4).alloc (.cells #[.int .i64 t, .int .i64 1, .int .i64 c, .slice (some ⟨gm, 0, none⟩) V.length pc] 62))
            obtain ⟨w5, hw5⟩ : ∃ w5, w5 = w4.alloc (.cells #[.int .i64 t, .int .i64 1, .int .i64 c, .slice (some ⟨gm, 0, none⟩) V.length pc] 62) := ⟨_, rfl⟩
            have htr5 : True := trivial
            go_upto_region 34 with fail
            rw [← hw5] at f5 b5 bB5 hpr5 ⊢
            clear hw5 f4 o4 hparts hpr hmf
            have hright := fun w' (f : Fr noB w5 w') => rightY_any gm V.length pc t 1 c V w' rfl hV0 hV4 (fun i hi => (hpr5 i hi).frN f) hVs hVp htt (by decide) hcl3
            unfold mManifest at hright
            have hS : ∀ w', Fr noB w5 w' → w'.cell? ⟨bt, 0, none⟩ = some (.int .i64 A) ∧ w'.cell? ⟨w4.heap.size, 0, none⟩ = some (.int .i64 t) ∧ w'.cell? ⟨w4.heap.size, 1, none⟩ = some (.int .i64 1) ∧ w'.cell? ⟨w4.heap.size, 2, none⟩ = some (.int .i64 c) ∧ w'.cell? ⟨w4.heap.size, 3, none⟩ = some (.slice (some ⟨gm, 0, none⟩) V.length pc) := fun w' f => ⟨(f.blk bB5 (fun q => q)).cell 0, (f.blk b5 (fun q => q)).cell 0, (f.blk b5 (fun q => q)).cell 1, (f.blk b5 (fun q => q)).cell 2, (f.blk b5 (fun q => q)).cell 3⟩
            have gw5 := Lib.hid (fr.out.seqN f5)
            replace hright := Lib.hid hright
            replace hS := Lib.hid hS
            generalize w4.heap.size = mv at *
            generalize hVl : V.length = nv at *
            replace hVl := Lib.hid hVl
            clear b5 bB5 hpr5 hJ bB hTR fr hVs hVp hVm hVA hV hri htwo
            go_region_held3 (fun w' => w'.cell? ⟨bt, 0, none⟩ = some (.int .i64 A) ∧ w'.cell? ⟨mv, 0, none⟩ = some (.int .i64 t) ∧ w'.cell? ⟨mv, 1, none⟩ = some (.int .i64 1) ∧ w'.cell? ⟨mv, 2, none⟩ = some (.int .i64 c) ∧ w'.cell? ⟨mv, 3, none⟩ = some (.slice (some ⟨gm, 0, none⟩) nv pc))
              (first | exact hS.out _ fZ | exact hS.out _ f9 | exact hS.out _ f8 | exact hS.out _ f7 | exact hS.out _ f6 | exact hS.out _ ((Fr.refl noB _).drewN 1) | fail)
              (first
                | (go_at_call 28; refine (hright.out w9 f9).mono ?_; rintro e wZ ⟨rfl, fZ0⟩; have fZ := f9.seqN fZ0)
                | (go_at_call 21; have qq := tokS; clear qq; refine (hvis.out w8 (f5.seqN f8)).mono ?_; rintro e w9 ⟨v9, rfl, o9, f90⟩; have f9 := f8.seqN f90; obtain ⟨a9, c9, rfl⟩ := ownsRow_slice o9)
                | (go_at_call 20; refine (sameInts_same v6 v7 V w7 r6 r7).mono ?_; rintro e w8 ⟨rfl, f80⟩; have f8 := f7.seqN f80; have tokS : True := trivial)
                | (go_at_call 27; refine (hre.out w6 (f5.seqN f6)).mono ?_; rintro e w7 ⟨v7, A7, rfl, o7, hs7, hm7, f70⟩; have f7 := f6.seqN f70; have r6 := r60.fr f70 (fun _ _ _ _ _ q => q); have e7 := hRe.out A7 hs7 hm7; have r7 : RdI w7 v7 V := by rw [e7]; exact RdI.of_own o7)
                | (go_at_call 21; refine (hvis.out _ (f5.seqN ((Fr.refl noB _).drewN 1))).mono ?_; rintro e w6 ⟨v6, rfl, o6, f60⟩; have f6 := ((Fr.refl noB w5).drewN 1).seqN f60; have r60 : RdI w6 v6 V := RdI.of_own o6)
                | (go_at_call 18; refine (hpha.out _ (f5.seqN ((Fr.refl noB _).drewN 1))).mono ?_; rintro e wP ⟨rfl, hwP⟩; obtain rfl := hwP.symm)
                | fail)
            all_goals (
              have gZ := gw5.out.seqN fZ
              go_wp2_with fail
              go_ret
              exact ⟨rfl, gZ⟩)
theorem reaches_cs (n0 : Int) (ct : Array Value) (mt : Int × Int × Int) (v : Value) (G : List (List Int)) (w : World) (_ : (Lit.int .i64 n0).wf = true) (ht : IsTr ct.toList mt) (hv : SlR w v 1 (IsNmJ w) G) :
    Calls Try.prog 4 #[.int .i64 n0, .agg ct, v] w fun e w' => e = .returned (.bool true) ∧ Fr noB w w' := by
  have hc2 : ct = #[.int .i64 mt.1, .int .i64 mt.2.1, .int .i64 mt.2.2] := by rw [← Array.toList_inj]; exact ht.1
  rw [hc2]
  exact reaches_any n0 mt.1 mt.2.1 mt.2.2 v G w hv
end Go.Proofs.Ytppgachfobpgbaa
