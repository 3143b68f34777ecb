/-
  The document's answer by definition: its state, and who is named for a trace.
-/
import Derived.Test.YtbepkhldgfmmbaaCrumbRef
set_option linter.unusedVariables false
set_option linter.unusedSimpArgs false
namespace Go.Proofs.Ytbepkhldgfmmbaa
open Go.RowKit Go Go.Maps Go.Lib

/-- The reference's crumbs at block r, its two rows from B on: E tells, trace by trace, the names; VA are the rows of names as they lie. -/
structure Rc (w : World) (r B : Nat) (N : Int) (E : List (Int × List Int)) (aT : Option Addr) (cT : Nat) (aA : Option Addr) (cA : Nat) (VA : List Value) : Prop where
  blk : Blk w r 30 [.int .i64 N, .slice aT E.length cT, .slice aA E.length cA]
  rT : w.ownsRow B 3 1 (.slice aT E.length cT) E.length (rowV (E.map (·.1)))
  rA : w.ownsRow B 27 1 (.slice aA E.length cA) E.length VA
  rd : ∀ i, i < E.length → RdI w (VA.getD i (.slice none 0 0)) (E.getD i (0, [])).2
  ap : ∀ u ∈ VA, ∀ g o n c, u = .slice (some ⟨g, o, none⟩) n c → g ≠ r ∧ g < w.heap.size
  rB : r < B
  Bw : B ≤ w.heap.size

theorem Rc.frN {w w' : World} {r B : Nat} {N : Int} {E : List (Int × List Int)} {aT : Option Addr} {cT : Nat} {aA : Option Addr} {cA : Nat} {VA : List Value} (h : Rc w r B N E aT cT aA cA VA) (hf : Fr noB w w') : Rc w' r B N E aT cT aA cA VA :=
  ⟨hf.blk h.blk (fun q => q), ownsRow_fr h.rT hf (fun _ _ q => q), ownsRow_fr h.rA hf (fun _ _ q => q), fun i hi => (h.rd i hi).fr hf (fun _ _ _ _ _ q => q), fun u hu g o n c e => ⟨(h.ap u hu g o n c e).1, Nat.lt_of_lt_of_le (h.ap u hu g o n c e).2 hf.size⟩, h.rB, Nat.le_trans h.Bw hf.size⟩
theorem Rc.drewN {w : World} {r B : Nat} {N : Int} {E : List (Int × List Int)} {aT : Option Addr} {cT : Nat} {aA : Option Addr} {cA : Nat} {VA : List Value} (h : Rc w r B N E aT cT aA cA VA) (q : Nat) : Rc (w.drewN q) r B N E aT cT aA cA VA := h.frN ((Fr.refl noB w).drewN q)

theorem own_at {w : World} {B n c : Nat} {t : TypeId} {a : Option Addr} {xs : List Value} (h : w.ownsRow B t 1 (.slice a n c) n xs) {i : Nat} {x : Value} (hx : xs[i]? = some x) : ∃ g, a = some ⟨g, 0, none⟩ ∧ w.cell? ⟨g, i, none⟩ = some x := by
  have hi : i < xs.length := (List.getElem?_eq_some_iff.1 hx).1
  have hn : 0 < n := by have := h.1; omega
  obtain ⟨g, cap, e, _⟩ := ownsRow_some h hn
  cases e
  refine ⟨g, rfl, ?_⟩
  have := h.cells (g := g) rfl i x hx
  rwa [show (⟨g, 0, none⟩ : Addr).add i = ⟨g, i, none⟩ by unfold Addr.add; split <;> simp_all] at this

theorem look_at {α : Type} {E : List (Int × α)} {t : Int} {k : Nat} {m : Int × α} (h : ∀ p ∈ E.take k, p.1 ≠ t) (hm : E[k]? = some m) (ht : m.1 = t) : look E t = some m.2 := by
  have hk : k < E.length := (List.getElem?_eq_some_iff.1 hm).1
  have he : E = E.take k ++ m :: E.drop (k + 1) := by
    have h1 := (List.getElem?_eq_some_iff.1 hm).2
    rw [← h1, List.getElem_cons_drop, List.take_append_drop]
  unfold look
  rw [he, List.find?_append, List.find?_eq_none.2 (fun p hp => by simpa using h p hp)]
  simp [ht]

set_option maxHeartbeats 1000000 in
set_option maxRecDepth 10000 in
theorem rof_any (r B : Nat) (N t : Int) (E : List (Int × List Int)) (aT : Option Addr) (cT : Nat) (aA : Option Addr) (cA : Nat) (VA : List Value) (w : World) (h : Rc w r B N E aT cT aA cA VA) (hE : E.length ≤ 1000000) :
    Calls Try.prog 15 #[.pointer (some ⟨r, 0, none⟩), .int .i64 t] w fun e w' => ∃ v, e = .returned v ∧ RdI w v ((look E t).getD []) ∧ ∃ q, w' = w.drewN q := by
  have h' := Lib.hid h
  obtain ⟨hb, hrT, hrA, hrd, hap, hrB, hBw⟩ := h
  clear hap
  have hVl : VA.length = E.length := by simpa using hrA.1
  have hTl : (E.map (·.1)).length = E.length := by simp
  generalize hn : E.length = n at *
  replace hn := Lib.hid hn
  replace hVl := Lib.hid hVl
  replace hb := Lib.hid hb
  replace hrT := Lib.hid hrT
  replace hrA := Lib.hid hrA
  replace hrd := Lib.hid hrd
  clear hTl
  go_enter Try.func15, Try.ntmps15
  go_wp2_with fail
  go_loopw [5] (fun i wr => ∃ k : Nat, k ≤ n ∧ i = .int .i64 k ∧ Hid (∀ p ∈ E.take k, p.1 ≠ t) ∧ ∃ q, wr = w.drewN q) (fun i _ => n - (RowKit.intOf i).toNat)
  case atStart => exact ⟨0, by omega, rfl, Lib.hid (by simp), 0, rfl⟩
  case round =>
    obtain ⟨k, hk, rfl, hkt, q, rfl⟩ := hrel
    have c1 : (w.drewN q).cell? ⟨r, 1, none⟩ = some (.slice aT n cT) := hb.out.cell 1
    have c2 : (w.drewN q).cell? ⟨r, 2, none⟩ = some (.slice aA n cA) := hb.out.cell 2
    by_cases hlt : k < n
    · obtain ⟨m, hm⟩ : ∃ m, E[k]? = some m := ⟨_, List.getElem?_eq_getElem (by rw [hn.out]; exact hlt)⟩
      obtain ⟨u, hu⟩ : ∃ u, VA[k]? = some u := ⟨_, List.getElem?_eq_getElem (by rw [hVl.out]; exact hlt)⟩
      obtain ⟨gT, rfl, e1⟩ := own_at hrT.out (i := k) (x := .int .i64 m.1) (by simp [rowV, hm])
      obtain ⟨gA, rfl, e2⟩ := own_at hrA.out hu
      have hru : RdI w u m.2 := by
        have := hrd.out k hlt
        simpa [List.getD, hm, hu] using this
      replace e1 : (w.drewN q).cell? ⟨gT, k, none⟩ = some (.int .i64 m.1) := e1
      replace e2 : (w.drewN q).cell? ⟨gA, k, none⟩ = some u := e2
      replace hru := Lib.hid hru
      replace hu := Lib.hid hu
      generalize hw : w.drewN q = wd at *
      replace hw := Lib.hid hw
      by_cases hmt : m.1 = t
      · have hlk : look E t = some m.2 := look_at hkt.out hm hmt
        have hb1 : (m.1 == t) = true := by simpa using hmt
        replace hlk := Lib.hid hlk
        replace hm := Lib.hid hm
        generalize m.1 = x at *
        clear hmt
        go_wp2_with fail
        try go_quiet (fail)
        try go_wp2_with fail
        go_ret
        exact ⟨_, rfl, by rw [hlk.out]; exact hru.out, by first | exact ⟨_, by rw [← hw.out, World.drewN_drewN]⟩ | exact ⟨q, by rw [hw.out]⟩⟩
      · have hb1 : (m.1 == t) = false := by simpa using hmt
        have hk2 : Hid (∀ p ∈ E.take (k + 1), p.1 ≠ t) := Lib.hid (by
          have hkl : k < E.length := by rw [hn.out]; exact hlt
          rw [List.take_succ_eq_append_getElem hkl]
          intro p hp
          rcases List.mem_append.1 hp with hp | hp
          · exact hkt.out p hp
          · rw [List.mem_singleton.1 hp, (List.getElem?_eq_some_iff.1 hm).2]; exact hmt)
        replace hm := Lib.hid hm
        generalize m.1 = x at *
        clear hmt hkt
        go_wp2_with fail
        try go_quiet (fail)
        try go_wp2_with fail
        go_roundw
        case rel => exact ⟨k + 1, by omega, by go_num, hk2, by first | exact ⟨_, by rw [← hw.out, World.drewN_drewN]⟩ | exact ⟨q, by rw [hw.out]⟩⟩
        case measure => simp [RowKit.intOf]; omega
    · obtain rfl : k = n := by omega
      have hlk : look E t = none := by
        have h5 := hkt.out
        rw [List.take_of_length_le (by have := hn.out; omega)] at h5
        unfold look
        rw [List.find?_eq_none.2 (fun p hp => by simpa using h5 p hp)]; rfl
      replace hlk := Lib.hid hlk
      go_wp2_with fail
      go_ret
      exact ⟨_, rfl, by rw [hlk.out]; exact ⟨none, 0, rfl, by simp, by simp, fun i hi => by simp at hi⟩, q, rfl⟩
end Go.Proofs.Ytbepkhldgfmmbaa
