/-
  A Manifest whose parts may be, rising: it may be.
-/
import Derived.Test.YtppgachfobpgbaaMsg
set_option linter.unusedVariables false
set_option linter.unusedSimpArgs false
namespace Go.Proofs.Ytppgachfobpgbaa
open Go.RowKit Go Go.Lib

/-- a part that may be, of that trace and job -/
def PartR (w : World) (g i : Nat) (ag t j : Int) : Prop := ∃ (ct : Int) (sa : Option Addr) (sn sc : Nat) (lo : Bool) (xs : List Int),
  (∀ q u, ([.int .i64 ag, .int .i64 t, .int .i64 j, .int .i64 ct, .slice sa sn sc, .bool lo] : List Value)[q]? = some u → w.cell? ⟨g, i * 6 + q, none⟩ = some u) ∧ RdI w (.slice sa sn sc) xs ∧ pinB ag t j ct xs = true
theorem PartR.frN {w w' : World} {g i : Nat} {ag t j : Int} (h : PartR w g i ag t j) (f : Fr noB w w') : PartR w' g i ag t j := by
  obtain ⟨ct, sa, sn, sc, lo, xs, h1, h2, h3⟩ := h
  exact ⟨ct, sa, sn, sc, lo, xs, fun q u hq => f.cell (h1 q u hq) (fun q => q), h2.fr f (fun _ _ _ _ _ q => q), h3⟩
def prevL (L : List Int) (k : Nat) : Int := if k = 0 then -1 else L.getD (k - 1) 0
theorem prevL_lt {L : List Int} {k : Nat} (hs : L.Pairwise (· < ·)) (h0 : ∀ x ∈ L, 0 ≤ x) (hk : k < L.length) : prevL L k < L.getD k 0 := by
  unfold prevL
  have e : L.getD k 0 = L[k] := by simp [List.getD, hk]
  by_cases h : k = 0
  · rw [if_pos h, e]
    have := h0 _ (List.getElem_mem hk)
    omega
  · rw [if_neg h, e, show L.getD (k - 1) 0 = L[k - 1]'(by omega) by simp [List.getD, show k - 1 < L.length by omega]]
    exact List.pairwise_iff_getElem.1 hs (k - 1) k (by omega) hk (by omega)

set_option maxHeartbeats 4000000 in
set_option maxRecDepth 10000 in
theorem manifestY_any (g n cap : Nat) (t j c : Int) (L : List Int) (w : World) (hl : L.length = n) (hn0 : 0 < n) (hn4 : n ≤ 4) (hp : ∀ i, i < n → PartR w g i (L.getD i 0) t j) (hs : L.Pairwise (· < ·)) (h0 : ∀ x ∈ L, 0 ≤ x)
    (ht : inB 1 65535 t = true) (hj : inB 1 1073741824 j = true) (hc : inB 0 3 c = true) :
    Calls Try.prog 58 #[.agg #[.int .i64 t, .int .i64 j, .int .i64 c, .slice (some ⟨g, 0, none⟩) n cap]] w fun e w' => e = .returned (.bool true) ∧ Fr noB w w' := by
  have fX := (Fr.refl noB w).alloc (.cells #[.int .i64 t, .int .i64 j, .int .i64 c, .slice (some ⟨g, 0, none⟩) n cap] 62)
  have bX := Blk.new w 62 [.int .i64 t, .int .i64 j, .int .i64 c, .slice (some ⟨g, 0, none⟩) n cap]
  have h1 := isTrace_any t
  have h2 := isJob_any j
  have h3 := isClass_any c
  rw [ht] at h1
  rw [hj] at h2
  rw [hc] at h3
  have hps := fun w' (f : Fr noB w w') i hi => (hp i hi).frN f
  have hlt := fun k (hk : k < n) => prevL_lt (k := k) hs h0 (by omega)
  have hnz : ((n : Int) == 0) = false := by simp; omega
  have hnz2 : (n == 0) = false := by simp; omega
  replace hps := Lib.hid hps
  replace hlt := Lib.hid hlt
  replace hl := Lib.hid hl
  clear hp hs h0 ht hj hc
  obtain ⟨wx, hwx⟩ : ∃ wx, wx = w.alloc (.cells #[.int .i64 t, .int .i64 j, .int .i64 c, .slice (some ⟨g, 0, none⟩) n cap] 62) := ⟨_, rfl⟩
  go_enter Try.func58, Try.ntmps58
  go_wp2_with fail
  refine (h1 _).mono ?_
  rintro e w1 ⟨rfl, hw1⟩
  obtain rfl := hw1.symm
  go_wp2_with fail
  refine (h2 _).mono ?_
  rintro e w1 ⟨rfl, hw1⟩
  obtain rfl := hw1.symm
  go_wp2_with fail
  refine (h3 _).mono ?_
  rintro e w1 ⟨rfl, hw1⟩
  obtain rfl := hw1.symm
  go_wp2_with fail
  rw [← hwx] at fX bX ⊢
  clear hwx
  have hmg : ∀ w', Fr noB wx w' → w'.cell? ⟨w.heap.size, 0, none⟩ = some (.int .i64 t) ∧ w'.cell? ⟨w.heap.size, 1, none⟩ = some (.int .i64 j) := fun w' f => ⟨(f.blk bX (fun q => q)).cell 0, (f.blk bX (fun q => q)).cell 1⟩
  replace hmg := Lib.hid hmg
  clear bX
  generalize w.heap.size = mb at *
  go_loopw [3, 31] (fun l i wr => ∃ k : Nat, k ≤ n ∧ l = .int .i64 (prevL L k) ∧ i = .int .i64 k ∧ Fr noB wx wr) (fun _ i _ => n - (RowKit.intOf i).toNat)
  case atStart => exact ⟨0, by omega, rfl, rfl, Fr.refl _ _⟩
  case round =>
    obtain ⟨k, hk, rfl, rfl, fr⟩ := hrel
    have frw := fX.seqN fr
    by_cases hkn : k < n
    · obtain ⟨ct, sa, sn, sc, lo, xs, hc, hx, hb⟩ := hps.out _ frw k hkn
      have hlt' := hlt.out k hkn
      have hnext : Hid (prevL L (k + 1) = L.getD k 0) := Lib.hid (by unfold prevL; rw [if_neg (by omega)]; rfl)
      generalize L.getD k 0 = a at *
      generalize prevL L k = last at *
      have c0 : wr.cell? ⟨g, k * 6, none⟩ = some (.int .i64 a) := hc 0 _ rfl
      have c1 : wr.cell? ⟨g, k * 6 + 1, none⟩ = some (.int .i64 t) := hc 1 _ rfl
      have c2 : wr.cell? ⟨g, k * 6 + 2, none⟩ = some (.int .i64 j) := hc 2 _ rfl
      have c3 : wr.cell? ⟨g, k * 6 + 3, none⟩ = some (.int .i64 ct) := hc 3 _ rfl
      have c4 : wr.cell? ⟨g, k * 6 + 4, none⟩ = some (.slice sa sn sc) := hc 4 _ rfl
      have c5 : wr.cell? ⟨g, k * 6 + 5, none⟩ = some (.bool lo) := hc 5 _ rfl
      have fA := fr.alloc (.cells #[.int .i64 a, .int .i64 t, .int .i64 j, .int .i64 ct, .slice sa sn sc, .bool lo] 72)
      have bA := Blk.new wr 72 [.int .i64 a, .int .i64 t, .int .i64 j, .int .i64 ct, .slice sa sn sc, .bool lo]
      have hpa := pinned_any a t j ct (.slice sa sn sc) lo xs _ (hx.fr ((Fr.refl noB wr).alloc (.cells #[.int .i64 a, .int .i64 t, .int .i64 j, .int .i64 ct, .slice sa sn sc, .bool lo] 72)) (fun _ _ _ _ _ q => q))
      rw [hb] at hpa
      have hd : decide (a ≤ last) = false := by simpa using hlt'
      clear hc hx hb frw
      go_wp2_with fail
      refine hpa.mono ?_
      rintro e w1 ⟨rfl, f1⟩
      have g1 := fA.seqN f1
      obtain ⟨m0, m1⟩ := hmg.out _ g1
      have b1 := f1.blk bA (fun q => q)
      have d0 : w1.cell? ⟨wr.heap.size, 0, none⟩ = some (.int .i64 a) := b1.cell 0
      have d1 : w1.cell? ⟨wr.heap.size, 1, none⟩ = some (.int .i64 t) := b1.cell 1
      have d2 : w1.cell? ⟨wr.heap.size, 2, none⟩ = some (.int .i64 j) := b1.cell 2
      clear hpa c0 c1 c2 c3 c4 c5 fr fA f1 bA b1
      go_wp2_with fail
      go_roundw
      case rel => exact ⟨k + 1, by omega, by rw [hnext.out], by go_num, g1⟩
      case measure => simp [RowKit.intOf]; omega
    · obtain rfl : k = n := by omega
      go_wp2_with fail
      go_ret
      exact ⟨rfl, frw⟩
theorem rightY_any (g n cap : Nat) (t j c : Int) (L : List Int) (w : World) (hl : L.length = n) (hn0 : 0 < n) (hn4 : n ≤ 4) (hp : ∀ i, i < n → PartR w g i (L.getD i 0) t j) (hs : L.Pairwise (· < ·)) (h0 : ∀ x ∈ L, 0 ≤ x)
    (ht : inB 1 65535 t = true) (hj : inB 1 1073741824 j = true) (hc : inB 0 3 c = true) :
    Calls Try.prog 28 #[mManifest t j c (.slice (some ⟨g, 0, none⟩) n cap)] w fun e w' => e = .returned (.bool true) ∧ Fr noB w w' := by
  refine right_of ?_
  unfold mManifest
  have fX := (Fr.refl noB w).alloc (.cells #[.int .i64 t, .int .i64 j, .int .i64 c, .slice (some ⟨g, 0, none⟩) n cap] 62)
  have h1 := manifestY_any g n cap t j c L _ hl hn0 hn4 (fun i hi => (hp i hi).frN fX) hs h0 ht hj hc
  have q0 := as_Manifest_Trigger
  have q1 := as_Manifest_Pin
  have q2 := as_Manifest_Pinned
  have q3 := as_Manifest_Gone
  have q4 := as_Manifest_Collect
  have q5 := as_Manifest_Chunk
  have q6 := as_Manifest_Manifest
  replace h1 := Lib.hid h1
  clear hp hs h0 ht hj hc hl
  go_enter Try.func44, Try.ntmps44
  go_wp2_with fail
  refine h1.out.mono ?_
  rintro e w1 ⟨rfl, f1⟩
  have g1 := fX.seqN f1
  clear fX f1 h1
  go_wp2_with fail
  go_ret
  exact ⟨rfl, g1⟩
end Go.Proofs.Ytppgachfobpgbaa
