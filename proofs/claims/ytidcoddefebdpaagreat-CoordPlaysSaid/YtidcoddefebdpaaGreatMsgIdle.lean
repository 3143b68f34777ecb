/-
  May a Chunk of no spans be, a Manifest of two parts? some answer, and nothing has turned.
-/
import Derived.Test.YtidcoddefebdpaaGreatMsg
set_option linter.unusedVariables false
set_option linter.unusedSimpArgs false
set_option maxRecDepth 100000
namespace Go.Proofs.YtidcoddefebdpaaGreat
open Go.RowKit Go Go.Lib

set_option maxHeartbeats 1000000 in
set_option maxRecDepth 10000 in
theorem chunk0_any (a t j : Int) (w : World) :
    Calls Tryz.prog 69 #[.agg #[.int .i64 a, .int .i64 t, .int .i64 j, .int .i64 0, .int .i64 1, .slice none 0 0]] w fun e w' => ∃ b, e = .returned (.bool b) ∧ Fr noB w w' := by
  have fX := (Fr.refl noB w).alloc (.cells #[.int .i64 a, .int .i64 t, .int .i64 j, .int .i64 0, .int .i64 1, .slice none 0 0] 98)
  have h1 := isAgent_any a
  have h2 := isTrace_any t
  have h3 := isJob_any j
  go_enter Tryz.func69, Tryz.ntmps69
  go_wp2_with fail
  refine (h1 _).mono ?_
  rintro e w1 ⟨rfl, hw1⟩
  obtain rfl := hw1.symm
  cases hb1 : inB 0 3 a with
  | false =>
    go_wp2_with fail
    go_ret
    exact ⟨false, rfl, fX⟩
  | true =>
    go_wp2_with fail
    refine (h2 _).mono ?_
    rintro e w1 ⟨rfl, hw1⟩
    obtain rfl := hw1.symm
    cases hb2 : inB 1 65535 t with
    | false =>
      go_wp2_with fail
      go_ret
      exact ⟨false, rfl, fX⟩
    | true =>
      go_wp2_with fail
      refine (h3 _).mono ?_
      rintro e w1 ⟨rfl, hw1⟩
      obtain rfl := hw1.symm
      cases hb3 : inB 1 1073741824 j with
      | false =>
        go_wp2_with fail
        go_ret
        exact ⟨false, rfl, fX⟩
      | true =>
        go_wp2_with fail
        go_loopw [50] (fun i wr => i = .int .i64 0 ∧ Fr noB w wr) (fun _ _ => 0)
        case atStart => exact ⟨rfl, fX⟩
        case round =>
          obtain ⟨rfl, fr⟩ := hrel
          go_wp2_with fail
          go_ret
          exact ⟨true, rfl, fr⟩
theorem mayBe_Chunk0 (a t j : Int) (w : World) :
    Calls Tryz.prog 52 #[mChunk a t j 0 1 (.slice none 0 0)] w fun e w' => ∃ b, e = .returned (.bool b) ∧ Fr noB w w' := by
  unfold mChunk
  have fX := (Fr.refl noB w).alloc (.cells #[.int .i64 a, .int .i64 t, .int .i64 j, .int .i64 0, .int .i64 1, .slice none 0 0] 98)
  have h1 := chunk0_any a t j
  have q0 := as_Chunk_Trigger
  have q1 := as_Chunk_Pin
  have q2 := as_Chunk_Pinned
  have q3 := as_Chunk_Gone
  have q4 := as_Chunk_Collect
  have q5 := as_Chunk_Chunk
  replace h1 := Lib.hid h1
  go_enter Tryz.func52, Tryz.ntmps52
  go_wp2_with fail
  refine (h1.out _).mono ?_
  rintro e w1 ⟨b, rfl, f1⟩
  have g1 := fX.seqN f1
  clear fX f1
  go_wp2_with fail
  go_ret
  exact ⟨b, rfl, g1⟩

/-- a row of two parts -/
def pcs (a t j : Int) (sa : Option Addr) (sn sc : Nat) (lo : Bool) (b : Int) : List Value := [.int .i64 a, .int .i64 t, .int .i64 j, .int .i64 1, .slice sa sn sc, .bool lo, .int .i64 b, .int .i64 t, .int .i64 j, .int .i64 1, .slice sa sn sc, .bool lo]
set_option maxHeartbeats 4000000 in
set_option maxRecDepth 10000 in
theorem manifest2_any (g : Nat) (a t j c b : Int) (sa : Option Addr) (sn sc : Nat) (lo : Bool) (xs : List Int) (w : World) (hb : Blk w g 67 (pcs a t j sa sn sc lo b)) (hx : RdI w (.slice sa sn sc) xs) :
    Calls Tryz.prog 70 #[.agg #[.int .i64 t, .int .i64 j, .int .i64 c, .slice (some ⟨g, 0, none⟩) 2 2]] w fun e w' => ∃ b, e = .returned (.bool b) ∧ Fr noB w w' := by
  have fX := (Fr.refl noB w).alloc (.cells #[.int .i64 t, .int .i64 j, .int .i64 c, .slice (some ⟨g, 0, none⟩) 2 2] 101)
  have bX := Blk.new w 101 [.int .i64 t, .int .i64 j, .int .i64 c, .slice (some ⟨g, 0, none⟩) 2 2]
  have h1 := isTrace_any t
  have h2 := isJob_any j
  have h3 := isClass_any c
  have hcs : ∀ w', Fr noB w w' → (∀ i, w'.cell? ⟨g, i, none⟩ = (pcs a t j sa sn sc lo b)[i]?) := fun w' f i => (f.blk hb (fun q => q)).cell i
  have hpa := fun (ag : Int) (w' : World) (f : Fr noB w w') => pinned_any ag t j 1 (.slice sa sn sc) lo xs w' (hx.fr f (fun _ _ _ _ _ q => q))
  replace hcs := Lib.hid hcs
  replace hpa := Lib.hid hpa
  clear hb hx
  obtain ⟨wx, hwx⟩ : ∃ wx, wx = w.alloc (.cells #[.int .i64 t, .int .i64 j, .int .i64 c, .slice (some ⟨g, 0, none⟩) 2 2] 101) := ⟨_, rfl⟩
  go_enter Tryz.func70, Tryz.ntmps70
  go_wp2_with fail
  refine (h1 _).mono ?_
  rintro e w1 ⟨rfl, hw1⟩
  obtain rfl := hw1.symm
  cases hb1 : inB 1 65535 t with
  | false =>
    go_wp2_with fail
    go_ret
    exact ⟨false, rfl, fX⟩
  | true =>
    go_wp2_with fail
    refine (h2 _).mono ?_
    rintro e w1 ⟨rfl, hw1⟩
    obtain rfl := hw1.symm
    cases hb2 : inB 1 1073741824 j with
    | false =>
      go_wp2_with fail
      go_ret
      exact ⟨false, rfl, fX⟩
    | true =>
      go_wp2_with fail
      refine (h3 _).mono ?_
      rintro e w1 ⟨rfl, hw1⟩
      obtain rfl := hw1.symm
      cases hb3 : inB 0 3 c with
      | false =>
        go_wp2_with fail
        go_ret
        exact ⟨false, rfl, fX⟩
      | true =>
        go_wp2_with fail
        rw [← hwx] at fX bX ⊢
        clear hwx
        have hmg : ∀ w', Fr noB wx w' → w'.cell? ⟨w.heap.size, 0, none⟩ = some (.int .i64 t) ∧ w'.cell? ⟨w.heap.size, 1, none⟩ = some (.int .i64 j) := fun w' f => ⟨(f.blk bX (fun q => q)).cell 0, (f.blk bX (fun q => q)).cell 1⟩
        replace hmg := Lib.hid hmg
        clear bX
        generalize w.heap.size = mb at *
        go_loopw [3, 31] (fun l i wr => ∃ last : Int, l = .int .i64 last ∧ (i = .int .i64 0 ∨ i = .int .i64 1 ∨ i = .int .i64 2) ∧ Fr noB wx wr) (fun _ i _ => 3 - (RowKit.intOf i).toNat)
        case atStart => exact ⟨-1, rfl, Or.inl rfl, Fr.refl _ _⟩
        case round =>
          obtain ⟨last, rfl, hi, fr⟩ := hrel
          have frw := fX.seqN fr
          have hc := hcs.out _ frw
          rcases hi with rfl | rfl | rfl
          · have c0 : wr.cell? ⟨g, 0, none⟩ = some (.int .i64 a) := hc 0
            have c1 : wr.cell? ⟨g, 1, none⟩ = some (.int .i64 t) := hc 1
            have c2 : wr.cell? ⟨g, 2, none⟩ = some (.int .i64 j) := hc 2
            have c3 : wr.cell? ⟨g, 3, none⟩ = some (.int .i64 1) := hc 3
            have c4 : wr.cell? ⟨g, 4, none⟩ = some (.slice sa sn sc) := hc 4
            have c5 : wr.cell? ⟨g, 5, none⟩ = some (.bool lo) := hc 5
            have fA := fr.alloc (.cells #[.int .i64 a, .int .i64 t, .int .i64 j, .int .i64 1, .slice sa sn sc, .bool lo] 67)
            have bA := Blk.new wr 67 [.int .i64 a, .int .i64 t, .int .i64 j, .int .i64 1, .slice sa sn sc, .bool lo]
            have hp := hpa.out a _ (fX.seqN fA)
            clear hc frw
            go_wp2_with fail
            refine hp.mono ?_
            rintro e w1 ⟨rfl, f1⟩
            have g1 := fA.seqN f1
            have hm := hmg.out _ g1
            obtain ⟨m0, m1⟩ := hm
            have b1 := f1.blk bA (fun q => q)
            have d0 : w1.cell? ⟨wr.heap.size, 0, none⟩ = some (.int .i64 a) := b1.cell 0
            have d1 : w1.cell? ⟨wr.heap.size, 1, none⟩ = some (.int .i64 t) := b1.cell 1
            have d2 : w1.cell? ⟨wr.heap.size, 2, none⟩ = some (.int .i64 j) := b1.cell 2
            clear hp c0 c1 c2 c3 c4 c5 fr fA f1 bA b1
            generalize pinB a t j 1 xs = pb
            cases pb
            · go_wp2_with fail
              go_ret
              exact ⟨false, rfl, fX.seqN g1⟩
            · by_cases hlt : a ≤ last
              · have hd : decide (a ≤ last) = true := by simpa using hlt
                go_wp2_with fail
                go_ret
                exact ⟨false, rfl, fX.seqN g1⟩
              · have hd : decide (a ≤ last) = false := by simpa using hlt
                go_wp2_with fail
                go_roundw
                case rel => exact ⟨a, rfl, Or.inr (Or.inl rfl), g1⟩
                case measure => simp [RowKit.intOf]
          · have c0 : wr.cell? ⟨g, 6, none⟩ = some (.int .i64 b) := hc 6
            have c1 : wr.cell? ⟨g, 7, none⟩ = some (.int .i64 t) := hc 7
            have c2 : wr.cell? ⟨g, 8, none⟩ = some (.int .i64 j) := hc 8
            have c3 : wr.cell? ⟨g, 9, none⟩ = some (.int .i64 1) := hc 9
            have c4 : wr.cell? ⟨g, 10, none⟩ = some (.slice sa sn sc) := hc 10
            have c5 : wr.cell? ⟨g, 11, none⟩ = some (.bool lo) := hc 11
            have fA := fr.alloc (.cells #[.int .i64 b, .int .i64 t, .int .i64 j, .int .i64 1, .slice sa sn sc, .bool lo] 67)
            have bA := Blk.new wr 67 [.int .i64 b, .int .i64 t, .int .i64 j, .int .i64 1, .slice sa sn sc, .bool lo]
            have hp := hpa.out b _ (fX.seqN fA)
            clear hc frw
            go_wp2_with fail
            refine hp.mono ?_
            rintro e w1 ⟨rfl, f1⟩
            have g1 := fA.seqN f1
            have hm := hmg.out _ g1
            obtain ⟨m0, m1⟩ := hm
            have b1 := f1.blk bA (fun q => q)
            have d0 : w1.cell? ⟨wr.heap.size, 0, none⟩ = some (.int .i64 b) := b1.cell 0
            have d1 : w1.cell? ⟨wr.heap.size, 1, none⟩ = some (.int .i64 t) := b1.cell 1
            have d2 : w1.cell? ⟨wr.heap.size, 2, none⟩ = some (.int .i64 j) := b1.cell 2
            clear hp c0 c1 c2 c3 c4 c5 fr fA f1 bA b1
            generalize pinB b t j 1 xs = pb
            cases pb
            · go_wp2_with fail
              go_ret
              exact ⟨false, rfl, fX.seqN g1⟩
            · by_cases hlt : b ≤ last
              · have hd : decide (b ≤ last) = true := by simpa using hlt
                go_wp2_with fail
                go_ret
                exact ⟨false, rfl, fX.seqN g1⟩
              · have hd : decide (b ≤ last) = false := by simpa using hlt
                go_wp2_with fail
                go_roundw
                case rel => exact ⟨b, rfl, Or.inr (Or.inr rfl), g1⟩
                case measure => simp [RowKit.intOf]
          · clear hc
            go_wp2_with fail
            go_ret
            exact ⟨true, rfl, frw⟩
theorem mayBe_Manifest2 (g : Nat) (a t j c b : Int) (sa : Option Addr) (sn sc : Nat) (lo : Bool) (xs : List Int) (w : World) (hb : Blk w g 67 (pcs a t j sa sn sc lo b)) (hx : RdI w (.slice sa sn sc) xs) :
    Calls Tryz.prog 52 #[mManifest t j c (.slice (some ⟨g, 0, none⟩) 2 2)] w fun e w' => ∃ b, e = .returned (.bool b) ∧ Fr noB w w' := by
  unfold mManifest
  have fX := (Fr.refl noB w).alloc (.cells #[.int .i64 t, .int .i64 j, .int .i64 c, .slice (some ⟨g, 0, none⟩) 2 2] 101)
  have h1 := manifest2_any g a t j c b sa sn sc lo xs _ (fX.blk hb (fun q => q)) (hx.fr fX (fun _ _ _ _ _ q => q))
  have q0 := as_Manifest_Trigger
  have q1 := as_Manifest_Pin
  have q2 := as_Manifest_Pinned
  have q3 := as_Manifest_Gone
  have q4 := as_Manifest_Collect
  have q5 := as_Manifest_Chunk
  have q6 := as_Manifest_Manifest
  replace h1 := Lib.hid h1
  clear hb hx
  go_enter Tryz.func52, Tryz.ntmps52
  go_wp2_with fail
  refine h1.out.mono ?_
  rintro e w1 ⟨b, rfl, f1⟩
  have g1 := fX.seqN f1
  clear fX f1 h1
  go_wp2_with fail
  go_ret
  exact ⟨b, rfl, g1⟩
end Go.Proofs.YtidcoddefebdpaaGreat
