/-
  A job: what it has of each agent.
-/
import Derived.Test.YtidcoddefebdpaaGreatAppend
import Derived.Test.YtidcoddefebdpaaGreatInts
import Derived.Deep.DeepMust
import Derived.Deep.OwnRows
import Derived.Deep.MidRow
set_option linter.unusedVariables false
set_option linter.unusedSimpArgs false
set_option maxRecDepth 100000
namespace Go.Proofs.YtidcoddefebdpaaGreat
open Go.RowKit Go Go.Lib

/-- what a Pinned tells: its numbers, its row of names (a slice's words), whether something was lost -/
structure Told where
  ag : Int
  tr : Int
  jb : Int
  ct : Int
  a : Option Addr
  n : Nat
  c : Nat
  lo : Bool
structure Vis where
  v : Bool
  p : Bool
  f : Bool
  t : Told
def toldV (t : Told) : Value := .agg #[.int .i64 t.ag, .int .i64 t.tr, .int .i64 t.jb, .int .i64 t.ct, .slice t.a t.n t.c, .bool t.lo]
def toldC (t : Told) : List Value := [.int .i64 t.ag, .int .i64 t.tr, .int .i64 t.jb, .int .i64 t.ct, .slice t.a t.n t.c, .bool t.lo]
def visV (v : Vis) : Value := .agg #[.bool v.v, .bool v.p, .bool v.f, .int .i64 v.t.ag, .int .i64 v.t.tr, .int .i64 v.t.jb, .int .i64 v.t.ct, .slice v.t.a v.t.n v.t.c, .bool v.t.lo]
def visC (v : Vis) : List Value := [.bool v.v, .bool v.p, .bool v.f, .int .i64 v.t.ag, .int .i64 v.t.tr, .int .i64 v.t.jb, .int .i64 v.t.ct, .slice v.t.a v.t.n v.t.c, .bool v.t.lo]
def told0 : Told := ⟨0, 0, 0, 0, none, 0, 0, false⟩
def vis0 : Vis := ⟨false, false, false, told0⟩

/-- a job's state -/
structure JS where
  id : Int
  tr : Int
  cl : Int
  ag : Nat
  v0 : Vis
  v1 : Vis
  v2 : Vis
  v3 : Vis
  ph : Int
  st : Bool
def JS.cs (j : JS) : List Value := visC j.v0 ++ visC j.v1 ++ visC j.v2 ++ visC j.v3
def JS.vis (j : JS) : List Vis := [j.v0, j.v1, j.v2, j.v3]
def JS.cells (j : JS) : List Value := [.int .i64 j.id, .int .i64 j.tr, .int .i64 j.cl, .int .i64 j.ag] ++ (visC j.v0 ++ visC j.v1 ++ visC j.v2 ++ visC j.v3) ++ [.int .i64 j.ph, .bool j.st]

/-- A job at block p. -/
def Jb (w : World) (p : Nat) (j : JS) : Prop := Blk w p 108 j.cells
theorem Jb.frN {w w' : World} {p : Nat} {j : JS} (h : Jb w p j) (hf : Fr noB w w') : Jb w' p j := hf.blk h (fun q => q)

theorem clo_pin (v : Vis) (w : World) : Calls Tryz.prog 44 #[visV v] w fun e w' => e = .returned (.bool (!v.p)) ∧ Fr noB w w' := by
  have hX := (Fr.refl noB w).alloc (.cells (visC v).toArray 105)
  unfold visV
  unfold visC at hX
  go_enter Tryz.func44, Tryz.ntmps44
  go_wp2_with fail
  go_ret
  first | exact ⟨rfl, hX⟩ | exact ⟨rfl, Fr.refl _ _⟩
theorem clo_free (v : Vis) (w : World) : Calls Tryz.prog 47 #[visV v] w fun e w' => e = .returned (.bool (!v.f)) ∧ Fr noB w w' := by
  have hX := (Fr.refl noB w).alloc (.cells (visC v).toArray 105)
  unfold visV
  unfold visC at hX
  go_enter Tryz.func47, Tryz.ntmps47
  go_wp2_with fail
  go_ret
  first | exact ⟨rfl, hX⟩ | exact ⟨rfl, Fr.refl _ _⟩
theorem clo_all (v : Vis) (w : World) : Calls Tryz.prog 63 #[visV v] w fun e w' => e = .returned (.bool (true)) ∧ Fr noB w w' := by
  have hX := (Fr.refl noB w).alloc (.cells (visC v).toArray 105)
  unfold visV
  unfold visC at hX
  go_enter Tryz.func63, Tryz.ntmps63
  go_wp2_with fail
  go_ret
  first | exact ⟨rfl, hX⟩ | exact ⟨rfl, Fr.refl _ _⟩
theorem clo_pin2 (v : Vis) (w : World) : Calls Tryz.prog 84 #[visV v] w fun e w' => e = .returned (.bool (!v.p)) ∧ Fr noB w w' := by
  have hX := (Fr.refl noB w).alloc (.cells (visC v).toArray 105)
  unfold visV
  unfold visC at hX
  go_enter Tryz.func84, Tryz.ntmps84
  go_wp2_with fail
  go_ret
  first | exact ⟨rfl, hX⟩ | exact ⟨rfl, Fr.refl _ _⟩
theorem clo_free2 (v : Vis) (w : World) : Calls Tryz.prog 94 #[visV v] w fun e w' => e = .returned (.bool (!v.f)) ∧ Fr noB w w' := by
  have hX := (Fr.refl noB w).alloc (.cells (visC v).toArray 105)
  unfold visV
  unfold visC at hX
  go_enter Tryz.func94, Tryz.ntmps94
  go_wp2_with fail
  go_ret
  first | exact ⟨rfl, hX⟩ | exact ⟨rfl, Fr.refl _ _⟩
/-- who of the visited ones is so, rising -/
def whichL (so : Vis → Bool) (j : JS) (k : Nat) : List Int := ((List.range k).filter fun i => ((j.vis.getD i vis0).v && so (j.vis.getD i vis0))).map Int.ofNat
theorem whichL_yes {so : Vis → Bool} {j : JS} {k : Nat} (h1 : (j.vis.getD k vis0).v = true) (h2 : so (j.vis.getD k vis0) = true) : whichL so j (k + 1) = whichL so j k ++ [(k : Int)] := by
  unfold whichL
  rw [List.range_succ, List.filter_append, List.map_append]
  simp only [List.filter, h1, h2]
  simp
theorem whichL_no {so : Vis → Bool} {j : JS} {k : Nat} (h : ((j.vis.getD k vis0).v && so (j.vis.getD k vis0)) = false) : whichL so j (k + 1) = whichL so j k := by
  unfold whichL
  rw [List.range_succ, List.filter_append, List.map_append]
  simp only [List.filter, h]
  simp
theorem whichL_len (so : Vis → Bool) (j : JS) (k : Nat) : (whichL so j k).length ≤ k := by
  unfold whichL
  rw [List.length_map]
  exact Nat.le_trans (List.length_filter_le _ _) (by simp)
def rowV (X : List Int) : List Value := X.map (Value.int .i64)
theorem infoIntR : (Tryz.prog.info? 3).map (fun i => (i.zero, i.size, i.bytes)) = some (some (.int .i64 0), 1, 8) := by kernel_rfl
theorem grow_int {w wr w1 : World} {B : Nat} {v v' : Value} {O : List Int} {y : Int} {o : Obj} (hB : Hid (w.heap.size = B)) (fr : Fr noB w wr) (hA : (wr.alloc o).ownsRow B 3 1 v O.length (rowV O))
    (o1 : w1.ownsRow B 3 1 v' (O.length + 1) (rowV O ++ [.int .i64 y])) (gr : (wr.alloc o).grownBy w1 v.ownBlock) :
    w1.ownsRow B 3 1 v' (O ++ [y]).length (rowV (O ++ [y])) ∧ Fr noB w w1 := by
  refine ⟨by rw [List.length_append]; simpa [rowV] using o1, (fr.alloc _).grown gr (fun q hq hlt => ?_)⟩
  have := (hA.lt q hq).1
  have := hB.out
  omega

theorem range_vis {w : World} {p : Nat} {j : JS} (h : Jb w p j) : w.rangeAt p 4 j.cs := fun i v hv => by
  rw [Blk.cell h (4 + i)]
  have hi : i < 36 := (List.getElem?_eq_some_iff.1 hv).1
  show ([.int .i64 j.id, .int .i64 j.tr, .int .i64 j.cl, .int .i64 j.ag] ++ (visC j.v0 ++ visC j.v1 ++ visC j.v2 ++ visC j.v3) ++ [.int .i64 j.ph, .bool j.st])[4 + i]? = some v
  rw [List.append_assoc, List.getElem?_append_right (by simp), List.getElem?_append_left (by simp [visC]; omega)]
  have hv' : (visC j.v0 ++ visC j.v1 ++ visC j.v2 ++ visC j.v3)[i]? = some v := hv
  simpa using hv'
theorem size_vis : (Tryz.prog.info? 106).map (·.size) = some 36 := by kernel_rfl
theorem size_vis1 : (Tryz.prog.info? 105).map (·.size) = some 9 := by kernel_rfl
theorem range_vis1 {w : World} {b : Nat} {v : Vis} (h : Blk w b 105 (visC v)) : w.rangeAt b 0 (visC v) := fun i u hu => by rw [Blk.cell h (0 + i), Nat.zero_add]; exact hu
theorem index_vis (j : JS) : ∀ k : Nat, k < 4 → ∀ w, (Instr.index 106 (.agg j.cs.toArray) (.int .i64 k)).run Tryz.prog w = .ok (visV (j.vis.getD k vis0)) w := by
  intro k hk w
  rcases (show k = 0 ∨ k = 1 ∨ k = 2 ∨ k = 3 by omega) with rfl | rfl | rfl | rfl
  · kernel_rfl
  · kernel_rfl
  · kernel_rfl
  · kernel_rfl

set_option maxHeartbeats 1000000 in
set_option maxRecDepth 10000 in
theorem which_pin (p : Nat) (j : JS) (w : World) (h : Jb w p j) :
    Calls Tryz.prog 43 #[.pointer (some ⟨p, 0, none⟩), .func (.func 44) #[] #[]] w fun e w' => ∃ v, e = .returned v ∧ w'.ownsRow w.heap.size 3 1 v (whichL (fun v => !v.p) j 4).length (rowV (whichL (fun v => !v.p) j 4)) ∧ Fr noB w w' := by
  obtain ⟨i0, hi0, hz0, hz1, hz2⟩ : ∃ i0, Tryz.prog.info? 3 = some i0 ∧ i0.zero = some (.int .i64 0) ∧ i0.size = 1 ∧ i0.bytes = 8 := by
    have hI := infoIntR
    cases hq : Tryz.prog.info? 3 with
    | none => rw [hq] at hI; cases hI
    | some k => rw [hq] at hI; simp at hI; exact ⟨k, rfl, hI⟩
  have hrg := range_vis h
  have hix := index_vis j
  have hcl : j.cs.length = 36 := rfl
  obtain ⟨CS, hCS⟩ : ∃ CS, CS = j.cs := ⟨_, rfl⟩
  rw [← hCS] at hrg hix hcl
  replace hix := Lib.hid hix
  have hsz : (Tryz.prog.info? 106).map (·.size) = some CS.length := by rw [hcl]; exact size_vis
  replace hsz := Lib.hid hsz
  replace hrg := Lib.hid hrg
  clear hCS hcl
  generalize hB : w.heap.size = B at *
  replace hB := Lib.hid hB
  go_enter Tryz.func43, Tryz.ntmps43
  go_wp2_with (first
    | (refine wpList_load_mid rfl 106 (.tmp 10) rfl p 4 rfl CS _ hrg.out Tryz.underlying106 rfl hsz.out ?_)
    | fail)
  go_loopw [5, 12] (fun ov i wr => ∃ k : Nat, k ≤ 4 ∧ i = .int .i64 k ∧ wr.ownsRow B 3 1 ov (whichL (fun v => !v.p) j k).length (rowV (whichL (fun v => !v.p) j k)) ∧ Fr noB w wr) (fun _ i _ => 4 - (RowKit.intOf i).toNat)
  case atStart => exact ⟨0, by omega, rfl, World.ownsRow_nil _ _ _ _, Fr.refl _ _⟩
  case round =>
    obtain ⟨k, hk, rfl, own, fr⟩ := hrel
    by_cases hlt : k < 4
    · have hltd : decide ((k : Int) < 4) = true := by simp; omega
      have hixk := hix.out k hlt
      have hyes := fun h1 h2 => whichL_yes (so := fun v => !v.p) (j := j) (k := k) h1 h2
      have hno := fun h1 => whichL_no (so := fun v => !v.p) (j := j) (k := k) h1
      have hlen := whichL_len (fun v => !v.p) j k
      generalize hvk : j.vis.getD k vis0 = vk at *
      generalize hO : whichL (fun v => !v.p) j k = O at *
      replace hO := Lib.hid hO
      replace hvk := Lib.hid hvk
      have hBw : B ≤ wr.heap.size := by rw [← hB.out]; exact fr.size
      have fX := fr.alloc (.cells (visC vk).toArray 105)
      have oX := ownsRow_fr own ((Fr.refl noB wr).alloc (.cells (visC vk).toArray 105)) (fun _ _ q => q)
      have hs := clo_pin vk
      have bX := Blk.new wr 105 (visC vk)
      unfold visV at hixk hs
      unfold visC at fX oX bX
      have hrX := range_vis1 bX
      have hszX : (Tryz.prog.info? 105).map (·.size) = some (visC vk).length := size_vis1
      unfold visC at hrX hszX
      replace hrX := Lib.hid hrX
      replace hszX := Lib.hid hszX
      cases hv : vk.v with
      | false =>
        rw [hv] at fX oX
        have hno1 := Lib.hid (hno (by rw [hv]; rfl))
        clear hyes hno hs
        go_wp2_with fail
        go_roundw
        case rel => exact ⟨k + 1, by omega, by go_num, by rw [hno1.out]; exact oX, fX⟩
        case measure => simp [RowKit.intOf]; omega
      | true =>
        rw [hv] at fX oX bX hrX hszX hs
        go_wp2_with (first
          | (refine wpList_load_mid rfl 105 (.tmp 7) rfl wr.heap.size 0 rfl _ _ hrX.out Tryz.underlying105 rfl hszX.out ?_)
          | fail)
        refine (hs _).mono ?_
        rintro e w2 ⟨rfl, f2⟩
        have o2 := ownsRow_fr oX f2 (fun _ _ q => q)
        have g2 := fX.seqN f2
        clear hs f2 fX oX bX hrX own fr
        have hBw2 : B ≤ w2.heap.size := by rw [← hB.out]; exact g2.size
        cases hsv : (!vk.p) with
        | false =>
          have hno1 := Lib.hid (hno (by rw [hsv]; simp))
          clear hyes hno
          go_wp2_with fail
          go_roundw
          case rel => exact ⟨k + 1, by omega, by go_num, by rw [hno1.out]; exact o2, g2⟩
          case measure => simp [RowKit.intOf]; omega
        | true =>
          have hyes1 := Lib.hid (hyes hv hsv)
          clear hyes hno
          have hA := ownsRow_fr o2 ((Fr.refl noB w2).alloc (.cells #[.int .i64 (k : Int)] 3)) (fun _ _ q => q)
          have hN := cell_new w2 (.int .i64 (k : Int)) 3
          go_wp2_with (first
            | (at_builtin; go_must (refine wpList_append_at _ rfl (.tmp 23) (.tmp 25) 36 rfl B 3 i0 _ 1 8 Tryz.underlying36 hi0 hz0 hz1 hz2 rfl (by omega) _ O.length _ rfl hA ⟨w2.heap.size, 0, none⟩ 1 1 [.int .i64 k] rfl rfl hN (one_int _ _) ?_ ?_ ?_ ?_))
            | fail)
          · unfold maxLen; omega
          · omega
          · have := ((Fr.refl noB w2).alloc (.cells #[.int .i64 (k : Int)] 3)).size; omega
          intro v' w3 o3 gr3 _
          obtain ⟨own3, fr3⟩ := grow_int hB g2 hA o3 gr3
          rw [← hyes1.out] at own3
          clear hA hN o3 gr3 o2 g2
          go_wp2_with fail
          go_roundw
          case rel => exact ⟨k + 1, by omega, by go_num, own3, fr3⟩
          case measure => simp [RowKit.intOf]; omega
    · obtain rfl : k = 4 := by omega
      go_wp2_with fail
      go_ret
      exact ⟨_, rfl, own, fr⟩
set_option maxHeartbeats 1000000 in
set_option maxRecDepth 10000 in
theorem which_free (p : Nat) (j : JS) (w : World) (h : Jb w p j) :
    Calls Tryz.prog 43 #[.pointer (some ⟨p, 0, none⟩), .func (.func 47) #[] #[]] w fun e w' => ∃ v, e = .returned v ∧ w'.ownsRow w.heap.size 3 1 v (whichL (fun v => !v.f) j 4).length (rowV (whichL (fun v => !v.f) j 4)) ∧ Fr noB w w' := by
  obtain ⟨i0, hi0, hz0, hz1, hz2⟩ : ∃ i0, Tryz.prog.info? 3 = some i0 ∧ i0.zero = some (.int .i64 0) ∧ i0.size = 1 ∧ i0.bytes = 8 := by
    have hI := infoIntR
    cases hq : Tryz.prog.info? 3 with
    | none => rw [hq] at hI; cases hI
    | some k => rw [hq] at hI; simp at hI; exact ⟨k, rfl, hI⟩
  have hrg := range_vis h
  have hix := index_vis j
  have hcl : j.cs.length = 36 := rfl
  obtain ⟨CS, hCS⟩ : ∃ CS, CS = j.cs := ⟨_, rfl⟩
  rw [← hCS] at hrg hix hcl
  replace hix := Lib.hid hix
  have hsz : (Tryz.prog.info? 106).map (·.size) = some CS.length := by rw [hcl]; exact size_vis
  replace hsz := Lib.hid hsz
  replace hrg := Lib.hid hrg
  clear hCS hcl
  generalize hB : w.heap.size = B at *
  replace hB := Lib.hid hB
  go_enter Tryz.func43, Tryz.ntmps43
  go_wp2_with (first
    | (refine wpList_load_mid rfl 106 (.tmp 10) rfl p 4 rfl CS _ hrg.out Tryz.underlying106 rfl hsz.out ?_)
    | fail)
  go_loopw [5, 12] (fun ov i wr => ∃ k : Nat, k ≤ 4 ∧ i = .int .i64 k ∧ wr.ownsRow B 3 1 ov (whichL (fun v => !v.f) j k).length (rowV (whichL (fun v => !v.f) j k)) ∧ Fr noB w wr) (fun _ i _ => 4 - (RowKit.intOf i).toNat)
  case atStart => exact ⟨0, by omega, rfl, World.ownsRow_nil _ _ _ _, Fr.refl _ _⟩
  case round =>
    obtain ⟨k, hk, rfl, own, fr⟩ := hrel
    by_cases hlt : k < 4
    · have hltd : decide ((k : Int) < 4) = true := by simp; omega
      have hixk := hix.out k hlt
      have hyes := fun h1 h2 => whichL_yes (so := fun v => !v.f) (j := j) (k := k) h1 h2
      have hno := fun h1 => whichL_no (so := fun v => !v.f) (j := j) (k := k) h1
      have hlen := whichL_len (fun v => !v.f) j k
      generalize hvk : j.vis.getD k vis0 = vk at *
      generalize hO : whichL (fun v => !v.f) j k = O at *
      replace hO := Lib.hid hO
      replace hvk := Lib.hid hvk
      have hBw : B ≤ wr.heap.size := by rw [← hB.out]; exact fr.size
      have fX := fr.alloc (.cells (visC vk).toArray 105)
      have oX := ownsRow_fr own ((Fr.refl noB wr).alloc (.cells (visC vk).toArray 105)) (fun _ _ q => q)
      have hs := clo_free vk
      have bX := Blk.new wr 105 (visC vk)
      unfold visV at hixk hs
      unfold visC at fX oX bX
      have hrX := range_vis1 bX
      have hszX : (Tryz.prog.info? 105).map (·.size) = some (visC vk).length := size_vis1
      unfold visC at hrX hszX
      replace hrX := Lib.hid hrX
      replace hszX := Lib.hid hszX
      cases hv : vk.v with
      | false =>
        rw [hv] at fX oX
        have hno1 := Lib.hid (hno (by rw [hv]; rfl))
        clear hyes hno hs
        go_wp2_with fail
        go_roundw
        case rel => exact ⟨k + 1, by omega, by go_num, by rw [hno1.out]; exact oX, fX⟩
        case measure => simp [RowKit.intOf]; omega
      | true =>
        rw [hv] at fX oX bX hrX hszX hs
        go_wp2_with (first
          | (refine wpList_load_mid rfl 105 (.tmp 7) rfl wr.heap.size 0 rfl _ _ hrX.out Tryz.underlying105 rfl hszX.out ?_)
          | fail)
        refine (hs _).mono ?_
        rintro e w2 ⟨rfl, f2⟩
        have o2 := ownsRow_fr oX f2 (fun _ _ q => q)
        have g2 := fX.seqN f2
        clear hs f2 fX oX bX hrX own fr
        have hBw2 : B ≤ w2.heap.size := by rw [← hB.out]; exact g2.size
        cases hsv : (!vk.f) with
        | false =>
          have hno1 := Lib.hid (hno (by rw [hsv]; simp))
          clear hyes hno
          go_wp2_with fail
          go_roundw
          case rel => exact ⟨k + 1, by omega, by go_num, by rw [hno1.out]; exact o2, g2⟩
          case measure => simp [RowKit.intOf]; omega
        | true =>
          have hyes1 := Lib.hid (hyes hv hsv)
          clear hyes hno
          have hA := ownsRow_fr o2 ((Fr.refl noB w2).alloc (.cells #[.int .i64 (k : Int)] 3)) (fun _ _ q => q)
          have hN := cell_new w2 (.int .i64 (k : Int)) 3
          go_wp2_with (first
            | (at_builtin; go_must (refine wpList_append_at _ rfl (.tmp 23) (.tmp 25) 36 rfl B 3 i0 _ 1 8 Tryz.underlying36 hi0 hz0 hz1 hz2 rfl (by omega) _ O.length _ rfl hA ⟨w2.heap.size, 0, none⟩ 1 1 [.int .i64 k] rfl rfl hN (one_int _ _) ?_ ?_ ?_ ?_))
            | fail)
          · unfold maxLen; omega
          · omega
          · have := ((Fr.refl noB w2).alloc (.cells #[.int .i64 (k : Int)] 3)).size; omega
          intro v' w3 o3 gr3 _
          obtain ⟨own3, fr3⟩ := grow_int hB g2 hA o3 gr3
          rw [← hyes1.out] at own3
          clear hA hN o3 gr3 o2 g2
          go_wp2_with fail
          go_roundw
          case rel => exact ⟨k + 1, by omega, by go_num, own3, fr3⟩
          case measure => simp [RowKit.intOf]; omega
    · obtain rfl : k = 4 := by omega
      go_wp2_with fail
      go_ret
      exact ⟨_, rfl, own, fr⟩
set_option maxHeartbeats 1000000 in
set_option maxRecDepth 10000 in
theorem which_all (p : Nat) (j : JS) (w : World) (h : Jb w p j) :
    Calls Tryz.prog 43 #[.pointer (some ⟨p, 0, none⟩), .func (.func 63) #[] #[]] w fun e w' => ∃ v, e = .returned v ∧ w'.ownsRow w.heap.size 3 1 v (whichL (fun v => true) j 4).length (rowV (whichL (fun v => true) j 4)) ∧ Fr noB w w' := by
  obtain ⟨i0, hi0, hz0, hz1, hz2⟩ : ∃ i0, Tryz.prog.info? 3 = some i0 ∧ i0.zero = some (.int .i64 0) ∧ i0.size = 1 ∧ i0.bytes = 8 := by
    have hI := infoIntR
    cases hq : Tryz.prog.info? 3 with
    | none => rw [hq] at hI; cases hI
    | some k => rw [hq] at hI; simp at hI; exact ⟨k, rfl, hI⟩
  have hrg := range_vis h
  have hix := index_vis j
  have hcl : j.cs.length = 36 := rfl
  obtain ⟨CS, hCS⟩ : ∃ CS, CS = j.cs := ⟨_, rfl⟩
  rw [← hCS] at hrg hix hcl
  replace hix := Lib.hid hix
  have hsz : (Tryz.prog.info? 106).map (·.size) = some CS.length := by rw [hcl]; exact size_vis
  replace hsz := Lib.hid hsz
  replace hrg := Lib.hid hrg
  clear hCS hcl
  generalize hB : w.heap.size = B at *
  replace hB := Lib.hid hB
  go_enter Tryz.func43, Tryz.ntmps43
  go_wp2_with (first
    | (refine wpList_load_mid rfl 106 (.tmp 10) rfl p 4 rfl CS _ hrg.out Tryz.underlying106 rfl hsz.out ?_)
    | fail)
  go_loopw [5, 12] (fun ov i wr => ∃ k : Nat, k ≤ 4 ∧ i = .int .i64 k ∧ wr.ownsRow B 3 1 ov (whichL (fun v => true) j k).length (rowV (whichL (fun v => true) j k)) ∧ Fr noB w wr) (fun _ i _ => 4 - (RowKit.intOf i).toNat)
  case atStart => exact ⟨0, by omega, rfl, World.ownsRow_nil _ _ _ _, Fr.refl _ _⟩
  case round =>
    obtain ⟨k, hk, rfl, own, fr⟩ := hrel
    by_cases hlt : k < 4
    · have hltd : decide ((k : Int) < 4) = true := by simp; omega
      have hixk := hix.out k hlt
      have hyes := fun h1 h2 => whichL_yes (so := fun v => true) (j := j) (k := k) h1 h2
      have hno := fun h1 => whichL_no (so := fun v => true) (j := j) (k := k) h1
      have hlen := whichL_len (fun v => true) j k
      generalize hvk : j.vis.getD k vis0 = vk at *
      generalize hO : whichL (fun v => true) j k = O at *
      replace hO := Lib.hid hO
      replace hvk := Lib.hid hvk
      have hBw : B ≤ wr.heap.size := by rw [← hB.out]; exact fr.size
      have fX := fr.alloc (.cells (visC vk).toArray 105)
      have oX := ownsRow_fr own ((Fr.refl noB wr).alloc (.cells (visC vk).toArray 105)) (fun _ _ q => q)
      have hs := clo_all vk
      have bX := Blk.new wr 105 (visC vk)
      unfold visV at hixk hs
      unfold visC at fX oX bX
      have hrX := range_vis1 bX
      have hszX : (Tryz.prog.info? 105).map (·.size) = some (visC vk).length := size_vis1
      unfold visC at hrX hszX
      replace hrX := Lib.hid hrX
      replace hszX := Lib.hid hszX
      cases hv : vk.v with
      | false =>
        rw [hv] at fX oX
        have hno1 := Lib.hid (hno (by rw [hv]; rfl))
        clear hyes hno hs
        go_wp2_with fail
        go_roundw
        case rel => exact ⟨k + 1, by omega, by go_num, by rw [hno1.out]; exact oX, fX⟩
        case measure => simp [RowKit.intOf]; omega
      | true =>
        rw [hv] at fX oX bX hrX hszX hs
        go_wp2_with (first
          | (refine wpList_load_mid rfl 105 (.tmp 7) rfl wr.heap.size 0 rfl _ _ hrX.out Tryz.underlying105 rfl hszX.out ?_)
          | fail)
        refine (hs _).mono ?_
        rintro e w2 ⟨rfl, f2⟩
        have o2 := ownsRow_fr oX f2 (fun _ _ q => q)
        have g2 := fX.seqN f2
        clear hs f2 fX oX bX hrX own fr
        have hBw2 : B ≤ w2.heap.size := by rw [← hB.out]; exact g2.size
        focus
          have hyes1 := Lib.hid (hyes hv (by trivial))
          clear hyes hno
          have hA := ownsRow_fr o2 ((Fr.refl noB w2).alloc (.cells #[.int .i64 (k : Int)] 3)) (fun _ _ q => q)
          have hN := cell_new w2 (.int .i64 (k : Int)) 3
          go_wp2_with (first
            | (at_builtin; go_must (refine wpList_append_at _ rfl (.tmp 23) (.tmp 25) 36 rfl B 3 i0 _ 1 8 Tryz.underlying36 hi0 hz0 hz1 hz2 rfl (by omega) _ O.length _ rfl hA ⟨w2.heap.size, 0, none⟩ 1 1 [.int .i64 k] rfl rfl hN (one_int _ _) ?_ ?_ ?_ ?_))
            | fail)
          · unfold maxLen; omega
          · omega
          · have := ((Fr.refl noB w2).alloc (.cells #[.int .i64 (k : Int)] 3)).size; omega
          intro v' w3 o3 gr3 _
          obtain ⟨own3, fr3⟩ := grow_int hB g2 hA o3 gr3
          rw [← hyes1.out] at own3
          clear hA hN o3 gr3 o2 g2
          go_wp2_with fail
          go_roundw
          case rel => exact ⟨k + 1, by omega, by go_num, own3, fr3⟩
          case measure => simp [RowKit.intOf]; omega
    · obtain rfl : k = 4 := by omega
      go_wp2_with fail
      go_ret
      exact ⟨_, rfl, own, fr⟩
set_option maxHeartbeats 1000000 in
set_option maxRecDepth 10000 in
theorem which_pin2 (p : Nat) (j : JS) (w : World) (h : Jb w p j) :
    Calls Tryz.prog 43 #[.pointer (some ⟨p, 0, none⟩), .func (.func 84) #[] #[]] w fun e w' => ∃ v, e = .returned v ∧ w'.ownsRow w.heap.size 3 1 v (whichL (fun v => !v.p) j 4).length (rowV (whichL (fun v => !v.p) j 4)) ∧ Fr noB w w' := by
  obtain ⟨i0, hi0, hz0, hz1, hz2⟩ : ∃ i0, Tryz.prog.info? 3 = some i0 ∧ i0.zero = some (.int .i64 0) ∧ i0.size = 1 ∧ i0.bytes = 8 := by
    have hI := infoIntR
    cases hq : Tryz.prog.info? 3 with
    | none => rw [hq] at hI; cases hI
    | some k => rw [hq] at hI; simp at hI; exact ⟨k, rfl, hI⟩
  have hrg := range_vis h
  have hix := index_vis j
  have hcl : j.cs.length = 36 := rfl
  obtain ⟨CS, hCS⟩ : ∃ CS, CS = j.cs := ⟨_, rfl⟩
  rw [← hCS] at hrg hix hcl
  replace hix := Lib.hid hix
  have hsz : (Tryz.prog.info? 106).map (·.size) = some CS.length := by rw [hcl]; exact size_vis
  replace hsz := Lib.hid hsz
  replace hrg := Lib.hid hrg
  clear hCS hcl
  generalize hB : w.heap.size = B at *
  replace hB := Lib.hid hB
  go_enter Tryz.func43, Tryz.ntmps43
  go_wp2_with (first
    | (refine wpList_load_mid rfl 106 (.tmp 10) rfl p 4 rfl CS _ hrg.out Tryz.underlying106 rfl hsz.out ?_)
    | fail)
  go_loopw [5, 12] (fun ov i wr => ∃ k : Nat, k ≤ 4 ∧ i = .int .i64 k ∧ wr.ownsRow B 3 1 ov (whichL (fun v => !v.p) j k).length (rowV (whichL (fun v => !v.p) j k)) ∧ Fr noB w wr) (fun _ i _ => 4 - (RowKit.intOf i).toNat)
  case atStart => exact ⟨0, by omega, rfl, World.ownsRow_nil _ _ _ _, Fr.refl _ _⟩
  case round =>
    obtain ⟨k, hk, rfl, own, fr⟩ := hrel
    by_cases hlt : k < 4
    · have hltd : decide ((k : Int) < 4) = true := by simp; omega
      have hixk := hix.out k hlt
      have hyes := fun h1 h2 => whichL_yes (so := fun v => !v.p) (j := j) (k := k) h1 h2
      have hno := fun h1 => whichL_no (so := fun v => !v.p) (j := j) (k := k) h1
      have hlen := whichL_len (fun v => !v.p) j k
      generalize hvk : j.vis.getD k vis0 = vk at *
      generalize hO : whichL (fun v => !v.p) j k = O at *
      replace hO := Lib.hid hO
      replace hvk := Lib.hid hvk
      have hBw : B ≤ wr.heap.size := by rw [← hB.out]; exact fr.size
      have fX := fr.alloc (.cells (visC vk).toArray 105)
      have oX := ownsRow_fr own ((Fr.refl noB wr).alloc (.cells (visC vk).toArray 105)) (fun _ _ q => q)
      have hs := clo_pin2 vk
      have bX := Blk.new wr 105 (visC vk)
      unfold visV at hixk hs
      unfold visC at fX oX bX
      have hrX := range_vis1 bX
      have hszX : (Tryz.prog.info? 105).map (·.size) = some (visC vk).length := size_vis1
      unfold visC at hrX hszX
      replace hrX := Lib.hid hrX
      replace hszX := Lib.hid hszX
      cases hv : vk.v with
      | false =>
        rw [hv] at fX oX
        have hno1 := Lib.hid (hno (by rw [hv]; rfl))
        clear hyes hno hs
        go_wp2_with fail
        go_roundw
        case rel => exact ⟨k + 1, by omega, by go_num, by rw [hno1.out]; exact oX, fX⟩
        case measure => simp [RowKit.intOf]; omega
      | true =>
        rw [hv] at fX oX bX hrX hszX hs
        go_wp2_with (first
          | (refine wpList_load_mid rfl 105 (.tmp 7) rfl wr.heap.size 0 rfl _ _ hrX.out Tryz.underlying105 rfl hszX.out ?_)
          | fail)
        refine (hs _).mono ?_
        rintro e w2 ⟨rfl, f2⟩
        have o2 := ownsRow_fr oX f2 (fun _ _ q => q)
        have g2 := fX.seqN f2
        clear hs f2 fX oX bX hrX own fr
        have hBw2 : B ≤ w2.heap.size := by rw [← hB.out]; exact g2.size
        cases hsv : (!vk.p) with
        | false =>
          have hno1 := Lib.hid (hno (by rw [hsv]; simp))
          clear hyes hno
          go_wp2_with fail
          go_roundw
          case rel => exact ⟨k + 1, by omega, by go_num, by rw [hno1.out]; exact o2, g2⟩
          case measure => simp [RowKit.intOf]; omega
        | true =>
          have hyes1 := Lib.hid (hyes hv hsv)
          clear hyes hno
          have hA := ownsRow_fr o2 ((Fr.refl noB w2).alloc (.cells #[.int .i64 (k : Int)] 3)) (fun _ _ q => q)
          have hN := cell_new w2 (.int .i64 (k : Int)) 3
          go_wp2_with (first
            | (at_builtin; go_must (refine wpList_append_at _ rfl (.tmp 23) (.tmp 25) 36 rfl B 3 i0 _ 1 8 Tryz.underlying36 hi0 hz0 hz1 hz2 rfl (by omega) _ O.length _ rfl hA ⟨w2.heap.size, 0, none⟩ 1 1 [.int .i64 k] rfl rfl hN (one_int _ _) ?_ ?_ ?_ ?_))
            | fail)
          · unfold maxLen; omega
          · omega
          · have := ((Fr.refl noB w2).alloc (.cells #[.int .i64 (k : Int)] 3)).size; omega
          intro v' w3 o3 gr3 _
          obtain ⟨own3, fr3⟩ := grow_int hB g2 hA o3 gr3
          rw [← hyes1.out] at own3
          clear hA hN o3 gr3 o2 g2
          go_wp2_with fail
          go_roundw
          case rel => exact ⟨k + 1, by omega, by go_num, own3, fr3⟩
          case measure => simp [RowKit.intOf]; omega
    · obtain rfl : k = 4 := by omega
      go_wp2_with fail
      go_ret
      exact ⟨_, rfl, own, fr⟩
set_option maxHeartbeats 1000000 in
set_option maxRecDepth 10000 in
theorem which_free2 (p : Nat) (j : JS) (w : World) (h : Jb w p j) :
    Calls Tryz.prog 43 #[.pointer (some ⟨p, 0, none⟩), .func (.func 94) #[] #[]] w fun e w' => ∃ v, e = .returned v ∧ w'.ownsRow w.heap.size 3 1 v (whichL (fun v => !v.f) j 4).length (rowV (whichL (fun v => !v.f) j 4)) ∧ Fr noB w w' := by
  obtain ⟨i0, hi0, hz0, hz1, hz2⟩ : ∃ i0, Tryz.prog.info? 3 = some i0 ∧ i0.zero = some (.int .i64 0) ∧ i0.size = 1 ∧ i0.bytes = 8 := by
    have hI := infoIntR
    cases hq : Tryz.prog.info? 3 with
    | none => rw [hq] at hI; cases hI
    | some k => rw [hq] at hI; simp at hI; exact ⟨k, rfl, hI⟩
  have hrg := range_vis h
  have hix := index_vis j
  have hcl : j.cs.length = 36 := rfl
  obtain ⟨CS, hCS⟩ : ∃ CS, CS = j.cs := ⟨_, rfl⟩
  rw [← hCS] at hrg hix hcl
  replace hix := Lib.hid hix
  have hsz : (Tryz.prog.info? 106).map (·.size) = some CS.length := by rw [hcl]; exact size_vis
  replace hsz := Lib.hid hsz
  replace hrg := Lib.hid hrg
  clear hCS hcl
  generalize hB : w.heap.size = B at *
  replace hB := Lib.hid hB
  go_enter Tryz.func43, Tryz.ntmps43
  go_wp2_with (first
    | (refine wpList_load_mid rfl 106 (.tmp 10) rfl p 4 rfl CS _ hrg.out Tryz.underlying106 rfl hsz.out ?_)
    | fail)
  go_loopw [5, 12] (fun ov i wr => ∃ k : Nat, k ≤ 4 ∧ i = .int .i64 k ∧ wr.ownsRow B 3 1 ov (whichL (fun v => !v.f) j k).length (rowV (whichL (fun v => !v.f) j k)) ∧ Fr noB w wr) (fun _ i _ => 4 - (RowKit.intOf i).toNat)
  case atStart => exact ⟨0, by omega, rfl, World.ownsRow_nil _ _ _ _, Fr.refl _ _⟩
  case round =>
    obtain ⟨k, hk, rfl, own, fr⟩ := hrel
    by_cases hlt : k < 4
    · have hltd : decide ((k : Int) < 4) = true := by simp; omega
      have hixk := hix.out k hlt
      have hyes := fun h1 h2 => whichL_yes (so := fun v => !v.f) (j := j) (k := k) h1 h2
      have hno := fun h1 => whichL_no (so := fun v => !v.f) (j := j) (k := k) h1
      have hlen := whichL_len (fun v => !v.f) j k
      generalize hvk : j.vis.getD k vis0 = vk at *
      generalize hO : whichL (fun v => !v.f) j k = O at *
      replace hO := Lib.hid hO
      replace hvk := Lib.hid hvk
      have hBw : B ≤ wr.heap.size := by rw [← hB.out]; exact fr.size
      have fX := fr.alloc (.cells (visC vk).toArray 105)
      have oX := ownsRow_fr own ((Fr.refl noB wr).alloc (.cells (visC vk).toArray 105)) (fun _ _ q => q)
      have hs := clo_free2 vk
      have bX := Blk.new wr 105 (visC vk)
      unfold visV at hixk hs
      unfold visC at fX oX bX
      have hrX := range_vis1 bX
      have hszX : (Tryz.prog.info? 105).map (·.size) = some (visC vk).length := size_vis1
      unfold visC at hrX hszX
      replace hrX := Lib.hid hrX
      replace hszX := Lib.hid hszX
      cases hv : vk.v with
      | false =>
        rw [hv] at fX oX
        have hno1 := Lib.hid (hno (by rw [hv]; rfl))
        clear hyes hno hs
        go_wp2_with fail
        go_roundw
        case rel => exact ⟨k + 1, by omega, by go_num, by rw [hno1.out]; exact oX, fX⟩
        case measure => simp [RowKit.intOf]; omega
      | true =>
        rw [hv] at fX oX bX hrX hszX hs
        go_wp2_with (first
          | (refine wpList_load_mid rfl 105 (.tmp 7) rfl wr.heap.size 0 rfl _ _ hrX.out Tryz.underlying105 rfl hszX.out ?_)
          | fail)
        refine (hs _).mono ?_
        rintro e w2 ⟨rfl, f2⟩
        have o2 := ownsRow_fr oX f2 (fun _ _ q => q)
        have g2 := fX.seqN f2
        clear hs f2 fX oX bX hrX own fr
        have hBw2 : B ≤ w2.heap.size := by rw [← hB.out]; exact g2.size
        cases hsv : (!vk.f) with
        | false =>
          have hno1 := Lib.hid (hno (by rw [hsv]; simp))
          clear hyes hno
          go_wp2_with fail
          go_roundw
          case rel => exact ⟨k + 1, by omega, by go_num, by rw [hno1.out]; exact o2, g2⟩
          case measure => simp [RowKit.intOf]; omega
        | true =>
          have hyes1 := Lib.hid (hyes hv hsv)
          clear hyes hno
          have hA := ownsRow_fr o2 ((Fr.refl noB w2).alloc (.cells #[.int .i64 (k : Int)] 3)) (fun _ _ q => q)
          have hN := cell_new w2 (.int .i64 (k : Int)) 3
          go_wp2_with (first
            | (at_builtin; go_must (refine wpList_append_at _ rfl (.tmp 23) (.tmp 25) 36 rfl B 3 i0 _ 1 8 Tryz.underlying36 hi0 hz0 hz1 hz2 rfl (by omega) _ O.length _ rfl hA ⟨w2.heap.size, 0, none⟩ 1 1 [.int .i64 k] rfl rfl hN (one_int _ _) ?_ ?_ ?_ ?_))
            | fail)
          · unfold maxLen; omega
          · omega
          · have := ((Fr.refl noB w2).alloc (.cells #[.int .i64 (k : Int)] 3)).size; omega
          intro v' w3 o3 gr3 _
          obtain ⟨own3, fr3⟩ := grow_int hB g2 hA o3 gr3
          rw [← hyes1.out] at own3
          clear hA hN o3 gr3 o2 g2
          go_wp2_with fail
          go_roundw
          case rel => exact ⟨k + 1, by omega, by go_num, own3, fr3⟩
          case measure => simp [RowKit.intOf]; omega
    · obtain rfl : k = 4 := by omega
      go_wp2_with fail
      go_ret
      exact ⟨_, rfl, own, fr⟩
end Go.Proofs.YtidcoddefebdpaaGreat
