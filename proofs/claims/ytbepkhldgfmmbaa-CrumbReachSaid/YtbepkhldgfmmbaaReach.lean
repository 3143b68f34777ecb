/-
  Whom one comes to: the closure that meets one.
-/
import Derived.Test.YtbepkhldgfmmbaaCrumb
import Derived.Test.YtbepkhldgfmmbaaSortI
import Derived.Lib.Hide
set_option linter.unusedVariables false
set_option linter.unusedSimpArgs false
namespace Go.Proofs.Ytbepkhldgfmmbaa
open Go.RowKit Go Go.Maps Go.Lib

def mkU (_ : Unit) : Value := .agg #[]
theorem infoIntR : (Try.prog.info? 3).map (fun i => (i.zero, i.size, i.bytes)) = some (some (.int .i64 0), 1, 8) := by kernel_rfl
theorem mkU_inj : ∀ x y : Unit, mkU x = mkU y → x = y := fun _ _ _ => rfl
theorem zeroU (w : World) : (zeroValue 64).run Try.prog w = .ok (mkU ()) w := by kernel_rfl
def keysU (A : List Int) : List (Int × Unit) := A.map fun x => (x, ())
/-- one more is met, if there is such a one and it is new -/
def meetI (ln : Nat) (A : List Int) (i : Int) : List Int := if i ∈ A ∨ ¬ (0 ≤ i ∧ i < ln) then A else A ++ [i]

theorem look_keysU (A : List Int) (i : Int) : look (keysU A) i = if i ∈ A then some () else none := by
  induction A with
  | nil => rfl
  | cons a r ih =>
    by_cases h : a = i
    · subst h; simp [look, keysU]
    · have h2 : look (keysU (a :: r)) i = look (keysU r) i := by simp [look, keysU, List.find?_cons, h]
      rw [h2, ih]
      have : (i ∈ a :: r) ↔ i ∈ r := by
        rw [List.mem_cons]
        exact ⟨fun q => q.resolve_left (fun e => h e.symm), Or.inr⟩
      simp only [this]
theorem without_keysU (A : List Int) (i : Int) (h : i ∉ A) : without (keysU A) i = keysU A := by
  unfold without
  refine List.filter_eq_self.2 fun p hp => ?_
  obtain ⟨x, hx, rfl⟩ := List.mem_map.1 hp
  simp only [decide_eq_true_eq]
  exact fun e => h (e ▸ hx)
theorem keysU_perm (A : List Int) (i : Int) (h : i ∉ A) : (withKey (keysU A) i ()).Perm (keysU (A ++ [i])) := by
  unfold withKey
  rw [without_keysU A i h]
  unfold keysU
  rw [List.map_append]
  exact (List.perm_append_comm (l₁ := [(i, ())]))

structure Rs (w0 w : World) (nb mb qb bm B : Nat) (vn : Value) (A : List Int) (a : Option Addr) (c : Nat) : Prop where
  cm : w.cell? ⟨mb, 0, none⟩ = some (.map (some bm))
  cn : w.cell? ⟨nb, 0, none⟩ = some vn
  bq : Blk w qb 27 [.slice a A.length c]
  mp : Mp Try.prog 3 klI mkU w bm A.length (keysU A)
  own : w.ownsRow B 3 1 (.slice a A.length c) A.length (rowV A)
  fr : Fr (fun k => nb ≤ k) w0 w
  nmb : nb < mb
  nqb : nb < qb
  nbm : nb < bm
  mB : mb < B
  qB : qb < B
  bB : bm < B
  Bw : B ≤ w.heap.size
  d1 : mb ≠ qb
  d2 : bm ≠ qb
  d3 : mb ≠ bm
theorem Rs.frN {w0 w w' : World} {nb mb qb bm B : Nat} {vn : Value} {A : List Int} {a : Option Addr} {c : Nat} (h : Rs w0 w nb mb qb bm B vn A a c) (hf : Fr noB w w') : Rs w0 w' nb mb qb bm B vn A a c :=
  ⟨hf.cell h.cm (fun q => q), hf.cell h.cn (fun q => q), hf.blk h.bq (fun q => q), h.mp.fr hf (fun q => q), ownsRow_fr h.own hf (fun _ _ q => q), h.fr.seqN hf, h.nmb, h.nqb, h.nbm, h.mB, h.qB, h.bB, Nat.le_trans h.Bw hf.size, h.d1, h.d2, h.d3⟩

set_option maxHeartbeats 1000000 in
theorem cmeet_any (w0 w : World) (nb mb qb bm B ln cn : Nat) (na : Option Addr) (A : List Int) (a : Option Addr) (c : Nat) (i : Int) (h : Rs w0 w nb mb qb bm B (.slice na ln cn) A a c) (hi : okI i) (hA : A.length < 1000000) (hn : ln ≤ 1000000) :
    Calls Try.prog 26 #[.int .i64 i, .pointer (some ⟨mb, 0, none⟩), .pointer (some ⟨nb, 0, none⟩), .pointer (some ⟨qb, 0, none⟩)] w fun e w' => e = .returned (.tuple #[]) ∧ ∃ a' c', Rs w0 w' nb mb qb bm B (.slice na ln cn) (meetI ln A i) a' c' := by
  have c1 := h.cm
  have c2 := h.cn
  have c3 : w.cell? ⟨qb, 0, none⟩ = some (.slice a A.length c) := h.bq.cell 0
  have e1 : (w.alloc (.cells #[] 64)).cell? ⟨mb, 0, none⟩ = some (.map (some bm)) := (h.frN ((Fr.refl noB w).alloc _)).cm
  have e2 : (w.alloc (.cells #[] 64)).cell? ⟨nb, 0, none⟩ = some (.slice na ln cn) := (h.frN ((Fr.refl noB w).alloc _)).cn
  have hrun := h.mp.run_look_ok KI Try.underlying63 (zeroU w) mkU_inj i hi
  rw [look_keysU] at hrun
  unfold mkU kvI at hrun
  by_cases hm : i ∈ A
  · rw [if_pos hm] at hrun
    simp only [Option.isSome_some] at hrun
    have he : meetI ln A i = A := by unfold meetI; rw [if_pos (Or.inl hm)]
    rw [he]
    clear he hm
    replace h := Lib.hid h
    go_enter Try.func26, Try.ntmps26
    go_wp2_with fail
    go_end0
    exact ⟨rfl, _, _, h.out.frN ((Fr.refl noB w).alloc _)⟩
  · rw [if_neg hm] at hrun
    simp only [Option.isSome_none] at hrun
    by_cases hr : 0 ≤ i ∧ i < ln
    · have h1 : decide (0 ≤ i) = true := by simp; omega
      have h2 : decide (i < (ln : Int)) = true := by simp; omega
      have he : meetI ln A i = A ++ [i] := by unfold meetI; rw [if_neg (fun q => q.elim hm (fun z => z hr))]
      rw [he]
      obtain ⟨i0, hi0, hz0, hz1, hz2⟩ : ∃ i0, Try.prog.info? 3 = some i0 ∧ i0.zero = some (.int .i64 0) ∧ i0.size = 1 ∧ i0.bytes = 8 := by
        have hI := infoIntR
        cases hq : Try.prog.info? 3 with
        | none => rw [hq] at hI; cases hI
        | some k => rw [hq] at hI; simp at hI; exact ⟨k, rfl, hI⟩
      have fX : Fr noB w (w.alloc (.cells #[] 64)) := (Fr.refl noB w).alloc _
      have kX := h.frN fX
      have mX := kX.mp
      have n1 := h.nmb
      have n2 := h.nqb
      have n3 := h.nbm
      have n4 := h.mB
      have n5 := h.qB
      have n6 := h.bB
      have n7 := h.Bw
      have n8 := h.d1
      have n9 := h.d2
      have n10 := h.d3
      replace h := Lib.hid h
      clear he hr
      go_enter Try.func26, Try.ntmps26
      go_wp2_with (first
        | (at_mapUpdate; refine wpList_put_mp _ rfl _ _ _ 63 rfl KI Try.underlying63 mkU_inj mX (by unfold maxLen; omega) i () hi rfl rfl rfl ?_; intro w6 m6 f6; have c6 : w6.cell? ⟨qb, 0, none⟩ = some (.slice a A.length c) := (f6.blk kX.bq (fun q => n9 q.symm)).cell 0; have o6 := ownsRow_fr kX.own f6 (fun q hq z => by have := (kX.own.lt q hq).1; unfold onlyB at z; omega); have A6 : (w6.alloc (.cells #[.int .i64 i] 3)).ownsRow B 3 1 (.slice a A.length c) A.length (rowV A) := ownsRow_fr o6 ((Fr.refl noB w6).alloc _) (fun _ _ q => q); have hN := cell_new w6 (.int .i64 i) 3)
        | (at_builtin; go_must (refine wpList_append_at _ rfl (.tmp 28) (.tmp 30) 27 rfl B 3 i0 _ 1 8 Try.underlying27 hi0 hz0 hz1 hz2 rfl (by omega) _ A.length _ rfl A6 ⟨w6.heap.size, 0, none⟩ 1 1 [.int .i64 i] rfl rfl hN (one_int _ _) ?_ ?_ ?_ ?_))
        | fail)
      · unfold maxLen; omega
      · omega
      · have := f6.size; simp; have := kX.Bw; omega
      intro v' w7 o7 g7 _
      have hl : (A ++ [i]).length = A.length + 1 := by simp
      have f7 : Fr (fun k => B ≤ k) w6 w7 := ((Fr.refl (fun k => B ≤ k) w6).alloc (.cells #[.int .i64 i] 3)).grown g7 (fun q hq _ => (A6.lt q hq).1)
      obtain ⟨a', c', rfl⟩ := ownsRow_slice o7
      have b7 := f7.blk (f6.blk kX.bq (fun q => n9 q.symm)) (by omega)
      have z7 : w7.cell? ⟨qb, 0, none⟩ = some (.slice a A.length c) := b7.cell 0
      have y7 := b7.frozen 0
      have f8 : Fr (onlyB qb) w7 (w7.setCell ⟨qb, 0, none⟩ (.slice a' (A.length + 1) c')) := (Fr.refl _ _).store rfl
      have m7 : Mp Try.prog 3 klI mkU w7 bm (A.length + 1) (keysU (A ++ [i])) := (m6.perm (keysU_perm A i hm)).fr f7 (by omega)
      have o8 : w7.ownsRow B 3 1 (.slice a' (A.length + 1) c') (A.length + 1) (rowV (A ++ [i])) := by
        have : rowV (A ++ [i]) = rowV A ++ [.int .i64 i] := by simp [rowV]
        rw [this]; exact o7
      have hst : Rs w0 (w7.setCell ⟨qb, 0, none⟩ (.slice a' (A.length + 1) c')) nb mb qb bm B (.slice na ln cn) (A ++ [i]) a' c' := by
        refine ⟨f8.cell (f7.cell (f6.cell kX.cm n10) (by omega)) n8, f8.cell (f7.cell (f6.cell kX.cn (by unfold onlyB; omega)) (by omega)) (by unfold onlyB; omega), ?_, ?_, ?_, ?_, n1, n2, n3, n4, n5, n6, ?_, n8, n9, n10⟩
        · rw [hl]; exact b7.set 0 _
        · rw [hl]; exact m7.fr f8 n9
        · rw [hl]; exact ownsRow_fr o8 f8 (fun q hq z => by have := (o8.lt q hq).1; unfold onlyB at z; omega)
        · exact ((kX.fr.seqB f6 (fun _ => by omega)).trans f7 (fun _ _ q => q) (fun k _ q => by omega)).seqB f8 (fun _ => by omega)
        · have := f8.size; have := f7.size; have := f6.size; have := kX.Bw; omega
      clear A6 hN o6 c6 m6 kX mX o7 b7 g7 o8 m7 f7 f6 fX
      replace hst := Lib.hid hst
      go_wp2_with fail
      go_end0
      exact ⟨rfl, _, _, hst.out⟩
    · have he : meetI ln A i = A := by unfold meetI; rw [if_pos (Or.inr hr)]
      rw [he]
      clear he hm
      replace h := Lib.hid h
      by_cases h0 : 0 ≤ i
      · have h1 : decide (0 ≤ i) = true := by simp; omega
        have h2 : decide (i < (ln : Int)) = false := by simp; omega
        clear hr
        go_enter Try.func26, Try.ntmps26
        go_wp2_with fail
        go_end0
        exact ⟨rfl, _, _, h.out.frN ((Fr.refl noB w).alloc _)⟩
      · have h1 : decide (0 ≤ i) = false := by simp; omega
        clear hr
        go_enter Try.func26, Try.ntmps26
        go_wp2_with fail
        go_end0
        exact ⟨rfl, _, _, h.out.frN ((Fr.refl noB w).alloc _)⟩
end Go.Proofs.Ytbepkhldgfmmbaa
