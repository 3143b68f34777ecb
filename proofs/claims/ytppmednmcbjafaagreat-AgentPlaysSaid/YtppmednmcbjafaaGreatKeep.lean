/-
  A keeper: its pool, what is pinned, lost and gone; the calls that only look, or touch one map.
-/
import Derived.Test.YtppmednmcbjafaaGreatPoolP
import Derived.Test.YtppmednmcbjafaaGreatHashL
import Derived.Test.YtppmednmcbjafaaGreatInts
set_option linter.unusedVariables false
set_option linter.unusedSimpArgs false
set_option maxRecDepth 100000
namespace Go.Proofs.YtppmednmcbjafaaGreat
open Go.RowKit Go Go.Maps Go.Lib

theorem KI : KeyLit Tryz.prog 3 kvI klI okI := keyLit_int Tryz.underlying3
def mkU (_ : Unit) : Value := .agg #[]
theorem mkU_inj : ∀ x y : Unit, mkU x = mkU y → x = y := fun _ _ _ => rfl
theorem zeroU (w : World) : (zeroValue 177).run Tryz.prog w = .ok (mkU ()) w := by kernel_rfl
def keysU (A : List Int) : List (Int × Unit) := A.map fun x => (x, ())
theorem look_keysU (A : List Int) (i : Int) : look (keysU A) i = if i ∈ A then some () else none := by
  induction A with
  | nil => rfl
  | cons a r ih =>
    by_cases h : a = i
    · subst h; simp [look, keysU]
    · have h2 : look (keysU (a :: r)) i = look (keysU r) i := by simp [look, keysU, List.find?_cons, h]
      rw [h2, ih]
      have : (i ∈ a :: r) ↔ i ∈ r := by
        rw [List.mem_cons]
        exact ⟨fun q => q.resolve_left (fun e => h e.symm), Or.inr⟩
      simp only [this]
/-- a list without a number -/
def outL (A : List Int) (i : Int) : List Int := A.filter fun x => decide (x ≠ i)
theorem without_keysU (A : List Int) (i : Int) : without (keysU A) i = keysU (outL A i) := by
  unfold without keysU outL
  rw [List.filter_map]
  rfl
theorem withKey_perm (A : List Int) (i : Int) : (withKey (keysU A) i ()).Perm (keysU (outL A i ++ [i])) := by
  unfold withKey
  rw [without_keysU]
  unfold keysU
  rw [List.map_append]
  exact (List.perm_append_comm (l₁ := [(i, ())]))
theorem outL_no {A : List Int} {i : Int} (h : i ∉ A) : outL A i = A := by
  unfold outL
  refine List.filter_eq_self.2 fun x hx => ?_
  simp only [decide_eq_true_eq]
  exact fun e => h (e ▸ hx)
theorem outL_len (A : List Int) (i : Int) : (outL A i).length ≤ A.length := List.length_filter_le _ _
theorem outL_mem {A : List Int} {i j : Int} : j ∈ outL A i ↔ j ∈ A ∧ j ≠ i := by unfold outL; simp

structure KS where
  sd : Int
  P : TP
  pins : List Int
  loss : List Int
  gone : List Int

/-- what a keeper's calls may write -/
def kpS (k g bp bl : Nat) (wa : Option Addr) : Nat → Prop := fun q => q = k ∨ q = g ∨ q = bp ∨ q = bl ∨ ∃ o, wa = some ⟨q, o, none⟩
structure Kp (w : World) (k g bp bl B N : Nat) (wa : Option Addr) (wc : Nat) (K : KS) : Prop where
  blk : Blk w k 153 [.pointer (some ⟨g, 0, none⟩), .int .u64 K.sd, .map (some bp), .map (some bl), .slice wa K.gone.length wc]
  row : w.ownsRow B 3 1 (.slice wa K.gone.length wc) K.gone.length (rowV K.gone)
  po : Po w g N K.P
  mp : Mp Tryz.prog 3 klI mkU w bp K.pins.length (keysU K.pins)
  ml : Mp Tryz.prog 3 klI mkU w bl K.loss.length (keysU K.loss)
  kB : k < B
  gB : g < B
  pB : bp < B
  lB : bl < B
  Bw : B ≤ w.heap.size
  kg : k ≠ g
  kp : k ≠ bp
  kl : k ≠ bl
  gp : g ≠ bp
  gl : g ≠ bl
  pl : bp ≠ bl
  sd : U64 K.sd
  lost : ∀ t ∈ K.loss, txt K.P t = [] ∧ 1 ≤ t ∧ t ≤ 65535
theorem own_addr {w : World} {B e n c : Nat} {wa : Option Addr} {xs : List Value} (h : w.ownsRow B e 1 (.slice wa n c) n xs) {q o : Nat} (he : wa = some ⟨q, o, none⟩) : B ≤ q ∧ q < w.heap.size ∧ (Value.slice wa n c).ownBlock = some q := by
  subst he
  have := h.lt q rfl
  exact ⟨this.1, this.2, rfl⟩
theorem own_block {w : World} {B e n c q : Nat} {wa : Option Addr} {xs : List Value} (h : w.ownsRow B e 1 (.slice wa n c) n xs) (hq : (Value.slice wa n c).ownBlock = some q) : ∃ o, wa = some ⟨q, o, none⟩ := by
  rcases h.2 with ⟨h1, _⟩ | ⟨g, cap, cur, h1, _⟩
  · rw [h1] at hq; cases hq
  · rw [h1] at hq; cases hq
    injection h1 with h1
    exact ⟨0, h1⟩
theorem Kp.fr {w w' : World} {k g bp bl B N wc : Nat} {wa : Option Addr} {K : KS} {S : Nat → Prop} (h : Kp w k g bp bl B N wa wc K) (hf : Fr S w w') (hS : ∀ q, kpS k g bp bl wa q → ¬ S q) : Kp w' k g bp bl B N wa wc K :=
  ⟨hf.blk h.blk (hS _ (Or.inl rfl)), ownsRow_fr h.row hf (fun q hq => hS _ (Or.inr (Or.inr (Or.inr (Or.inr (own_block h.row hq)))))), h.po.fr hf (hS _ (Or.inr (Or.inl rfl))),
   h.mp.fr hf (hS _ (Or.inr (Or.inr (Or.inl rfl)))), h.ml.fr hf (hS _ (Or.inr (Or.inr (Or.inr (Or.inl rfl))))), h.kB, h.gB, h.pB, h.lB, Nat.le_trans h.Bw hf.size, h.kg, h.kp, h.kl, h.gp, h.gl, h.pl, h.sd, h.lost⟩
theorem Kp.frN {w w' : World} {k g bp bl B N wc : Nat} {wa : Option Addr} {K : KS} (h : Kp w k g bp bl B N wa wc K) (hf : Fr noB w w') : Kp w' k g bp bl B N wa wc K := h.fr hf (fun _ _ q => q)
theorem Kp.low {w : World} {k g bp bl B N wc : Nat} {wa : Option Addr} {K : KS} (h : Kp w k g bp bl B N wa wc K) {q : Nat} (hq : kpS k g bp bl wa q) : q < w.heap.size := by
  have h1 := h.Bw
  have h2 := h.kB
  have h3 := h.gB
  have h4 := h.pB
  have h5 := h.lB
  rcases hq with e | e | e | e | ⟨o, e⟩
  · omega
  · omega
  · omega
  · omega
  · exact (own_addr h.row e).2.1
/-- what a call makes of a keeper -/
def KTo (w w' : World) (k g bp bl B N : Nat) (wa : Option Addr) (K' : KS) : Prop :=
  ∃ wa' wc', Kp w' k g bp bl B N wa' wc' K' ∧ Fr (kpS k g bp bl wa) w w' ∧ ∀ q, q < w.heap.size → kpS k g bp bl wa' q → kpS k g bp bl wa q

theorem knew_no (n sd : Int) (w : World) (h : n < 1 ∨ 16 < n) : Calls Tryz.prog 41 #[.int .i64 n, .int .u64 sd] w fun e w' => e = .returned (.tuple #[.pointer none, .int .i64 1]) ∧ w' = w := by
  have hp := pnew_no n w h
  clear h
  go_enter Tryz.func41, Tryz.ntmps41
  go_wp2_with fail
  refine hp.mono ?_
  rintro e w1 ⟨rfl, hw1⟩
  obtain rfl := hw1.symm
  clear hp hw1
  go_wp2_with fail
  go_ret2
  exact ⟨rfl, rfl⟩
theorem knew_any (n : Nat) (sd : Int) (w : World) (h0 : 1 ≤ n) (h1 : n ≤ 16) (hsd : U64 sd) : Calls Tryz.prog 41 #[.int .i64 n, .int .u64 sd] w fun e w' => ∃ k g bp bl B, e = .returned (.tuple #[.pointer (some ⟨k, 0, none⟩), .int .i64 0]) ∧ Kp w' k g bp bl B n none 0 ⟨sd, [], [], [], []⟩ ∧ Fr noB w w' ∧ w.heap.size ≤ k ∧ w.heap.size ≤ g ∧ w.heap.size ≤ bp ∧ w.heap.size ≤ bl := by
  have hp := pnew_p n w h0 h1
  have hmm := @run_makeMap Tryz.prog
  go_enter Tryz.func41, Tryz.ntmps41
  go_wp2_with fail
  refine hp.mono ?_
  rintro e w1 ⟨rfl, po, f1⟩
  have hg := po.lt
  have hs1 := f1.size
  clear hp
  go_wp2_with fail
  go_ret2
  have fa := (Fr.refl noB w1).alloc (.map #[] 0)
  have fb := (Fr.refl noB (w1.alloc (.map #[] 0))).alloc (.map #[] 0)
  have fc := (Fr.refl noB ((w1.alloc (.map #[] 0)).alloc (.map #[] 0))).alloc (.cells #[.pointer (some ⟨w.heap.size, 0, none⟩), .int .u64 sd, .map (some w1.heap.size), .map (some (w1.heap.size + 1)), .slice none 0 0] 153)
  have s1 : (w1.alloc (.map #[] 0)).heap.size = w1.heap.size + 1 := by simp
  have s2 : ((w1.alloc (.map #[] 0)).alloc (.map #[] 0)).heap.size = w1.heap.size + 2 := by simp
  have m1 : Mp Tryz.prog 3 klI mkU (w1.alloc (.map #[] 0)) w1.heap.size 0 [] := Mp.made w1
  have m2 : Mp Tryz.prog 3 klI mkU ((w1.alloc (.map #[] 0)).alloc (.map #[] 0)) (w1.alloc (.map #[] 0)).heap.size 0 [] := Mp.made _
  rw [s1] at m2
  have b3 := Blk.new ((w1.alloc (.map #[] 0)).alloc (.map #[] 0)) 153 [.pointer (some ⟨w.heap.size, 0, none⟩), .int .u64 sd, .map (some w1.heap.size), .map (some (w1.heap.size + 1)), .slice none 0 0]
  rw [s2] at b3
  exact ⟨w1.heap.size + 2, w.heap.size, w1.heap.size, w1.heap.size + 1, w1.heap.size + 3, rfl,
    ⟨b3, World.ownsRow_nil _ _ _ _, ((po.frN fa).frN fb).frN fc, (m1.fr fb (fun q => q)).fr fc (fun q => q), m2.fr fc (fun q => q), by omega, by omega, by omega, by omega, by simp, by omega, by omega, by omega, by omega, by omega, by omega, hsd, fun t ht => by simp at ht⟩,
    f1.seqN (fa.seqN (fb.seqN fc)), by omega, by omega, by omega, by omega⟩

section
variable (k g bp bl B N wc : Nat) (wa : Option Addr) (K : KS) (t : Int) (w : World)
theorem kpinned_nil : Calls Tryz.prog 83 #[.pointer none, .int .i64 t] w fun e w' => e = .returned (.bool false) ∧ w' = w := by
  go_enter Tryz.func83, Tryz.ntmps83
  go_wp2
  go_ret
  exact ⟨rfl, rfl⟩
theorem klost_nil : Calls Tryz.prog 78 #[.pointer none, .int .i64 t] w fun e w' => e = .returned (.bool false) ∧ w' = w := by
  go_enter Tryz.func78, Tryz.ntmps78
  go_wp2
  go_ret
  exact ⟨rfl, rfl⟩
theorem kpinned_any (h : Kp w k g bp bl B N wa wc K) (ht : okI t) : Calls Tryz.prog 83 #[.pointer (some ⟨k, 0, none⟩), .int .i64 t] w fun e w' => e = .returned (.bool (decide (t ∈ K.pins))) ∧ Fr noB w w' := by
  have c2 : w.cell? ⟨k, 2, none⟩ = some (.map (some bp)) := h.blk.cell 2
  have hrun := h.mp.run_look_ok KI Tryz.underlying151 (zeroU w) mkU_inj t ht
  rw [look_keysU] at hrun
  unfold mkU kvI at hrun
  have hb : (if t ∈ K.pins then some () else none : Option Unit).isSome = decide (t ∈ K.pins) := by
    by_cases q : t ∈ K.pins <;> simp [q]
  rw [hb] at hrun
  generalize decide (t ∈ K.pins) = b at *
  clear hb h
  go_enter Tryz.func83, Tryz.ntmps83
  go_wp2
  go_ret
  exact ⟨rfl, (Fr.refl _ _).alloc _⟩
theorem klost_any (h : Kp w k g bp bl B N wa wc K) (ht : okI t) : Calls Tryz.prog 78 #[.pointer (some ⟨k, 0, none⟩), .int .i64 t] w fun e w' => e = .returned (.bool (decide (t ∈ K.loss))) ∧ Fr noB w w' := by
  have c2 : w.cell? ⟨k, 3, none⟩ = some (.map (some bl)) := h.blk.cell 3
  have hrun := h.ml.run_look_ok KI Tryz.underlying151 (zeroU w) mkU_inj t ht
  rw [look_keysU] at hrun
  unfold mkU kvI at hrun
  have hb : (if t ∈ K.loss then some () else none : Option Unit).isSome = decide (t ∈ K.loss) := by
    by_cases q : t ∈ K.loss <;> simp [q]
  rw [hb] at hrun
  generalize decide (t ∈ K.loss) = b at *
  clear hb h
  go_enter Tryz.func78, Tryz.ntmps78
  go_wp2
  go_ret
  exact ⟨rfl, (Fr.refl _ _).alloc _⟩
end
end Go.Proofs.YtppmednmcbjafaaGreat
