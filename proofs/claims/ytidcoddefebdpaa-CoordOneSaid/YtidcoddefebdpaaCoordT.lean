/-
  The coordinator: a message that is no trigger.
-/
import Derived.Test.YtidcoddefebdpaaCoordB
import Derived.Test.YtidcoddefebdpaaShelf2
set_option linter.unusedVariables false
set_option linter.unusedSimpArgs false
set_option maxRecDepth 100000
set_option maxRecDepth 100000
namespace Go.Proofs.Ytidcoddefebdpaa
open Go.RowKit Go Go.Maps Go.Lib

theorem equal_any (v u : Value) (xs ys : List Int) (w : World) (hv : RdI w v xs) (hu : RdI w u ys) (hl : xs.length ≤ 1000000) (hl2 : ys.length ≤ 1000000) :
    Calls Try.prog 30 #[v, u] w fun e w' => e = .returned (.bool (decide (xs = ys))) ∧ Fr noB w w' := by
  obtain ⟨a, c, rfl, h1, h2, h3⟩ := hv
  obtain ⟨b, d, rfl, k1, k2, k3⟩ := hu
  by_cases hlen : xs.length = ys.length
  · by_cases h0 : xs.length = 0
    · have hx : xs = [] := List.eq_nil_of_length_eq_zero h0
      have hy : ys = [] := List.eq_nil_of_length_eq_zero (by omega)
      subst hx hy
      refine (Try.slices_Equal_int_empty a b c _ d w (by simp)).mono ?_
      rintro e w' ⟨rfl, rfl⟩
      exact ⟨rfl, Fr.refl _ _⟩
    · obtain ⟨g, o, rfl, _⟩ := h3 0 (by omega)
      obtain ⟨g2, o2, rfl, _⟩ := k3 0 (by omega)
      have hc1 : ∀ j, j < xs.length → w.cell? ⟨g, o + j, none⟩ = some (.int .i64 (xs.getD j 0)) := fun j hj => by
        obtain ⟨g', o', e2, h4⟩ := h3 j hj
        cases e2
        exact h4
      have hc2 : ∀ j, j < ys.length → w.cell? ⟨g2, o2 + j, none⟩ = some (.int .i64 (ys.getD j 0)) := fun j hj => by
        obtain ⟨g', o', e2, h4⟩ := k3 j hj
        cases e2
        exact h4
      refine (Try.slices_Equal_int g o xs.length c g2 o2 ys.length d xs ys w (Nat.le_refl _) (Nat.le_refl _) (by omega) (by omega) hc1 hc2).mono ?_
      rintro e w' ⟨rfl, q, rfl⟩
      rw [List.take_length, List.take_length]
      refine ⟨?_, (Fr.refl _ _).drewN _⟩
      congr 2
      rw [Bool.eq_iff_iff]
      simp
  · refine (Try.slices_Equal_int_lens a b _ c _ d w hlen).mono ?_
    rintro e w' ⟨rfl, rfl⟩
    refine ⟨?_, Fr.refl _ _⟩
    rw [decide_eq_false (fun e => hlen (by rw [e]))]
theorem tj_ok {m : Ms} (h : m.ok = true) : 1 ≤ m.tj.1 ∧ m.tj.1 ≤ 65535 := by
  cases m with
  | trigger a t c => have := bT_facts h; exact ⟨this.2.2.1, this.2.2.2⟩
  | pinned p =>
    have h' : pinB p.a p.t p.j p.n p.cr = true := h
    unfold pinB inB at h'
    simp only [Bool.and_eq_true, decide_eq_true_eq] at h'
    show 1 ≤ p.t ∧ p.t ≤ 65535
    omega
  | chunk a t j i n sp =>
    have h' : chunkB a t j i n sp = true := h
    unfold chunkB inB at h'
    simp only [Bool.and_eq_true, decide_eq_true_eq] at h'
    exact h'.2.1
  | manifest t j c ps =>
    have h' : manB t j c ps = true := h
    unfold manB inB at h'
    simp only [Bool.and_eq_true, decide_eq_true_eq] at h'
    exact h'.1
  | pin t j =>
    have h' : bPin t j = true := h
    unfold bPin inB at h'
    simp only [Bool.and_eq_true, decide_eq_true_eq] at h'
    show 1 ≤ t ∧ t ≤ 65535
    omega
  | gone a t j =>
    have h' : bGone a t j = true := h
    unfold bGone inB at h'
    simp only [Bool.and_eq_true, decide_eq_true_eq] at h'
    show 1 ≤ t ∧ t ≤ 65535
    omega
  | collect t j =>
    have h' : bCollect t j = true := h
    unfold bCollect inB at h'
    simp only [Bool.and_eq_true, decide_eq_true_eq] at h'
    show 1 ≤ t ∧ t ≤ 65535
    omega
  | stored t j =>
    have h' : bStored t j = true := h
    unfold bStored inB at h'
    simp only [Bool.and_eq_true, decide_eq_true_eq] at h'
    show 1 ≤ t ∧ t ≤ 65535
    omega
  | unpin t j =>
    have h' : bUnpin t j = true := h
    unfold bUnpin inB at h'
    simp only [Bool.and_eq_true, decide_eq_true_eq] at h'
    show 1 ≤ t ∧ t ≤ 65535
    omega
  | unpinned a t j =>
    have h' : bUnpinned a t j = true := h
    unfold bUnpinned inB at h'
    simp only [Bool.and_eq_true, decide_eq_true_eq] at h'
    show 1 ≤ t ∧ t ≤ 65535
    omega
theorem p_inj {C : CS} (h : C.wf) {x e : JE} (hx : x ∈ C.Q) (he : e ∈ C.Q) (hp : x.p = e.p) : x = e := by
  have key : ∀ (Q : List JE), (Q.map (·.p)).Nodup → x ∈ Q → e ∈ Q → x = e := by
    intro Q
    induction Q with
    | nil => intro _ hx; cases hx
    | cons y r ih =>
      intro hn h1 h2
      rw [List.map_cons, List.nodup_cons] at hn
      rcases List.mem_cons.1 h1 with rfl | k1
      · rcases List.mem_cons.1 h2 with rfl | k2
        · rfl
        · exact absurd (show x.p ∈ r.map (·.p) from List.mem_map.2 ⟨e, k2, hp.symm⟩) hn.1
      · rcases List.mem_cons.1 h2 with rfl | k2
        · exact absurd (show e.p ∈ r.map (·.p) from List.mem_map.2 ⟨x, k1, hp⟩) hn.1
        · exact ih hn.2 k1 k2
  exact key C.Q h.np hx he
def upU (U : Nat → Prop) (a b : World) : Nat → Prop := fun g => (U g ∨ a.heap.size ≤ g) ∧ g < b.heap.size
theorem put_mem {C : CS} {e' x : JE} (h : x ∈ (C.put e').Q) : x = e' ∨ (x ∈ C.Q ∧ x.j.tr ≠ e'.j.tr) := by
  unfold CS.put at h
  obtain ⟨y, hy, rfl⟩ := List.mem_map.1 h
  split
  · exact Or.inl rfl
  · rename_i hq; exact Or.inr ⟨hy, hq⟩
/-- a job heard a message -/
theorem Co.heard {w w' : World} {c bm : Nat} {U : Nat → Prop} {C : CS} (h : Co w c bm U C) {e : JE} (he : e ∈ C.Q) (m : Ms) (hj : JG w' e.p (fun g => U g ∨ w.heap.size ≤ g) (e.j.hearM m) (e.j.hearXM m e.X)) (f : Fr (onlyB e.p) w w') :
    Co w' c bm (upU U w w') (C.put (e.hear m)) := by
  have ht := hearM_tr e.j m
  have hlt := h.lt
  have hcl := hlt c (Or.inl (Or.inl rfl))
  have hbl := hlt bm (Or.inl (Or.inr (Or.inl rfl)))
  have hap := h.ap.2 e he
  have hf : ∀ x ∈ C.Q, x.j.tr = (e.hear m).j.tr → x = e := fun x hx h2 => tr_inj h.wf hx he (h2.trans ht.1)
  have hkv : (C.put (e.hear m)).Q.map JE.kv = C.Q.map JE.kv := put_map C (e.hear m) JE.kv (fun x hx h2 => by
    rw [hf x hx h2]
    unfold JE.kv
    rw [show (e.hear m).j.tr = e.j.tr from ht.1]
    rfl)
  have hlen : (C.put (e.hear m)).Q.length = C.Q.length := by unfold CS.put; rw [List.length_map]
  refine ⟨f.blk h.blk (fun q => hap.1 q.symm), ?_, fun x hx => ?_, ⟨fun q => ?_, fun q => ?_, fun x hx q => ?_⟩, ⟨h.ap.1, fun x hx => ?_⟩, fun g hg => hg.2, h.wf.put he rfl rfl ht.1 ht.2 (hearM_inv (h.wf.inv e he) m)⟩
  · rw [hkv, hlen]
    exact h.mp.fr f (fun q => hap.2 q.symm)
  · rcases put_mem hx with rfl | ⟨hx, hne⟩
    · exact hj.monoL (fun g hg q => ⟨q, hg⟩)
    · have hp : x.p ≠ e.p := fun q => by
        have := p_inj h.wf hx he q
        subst this
        exact hne ht.1.symm
      exact ((h.jobs x hx).fr f hp (fun g hg q => h.nu.2.2 e he (by unfold onlyB at q; rw [← q]; exact hg))).monoL (fun g hg q => ⟨Or.inl q, hg⟩)
  · rcases q.1 with q | q
    · exact h.nu.1 q
    · omega
  · rcases q.1 with q | q
    · exact h.nu.2.1 q
    · omega
  · have hx' : ∃ y ∈ C.Q, x.p = y.p := by
      rcases put_mem hx with rfl | ⟨hx, _⟩
      · exact ⟨e, he, rfl⟩
      · exact ⟨x, hx, rfl⟩
    obtain ⟨y, hy, hxy⟩ := hx'
    rw [hxy] at q
    rcases q.1 with q | q
    · exact h.nu.2.2 y hy q
    · have := hlt y.p (Or.inl (Or.inr (Or.inr ⟨y, hy, rfl⟩))); omega
  · rcases put_mem hx with rfl | ⟨hx, _⟩
    · exact hap
    · exact h.ap.2 x hx
theorem put_drop (C : CS) (e' : JE) : (C.put e').drop e'.j.tr = C.drop e'.j.tr := by
  unfold CS.put CS.drop
  congr 1
  dsimp only
  rw [List.filter_map]
  have : C.Q.filter ((fun x : JE => decide (x.j.tr ≠ e'.j.tr)) ∘ fun x => if x.j.tr = e'.j.tr then e' else x) = C.Q.filter (fun x => decide (x.j.tr ≠ e'.j.tr)) := by
    refine List.filter_congr fun x _ => ?_
    show decide ((if x.j.tr = e'.j.tr then e' else x).j.tr ≠ e'.j.tr) = _
    split
    · rename_i hq; simp [hq]
    · rfl
  rw [this]
  refine (List.map_congr_left fun x hx => ?_).trans (List.map_id _)
  have := (List.mem_filter.1 hx).2
  simp only [ne_eq, decide_eq_true_eq] at this
  rw [if_neg this]; rfl
/-- a job's entry is deleted -/
theorem Co.dropped {w w' : World} {c bm : Nat} {U : Nat → Prop} {C : CS} (h : Co w c bm U C) {t : Int} {n : Nat} (hm : Mp Try.prog 3 klI mkN w' bm n (without (C.Q.map JE.kv) t)) (f : Fr (onlyB bm) w w') : Co w' c bm U (C.drop t) := by
  have hs : (C.drop t).Q.Sublist C.Q := List.filter_sublist
  have hsub : ∀ x ∈ (C.drop t).Q, x ∈ C.Q := fun x hx => hs.subset hx
  have hkv : without (C.Q.map JE.kv) t = (C.drop t).Q.map JE.kv := by
    unfold without CS.drop
    rw [List.filter_map]
    rfl
  rw [hkv] at hm
  exact ⟨f.blk h.blk (fun q => h.ap.1 q), hm.tight (by rw [List.length_map]; exact Nat.le_refl _), fun x hx => (h.jobs x (hsub x hx)).fr f (fun q => (h.ap.2 x (hsub x hx)).2 q) (fun g hg q => h.nu.2.1 (by unfold onlyB at q; rw [← q]; exact hg)), ⟨h.nu.1, h.nu.2.1, fun x hx => h.nu.2.2 x (hsub x hx)⟩, ⟨h.ap.1, fun x hx => h.ap.2 x (hsub x hx)⟩, fun g hg => Nat.lt_of_lt_of_le (h.ul g hg) f.size, h.wf.drop t⟩
end Go.Proofs.Ytidcoddefebdpaa
