/-
  msg: any message's fields read; Read.
-/
import Derived.Test.YtbmafogjmdilkaaGreatDoorMsCut
set_option linter.unusedVariables false
set_option linter.unusedSimpArgs false
set_option maxRecDepth 100000
set_option maxRecDepth 100000
namespace Go.Proofs.YtbmafogjmdilkaaGreatDoor
open Go.RowKit Go Go.Lib

/-! ### a chunk's text is short enough -/
theorem hexF_six : ∀ (k f n : Nat), n < 16 ^ (k + 1) → k ≤ f → (hexF f n).length ≤ k + 1
  | 0, 0, n, _, _ => by simp [hexF]
  | 0, f + 1, n, h, _ => by simp only [hexF]; rw [if_pos (by omega)]; simp
  | k + 1, 0, n, _, h2 => by omega
  | k + 1, f + 1, n, h, h2 => by
    simp only [hexF]
    split
    · simp
    · have := hexF_six k f (n / 16) (by rw [Nat.pow_succ] at h; omega) (by omega)
      rw [List.length_append]
      simp
      omega
theorem qC_nine (c : List UInt8) (h : c ≠ []) : (qC c).length ≤ 9 * c.length := by
  have hp := List.length_pos_iff.2 h
  have h2 : (hexL (dec c).1).length ≤ 6 := hexF_six 5 8 _ (by have := dec_rune c; omega) (by omega)
  unfold qC
  split
  · first | omega | (simp; omega)
  split
  · first | omega | (simp; omega)
  split
  · omega
  · rw [List.length_append, List.length_append]
    simp
    omega
theorem quote_nine (l : List UInt8) : (quoteL l).length ≤ 9 * l.length := by
  induction l using chunks_ind with
  | h0 => simp [quote_nil]
  | h1 l h ih =>
    rw [quote_cons l h, List.length_append]
    have h1 := dec_pos l
    have h2 := dec_le l h
    have h3 := qC_nine (l.take (dec l).2) (by intro e; have := congrArg List.length e; simp only [List.length_take, List.length_nil] at this; omega)
    rw [List.length_take] at h3
    rw [List.length_drop] at ih
    omega
theorem span_nine (s : Sp) (h : rightS s = true) : (spanF s).length ≤ 444 := by
  obtain ⟨_, _, _, _, h5⟩ := (right_iff s).1 h
  unfold spanF
  have h1 := (num_len s.t.toNat).2
  have h2 := (num_len s.q.toNat).2
  have h3 := text_len s.x.data.toList
  have h4 := quote_nine s.x.data.toList
  rw [size_len] at h4
  rw [List.length_append, List.length_append]
  omega
theorem spans_nine (L : List Sp) (h : ∀ s ∈ L, rightS s = true) : (L.flatMap spanF).length ≤ 444 * L.length := by
  induction L with
  | nil => simp
  | cons s L ih =>
    have h1 := span_nine s (h s (by simp))
    have h2 := ih (fun x hx => h x (by simp [hx]))
    rw [List.flatMap_cons, List.length_append, List.length_cons]
    omega
theorem printL_1024 {sp : List Sp} (h : sp.length ≤ 2) (hr : ∀ s ∈ sp, rightS s = true) : (printL sp).length ≤ 1024 := by
  unfold printL
  split
  · have h2 := (num_len sp.length).2
    have h3 := spans_nine sp hr
    rw [List.length_append]
    omega
  · simp

theorem body_eq (m : Ms) (T : List UInt8) : m.body ++ T = numL m.k.toNat ++ (m.fl ++ T) := by
  unfold Ms.body
  rw [nums_cons, nums_nil, List.append_nil, List.append_assoc]
theorem fl_Trigger (a t c : Int) (T : List UInt8) : Ms.fl (.trigger a t c) ++ T = numL a.toNat ++ (numL t.toNat ++ (numL c.toNat ++ T)) := by
  simp only [Ms.fl, nums_cons, nums_nil, List.append_nil, List.append_assoc]
theorem fl_Pin (t j : Int) (T : List UInt8) : Ms.fl (.pin t j) ++ T = numL t.toNat ++ (numL j.toNat ++ T) := by
  simp only [Ms.fl, nums_cons, nums_nil, List.append_nil, List.append_assoc]
theorem fl_Gone (a t j : Int) (T : List UInt8) : Ms.fl (.gone a t j) ++ T = numL a.toNat ++ (numL t.toNat ++ (numL j.toNat ++ T)) := by
  simp only [Ms.fl, nums_cons, nums_nil, List.append_nil, List.append_assoc]
theorem fl_Collect (t j : Int) (T : List UInt8) : Ms.fl (.collect t j) ++ T = numL t.toNat ++ (numL j.toNat ++ T) := by
  simp only [Ms.fl, nums_cons, nums_nil, List.append_nil, List.append_assoc]
theorem fl_Stored (t j : Int) (T : List UInt8) : Ms.fl (.stored t j) ++ T = numL t.toNat ++ (numL j.toNat ++ T) := by
  simp only [Ms.fl, nums_cons, nums_nil, List.append_nil, List.append_assoc]
theorem fl_Unpin (t j : Int) (T : List UInt8) : Ms.fl (.unpin t j) ++ T = numL t.toNat ++ (numL j.toNat ++ T) := by
  simp only [Ms.fl, nums_cons, nums_nil, List.append_nil, List.append_assoc]
theorem fl_Unpinned (a t j : Int) (T : List UInt8) : Ms.fl (.unpinned a t j) ++ T = numL a.toNat ++ (numL t.toNat ++ (numL j.toNat ++ T)) := by
  simp only [Ms.fl, nums_cons, nums_nil, List.append_nil, List.append_assoc]
theorem fl_Chunk (a t j i n : Int) (sp : List Sp) (T : List UInt8) : Ms.fl (.chunk a t j i n sp) ++ T = numL a.toNat ++ (numL t.toNat ++ (numL j.toNat ++ (numL i.toNat ++ (numL n.toNat ++ (textL (printL sp) ++ T))))) := by
  simp only [Ms.fl, nums_cons, nums_nil, List.append_nil, List.append_assoc]
theorem fl_Manifest (t j c : Int) (ps : List Pn) (T : List UInt8) : Ms.fl (.manifest t j c ps) ++ T = numL t.toNat ++ (numL j.toNat ++ (numL c.toNat ++ (numL ((ps.length : Int)).toNat ++ (ps.flatMap pinT ++ T)))) := by
  simp only [Ms.fl, nums_cons, nums_nil, List.append_nil, List.append_assoc]
theorem kind_lim (m : Ms) : 1 ≤ m.k ∧ m.k ≤ 10 := by cases m <;> simp [Ms.k]
theorem chunk_lims {a t j i n : Int} {sp : List Sp} (h : chunkB a t j i n sp = true) : (0 ≤ a ∧ a ≤ 3) ∧ (1 ≤ t ∧ t ≤ 65535) ∧ (1 ≤ j ∧ j ≤ 1073741824) ∧ (0 ≤ i ∧ i ≤ 500) ∧ (1 ≤ n ∧ n ≤ 500) := by
  unfold chunkB at h
  simp only [Bool.and_eq_true, decide_eq_true_eq] at h
  obtain ⟨h1, h2, h3, h4, h5, h6, h7, h8, h9⟩ := h
  exact ⟨inB_lim h1, inB_lim h2, inB_lim h3, ⟨h6, by omega⟩, ⟨h4, h5⟩⟩
theorem man_lims {t j c : Int} {ps : List Pn} (h : manB t j c ps = true) : (1 ≤ t ∧ t ≤ 65535) ∧ (1 ≤ j ∧ j ≤ 1073741824) ∧ (0 ≤ c ∧ c ≤ 3) := by
  unfold manB at h
  simp only [Bool.and_eq_true, decide_eq_true_eq] at h
  obtain ⟨h1, h2, h3, h4, h5⟩ := h
  exact ⟨inB_lim h1, inB_lim h2, inB_lim h3⟩
theorem ct_chunk {a t j i n : Int} {sp : List Sp} {T : List UInt8} {st : Option (List UInt8)} (hok : chunkB a t j i n sp = true) (h : Ct st (Ms.fl (.chunk a t j i n sp) ++ T)) : Ct (n5S st) (textL (printL sp) ++ T) := by
  obtain ⟨l1, l2, l3, l4, l5⟩ := chunk_lims hok
  rw [fl_Chunk] at h
  exact ct_n (ct_n (ct_n (ct_n (ct_n h (by omega) (by omega)) (by omega) (by omega)) (by omega) (by omega)) (by omega) (by omega)) (by omega) (by omega)
theorem full_chunk {a t j i n : Int} {sp : List Sp} {T : List UInt8} (hok : chunkB a t j i n sp = true) : n5S (some (Ms.fl (.chunk a t j i n sp) ++ T)) = some (textL (printL sp) ++ T) ∧ nV (some (Ms.fl (.chunk a t j i n sp) ++ T)) = a ∧ nV (nS (some (Ms.fl (.chunk a t j i n sp) ++ T))) = t ∧ nV (nS (nS (some (Ms.fl (.chunk a t j i n sp) ++ T)))) = j ∧ nV (nS (nS (nS (some (Ms.fl (.chunk a t j i n sp) ++ T))))) = i ∧ nV (nS (nS (nS (nS (some (Ms.fl (.chunk a t j i n sp) ++ T)))))) = n := by
  obtain ⟨l1, l2, l3, l4, l5⟩ := chunk_lims hok
  rw [fl_Chunk]
  unfold n5S
  have e1 := full_n (a := a) (numL t.toNat ++ (numL j.toNat ++ (numL i.toNat ++ (numL n.toNat ++ (textL (printL sp) ++ T))))) (by omega) (by omega)
  have e2 := full_n (a := t) (numL j.toNat ++ (numL i.toNat ++ (numL n.toNat ++ (textL (printL sp) ++ T)))) (by omega) (by omega)
  have e3 := full_n (a := j) (numL i.toNat ++ (numL n.toNat ++ (textL (printL sp) ++ T))) (by omega) (by omega)
  have e4 := full_n (a := i) (numL n.toNat ++ (textL (printL sp) ++ T)) (by omega) (by omega)
  have e5 := full_n (a := n) (textL (printL sp) ++ T) (by omega) (by omega)
  rw [e1.2, e2.2, e3.2, e4.2, e5.2]
  exact ⟨rfl, e1.1, e2.1, e3.1, e4.1, e5.1⟩
theorem full_man {t j c : Int} {ps : List Pn} {T : List UInt8} (hok : manB t j c ps = true) : manR (some (Ms.fl (.manifest t j c ps) ++ T)) = ((t, j, c, ps), some T) := by
  obtain ⟨l1, l2, l3⟩ := man_lims hok
  obtain ⟨_, h3, _, h4⟩ := man_lim hok
  rw [fl_Manifest]
  unfold manR
  have e1 := full_n (a := t) (numL j.toNat ++ (numL c.toNat ++ (numL ((ps.length : Int)).toNat ++ (ps.flatMap pinT ++ T)))) (by omega) (by omega)
  have e2 := full_n (a := j) (numL c.toNat ++ (numL ((ps.length : Int)).toNat ++ (ps.flatMap pinT ++ T))) (by omega) (by omega)
  have e3 := full_n (a := c) (numL ((ps.length : Int)).toNat ++ (ps.flatMap pinT ++ T)) (by omega) (by omega)
  have e4 := full_c (a := (ps.length : Int)) (ps.flatMap pinT ++ T) (by omega) (by omega)
  rw [e1.2, e2.2, e3.2, e4.1, e4.2, e1.1, e2.1, e3.1, show ((ps.length : Int)).toNat = ps.length by omega, full_ps ps T h4 ps.length (Nat.le_refl _), List.take_length, List.drop_length]
  rfl
theorem ct_man {t j c : Int} {ps : List Pn} {T : List UInt8} {st : Option (List UInt8)} (hok : manB t j c ps = true) (h : Ct st (Ms.fl (.manifest t j c ps) ++ T)) : Ct (manR st).2 T := by
  obtain ⟨l1, l2, l3⟩ := man_lims hok
  obtain ⟨_, h3, _, h4⟩ := man_lim hok
  rw [fl_Manifest] at h
  have hc := ct_n (ct_n (ct_n h (by omega) (by omega)) (by omega) (by omega)) (by omega) (by omega)
  show Ct (psL (cV (nS (nS (nS st)))).toNat (cS (nS (nS (nS st))))).2 T
  rcases ct_c hc (by omega) (by omega) with ⟨e1, e2⟩ | ⟨e1, e2⟩
  · rw [e1, e2]; exact Or.inl rfl
  · rw [e1, show ((ps.length : Int)).toNat = ps.length by omega]
    have h5 := ct_ps ps T _ e2 h4 ps.length (Nat.le_refl _)
    rw [List.drop_length] at h5
    exact h5

theorem rf_full (p : Nat) (m : Ms) (T : List UInt8) (w : World) (hg : Gl w) (hgp : p ≠ 1 ∧ p ≠ 2 ∧ p ≠ 5) (h : Rd w p (some (m.body ++ T))) (hp : p < w.heap.size) (hok : m.ok = true) :
    Calls Tryz.prog 32 #[.pointer (some ⟨p, 0, none⟩)] w fun e w' => ∃ v, e = .returned v ∧ MsW w' v m ∧ Rd w' p (some T) ∧ Fr (onlyB p) w w' := by
  have hkl := kind_lim m
  have hk := full_int (lo := 1) (hi := 10) (a := m.k) (m.fl ++ T) (by omega) (by omega) (by omega) (by omega)
  rw [← body_eq] at hk
  cases m with
  | trigger a t c =>
    simp only [Ms.ok, bTrigger, Bool.and_eq_true] at hok
    obtain ⟨q0, q1, q2⟩ := hok
    have l0 := inB_lim q0
    have l1 := inB_lim q1
    have l2 := inB_lim q2
    have e0 := full_n (a := a) (numL t.toNat ++ (numL c.toNat ++ T)) (by omega) (by omega)
    have e1 := full_n (a := t) (numL c.toNat ++ T) (by omega) (by omega)
    have e2 := full_n (a := c) T (by omega) (by omega)
    refine (rf_Trigger p _ _ w h hp hk).mono ?_
    rintro e w' ⟨rfl, rd, f⟩
    rw [fl_Trigger] at rd ⊢
    simp only [e0.1, e0.2, e1.1, e1.2, e2.1, e2.2] at rd ⊢
    exact ⟨_, rfl, rfl, rd, f⟩
  | pin t j =>
    simp only [Ms.ok, bPin, Bool.and_eq_true] at hok
    obtain ⟨q0, q1⟩ := hok
    have l0 := inB_lim q0
    have l1 := inB_lim q1
    have e0 := full_n (a := t) (numL j.toNat ++ T) (by omega) (by omega)
    have e1 := full_n (a := j) T (by omega) (by omega)
    refine (rf_Pin p _ _ w h hp hk).mono ?_
    rintro e w' ⟨rfl, rd, f⟩
    rw [fl_Pin] at rd ⊢
    simp only [e0.1, e0.2, e1.1, e1.2] at rd ⊢
    exact ⟨_, rfl, rfl, rd, f⟩
  | pinned pn =>
    have e0 : pinR (some (Ms.fl (.pinned pn) ++ T)) = (pn, some T) := full_pin pn T (pn_ok hok)
    refine (rf_Pinned p _ _ w h hp hk).mono ?_
    rw [e0]
    exact fun _ _ q => q
  | gone a t j =>
    simp only [Ms.ok, bGone, Bool.and_eq_true] at hok
    obtain ⟨q0, q1, q2⟩ := hok
    have l0 := inB_lim q0
    have l1 := inB_lim q1
    have l2 := inB_lim q2
    have e0 := full_n (a := a) (numL t.toNat ++ (numL j.toNat ++ T)) (by omega) (by omega)
    have e1 := full_n (a := t) (numL j.toNat ++ T) (by omega) (by omega)
    have e2 := full_n (a := j) T (by omega) (by omega)
    refine (rf_Gone p _ _ w h hp hk).mono ?_
    rintro e w' ⟨rfl, rd, f⟩
    rw [fl_Gone] at rd ⊢
    simp only [e0.1, e0.2, e1.1, e1.2, e2.1, e2.2] at rd ⊢
    exact ⟨_, rfl, rfl, rd, f⟩
  | collect t j =>
    simp only [Ms.ok, bCollect, Bool.and_eq_true] at hok
    obtain ⟨q0, q1⟩ := hok
    have l0 := inB_lim q0
    have l1 := inB_lim q1
    have e0 := full_n (a := t) (numL j.toNat ++ T) (by omega) (by omega)
    have e1 := full_n (a := j) T (by omega) (by omega)
    refine (rf_Collect p _ _ w h hp hk).mono ?_
    rintro e w' ⟨rfl, rd, f⟩
    rw [fl_Collect] at rd ⊢
    simp only [e0.1, e0.2, e1.1, e1.2] at rd ⊢
    exact ⟨_, rfl, rfl, rd, f⟩
  | chunk a t j i n sp =>
    obtain ⟨e0, e1, e2, e3, e4, e5⟩ := full_chunk (T := T) hok
    obtain ⟨_, h3, h4⟩ := chunk_lim hok
    have ht : (n5S (some (Ms.fl (.chunk a t j i n sp) ++ T))).bind (textS 1024) = some (printL sp, T) := by
      rw [e0]
      exact text_back _ _ (by have := printL_1024 h3 h4; omega) (by have := quote_len (printL sp); have := printL_1024 h3 h4; omega) _
    refine (rf_Chunk p _ _ sp hgp (Or.inr ⟨_, ht⟩) h3 h4 w hg h hp hk).mono ?_
    rintro e w' ⟨v, rfl, rd, f, hm⟩
    rw [ht, e1, e2, e3, e4, e5] at hm
    rw [show tS (n5S (some (Ms.fl (.chunk a t j i n sp) ++ T))) = some T by unfold tS; rw [ht]; rfl] at rd
    rcases hm with hm | hm
    · cases hm
    · exact ⟨v, rfl, hm, rd, f⟩
  | manifest t j c ps =>
    have e0 := full_man (T := T) hok
    refine (rf_Manifest p _ _ w h hp hk).mono ?_
    rw [e0]
    exact fun _ _ q => q
  | stored t j =>
    simp only [Ms.ok, bStored, Bool.and_eq_true] at hok
    obtain ⟨q0, q1⟩ := hok
    have l0 := inB_lim q0
    have l1 := inB_lim q1
    have e0 := full_n (a := t) (numL j.toNat ++ T) (by omega) (by omega)
    have e1 := full_n (a := j) T (by omega) (by omega)
    refine (rf_Stored p _ _ w h hp hk).mono ?_
    rintro e w' ⟨rfl, rd, f⟩
    rw [fl_Stored] at rd ⊢
    simp only [e0.1, e0.2, e1.1, e1.2] at rd ⊢
    exact ⟨_, rfl, rfl, rd, f⟩
  | unpin t j =>
    simp only [Ms.ok, bUnpin, Bool.and_eq_true] at hok
    obtain ⟨q0, q1⟩ := hok
    have l0 := inB_lim q0
    have l1 := inB_lim q1
    have e0 := full_n (a := t) (numL j.toNat ++ T) (by omega) (by omega)
    have e1 := full_n (a := j) T (by omega) (by omega)
    refine (rf_Unpin p _ _ w h hp hk).mono ?_
    rintro e w' ⟨rfl, rd, f⟩
    rw [fl_Unpin] at rd ⊢
    simp only [e0.1, e0.2, e1.1, e1.2] at rd ⊢
    exact ⟨_, rfl, rfl, rd, f⟩
  | unpinned a t j =>
    simp only [Ms.ok, bUnpinned, Bool.and_eq_true] at hok
    obtain ⟨q0, q1, q2⟩ := hok
    have l0 := inB_lim q0
    have l1 := inB_lim q1
    have l2 := inB_lim q2
    have e0 := full_n (a := a) (numL t.toNat ++ (numL j.toNat ++ T)) (by omega) (by omega)
    have e1 := full_n (a := t) (numL j.toNat ++ T) (by omega) (by omega)
    have e2 := full_n (a := j) T (by omega) (by omega)
    refine (rf_Unpinned p _ _ w h hp hk).mono ?_
    rintro e w' ⟨rfl, rd, f⟩
    rw [fl_Unpinned] at rd ⊢
    simp only [e0.1, e0.2, e1.1, e1.2, e2.1, e2.2] at rd ⊢
    exact ⟨_, rfl, rfl, rd, f⟩

theorem rf_cut (p : Nat) (m : Ms) (T : List UInt8) (st : Option (List UInt8)) (w : World) (hg : Gl w) (hgp : p ≠ 1 ∧ p ≠ 2 ∧ p ≠ 5) (h : Rd w p st) (hp : p < w.heap.size) (hok : m.ok = true) (hc : Ct st (m.body ++ T)) :
    Calls Tryz.prog 32 #[.pointer (some ⟨p, 0, none⟩)] w fun e w' => ∃ v st', e = .returned v ∧ Rd w' p st' ∧ Ct st' T ∧ Fr (onlyB p) w w' := by
  have hkl := kind_lim m
  rw [body_eq] at hc
  rcases ct_int (lo := 1) (hi := 10) hc (by omega) (by omega) (by omega) (by omega) with hk | ⟨q, hk, hq⟩
  · refine (rf_none p st w h hk).mono ?_
    rintro e w' ⟨v, rfl, rd, f⟩
    exact ⟨v, none, rfl, rd, Or.inl rfl, f⟩
  cases m with
  | trigger a t c =>
    simp only [Ms.ok, bTrigger, Bool.and_eq_true] at hok
    obtain ⟨q0, q1, q2⟩ := hok
    have l0 := inB_lim q0
    have l1 := inB_lim q1
    have l2 := inB_lim q2
    rw [fl_Trigger] at hq
    refine (rf_Trigger p _ _ w h hp hk).mono ?_
    rintro e w' ⟨rfl, rd, f⟩
    exact ⟨_, _, rfl, rd, (ct_n (ct_n (ct_n hq (by omega) (by omega)) (by omega) (by omega)) (by omega) (by omega)), f⟩
  | pin t j =>
    simp only [Ms.ok, bPin, Bool.and_eq_true] at hok
    obtain ⟨q0, q1⟩ := hok
    have l0 := inB_lim q0
    have l1 := inB_lim q1
    rw [fl_Pin] at hq
    refine (rf_Pin p _ _ w h hp hk).mono ?_
    rintro e w' ⟨rfl, rd, f⟩
    exact ⟨_, _, rfl, rd, (ct_n (ct_n hq (by omega) (by omega)) (by omega) (by omega)), f⟩
  | pinned pn =>
    refine (rf_Pinned p _ _ w h hp hk).mono ?_
    rintro e w' ⟨v, rfl, _, rd, f⟩
    exact ⟨_, _, rfl, rd, ct_pin pn T _ (pn_ok hok) hq, f⟩
  | gone a t j =>
    simp only [Ms.ok, bGone, Bool.and_eq_true] at hok
    obtain ⟨q0, q1, q2⟩ := hok
    have l0 := inB_lim q0
    have l1 := inB_lim q1
    have l2 := inB_lim q2
    rw [fl_Gone] at hq
    refine (rf_Gone p _ _ w h hp hk).mono ?_
    rintro e w' ⟨rfl, rd, f⟩
    exact ⟨_, _, rfl, rd, (ct_n (ct_n (ct_n hq (by omega) (by omega)) (by omega) (by omega)) (by omega) (by omega)), f⟩
  | collect t j =>
    simp only [Ms.ok, bCollect, Bool.and_eq_true] at hok
    obtain ⟨q0, q1⟩ := hok
    have l0 := inB_lim q0
    have l1 := inB_lim q1
    rw [fl_Collect] at hq
    refine (rf_Collect p _ _ w h hp hk).mono ?_
    rintro e w' ⟨rfl, rd, f⟩
    exact ⟨_, _, rfl, rd, (ct_n (ct_n hq (by omega) (by omega)) (by omega) (by omega)), f⟩
  | chunk a t j i n sp =>
    obtain ⟨_, h3, h4⟩ := chunk_lim hok
    have hlq : (quoteL (printL sp)).length ≤ 9007199254740992 := by have := quote_len (printL sp); have := printL_1024 h3 h4; omega
    have hc5 := ct_text (m := 1024) (ct_chunk hok hq) hlq (by omega)
    have ht : (n5S (some q)).bind (textS 1024) = none ∨ ∃ r, (n5S (some q)).bind (textS 1024) = some (printL sp, r) := by
      rcases hc5 with e | ⟨r, e, _⟩
      · exact Or.inl e
      · exact Or.inr ⟨r, e⟩
    refine (rf_Chunk p _ _ sp hgp ht h3 h4 w hg h hp hk).mono ?_
    rintro e w' ⟨v, rfl, rd, f, _⟩
    refine ⟨v, _, rfl, rd, ?_, f⟩
    unfold tS
    rcases hc5 with e | ⟨r, e, hr⟩
    · rw [e]; exact Or.inl rfl
    · rw [e]; exact hr
  | manifest t j c ps =>
    refine (rf_Manifest p _ _ w h hp hk).mono ?_
    rintro e w' ⟨v, rfl, _, rd, f⟩
    exact ⟨_, _, rfl, rd, ct_man hok hq, f⟩
  | stored t j =>
    simp only [Ms.ok, bStored, Bool.and_eq_true] at hok
    obtain ⟨q0, q1⟩ := hok
    have l0 := inB_lim q0
    have l1 := inB_lim q1
    rw [fl_Stored] at hq
    refine (rf_Stored p _ _ w h hp hk).mono ?_
    rintro e w' ⟨rfl, rd, f⟩
    exact ⟨_, _, rfl, rd, (ct_n (ct_n hq (by omega) (by omega)) (by omega) (by omega)), f⟩
  | unpin t j =>
    simp only [Ms.ok, bUnpin, Bool.and_eq_true] at hok
    obtain ⟨q0, q1⟩ := hok
    have l0 := inB_lim q0
    have l1 := inB_lim q1
    rw [fl_Unpin] at hq
    refine (rf_Unpin p _ _ w h hp hk).mono ?_
    rintro e w' ⟨rfl, rd, f⟩
    exact ⟨_, _, rfl, rd, (ct_n (ct_n hq (by omega) (by omega)) (by omega) (by omega)), f⟩
  | unpinned a t j =>
    simp only [Ms.ok, bUnpinned, Bool.and_eq_true] at hok
    obtain ⟨q0, q1, q2⟩ := hok
    have l0 := inB_lim q0
    have l1 := inB_lim q1
    have l2 := inB_lim q2
    rw [fl_Unpinned] at hq
    refine (rf_Unpinned p _ _ w h hp hk).mono ?_
    rintro e w' ⟨rfl, rd, f⟩
    exact ⟨_, _, rfl, rd, (ct_n (ct_n (ct_n hq (by omega) (by omega)) (by omega) (by omega)) (by omega) (by omega)), f⟩
end Go.Proofs.YtbmafogjmdilkaaGreatDoor
