/-
  A tick of the leases: which holds end, and what is left.
-/
import Derived.Test.YtppmednmcbjafaaGreatLeaseA
import Derived.Test.YtppmednmcbjafaaGreatSortI
set_option linter.unusedVariables false
set_option linter.unusedSimpArgs false
set_option maxRecDepth 100000
namespace Go.Proofs.YtppmednmcbjafaaGreat
open Go.RowKit Go Go.Lib

/-- the job of a hold -/
def jobOf (H : List (Int × (Int × Int))) (k : Int) : Int := ((look H k).getD (0, 0)).1
/-- amid a tick: td is still to come -/
structure TI (H : List (Int × (Int × Int))) (O : List (Int × Int)) (nw : Int) (td L : List (Int × (Int × Int))) (E : List Int) (O2 : List (Int × Int)) : Prop where
  hn : (H.map (·.1)).Nodup
  en : E.Nodup
  tn : (td.map (·.1)).Nodup
  tH : ∀ p ∈ td, p ∈ H
  l : ∀ k x, look L k = some x ↔ look H k = some x ∧ (nw < x.2 ∨ (look td k).isSome = true)
  e : ∀ k, k ∈ E ↔ ∃ x, look H k = some x ∧ x.2 ≤ nw ∧ look td k = none
  o : ∀ k, (look O2 k).getD 0 = if k ∈ E then max (jobOf H k) ((look O k).getD 0) else (look O k).getD 0
  oG : ∀ p ∈ O2, p.1 ∈ O.map (·.1) ∨ p.1 ∈ H.map (·.1)
  len : E.length + td.length ≤ H.length

theorem TI.start {H : List (Int × (Int × Int))} {O : List (Int × Int)} {nw : Int} (hn : (H.map (·.1)).Nodup) : TI H O nw H H [] O :=
  ⟨hn, List.nodup_nil, hn, fun _ h => h, fun k x => ⟨fun h => ⟨h, Or.inr (by rw [h]; rfl)⟩, fun h => h.1⟩, (fun k => by
    constructor
    · intro h; simp at h
    · rintro ⟨x, h1, _, h2⟩; rw [h1] at h2; cases h2), (fun k => by simp), fun p hp => Or.inl (List.mem_map_of_mem hp), by simp⟩
theorem TI.stay {H : List (Int × (Int × Int))} {O : List (Int × Int)} {nw : Int} {td L : List (Int × (Int × Int))} {E : List Int} {O2 : List (Int × Int)} (h : TI H O nw td L E O2) {x : Int} {c : Int × Int} (hm : (x, c) ∈ td) (hc : nw < c.2) : TI H O nw (without td x) L E O2 := by
  have hH := look_mem h.hn (h.tH _ hm)
  have htd := look_mem h.tn hm
  refine ⟨h.hn, h.en, nodup_without h.tn x, fun p hp => h.tH p (mem_without.1 hp).1, fun k y => ?_, fun k => ?_, h.o, h.oG, ?_⟩
  · rw [h.l k y]
    by_cases hk : k = x
    · subst hk
      rw [hH, look_without_same]
      constructor
      · rintro ⟨h1, _⟩; cases h1; exact ⟨rfl, Or.inl hc⟩
      · rintro ⟨h1, _⟩; cases h1; exact ⟨rfl, Or.inl hc⟩
    · rw [look_without_other _ hk]
  · rw [h.e k]
    by_cases hk : k = x
    · subst hk
      rw [look_without_same]
      constructor
      · rintro ⟨y, h1, h2, h3⟩; rw [htd] at h3; cases h3
      · rintro ⟨y, h1, h2, _⟩; rw [hH] at h1; cases h1; omega
    · rw [look_without_other _ hk]
  · have := length_without h.tn x
    have := h.len
    rw [htd] at *
    simp at *
    omega
theorem TI.gone {H : List (Int × (Int × Int))} {O : List (Int × Int)} {nw : Int} {td L : List (Int × (Int × Int))} {E : List Int} {O2 O3 : List (Int × Int)} (h : TI H O nw td L E O2) {x : Int} {c : Int × Int} (hm : (x, c) ∈ td) (hc : c.2 ≤ nw)
    (hO : (O3 = O2 ∧ c.1 ≤ (look O2 x).getD 0) ∨ (O3 = withKey O2 x c.1 ∧ (look O2 x).getD 0 < c.1)) : TI H O nw (without td x) (without L x) (E ++ [x]) O3 := by
  have hH := look_mem h.hn (h.tH _ hm)
  have htd := look_mem h.tn hm
  have hxE : x ∉ E := by
    intro hx
    obtain ⟨y, _, _, h3⟩ := (h.e x).1 hx
    rw [htd] at h3; cases h3
  have ho := h.o x
  rw [if_neg hxE] at ho
  have hj : jobOf H x = c.1 := by unfold jobOf; rw [hH]; rfl
  refine ⟨h.hn, ?_, nodup_without h.tn x, fun p hp => h.tH p (mem_without.1 hp).1, fun k y => ?_, fun k => ?_, fun k => ?_, fun p hp => ?_, ?_⟩
  · rw [List.nodup_append]
    refine ⟨h.en, by simp, fun a ha b hb => ?_⟩
    simp at hb; subst hb; exact fun e => hxE (e ▸ ha)
  · by_cases hk : k = x
    · subst hk
      rw [look_without_same, look_without_same, hH]
      constructor
      · intro h1; cases h1
      · rintro ⟨h1, h2⟩; cases h1; simp at h2; omega
    · rw [look_without_other _ hk, look_without_other _ hk, h.l k y]
  · rw [List.mem_append, h.e k]
    by_cases hk : k = x
    · subst hk
      rw [look_without_same]
      constructor
      · intro _; exact ⟨c, hH, hc, rfl⟩
      · intro _; exact Or.inr (by simp)
    · rw [look_without_other _ hk]
      simp [hk]
  · by_cases hk : k = x
    · subst hk
      rw [if_pos (by simp), hj, ← ho]
      rcases hO with ⟨rfl, h1⟩ | ⟨rfl, h1⟩
      · omega
      · rw [look_withKey_same]; simp; omega
    · have h1 : (look O3 k).getD 0 = (look O2 k).getD 0 := by
        rcases hO with ⟨rfl, _⟩ | ⟨rfl, _⟩
        · rfl
        · rw [look_withKey_other _ _ hk]
      rw [h1, h.o k]
      simp [hk]
  · rcases hO with ⟨rfl, _⟩ | ⟨rfl, _⟩
    · exact h.oG p hp
    · rcases List.mem_cons.1 hp with rfl | hp
      · exact Or.inr (List.mem_map_of_mem (f := (·.1)) (h.tH _ hm))
      · exact h.oG p (mem_without.1 hp).1
  · have := length_without h.tn x
    have := h.len
    rw [htd] at *
    simp at *
    omega
/-- the holds that are left -/
def goneOf (H : List (Int × (Int × Int))) (nw : Int) : List (Int × (Int × Int)) := H.filter fun p => decide (nw < p.2.2)
theorem look_gone {H : List (Int × (Int × Int))} (hn : (H.map (·.1)).Nodup) (nw k : Int) (x : Int × Int) : look (goneOf H nw) k = some x ↔ look H k = some x ∧ nw < x.2 := by
  have h2 : ((goneOf H nw).map (·.1)).Nodup := hn.sublist (List.Sublist.map _ List.filter_sublist)
  constructor
  · intro h
    have := List.mem_filter.1 (look_some h)
    exact ⟨look_mem hn this.1, by simpa using this.2⟩
  · rintro ⟨h, h1⟩
    exact look_mem h2 (List.mem_filter.2 ⟨look_some h, by simpa using h1⟩)
/-- behind a tick -/
structure Ticked (H : List (Int × (Int × Int))) (O : List (Int × Int)) (nw : Int) (E : List Int) (O2 : List (Int × Int)) : Prop where
  es : E.Pairwise (· ≤ ·)
  en : E.Nodup
  e : ∀ k, k ∈ E ↔ ∃ x, look H k = some x ∧ x.2 ≤ nw
  o : ∀ k, (look O2 k).getD 0 = if k ∈ E then max (jobOf H k) ((look O k).getD 0) else (look O k).getD 0
theorem TI.done {H : List (Int × (Int × Int))} {O : List (Int × Int)} {nw : Int} {L : List (Int × (Int × Int))} {E : List Int} {O2 : List (Int × Int)} (h : TI H O nw [] L E O2) (hL : (L.map (·.1)).Nodup) : Ticked H O nw (sortI E) O2 ∧ L.Perm (goneOf H nw) := by
  refine ⟨⟨sortI_sorted E, (sortI_perm E).nodup_iff.2 h.en, fun k => ?_, fun k => ?_⟩, perm_of_look hL (h.hn.sublist (List.Sublist.map _ List.filter_sublist)) fun k => ?_⟩
  · rw [(sortI_perm E).mem_iff, h.e k]
    simp [look]
  · rw [h.o k]
    simp only [(sortI_perm E).mem_iff]
  · apply Option.ext
    intro x
    rw [look_gone h.hn, h.l k x]
    simp [look]

theorem Tryz.infoInt : (Tryz.prog.info? 3).map (fun i => (i.zero, i.size, i.bytes)) = some (some (.int .i64 0), 1, 8) := by kernel_rfl
/-- while a tick goes on -/
structure Tk (w0 w : World) (g bh bo r B : Nat) (G : List Int) (T nw : Int) (td L : List (Int × (Int × Int))) (E : List Int) (O2 : List (Int × Int)) (v : Value) : Prop where
  blk : Blk w g 156 [.int .i64 T, .int .i64 nw, .map (some bh), .map (some bo)]
  rg : Rg Tryz.prog 3 klI mkH w bh r G.length L td
  mo : MO w bo G.length O2
  own : w.ownsRow B 3 1 v E.length (E.map (Value.int .i64))
  fr : Fr (lsB g bh bo) w0 w
  rB : r < B
  r0 : w0.heap.size ≤ r
  Bw : B ≤ w.heap.size
  gb : g < w0.heap.size
  b1 : bh < w0.heap.size
  b2 : bo < w0.heap.size
theorem Tk.fr1 {w0 w w' : World} {g bh bo r B : Nat} {G : List Int} {T nw : Int} {td L : List (Int × (Int × Int))} {E : List Int} {O2 : List (Int × Int)} {v : Value} (h : Tk w0 w g bh bo r B G T nw td L E O2 v) (hf : Fr noB w w') :
    Tk w0 w' g bh bo r B G T nw td L E O2 v ∧ w'.rangeLeft bh r = w.rangeLeft bh r := by
  have := h.rg.fr hf (fun q => q) (fun q => q)
  exact ⟨⟨hf.keepN h.blk, this.1, h.mo.fr hf (fun q => q), ownsRow_fr h.own hf (fun _ _ q => q), h.fr.seqN hf, h.rB, h.r0, Nat.le_trans h.Bw hf.size, h.gb, h.b1, h.b2⟩, this.2⟩

theorem Tk.grow {w0 w w' : World} {g bh bo r B : Nat} {G : List Int} {T nw : Int} {td L : List (Int × (Int × Int))} {E E' : List Int} {O2 : List (Int × Int)} {v v' : Value} (h : Tk w0 w g bh bo r B G T nw td L E O2 v) (hf : Fr (fun k => B ≤ k) w w')
    (ho : w'.ownsRow B 3 1 v' E'.length (E'.map (Value.int .i64))) : Tk w0 w' g bh bo r B G T nw td L E' O2 v' ∧ w'.rangeLeft bh r = w.rangeLeft bh r := by
  have h1 := h.rB
  have h2 := h.r0
  have h3 := h.gb
  have h4 := h.b1
  have h5 := h.b2
  have := h.rg.fr hf (by omega) (by omega)
  exact ⟨⟨hf.blk h.blk (by omega), this.1, h.mo.fr hf (by omega), ho, h.fr.trans hf (fun _ _ q => q) (fun i hi q => by omega), h1, h2, Nat.le_trans h.Bw hf.size, h3, h4, h5⟩, this.2⟩
theorem Tk.del {w0 w w' : World} {g bh bo r B : Nat} {G : List Int} {T nw : Int} {td L td' L' : List (Int × (Int × Int))} {E : List Int} {O2 : List (Int × Int)} {v : Value} (h : Tk w0 w g bh bo r B G T nw td L E O2 v) (hf : Fr (onlyB bh) w w') (n1 : bh ≠ g) (n3 : bh ≠ bo)
    (hr : Rg Tryz.prog 3 klI mkH w' bh r G.length L' td') : Tk w0 w' g bh bo r B G T nw td' L' E O2 v := by
  have h1 := h.rB
  have h2 := h.r0
  have h4 := h.b1
  exact ⟨hf.blk h.blk (fun q => n1 q.symm), hr, h.mo.fr hf (fun q => n3 q.symm), ownsRow_fr h.own hf (fun q hq => by have := (h.own.lt q hq).1; unfold onlyB; omega), h.fr.seqB hf (fun _ => Or.inr (Or.inl rfl)), h1, h2, Nat.le_trans h.Bw hf.size, h.gb, h4, h.b2⟩
theorem Tk.put {w0 w w' : World} {g bh bo r B : Nat} {G : List Int} {T nw : Int} {td L : List (Int × (Int × Int))} {E : List Int} {O2 O3 : List (Int × Int)} {v : Value} {m : Nat} (h : Tk w0 w g bh bo r B G T nw td L E O2 v) (hf : Fr (onlyB bo) w w') (n2 : bo ≠ g) (n3 : bh ≠ bo)
    (hm : MO w' bo m O3) (hl : O3.length ≤ G.length) : Tk w0 w' g bh bo r B G T nw td L E O3 v ∧ w'.rangeLeft bh r = w.rangeLeft bh r := by
  have h1 := h.rB
  have h2 := h.r0
  have h5 := h.b2
  have := h.rg.fr hf (fun q => n3 q) (fun q => by unfold onlyB at q; omega)
  exact ⟨⟨hf.blk h.blk (fun q => n2 q.symm), this.1, hm.tight hl, ownsRow_fr h.own hf (fun q hq => by have := (h.own.lt q hq).1; unfold onlyB; omega), h.fr.seqB hf (fun _ => Or.inr (Or.inr rfl)), h1, h2, Nat.le_trans h.Bw hf.size, h.gb, h.b1, h5⟩, this.2⟩

set_option maxRecDepth 10000 in
set_option maxHeartbeats 1000000 in
theorem ltick_any (g bh bo : Nat) (G : List Int) (T now : Int) (H : List (Int × (Int × Int))) (O : List (Int × Int)) (w : World) (h : Ls w g bh bo G T now H O) (hnow : now < 1000000) :
    Calls Tryz.prog 56 #[.pointer (some ⟨g, 0, none⟩)] w fun e w' => ∃ v E O2, e = .returned v ∧ w'.ownsRow w.heap.size 3 1 v E.length (E.map (Value.int .i64)) ∧ Ls w' g bh bo G T (now + 1) (goneOf H (now + 1)) O2 ∧ Fr (lsB g bh bo) w w' ∧ Ticked H O (now + 1) E O2 := by
  have hlt := h.lt
  obtain ⟨hb, mh, mo, hG, oG, n1, n2, n3, t0, t1, w0, w1, sz⟩ := h
  have c1 : w.cell? ⟨g, 1, none⟩ = some (.int .i64 now) := hb.cell 1
  have f1 : w.frozen? ⟨g, 1, none⟩ = false := hb.frozen 1
  have hb1 := hb.set 1 (.int .i64 (now + 1))
  have fs := (Fr.refl (onlyB g) w).store (g := g) (i := 1) (v := .int .i64 (now + 1)) (onlyB_self g)
  have mh1 := mh.fr fs (fun q => n1 q)
  have mo1 := mo.fr fs (fun q => n2 q)
  have c2 := hb1.cell 2
  have hsz : (w.setCell ⟨g, 1, none⟩ (.int .i64 (now + 1))).heap.size = w.heap.size := by simp [World.setCell]
  simp only [List.set_cons_succ, List.set_cons_zero] at hb1 c2
  have hHl : H.length ≤ G.length := mh.length
  obtain ⟨i0, hi, hz0, hz1, hz2⟩ : ∃ i0, Tryz.prog.info? 3 = some i0 ∧ i0.zero = some (.int .i64 0) ∧ i0.size = 1 ∧ i0.bytes = 8 := by
    have hI := Tryz.infoInt
    cases hq : Tryz.prog.info? 3 with
    | none => rw [hq] at hI; cases hI
    | some k => rw [hq] at hI; simp at hI; exact ⟨k, rfl, hI⟩
  go_enter Tryz.func56, Tryz.ntmps56
  go_wp2_with (first
    | (at_range; refine wpList_range_mp _ rfl _ 154 rfl KI Tryz.underlying154 mh1 rfl ?_; intro wa ra fa sa)
    | fail)
  go_frame
  rw [hsz] at ra sa ⊢
  have st0 : Tk w wa g bh bo w.heap.size (w.heap.size + 1) G T (now + 1) H H [] O (.slice none 0 0) :=
    ⟨fa.keepN hb1, ra, mo1.fr fa (fun q => q), World.ownsRow_nil _ _ _ _, (fs.mono (fun _ _ q => Or.inl q)).seqN fa, by omega, Nat.le_refl _, by omega, hlt _ (Or.inl rfl), hlt _ (Or.inr (Or.inl rfl)), hlt _ (Or.inr (Or.inr rfl))⟩
  have ti0 : TI H O (now + 1) H H [] O := TI.start mh.nodup
  clear hb mh mo c1 f1 hb1 fs mh1 mo1 c2 ra fa sa hsz
  generalize hr : w.heap.size = r at *
  replace hr := Lib.hid hr
  go_loopw [3] (fun v wr => ∃ td L E O2, Tk w wr g bh bo r (r + 1) G T (now + 1) td L E O2 v ∧ TI H O (now + 1) td L E O2) (fun _ wr => wr.rangeLeft bh r)
  case atStart => exact ⟨_, _, _, _, st0, ti0⟩
  case round =>
    clear st0 ti0
    obtain ⟨td, L, E, O2, st, ti⟩ := hrel
    go_wp2_with (first
      | (at_next; refine wpList_next_rg _ rfl rfl rfl _ rfl KI Tryz.underlying3 mkH_inj st.rg rfl ?_ ?_)
      | fail)
    · intro htd
      subst htd
      obtain ⟨h1, h2⟩ := ti.done st.rg.mp.nodup
      have hEl : E.length ≤ H.length := by have := ti.len; simp at this; exact this
      have hoG := ti.oG
      go_wp2_with fail
      refine (sort_own _ E (r + 1) _ _ st.own (by omega)).mono ?_
      rintro e w5 ⟨rfl, o5, g5⟩
      have hneB : ∀ k, lsB g bh bo k → ∀ q, u3.ownBlock = some q → k ≠ q := by
        intro k hk q hq
        have := (st.own.lt q hq).1
        have := hlt k hk
        have := hr.out
        omega
      have f5 : Fr (lsB g bh bo) w w5 := st.fr.trans ((Fr.refl (fun k => r + 1 ≤ k) _).grown g5 (fun q hq _ => (st.own.lt q hq).1)) (fun _ _ q => q) (fun i hi q => by have := hr.out; omega)
      have k5 : Fr (fun k => r + 1 ≤ k) wr w5 := (Fr.refl (fun k => r + 1 ≤ k) _).grown g5 (fun q hq _ => (st.own.lt q hq).1)
      have l5 : Ls w5 g bh bo G T (now + 1) (goneOf H (now + 1)) O2 :=
        ⟨k5.blk st.blk (by have := st.gb; have := hr.out; omega), ((st.rg.mp.perm h2).fr k5 (by have := st.b1; have := hr.out; omega)), st.mo.fr k5 (by have := st.b2; have := hr.out; omega), fun p hp => hG p (List.mem_filter.1 hp).1,
         fun p hp => by
          rcases hoG p hp with h3 | h3
          · obtain ⟨q, hq, he⟩ := List.mem_map.1 h3
            rw [← he]; exact oG q hq
          · obtain ⟨q, hq, he⟩ := List.mem_map.1 h3
            rw [← he]; exact hG q hq, n1, n2, n3, t0, t1, by omega, by omega, sz⟩
      rw [← sortI_len E] at o5
      have o6 : w5.ownsRow w.heap.size 3 1 u3 (sortI E).length ((sortI E).map (Value.int .i64)) := by rw [hr.out]; exact ownsRow_mono o5 (show r ≤ r + 1 by omega)
      clear st o5 g5 k5 hneB
      go_wp2
      go_ret
      exact ⟨_, _, _, rfl, o6, l5, f5, h1⟩
    · intro x cj ce wb hwx hm rb hlt2 fb sb hen
      have stb : Tk w wb g bh bo r (r + 1) G T (now + 1) (without td x) L E O2 u3 :=
        ⟨fb.blk st.blk (by have := st.gb; have := hr.out; unfold onlyB; omega), rb, st.mo.fr fb (by have := st.b2; have := hr.out; unfold onlyB; omega), ownsRow_fr st.own fb (fun q hq => by have := (st.own.lt q hq).1; unfold onlyB; omega),
         st.fr.seqB fb (fun q => by have := hr.out; omega), by omega, st.r0, by rw [sb]; exact st.Bw, st.gb, st.b1, st.b2⟩
      clear st sb
      dsimp only [mkH] at hen ⊢
      have hsw : 0 < wb.heap.size := by have := stb.Bw; omega
      have fc := (Fr.refl noB wb).alloc (.cells #[.int .i64 cj, .int .i64 ce] 168)
      have bc := Blk.new wb 168 [.int .i64 cj, .int .i64 ce]
      obtain ⟨wc, hwc⟩ : ∃ wc, wc = wb.alloc (.cells #[.int .i64 cj, .int .i64 ce] 168) := ⟨_, rfl⟩
      obtain ⟨stc, rlc⟩ := stb.fr1 fc
      go_wp2_with fail
      rw [← hwc] at stc rlc fc ⊢
      replace bc : Blk wc wb.heap.size 168 [.int .i64 cj, .int .i64 ce] := by rw [hwc]; exact bc
      have c0 : wc.cell? ⟨wb.heap.size, 0, none⟩ = some (.int .i64 cj) := bc.cell 0
      have c1 : wc.cell? ⟨wb.heap.size, 1, none⟩ = some (.int .i64 ce) := bc.cell 1
      have c4 : wc.cell? ⟨g, 1, none⟩ = some (.int .i64 (now + 1)) := stc.blk.cell 1
      generalize hob1 : wb.heap.size = ob at *
      have hob0 : ∀ q, u3.ownBlock = some q → q ≠ ob := fun q hq => by have := (stb.own.lt q hq).2; omega
      have hobB : r + 1 ≤ ob := by have := stb.Bw; omega
      clear hwc stb fc hen rb hob1
      by_cases hce : ce ≤ now + 1
      · have hd : decide (now + 1 < ce) = false := by simp; omega
        go_quiet (fail)
        rename_i nq
        have fd := (Fr.refl noB wc).drewN nq
        obtain ⟨std, rld⟩ := stc.fr1 fd
        have bd : Blk (wc.drewN nq) ob 168 [.int .i64 cj, .int .i64 ce] := bc
        have hob : ∀ q, u3.ownBlock = some q → q ≠ ob := hob0
        clear stc bc c0 c1 c4 hob0
        generalize wc.drewN nq = wd at *
        have hA : (wd.alloc (.cells #[.int .i64 x] 3)).ownsRow (r + 1) 3 1 u3 E.length (E.map (Value.int .i64)) := ownsRow_fr std.own ((Fr.refl noB wd).alloc _) (fun _ _ q => q)
        have hN := cell_new wd (.int .i64 x) 3
        have hEl : E.length + 1 ≤ 1000000000 := by have := ti.len; have : 0 < td.length := List.length_pos_of_mem hm; omega
        go_wp2_with (first
          | (at_builtin; go_must (refine wpList_append_at _ rfl (.tmp 32) (.tmp 34) 57 rfl (r + 1) 3 i0 _ 1 8 Tryz.underlying57 hi hz0 hz1 hz2 rfl (by omega) _ E.length _ rfl hA ⟨wd.heap.size, 0, none⟩ 1 1 [.int .i64 x] rfl rfl hN (one_int _ _) ?_ ?_ ?_ ?_))
          | fail)
        · unfold maxLen; omega
        · omega
        · have := std.Bw; have := ((Fr.refl noB wd).alloc (.cells #[.int .i64 x] 3)).size; omega
        intro v' w1 o1 gr1 _
        have fA := (Fr.refl noB wd).alloc (.cells #[.int .i64 x] 3)
        have b1' : Blk w1 ob 168 [.int .i64 cj, .int .i64 ce] := ((Fr.refl (fun k => u3.ownBlock = some k) wd).alloc (.cells #[.int .i64 x] 3) |>.grown gr1 (fun q hq _ => hq)).blk bd (fun q => hob _ q rfl)
        have f1 : Fr (fun k => r + 1 ≤ k) wd w1 := ((Fr.refl (fun k => r + 1 ≤ k) wd).alloc (.cells #[.int .i64 x] 3)).grown gr1 (fun q hq _ => (hA.lt q hq).1)
        have o2 : w1.ownsRow (r + 1) 3 1 v' (E ++ [x]).length ((E ++ [x]).map (Value.int .i64)) := by simpa using o1
        obtain ⟨st1, rl1⟩ := std.grow f1 o2
        have c2 : w1.cell? ⟨g, 2, none⟩ = some (.map (some bh)) := st1.blk.cell 2
        clear std bd hA hN o1 o2 gr1 f1 fA hob
        go_wp2_with (first
          | (at_delete; refine wpList_del_rg _ rfl _ _ 154 rfl KI Tryz.underlying154 st1.rg x hwx rfl rfl ?_; intro w2 rg2 rl2 f2)
          | fail)
        rw [without_twice] at rg2
        have st2 := st1.del f2 n1 n3 rg2
        have b2' : Blk w2 ob 168 [.int .i64 cj, .int .i64 ce] := f2.blk b1' (by have := st1.b1; have := st1.r0; unfold onlyB; omega)
        have hrun : ∀ q, (Instr.lookup 108 (.map (some bo)) (.int .i64 x) false).run Tryz.prog (w2.drewN q) = .ok (.int .i64 ((look O2 x).getD 0)) (w2.drewN q) := fun q =>
          (st2.mo.fr ((Fr.refl noB w2).drewN q) (fun z => z)).run_look KI Tryz.underlying108 (zeroInt (w2.drewN q)) mkI_inj x hwx
        have d0 : w2.cell? ⟨ob, 0, none⟩ = some (.int .i64 cj) := b2'.cell 0
        have d3 : w2.cell? ⟨g, 3, none⟩ = some (.map (some bo)) := st2.blk.cell 3
        have hkG : x ∈ G := hG _ (ti.tH _ hm)
        generalize hold : (look O2 x).getD 0 = old at hrun
        replace hold := Lib.hid hold
        clear st1 f2 rg2 b1' c2
        by_cases ho : old < cj
        · have hd2 : decide (old < cj) = true := by simp; omega
          go_quiet (fail)
          obtain ⟨nq2, hnq⟩ : ∃ nq2 : Nat, nq2 = nq := ⟨_, rfl⟩
          rw [← hnq]
          clear hnq
          have fq := (Fr.refl noB w2).drewN nq2
          obtain ⟨st3, rl3⟩ := st2.fr1 fq
          have b3' : Blk (w2.drewN nq2) ob 168 [.int .i64 cj, .int .i64 ce] := b2'
          clear st2 b2' hrun d0 d3 fq
          generalize w2.drewN nq2 = w3 at *
          have d0 : w3.cell? ⟨ob, 0, none⟩ = some (.int .i64 cj) := b3'.cell 0
          have d3 : w3.cell? ⟨g, 3, none⟩ = some (.map (some bo)) := st3.blk.cell 3
          go_wp2_with fail
          go_still_tail 7, (by kernel_rfl)
          change wpList _ _ _ _ _ w3.drew
          obtain ⟨st4, rl4⟩ := st3.fr1 ((Fr.refl noB w3).drewN 1)
          replace st4 : Tk w w3.drew g bh bo r (r + 1) G T (now + 1) (without td x) (without L x) (E ++ [x]) O2 v' := st4
          replace rl4 : w3.drew.rangeLeft bh r = w3.rangeLeft bh r := rl4
          clear st3 b3' d0 d3
          generalize w3.drew = w4 at *
          go_wp2_with (first
            | (at_mapUpdate; refine wpList_put_mp _ rfl _ _ _ 108 rfl KI Tryz.underlying108 mkI_inj st4.mo (by unfold maxLen; omega) x cj hwx rfl rfl rfl ?_; intro w5 m5 f5)
            | fail)
          have ti5 := TI.gone (O3 := withKey O2 x cj) ti hm (by simpa using hce) (Or.inr ⟨rfl, by rw [hold.out]; exact ho⟩)
          have hle : (withKey O2 x cj).length ≤ G.length := by
            have := nodup_le (l := (withKey O2 x cj).map (·.1)) (G := G) m5.nodup (fun k hk => by
              obtain ⟨p, hp, rfl⟩ := List.mem_map.1 hk
              rcases ti5.oG p hp with h3 | h3
              · obtain ⟨q, hq, he⟩ := List.mem_map.1 h3
                rw [← he]; exact oG q hq
              · obtain ⟨q, hq, he⟩ := List.mem_map.1 h3
                rw [← he]; exact hG q hq)
            simpa using this
          obtain ⟨st5, rl5⟩ := st4.put f5 n2 n3 m5 hle
          clear st4 m5 f5
          go_frame
          go_roundw
          case rel => exact ⟨_, _, _, _, st5, ti5⟩
          case measure => rw [rl5, rl4, rl3]; omega
        · have hd2 : decide (old < cj) = false := by simp; omega
          go_quiet (fail)
          obtain ⟨nq2, hnq⟩ : ∃ nq2 : Nat, nq2 = nq := ⟨_, rfl⟩
          rw [← hnq]
          clear hnq
          have fq := (Fr.refl noB w2).drewN nq2
          obtain ⟨st3, rl3⟩ := st2.fr1 fq
          go_wp2_with fail
          go_roundw
          case rel => exact ⟨_, _, _, _, st3, TI.gone ti hm (by simpa using hce) (Or.inl ⟨rfl, by rw [hold.out]; simp; omega⟩)⟩
          case measure => rw [rl3]; omega
      · have hd : decide (now + 1 < ce) = true := by simp; omega
        go_quiet (fail)
        go_wp2_with fail
        go_roundw
        case rel => exact ⟨_, _, _, _, (stc.fr1 ((Fr.refl noB wc).drewN _)).1, ti.stay hm (by simp; omega)⟩
        case measure => rw [(stc.fr1 ((Fr.refl noB wc).drewN _)).2, rlc]; exact hlt2
end Go.Proofs.YtppmednmcbjafaaGreat
