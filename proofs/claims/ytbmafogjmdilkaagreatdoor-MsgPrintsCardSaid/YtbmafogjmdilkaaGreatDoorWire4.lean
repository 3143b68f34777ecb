/-
  wire: the reader's Int and Text.
-/
import Derived.Test.YtbmafogjmdilkaaGreatDoorWire3
set_option linter.unusedVariables false
set_option linter.unusedSimpArgs false
set_option maxRecDepth 100000
namespace Go.Proofs.YtbmafogjmdilkaaGreatDoor
open Go.RowKit Go Go.Lib

/-- a number of some bounds, and what is left -/
def intS (lo hi : Int) (l : List UInt8) : Option (Nat × List UInt8) :=
  match numS 0 l with
  | none => none
  | some (n, t) => if (n : Int) < lo then none else if hi < (n : Int) then none else some (n, t)
def vI (o : Option (Nat × List UInt8)) : Int := match o with | some (n, _) => (n : Int) | none => 0
def sI (o : Option (Nat × List UInt8)) : Option (List UInt8) := match o with | some (_, t) => some t | none => none
def vT (o : Option (List UInt8 × List UInt8)) : List UInt8 := match o with | some (s, _) => s | none => []
def sT (o : Option (List UInt8 × List UInt8)) : Option (List UInt8) := match o with | some (_, t) => some t | none => none

theorem rint_nil (lo hi : Int) (w : World) : Calls Tryz.prog 33 #[.pointer none, .int .i64 lo, .int .i64 hi] w fun e w' => e = .returned (.int .i64 0) ∧ w' = w := by
  go_enter Tryz.func33, Tryz.ntmps33
  go_wp2_with fail
  go_ret
  exact ⟨rfl, rfl⟩

set_option maxHeartbeats 1000000 in
theorem rint_any (p : Nat) (st : Option (List UInt8)) (lo hi : Int) (w : World) (h : Rd w p st) :
    Calls Tryz.prog 33 #[.pointer (some ⟨p, 0, none⟩), .int .i64 lo, .int .i64 hi] w fun e w' => e = .returned (.int .i64 (vI (st.bind (intS lo hi)))) ∧ Rd w' p (sI (st.bind (intS lo hi))) ∧ Fr (onlyB p) w w' := by
  obtain ⟨s, b, h1, h2, h3⟩ := h
  have c1 : w.cell? ⟨p, 1, none⟩ = some (.bool b) := h1.cell 1
  have c0 : w.cell? ⟨p, 0, none⟩ = some (.string s) := h1.cell 0
  rcases h3 with ⟨rfl, rfl⟩ | ⟨rfl, rfl⟩
  · go_enter Tryz.func33, Tryz.ntmps33
    go_wp2_with fail
    go_ret
    exact ⟨rfl, ⟨s, true, h1, h2, Or.inl ⟨rfl, rfl⟩⟩, Fr.refl _ _⟩
  · have hnr := numr_any s w (by omega)
    have hx : (some s.data.toList).bind (intS lo hi) = intS lo hi s.data.toList := rfl
    rw [hx]
    replace hx := Lib.hid hx
    replace hnr := Lib.hid hnr
    have hlen : ∀ n t, numS 0 s.data.toList = some (n, t) → (strB t).size ≤ 200000 := fun n t q => by
      have := congrArg List.length (num_inv q).1
      rw [List.length_append, size_len] at this
      rw [strB_size]; omega
    replace hlen := Lib.hid hlen
    replace h2 := Lib.hid h2
    go_enter Tryz.func33, Tryz.ntmps33
    go_wp2_with fail
    refine hnr.out.mono ?_
    rintro e w1 ⟨hp, f1⟩
    have b1 : Blk w1 p 105 [.string s, .bool false] := f1.keepN h1
    have z0 := b1.frozen 0
    have z1 := b1.frozen 1
    have d0 : w1.cell? ⟨p, 0, none⟩ = some (.string s) := b1.cell 0
    have d1 : w1.cell? ⟨p, 1, none⟩ = some (.bool false) := b1.cell 1
    have fp : Fr (onlyB p) w w1 := f1.toN
    clear c0 c1 hnr f1 h1
    have bad : ∀ (e : Ending) (w2 : World), e = .returned (.int .i64 0) → w2 = w1.setCell ⟨p, 1, none⟩ (.bool true) → intS lo hi s.data.toList = none →
        e = .returned (.int .i64 (vI (intS lo hi s.data.toList))) ∧ Rd w2 p (sI (intS lo hi s.data.toList)) ∧ Fr (onlyB p) w w2 := by
      rintro e w2 rfl rfl q
      rw [q]
      exact ⟨rfl, ⟨s, true, b1.set 1 _, h2.out, Or.inl ⟨rfl, rfl⟩⟩, fp.store (onlyB_self p)⟩
    replace bad := Lib.hid bad
    rcases hp with ⟨n, t, hn, rfl⟩ | ⟨hn, x, r, rfl⟩
    · by_cases hlo : (n : Int) < lo
      · have hq : intS lo hi s.data.toList = none := by unfold intS; rw [hn]; simp only; rw [if_pos hlo]
        replace hq := Lib.hid hq
        replace hn := Lib.hid hn
        go_wp2_with fail
        go_ret
        exact bad.out _ _ rfl rfl hq.out
      · by_cases hhi : hi < (n : Int)
        · have hq : intS lo hi s.data.toList = none := by unfold intS; rw [hn]; simp only; rw [if_neg hlo, if_pos hhi]
          have hhi' : (n : Int) > hi := hhi
          replace hq := Lib.hid hq
          replace hn := Lib.hid hn
          go_wp2_with fail
          go_ret
          exact bad.out _ _ rfl rfl hq.out
        · have hq : intS lo hi s.data.toList = some (n, t) := by unfold intS; rw [hn]; simp only; rw [if_neg hlo, if_neg hhi]
          have hhi' : ¬ (n : Int) > hi := hhi
          have ht := hlen.out _ _ hn
          replace hq := Lib.hid hq
          replace hn := Lib.hid hn
          replace ht := Lib.hid ht
          go_wp2_with fail
          go_ret
          rw [hq.out]
          exact ⟨rfl, ⟨strB t, false, b1.set 0 _, ht.out, Or.inr ⟨rfl, rfl⟩⟩, fp.store (onlyB_self p)⟩
    · have hq : intS lo hi s.data.toList = none := by unfold intS; rw [hn]
      replace hq := Lib.hid hq
      replace hn := Lib.hid hn
      go_wp2_with fail
      go_ret
      exact bad.out _ _ rfl rfl hq.out

theorem rtext_nil (m : Int) (w : World) : Calls Tryz.prog 72 #[.pointer none, .int .i64 m] w fun e w' => e = .returned (.string (strB [])) ∧ w' = w := by
  go_enter Tryz.func72, Tryz.ntmps72
  go_wp2_with fail
  refine (rint_nil _ _ _).mono ?_
  rintro e w1 ⟨rfl, hw⟩
  obtain rfl := hw.symm
  go_wp2_with fail
  refine (rok_nil _).mono ?_
  rintro e w1 ⟨rfl, hw⟩
  obtain rfl := hw.symm
  go_wp2_with fail
  go_ret
  exact ⟨rfl, rfl⟩

theorem unqpost_some {l t : List UInt8} {e : Ending} (h : UnqPost l e) (ht : unqP unq1 l = some t) : e = .returned (.tuple #[.string (strB t), .int .i64 0]) := by
  rcases h with ⟨t', h1, h2⟩ | ⟨h1, h2⟩
  · unfold unqL at h1; rw [ht] at h1; injection h1 with h1; subst h1; exact h2
  · unfold unqL at h1; rw [ht] at h1; cases h1
theorem unqpost_none {l : List UInt8} {e : Ending} (h : UnqPost l e) (ht : unqP unq1 l = none) : e = .returned (.tuple #[.string (strB []), .int .i64 3]) := by
  rcases h with ⟨t', h1, h2⟩ | ⟨h1, h2⟩
  · unfold unqL at h1; rw [ht] at h1; cases h1
  · exact h2
theorem int_full (l : List UInt8) : intS 0 9007199254740992 l = numS 0 l := by
  unfold intS
  cases h : numS 0 l with
  | none => rfl
  | some q =>
    obtain ⟨n, t⟩ := q
    have := (num_inv h).2
    simp only
    rw [if_neg (by omega), if_neg (by omega)]

theorem Fr.seqB2 {S : Nat → Prop} {a b c : World} (h : Fr S a b) (k : Fr noB b c) : Fr S a c := h.seqN k
set_option maxHeartbeats 4000000 in
theorem rtext_any (p : Nat) (st : Option (List UInt8)) (m : Int) (w : World) (hg : Gl w) (hgp : p ≠ 1 ∧ p ≠ 2 ∧ p ≠ 5) (h : Rd w p st) :
    Calls Tryz.prog 72 #[.pointer (some ⟨p, 0, none⟩), .int .i64 m] w fun e w' => e = .returned (.string (strB (vT (st.bind (textS m))))) ∧ Rd w' p (sT (st.bind (textS m))) ∧ Fr (onlyB p) w w' := by
  have glp : ∀ w', Fr (onlyB p) w w' → Gl w' := fun w' f => by
    obtain ⟨⟨a, b, h1⟩, ⟨c, d, h2⟩, h3⟩ := hg
    exact ⟨⟨a, b, f.cell h1 (fun q => hgp.1 q.symm)⟩, ⟨c, d, f.cell h2 (fun q => hgp.2.1 q.symm)⟩, f.cell h3 (fun q => hgp.2.2 q.symm)⟩
  have hri := rint_any p st 0 9007199254740992 w h
  have hlen0 : ∀ l, st = some l → l.length ≤ 200000 := by
    rintro l rfl
    obtain ⟨s, b, _, h2, h3⟩ := h
    rcases h3 with ⟨q, _⟩ | ⟨_, q⟩
    · cases q
    · injection q with q; rw [q, size_len]; exact h2
  clear h hg hgp
  cases hx : st.bind (intS 0 9007199254740992) with
  | none =>
    rw [hx] at hri
    have hq : st.bind (textS m) = none := by
      cases st with
      | none => rfl
      | some l =>
        have hx' : intS 0 9007199254740992 l = none := hx
        rw [int_full] at hx'
        show textS m l = none
        unfold textS; rw [hx']
    rw [hq]
    have hok := fun w1 (rd1 : Rd w1 p none) => rok_any p none w1 rd1
    replace hok := Lib.hid hok
    replace hq := Lib.hid hq
    replace hx := Lib.hid hx
    replace glp := Lib.hid glp
    replace hri := Lib.hid hri
    clear hlen0
    go_enter Tryz.func72, Tryz.ntmps72
    go_wp2_with fail
    refine hri.out.mono ?_
    rintro e w1 ⟨rfl, rd1, f1⟩
    clear hri
    go_wp2_with fail
    refine (hok.out w1 rd1).mono ?_
    rintro e w2 ⟨rfl, hw⟩
    obtain rfl := hw.symm
    go_wp2_with fail
    go_ret
    exact ⟨rfl, rd1, f1⟩
  | some q =>
    obtain ⟨c, r⟩ := q
    rw [hx, show vI (some (c, r)) = (c : Int) from rfl, show sI (some (c, r)) = some r from rfl] at hri
    obtain ⟨l, rfl, hx'⟩ : ∃ l, st = some l ∧ intS 0 9007199254740992 l = some (c, r) := by
      cases st with
      | none => cases hx
      | some l => exact ⟨l, rfl, hx⟩
    rw [int_full] at hx'
    have hinv := num_inv hx'
    have hcb := hinv.2
    have hrl : r.length ≤ 200000 := by
      have h1 := congrArg List.length hinv.1
      rw [List.length_append] at h1
      have := hlen0 l rfl
      omega
    have hts : (some l).bind (textS m) = match unqP unq1 (cutL r c) with
        | none => none
        | some s => if (chunks (cutL r c)).length < c then none else if m < (s.length : Int) then none else some (s, r.drop (cutL r c).length) := by
      show textS m l = _
      unfold textS; rw [hx']
      rfl
    rw [hts]
    have hok : ∀ w1, Rd w1 p (some r) → _ := fun w1 rd1 => rok_any p (some r) w1 rd1
    have hrd : ∀ w1, Rd w1 p (some r) → ∃ s1, Blk w1 p 105 [.string s1, .bool false] ∧ s1 = strB r := by
      rintro w1 ⟨s1, b1, bk, hs1, hb1⟩
      rcases hb1 with ⟨q, _⟩ | ⟨rfl, q⟩
      · cases q
      · injection q with q
        exact ⟨s1, bk, by rw [q, strB_of]⟩
    have hrl2 : (strB r).size ≤ 200000 := by rw [strB_size]; exact hrl
    have hct := fun w1 => cut_any (strB r) (c : Int) w1 (by unfold maxLen; omega) (by omega)
    have hci : cutI (strB r).data.toList (c : Int) = cutL r c := rfl
    rw [hci] at hct
    obtain ⟨z, hz⟩ := cut_prefix r c
    have hlr : (cutL r c).length ≤ r.length := by
      have h1 := congrArg List.length hz
      rw [List.length_append] at h1
      omega
    have hsl := slice_tail (strB r) (strB (cutL r c)).size ((strB (cutL r c)).size : Int) rfl (by rw [strB_size, strB_size]; exact hlr) (by omega)
    have hql : ((strB r).extract (strB (cutL r c)).size (strB r).size).size ≤ 200000 := by
      rw [← size_len, tail_eq, List.length_drop, strB_list]; omega
    have hfin : ((strB r).extract (strB (cutL r c)).size (strB r).size).data.toList = r.drop (cutL r c).length := by rw [tail_eq, strB_list, strB_size]
    have hun := fun w (h : Gl w) => unquote_any (strB (cutL r c)) w h (by rw [strB_size]; omega)
    have hcn := fun w => count_any (strB (cutL r c)) w (by rw [strB_size]; unfold maxLen; omega)
    rw [strB_list] at hun hcn
    have hcl := chunks_len (cutL r c)
    have hc2 : (chunks (cutL r c)).length ≤ 200000 := by omega
    have hfs : (strB (cutL r c)).size ≤ 200000 := by rw [strB_size]; omega
    clear hts hx hx' hinv hz hlen0 hcl hlr hci hrl
    replace hrd := Lib.hid hrd
    generalize hC : (chunks (cutL r c)).length = C at *
    generalize hRR : (strB r).extract (strB (cutL r c)).size (strB r).size = RR at *
    replace hC := Lib.hid hC
    replace hRR := Lib.hid hRR
    have c0 : (0 : Int) ≤ c := by omega
    have c3 : (C : Int) ≤ 200000 := by omega
    cases hu : unqP unq1 (cutL r c) with
    | none =>
      replace hun := fun w (h : Gl w) => (hun w h).mono (R' := fun e w' => e = .returned (.tuple #[.string (strB []), .int .i64 3]) ∧ Fr noB w w') fun e w' ⟨h1, h2⟩ => ⟨unqpost_none h1 hu, h2⟩
      replace hu := Lib.hid hu
      generalize strB (cutL r c) = Q at *
      simp only
      by_cases hCc : C < c
      · have i1 : (C : Int) < c := by omega
        clear hcb hc2 hCc
        replace glp := Lib.hid glp
        replace hri := Lib.hid hri
        replace hok := Lib.hid hok
        replace hct := Lib.hid hct
        replace hun := Lib.hid hun
        replace hcn := Lib.hid hcn
        replace hfin := Lib.hid hfin
        replace hql := Lib.hid hql
        go_enter Tryz.func72, Tryz.ntmps72
        go_wp2_with fail
        refine hri.out.mono ?_
        rintro e w1 ⟨rfl, rd1, f1⟩
        have ok1 := hok.out w1 rd1
        obtain ⟨s1, bk, hsz⟩ := hrd.out w1 rd1
        subst hsz
        have d0 : w1.cell? ⟨p, 0, none⟩ = some (.string (strB r)) := bk.cell 0
        clear hri
        go_wp2_with fail
        refine ok1.mono ?_
        rintro e w2 ⟨rfl, hw⟩
        obtain rfl := hw.symm
        go_wp2_with fail
        refine (hct.out w1).mono ?_
        rintro e w2 ⟨rfl, f2⟩
        have f12 := f1.seqB2 f2
        have bk2 := f2.keepN bk
        clear d0 bk ok1 f2 f1
        go_wp2_with fail
        refine (hun.out w2 (glp.out _ f12)).mono ?_
        rintro e w3 ⟨rfl, f3⟩
        have f13 := f12.seqB2 f3
        have bk3 := f3.keepN bk2
        clear bk2 f3 f12
        go_wp2_with fail
        refine (hcn.out w3).mono ?_
        rintro e w4 ⟨rfl, f4⟩
        have f14 := f13.seqB2 f4
        have bk4 := f4.keepN bk3
        have z0 := bk4.frozen 0
        have z1 := bk4.frozen 1
        have d0 : w4.cell? ⟨p, 0, none⟩ = some (.string (strB r)) := bk4.cell 0
        have d1 : w4.cell? ⟨p, 1, none⟩ = some (.bool false) := bk4.cell 1
        clear bk3 f4 f13
        go_wp2_with fail
        go_ret
        exact ⟨rfl, ⟨strB r, true, bk4.set 1 _, hrl2, Or.inl ⟨rfl, rfl⟩⟩, f14.store (onlyB_self p)⟩
      · have i1 : ¬ (C : Int) < c := by omega
        clear hcb hc2 hCc
        replace glp := Lib.hid glp
        replace hri := Lib.hid hri
        replace hok := Lib.hid hok
        replace hct := Lib.hid hct
        replace hun := Lib.hid hun
        replace hcn := Lib.hid hcn
        replace hfin := Lib.hid hfin
        replace hql := Lib.hid hql
        go_enter Tryz.func72, Tryz.ntmps72
        go_wp2_with fail
        refine hri.out.mono ?_
        rintro e w1 ⟨rfl, rd1, f1⟩
        have ok1 := hok.out w1 rd1
        obtain ⟨s1, bk, hsz⟩ := hrd.out w1 rd1
        subst hsz
        have d0 : w1.cell? ⟨p, 0, none⟩ = some (.string (strB r)) := bk.cell 0
        clear hri
        go_wp2_with fail
        refine ok1.mono ?_
        rintro e w2 ⟨rfl, hw⟩
        obtain rfl := hw.symm
        go_wp2_with fail
        refine (hct.out w1).mono ?_
        rintro e w2 ⟨rfl, f2⟩
        have f12 := f1.seqB2 f2
        have bk2 := f2.keepN bk
        clear d0 bk ok1 f2 f1
        go_wp2_with fail
        refine (hun.out w2 (glp.out _ f12)).mono ?_
        rintro e w3 ⟨rfl, f3⟩
        have f13 := f12.seqB2 f3
        have bk3 := f3.keepN bk2
        clear bk2 f3 f12
        go_wp2_with fail
        refine (hcn.out w3).mono ?_
        rintro e w4 ⟨rfl, f4⟩
        have f14 := f13.seqB2 f4
        have bk4 := f4.keepN bk3
        have z0 := bk4.frozen 0
        have z1 := bk4.frozen 1
        have d0 : w4.cell? ⟨p, 0, none⟩ = some (.string (strB r)) := bk4.cell 0
        have d1 : w4.cell? ⟨p, 1, none⟩ = some (.bool false) := bk4.cell 1
        clear bk3 f4 f13
        go_wp2_with fail
        go_ret
        exact ⟨rfl, ⟨strB r, true, bk4.set 1 _, hrl2, Or.inl ⟨rfl, rfl⟩⟩, f14.store (onlyB_self p)⟩
    | some s =>
      replace hun := fun w (h : Gl w) => (hun w h).mono (R' := fun e w' => e = .returned (.tuple #[.string (strB s), .int .i64 0]) ∧ Fr noB w w') fun e w' ⟨h1, h2⟩ => ⟨unqpost_some h1 hu, h2⟩
      have hsz : (strB s).size = s.length := rfl
      replace hu := Lib.hid hu
      simp only
      by_cases hCc : C < c
      · rw [if_pos hCc]
        generalize strB (cutL r c) = Q at *
        have i1 : (C : Int) < c := by omega
        clear hcb hc2 hCc hsz
        replace glp := Lib.hid glp
        replace hri := Lib.hid hri
        replace hok := Lib.hid hok
        replace hct := Lib.hid hct
        replace hun := Lib.hid hun
        replace hcn := Lib.hid hcn
        replace hfin := Lib.hid hfin
        replace hql := Lib.hid hql
        go_enter Tryz.func72, Tryz.ntmps72
        go_wp2_with fail
        refine hri.out.mono ?_
        rintro e w1 ⟨rfl, rd1, f1⟩
        have ok1 := hok.out w1 rd1
        obtain ⟨s1, bk, hsz⟩ := hrd.out w1 rd1
        subst hsz
        have d0 : w1.cell? ⟨p, 0, none⟩ = some (.string (strB r)) := bk.cell 0
        clear hri
        go_wp2_with fail
        refine ok1.mono ?_
        rintro e w2 ⟨rfl, hw⟩
        obtain rfl := hw.symm
        go_wp2_with fail
        refine (hct.out w1).mono ?_
        rintro e w2 ⟨rfl, f2⟩
        have f12 := f1.seqB2 f2
        have bk2 := f2.keepN bk
        clear d0 bk ok1 f2 f1
        go_wp2_with fail
        refine (hun.out w2 (glp.out _ f12)).mono ?_
        rintro e w3 ⟨rfl, f3⟩
        have f13 := f12.seqB2 f3
        have bk3 := f3.keepN bk2
        clear bk2 f3 f12
        go_wp2_with fail
        refine (hcn.out w3).mono ?_
        rintro e w4 ⟨rfl, f4⟩
        have f14 := f13.seqB2 f4
        have bk4 := f4.keepN bk3
        have z0 := bk4.frozen 0
        have z1 := bk4.frozen 1
        have d0 : w4.cell? ⟨p, 0, none⟩ = some (.string (strB r)) := bk4.cell 0
        have d1 : w4.cell? ⟨p, 1, none⟩ = some (.bool false) := bk4.cell 1
        clear bk3 f4 f13
        go_wp2_with fail
        go_ret
        exact ⟨rfl, ⟨strB r, true, bk4.set 1 _, hrl2, Or.inl ⟨rfl, rfl⟩⟩, f14.store (onlyB_self p)⟩
      · rw [if_neg hCc]
        have i1 : ¬ (C : Int) < c := by omega
        by_cases hm : m < (s.length : Int)
        · rw [if_pos hm]
          have i2 : ((strB s).size : Int) > m := by omega
          generalize strB (cutL r c) = Q at *
          generalize strB s = SS at *
          clear hcb hc2 hCc hsz hm
          replace glp := Lib.hid glp
          replace hri := Lib.hid hri
          replace hok := Lib.hid hok
          replace hct := Lib.hid hct
          replace hun := Lib.hid hun
          replace hcn := Lib.hid hcn
          replace hfin := Lib.hid hfin
          replace hql := Lib.hid hql
          go_enter Tryz.func72, Tryz.ntmps72
          go_wp2_with fail
          refine hri.out.mono ?_
          rintro e w1 ⟨rfl, rd1, f1⟩
          have ok1 := hok.out w1 rd1
          obtain ⟨s1, bk, hsz⟩ := hrd.out w1 rd1
          subst hsz
          have d0 : w1.cell? ⟨p, 0, none⟩ = some (.string (strB r)) := bk.cell 0
          clear hri
          go_wp2_with fail
          refine ok1.mono ?_
          rintro e w2 ⟨rfl, hw⟩
          obtain rfl := hw.symm
          go_wp2_with fail
          refine (hct.out w1).mono ?_
          rintro e w2 ⟨rfl, f2⟩
          have f12 := f1.seqB2 f2
          have bk2 := f2.keepN bk
          clear d0 bk ok1 f2 f1
          go_wp2_with fail
          refine (hun.out w2 (glp.out _ f12)).mono ?_
          rintro e w3 ⟨rfl, f3⟩
          have f13 := f12.seqB2 f3
          have bk3 := f3.keepN bk2
          clear bk2 f3 f12
          go_wp2_with fail
          refine (hcn.out w3).mono ?_
          rintro e w4 ⟨rfl, f4⟩
          have f14 := f13.seqB2 f4
          have bk4 := f4.keepN bk3
          have z0 := bk4.frozen 0
          have z1 := bk4.frozen 1
          have d0 : w4.cell? ⟨p, 0, none⟩ = some (.string (strB r)) := bk4.cell 0
          have d1 : w4.cell? ⟨p, 1, none⟩ = some (.bool false) := bk4.cell 1
          clear bk3 f4 f13
          go_wp2_with fail
          go_ret
          exact ⟨rfl, ⟨strB r, true, bk4.set 1 _, hrl2, Or.inl ⟨rfl, rfl⟩⟩, f14.store (onlyB_self p)⟩
        · rw [if_neg hm]
          have i2 : ¬ ((strB s).size : Int) > m := by omega
          have hvt : strB (vT (some (s, r.drop (cutL r c).length))) = strB s := rfl
          rw [hvt]
          generalize strB (cutL r c) = Q at *
          generalize strB s = SS at *
          clear hcb hc2 hCc hsz hm hvt
          replace glp := Lib.hid glp
          replace hri := Lib.hid hri
          replace hok := Lib.hid hok
          replace hct := Lib.hid hct
          replace hun := Lib.hid hun
          replace hcn := Lib.hid hcn
          replace hfin := Lib.hid hfin
          replace hql := Lib.hid hql
          go_enter Tryz.func72, Tryz.ntmps72
          go_wp2_with fail
          refine hri.out.mono ?_
          rintro e w1 ⟨rfl, rd1, f1⟩
          have ok1 := hok.out w1 rd1
          obtain ⟨s1, bk, hsz⟩ := hrd.out w1 rd1
          subst hsz
          have d0 : w1.cell? ⟨p, 0, none⟩ = some (.string (strB r)) := bk.cell 0
          clear hri
          go_wp2_with fail
          refine ok1.mono ?_
          rintro e w2 ⟨rfl, hw⟩
          obtain rfl := hw.symm
          go_wp2_with fail
          refine (hct.out w1).mono ?_
          rintro e w2 ⟨rfl, f2⟩
          have f12 := f1.seqB2 f2
          have bk2 := f2.keepN bk
          clear d0 bk ok1 f2 f1
          go_wp2_with fail
          refine (hun.out w2 (glp.out _ f12)).mono ?_
          rintro e w3 ⟨rfl, f3⟩
          have f13 := f12.seqB2 f3
          have bk3 := f3.keepN bk2
          clear bk2 f3 f12
          go_wp2_with fail
          refine (hcn.out w3).mono ?_
          rintro e w4 ⟨rfl, f4⟩
          have f14 := f13.seqB2 f4
          have bk4 := f4.keepN bk3
          have z0 := bk4.frozen 0
          have z1 := bk4.frozen 1
          have d0 : w4.cell? ⟨p, 0, none⟩ = some (.string (strB r)) := bk4.cell 0
          have d1 : w4.cell? ⟨p, 1, none⟩ = some (.bool false) := bk4.cell 1
          clear bk3 f4 f13
          go_wp2_with fail
          go_ret
          exact ⟨rfl, ⟨_, false, bk4.set 0 _, hql.out, Or.inr ⟨rfl, by rw [hfin.out]; rfl⟩⟩, f14.store (onlyB_self p)⟩
end Go.Proofs.YtbmafogjmdilkaaGreatDoor
