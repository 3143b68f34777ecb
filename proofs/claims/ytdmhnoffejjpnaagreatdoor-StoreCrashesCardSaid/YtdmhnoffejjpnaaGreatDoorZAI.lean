/-
  wire: a number taken from the front of a text.
  wire: the reader's Int and Text.
  Stage 2's awake: answers that the document fixes; WireNil.
-/
import Derived.Test.YtdmhnoffejjpnaaGreatDoorZAH
import Derived.OwnWalk
section
set_option linter.unusedVariables false
set_option linter.unusedSimpArgs false
set_option maxRecDepth 100000
namespace Go.Proofs.YtdmhnoffejjpnaaGreatDoor
open Go.RowKit Go Go.Lib

def NumPost (l : List UInt8) (e : Ending) : Prop :=
  (∃ (n : Nat) (t : List UInt8), numS 0 l = some (n, t) ∧ e = .returned (.tuple #[.int .i64 n, .string (strB t), .bool true])) ∨
  (numS 0 l = none ∧ ∃ (x : Int) (r : ByteArray), e = .returned (.tuple #[.int .i64 x, .string r, .bool false]))

theorem width3 (l : List UInt8) (h : l ≠ []) (h1 : 4352 ≤ (dec l).1) (h2 : (dec l).1 < 8448) : (dec l).2 = 3 := by
  have hok : okD l = true := by rw [okD_iff]; omega
  have hne : l.take (dec l).2 ≠ [] := by
    intro e
    have := congrArg List.length e
    simp only [List.length_take, List.length_nil] at this
    have h1 := dec_pos l
    have h2 := List.length_pos_iff.2 h
    omega
  have hk := enc_dec (l.take (dec l).2) hne (by rw [dec_chunk l h, List.length_take]; have := dec_le l h; omega) (by rw [okD_chunk l h]; exact hok)
  rw [dec_chunk l h, enc3 _ (by omega) (by omega)] at hk
  have := congrArg List.length hk
  rw [List.length_take] at this
  have := dec_le l h
  simp at *
  omega
theorem rlen_any (R : Int) (w : World) (h1 : 4352 ≤ R) (h2 : R < 8448) : Calls Tryz.prog 137 #[.int .i32 R] w fun e w' => e = .returned (.int .i64 3) ∧ ∃ k, w' = w.drewN k := by
  refine (Tryz.utf8_RuneLen R w).mono ?_
  rintro e w' ⟨rfl, rfl⟩
  refine ⟨?_, 0, rfl⟩
  unfold Lib.runeLen
  rw [if_neg (by omega), if_neg (by omega), if_neg (by omega), if_neg (by omega), if_pos (by omega)]
theorem slice_tail (s : ByteArray) (j : Nat) (J : Int) (hJ : J = (j : Int)) (h : j ≤ s.size) (hs : s.size ≤ 1000000) : ∀ w : World, (Instr.slice 9 (.string s) (some (.int .i64 J)) none none).run Tryz.prog w = .ok (.string (s.extract j s.size)) w := by
  intro w
  subst hJ
  rw [run_slice_string_l w 9 s Tryz.underlying9 .i64 (j : Int) (by omega) (by omega), Int.toNat_natCast]

set_option maxHeartbeats 2000000 in
theorem numr_any (s : ByteArray) (w : World) (hs : s.size ≤ 1000000) :
    Calls Tryz.prog 118 #[.string s] w fun e w' => NumPost s.data.toList e ∧ Fr noB w w' := by
  go_enter Tryz.func118, Tryz.ntmps118
  go_wp2_with fail
  go_loopw [2] (fun v wr => ∃ (pos acc : Nat), ItAt wr w.heap.size s pos ∧ Fr noB w wr ∧ pos ≤ s.size ∧ v = .int .i64 acc ∧ Hid (acc ≤ 9007199254745088) ∧ Hid (numS 0 s.data.toList = numS acc (s.data.toList.drop pos))) (fun _ wr => s.size - wr.iterPos w.heap.size)
  case atStart => exact ⟨0, 0, it_new w s, (Fr.refl _ _).alloc _, Nat.zero_le _, rfl, Lib.hid (by omega), Lib.hid rfl⟩
  case round =>
    obtain ⟨pos, acc, it, fr, hps, rfl, hab, hk⟩ := hrel
    by_cases hp : pos < s.size
    · obtain ⟨w2, hnx, it2, f2, hz2⟩ := next_it (P := Tryz.prog) it hp
      have hd := dec_in hp
      have h1 := dec_pos (s.data.toList.drop pos)
      have hne := drop_lt hp
      have hi1 := it.ipos
      have hi2 := it2.ipos
      have fr2 := fr.seqB f2 (fun q => absurd q (Nat.lt_irrefl _))
      have hst := numS_step acc _ hne
      rw [List.drop_drop] at hst
      have hw3 := width3 _ hne
      have hR := dec_rune (s.data.toList.drop pos)
      have hdl : ∀ j, (s.extract j s.size).data.toList = s.data.toList.drop j := tail_eq s
      generalize (dec (s.data.toList.drop pos)).1 = R at *
      generalize (dec (s.data.toList.drop pos)).2 = W at *
      have hb := hab.out
      replace hz2 := Lib.hid hz2
      replace hi1 := Lib.hid hi1
      replace hi2 := Lib.hid hi2
      replace hne := Lib.hid hne
      replace hst := Lib.hid hst
      replace hw3 := Lib.hid hw3
      replace hdl := Lib.hid hdl
      clear it f2
      have hR0 : (0 : Int) ≤ R := by omega
      have hR1 : (R : Int) ≤ 1114111 := by omega
      have ha0 : (0 : Int) ≤ acc := by omega
      by_cases hA : 2199023255552 < acc
      · have hno : numS 0 s.data.toList = none := by rw [hk.out, hst.out, if_pos hA]
        have i1 : (acc : Int) > 2199023255552 := by omega
        replace hno := Lib.hid hno
        clear hA hb hR
        go_wp2_with fail
        go_ret3
        exact ⟨Or.inr ⟨hno.out, _, _, rfl⟩, fr2⟩
      · have i1 : ¬ (acc : Int) > 2199023255552 := by omega
        have i1' : (acc : Int) ≤ 2199023255552 := by omega
        by_cases h43 : 4352 ≤ R
        · have i2 : (R : Int) ≥ 4352 := by omega
          by_cases h84 : R < 8448
          · have i3 : (R : Int) < 8448 := by omega
            have hW := hw3.out h43 h84
            subst hW
            have hsl := slice_tail s (pos + 3) ((pos : Int) + 3) (by omega) hd (by omega)
            have hst2 := hst.out
            rw [if_neg hA, if_pos ⟨h43, h84⟩, ← hk.out] at hst2
            have hstr : s.extract (pos + 3) s.size = strB (s.data.toList.drop (pos + 3)) := by rw [← hdl.out, strB_of]
            have i6 : ((acc : Int) * 4096) + ((R : Int) - 4352) = ((acc * 4096 + (R - 4352) : Nat) : Int) := by omega
            have hrl := fun w => rlen_any R w (by omega) (by omega)
            generalize s.extract (pos + 3) s.size = tl at *
            subst hstr
            replace hrl := Lib.hid hrl
            by_cases hN : acc * 4096 + (R - 4352) ≤ 9007199254740992
            · rw [if_pos hN] at hst2
              have i7 : decide (((acc : Int) * 4096) + ((R : Int) - 4352) ≤ 9007199254740992) = true := by simp; omega
              replace hst2 := Lib.hid hst2
              replace i6 := Lib.hid i6
              clear hA hb hR h43 h84 hN
              go_wp2_with fail
              go_quiet ((go_at_call 137; exact Calls.quiet_of (hrl.out _)))
              go_wp2_with fail
              go_ret3
              exact ⟨Or.inl ⟨_, _, hst2.out, by rw [← i6.out]; rfl⟩, fr2.drewN _⟩
            · rw [if_neg hN] at hst2
              have i7 : decide (((acc : Int) * 4096) + ((R : Int) - 4352) ≤ 9007199254740992) = false := by simp; omega
              replace hst2 := Lib.hid hst2
              replace i6 := Lib.hid i6
              clear hA hb hR h43 h84 hN
              go_wp2_with fail
              go_quiet ((go_at_call 137; exact Calls.quiet_of (hrl.out _)))
              go_wp2_with fail
              go_ret3
              exact ⟨Or.inr ⟨hst2.out, _, _, rfl⟩, fr2.drewN _⟩
          · have hno : numS 0 s.data.toList = none := by rw [hk.out, hst.out, if_neg hA, if_neg (by omega), if_pos (by omega)]
            have i3 : ¬ (R : Int) < 8448 := by omega
            have i4 : ((R : Int) == 256) = false := by simp; omega
            have i5 : ¬ (R : Int) < 256 := by omega
            replace hno := Lib.hid hno
            clear hA hb hR h43 h84
            go_wp2_with fail
            go_ret3
            exact ⟨Or.inr ⟨hno.out, _, _, rfl⟩, fr2⟩
        · have i2 : ¬ (R : Int) ≥ 4352 := by omega
          by_cases h25 : R < 256
          · have hno : numS 0 s.data.toList = none := by rw [hk.out, hst.out, if_neg hA, if_neg (by omega), if_pos (by omega)]
            have i4 : ((R : Int) == 256) = false := by simp; omega
            have i5 : (R : Int) < 256 := by omega
            replace hno := Lib.hid hno
            clear hA hb hR h43 h25
            go_wp2_with fail
            go_ret3
            exact ⟨Or.inr ⟨hno.out, _, _, rfl⟩, fr2⟩
          · have i5 : ¬ (R : Int) < 256 := by omega
            by_cases hZ : R = 256 ∧ acc = 0
            · have hno : numS 0 s.data.toList = none := by rw [hk.out, hst.out, if_neg hA, if_neg (by omega), if_pos (by omega)]
              obtain ⟨rfl, rfl⟩ := hZ
              replace hno := Lib.hid hno
              clear hA hb hR h43 h25
              go_wp2_with fail
              go_ret3
              exact ⟨Or.inr ⟨hno.out, _, _, rfl⟩, fr2⟩
            · have hst2 : numS 0 s.data.toList = numS (acc * 4096 + (R - 256)) (s.data.toList.drop (pos + W)) := by rw [hk.out, hst.out, if_neg hA, if_neg (by omega), if_neg (by omega)]
              have i6 : ((acc : Int) * 4096) + ((R : Int) - 256) = ((acc * 4096 + (R - 256) : Nat) : Int) := by omega
              have hab2 : acc * 4096 + (R - 256) ≤ 9007199254745088 := by omega
              have hmeas : s.size - (pos + W) < s.size - pos := by omega
              replace hst2 := Lib.hid hst2
              replace i6 := Lib.hid i6
              replace hab2 := Lib.hid hab2
              replace hmeas := Lib.hid hmeas
              by_cases hQ : R = 256
              · have i7 : ((acc : Int) == 0) = false := by simp; omega
                have i4 : ((R : Int) == 256) = true := by simp; omega
                clear hA hb hR h43 h25 hZ hQ
                go_wp2_with fail
                go_roundw
                case rel => exact ⟨_, acc * 4096 + (R - 256), it2, fr2, hd, by rw [← i6.out], hab2, hst2⟩
                case measure => rw [hi1.out, hi2.out]; exact hmeas.out
              · have i4 : ((R : Int) == 256) = false := by simp; omega
                clear hA hb hR h43 h25 hZ hQ
                go_wp2_with fail
                go_roundw
                case rel => exact ⟨_, acc * 4096 + (R - 256), it2, fr2, hd, by rw [← i6.out], hab2, hst2⟩
                case measure => rw [hi1.out, hi2.out]; exact hmeas.out
    · have hnx := next_end (P := Tryz.prog) it hp
      rw [drop_end hp, numS_nil] at hk
      go_wp2_with fail
      go_ret3
      exact ⟨Or.inr ⟨hk.out, _, _, rfl⟩, fr⟩
end Go.Proofs.YtdmhnoffejjpnaaGreatDoor
end

section
set_option linter.unusedVariables false
set_option linter.unusedSimpArgs false
set_option maxRecDepth 100000
namespace Go.Proofs.YtdmhnoffejjpnaaGreatDoor
open Go.RowKit Go Go.Lib

/-- a number of some bounds, and what is left -/
def intS (lo hi : Int) (l : List UInt8) : Option (Nat × List UInt8) :=
  match numS 0 l with
  | none => none
  | some (n, t) => if (n : Int) < lo then none else if hi < (n : Int) then none else some (n, t)
def vI (o : Option (Nat × List UInt8)) : Int := match o with | some (n, _) => (n : Int) | none => 0
def sI (o : Option (Nat × List UInt8)) : Option (List UInt8) := match o with | some (_, t) => some t | none => none
def vT (o : Option (List UInt8 × List UInt8)) : List UInt8 := match o with | some (s, _) => s | none => []
def sT (o : Option (List UInt8 × List UInt8)) : Option (List UInt8) := match o with | some (_, t) => some t | none => none

theorem rint_nil (lo hi : Int) (w : World) : Calls Tryz.prog 98 #[.pointer none, .int .i64 lo, .int .i64 hi] w fun e w' => e = .returned (.int .i64 0) ∧ w' = w := by
  go_enter Tryz.func98, Tryz.ntmps98
  go_wp2_with fail
  go_ret
  exact ⟨rfl, rfl⟩

set_option maxHeartbeats 1000000 in
theorem rint_any (p : Nat) (st : Option (List UInt8)) (lo hi : Int) (w : World) (h : Rd w p st) :
    Calls Tryz.prog 98 #[.pointer (some ⟨p, 0, none⟩), .int .i64 lo, .int .i64 hi] w fun e w' => e = .returned (.int .i64 (vI (st.bind (intS lo hi)))) ∧ Rd w' p (sI (st.bind (intS lo hi))) ∧ Fr (onlyB p) w w' := by
  obtain ⟨s, b, h1, h2, h3⟩ := h
  have c1 : w.cell? ⟨p, 1, none⟩ = some (.bool b) := h1.cell 1
  have c0 : w.cell? ⟨p, 0, none⟩ = some (.string s) := h1.cell 0
  rcases h3 with ⟨rfl, rfl⟩ | ⟨rfl, rfl⟩
  · go_enter Tryz.func98, Tryz.ntmps98
    go_wp2_with fail
    go_ret
    exact ⟨rfl, ⟨s, true, h1, h2, Or.inl ⟨rfl, rfl⟩⟩, Fr.refl _ _⟩
  · have hnr := numr_any s w (by omega)
    have hx : (some s.data.toList).bind (intS lo hi) = intS lo hi s.data.toList := rfl
    rw [hx]
    replace hx := Lib.hid hx
    replace hnr := Lib.hid hnr
    have hlen : ∀ n t, numS 0 s.data.toList = some (n, t) → (strB t).size ≤ 200000 := fun n t q => by
      have := congrArg List.length (num_inv q).1
      rw [List.length_append, size_len] at this
      rw [strB_size]; omega
    replace hlen := Lib.hid hlen
    replace h2 := Lib.hid h2
    go_enter Tryz.func98, Tryz.ntmps98
    go_wp2_with fail
    refine hnr.out.mono ?_
    rintro e w1 ⟨hp, f1⟩
    have b1 : Blk w1 p 185 [.string s, .bool false] := f1.keepN h1
    have z0 := b1.frozen 0
    have z1 := b1.frozen 1
    have d0 : w1.cell? ⟨p, 0, none⟩ = some (.string s) := b1.cell 0
    have d1 : w1.cell? ⟨p, 1, none⟩ = some (.bool false) := b1.cell 1
    have fp : Fr (onlyB p) w w1 := f1.toN
    clear c0 c1 hnr f1 h1
    have bad : ∀ (e : Ending) (w2 : World), e = .returned (.int .i64 0) → w2 = w1.setCell ⟨p, 1, none⟩ (.bool true) → intS lo hi s.data.toList = none →
        e = .returned (.int .i64 (vI (intS lo hi s.data.toList))) ∧ Rd w2 p (sI (intS lo hi s.data.toList)) ∧ Fr (onlyB p) w w2 := by
      rintro e w2 rfl rfl q
      rw [q]
      exact ⟨rfl, ⟨s, true, b1.set 1 _, h2.out, Or.inl ⟨rfl, rfl⟩⟩, fp.store (onlyB_self p)⟩
    replace bad := Lib.hid bad
    rcases hp with ⟨n, t, hn, rfl⟩ | ⟨hn, x, r, rfl⟩
    · by_cases hlo : (n : Int) < lo
      · have hq : intS lo hi s.data.toList = none := by unfold intS; rw [hn]; simp only; rw [if_pos hlo]
        replace hq := Lib.hid hq
        replace hn := Lib.hid hn
        go_wp2_with fail
        go_ret
        exact bad.out _ _ rfl rfl hq.out
      · by_cases hhi : hi < (n : Int)
        · have hq : intS lo hi s.data.toList = none := by unfold intS; rw [hn]; simp only; rw [if_neg hlo, if_pos hhi]
          have hhi' : (n : Int) > hi := hhi
          replace hq := Lib.hid hq
          replace hn := Lib.hid hn
          go_wp2_with fail
          go_ret
          exact bad.out _ _ rfl rfl hq.out
        · have hq : intS lo hi s.data.toList = some (n, t) := by unfold intS; rw [hn]; simp only; rw [if_neg hlo, if_neg hhi]
          have hhi' : ¬ (n : Int) > hi := hhi
          have ht := hlen.out _ _ hn
          replace hq := Lib.hid hq
          replace hn := Lib.hid hn
          replace ht := Lib.hid ht
          go_wp2_with fail
          go_ret
          rw [hq.out]
          exact ⟨rfl, ⟨strB t, false, b1.set 0 _, ht.out, Or.inr ⟨rfl, rfl⟩⟩, fp.store (onlyB_self p)⟩
    · have hq : intS lo hi s.data.toList = none := by unfold intS; rw [hn]
      replace hq := Lib.hid hq
      replace hn := Lib.hid hn
      go_wp2_with fail
      go_ret
      exact bad.out _ _ rfl rfl hq.out

theorem rtext_nil (m : Int) (w : World) : Calls Tryz.prog 100 #[.pointer none, .int .i64 m] w fun e w' => e = .returned (.string (strB [])) ∧ w' = w := by
  go_enter Tryz.func100, Tryz.ntmps100
  go_wp2_with fail
  refine (rint_nil _ _ _).mono ?_
  rintro e w1 ⟨rfl, hw⟩
  obtain rfl := hw.symm
  go_wp2_with fail
  refine (rok_nil _).mono ?_
  rintro e w1 ⟨rfl, hw⟩
  obtain rfl := hw.symm
  go_wp2_with fail
  go_ret
  exact ⟨rfl, rfl⟩

theorem unqpost_some {l t : List UInt8} {e : Ending} (h : UnqPost l e) (ht : unqP unq1 l = some t) : e = .returned (.tuple #[.string (strB t), .int .i64 0]) := by
  rcases h with ⟨t', h1, h2⟩ | ⟨h1, h2⟩
  · unfold unqL at h1; rw [ht] at h1; injection h1 with h1; subst h1; exact h2
  · unfold unqL at h1; rw [ht] at h1; cases h1
theorem unqpost_none {l : List UInt8} {e : Ending} (h : UnqPost l e) (ht : unqP unq1 l = none) : e = .returned (.tuple #[.string (strB []), .int .i64 3]) := by
  rcases h with ⟨t', h1, h2⟩ | ⟨h1, h2⟩
  · unfold unqL at h1; rw [ht] at h1; cases h1
  · exact h2
theorem int_full (l : List UInt8) : intS 0 9007199254740992 l = numS 0 l := by
  unfold intS
  cases h : numS 0 l with
  | none => rfl
  | some q =>
    obtain ⟨n, t⟩ := q
    have := (num_inv h).2
    simp only
    rw [if_neg (by omega), if_neg (by omega)]

theorem Fr.seqB2 {S : Nat → Prop} {a b c : World} (h : Fr S a b) (k : Fr noB b c) : Fr S a c := h.seqN k
set_option maxHeartbeats 4000000 in
theorem rtext_any (p : Nat) (st : Option (List UInt8)) (m : Int) (w : World) (hg : Gl w) (hgp : p ≠ 0 ∧ p ≠ 1 ∧ p ≠ 5) (h : Rd w p st) :
    Calls Tryz.prog 100 #[.pointer (some ⟨p, 0, none⟩), .int .i64 m] w fun e w' => e = .returned (.string (strB (vT (st.bind (textS m))))) ∧ Rd w' p (sT (st.bind (textS m))) ∧ Fr (onlyB p) w w' := by
  have glp : ∀ w', Fr (onlyB p) w w' → Gl w' := fun w' f => by
    obtain ⟨⟨a, b, h1⟩, ⟨c, d, h2⟩, h3⟩ := hg
    exact ⟨⟨a, b, f.cell h1 (fun q => hgp.1 q.symm)⟩, ⟨c, d, f.cell h2 (fun q => hgp.2.1 q.symm)⟩, f.cell h3 (fun q => hgp.2.2 q.symm)⟩
  have hri := rint_any p st 0 9007199254740992 w h
  have hlen0 : ∀ l, st = some l → l.length ≤ 200000 := by
    rintro l rfl
    obtain ⟨s, b, _, h2, h3⟩ := h
    rcases h3 with ⟨q, _⟩ | ⟨_, q⟩
    · cases q
    · injection q with q; rw [q, size_len]; exact h2
  clear h hg hgp
  cases hx : st.bind (intS 0 9007199254740992) with
  | none =>
    rw [hx] at hri
    have hq : st.bind (textS m) = none := by
      cases st with
      | none => rfl
      | some l =>
        have hx' : intS 0 9007199254740992 l = none := hx
        rw [int_full] at hx'
        show textS m l = none
        unfold textS; rw [hx']
    rw [hq]
    have hok := fun w1 (rd1 : Rd w1 p none) => rok_any p none w1 rd1
    replace hok := Lib.hid hok
    replace hq := Lib.hid hq
    replace hx := Lib.hid hx
    replace glp := Lib.hid glp
    replace hri := Lib.hid hri
    clear hlen0
    go_enter Tryz.func100, Tryz.ntmps100
    go_wp2_with fail
    refine hri.out.mono ?_
    rintro e w1 ⟨rfl, rd1, f1⟩
    clear hri
    go_wp2_with fail
    refine (hok.out w1 rd1).mono ?_
    rintro e w2 ⟨rfl, hw⟩
    obtain rfl := hw.symm
    go_wp2_with fail
    go_ret
    exact ⟨rfl, rd1, f1⟩
  | some q =>
    obtain ⟨c, r⟩ := q
    rw [hx, show vI (some (c, r)) = (c : Int) from rfl, show sI (some (c, r)) = some r from rfl] at hri
    obtain ⟨l, rfl, hx'⟩ : ∃ l, st = some l ∧ intS 0 9007199254740992 l = some (c, r) := by
      cases st with
      | none => cases hx
      | some l => exact ⟨l, rfl, hx⟩
    rw [int_full] at hx'
    have hinv := num_inv hx'
    have hcb := hinv.2
    have hrl : r.length ≤ 200000 := by
      have h1 := congrArg List.length hinv.1
      rw [List.length_append] at h1
      have := hlen0 l rfl
      omega
    have hts : (some l).bind (textS m) = match unqP unq1 (cutL r c) with
        | none => none
        | some s => if (chunks (cutL r c)).length < c then none else if m < (s.length : Int) then none else some (s, r.drop (cutL r c).length) := by
      show textS m l = _
      unfold textS; rw [hx']
      rfl
    rw [hts]
    have hok : ∀ w1, Rd w1 p (some r) → _ := fun w1 rd1 => rok_any p (some r) w1 rd1
    have hrd : ∀ w1, Rd w1 p (some r) → ∃ s1, Blk w1 p 185 [.string s1, .bool false] ∧ s1 = strB r := by
      rintro w1 ⟨s1, b1, bk, hs1, hb1⟩
      rcases hb1 with ⟨q, _⟩ | ⟨rfl, q⟩
      · cases q
      · injection q with q
        exact ⟨s1, bk, by rw [q, strB_of]⟩
    have hrl2 : (strB r).size ≤ 200000 := by rw [strB_size]; exact hrl
    have hct := fun w1 => cut_any (strB r) (c : Int) w1 (by unfold maxLen; omega) (by omega)
    have hci : cutI (strB r).data.toList (c : Int) = cutL r c := rfl
    rw [hci] at hct
    obtain ⟨z, hz⟩ := cut_prefix r c
    have hlr : (cutL r c).length ≤ r.length := by
      have h1 := congrArg List.length hz
      rw [List.length_append] at h1
      omega
    have hsl := slice_tail (strB r) (strB (cutL r c)).size ((strB (cutL r c)).size : Int) rfl (by rw [strB_size, strB_size]; exact hlr) (by omega)
    have hql : ((strB r).extract (strB (cutL r c)).size (strB r).size).size ≤ 200000 := by
      rw [← size_len, tail_eq, List.length_drop, strB_list]; omega
    have hfin : ((strB r).extract (strB (cutL r c)).size (strB r).size).data.toList = r.drop (cutL r c).length := by rw [tail_eq, strB_list, strB_size]
    have hun := fun w (h : Gl w) => unquote_any (strB (cutL r c)) w h (by rw [strB_size]; omega)
    have hcn := fun w => count_any (strB (cutL r c)) w (by rw [strB_size]; unfold maxLen; omega)
    rw [strB_list] at hun hcn
    have hcl := chunks_len (cutL r c)
    have hc2 : (chunks (cutL r c)).length ≤ 200000 := by omega
    have hfs : (strB (cutL r c)).size ≤ 200000 := by rw [strB_size]; omega
    clear hts hx hx' hinv hz hlen0 hcl hlr hci hrl
    replace hrd := Lib.hid hrd
    generalize hC : (chunks (cutL r c)).length = C at *
    generalize hRR : (strB r).extract (strB (cutL r c)).size (strB r).size = RR at *
    replace hC := Lib.hid hC
    replace hRR := Lib.hid hRR
    have c0 : (0 : Int) ≤ c := by omega
    have c3 : (C : Int) ≤ 200000 := by omega
    cases hu : unqP unq1 (cutL r c) with
    | none =>
      replace hun := fun w (h : Gl w) => (hun w h).mono (R' := fun e w' => e = .returned (.tuple #[.string (strB []), .int .i64 3]) ∧ Fr noB w w') fun e w' ⟨h1, h2⟩ => ⟨unqpost_none h1 hu, h2⟩
      replace hu := Lib.hid hu
      generalize strB (cutL r c) = Q at *
      simp only
      by_cases hCc : C < c
      · have i1 : (C : Int) < c := by omega
        clear hcb hc2 hCc
        replace glp := Lib.hid glp
        replace hri := Lib.hid hri
        replace hok := Lib.hid hok
        replace hct := Lib.hid hct
        replace hun := Lib.hid hun
        replace hcn := Lib.hid hcn
        replace hfin := Lib.hid hfin
        replace hql := Lib.hid hql
        go_enter Tryz.func100, Tryz.ntmps100
        go_wp2_with fail
        refine hri.out.mono ?_
        rintro e w1 ⟨rfl, rd1, f1⟩
        have ok1 := hok.out w1 rd1
        obtain ⟨s1, bk, hsz⟩ := hrd.out w1 rd1
        subst hsz
        have d0 : w1.cell? ⟨p, 0, none⟩ = some (.string (strB r)) := bk.cell 0
        clear hri
        go_wp2_with fail
        refine ok1.mono ?_
        rintro e w2 ⟨rfl, hw⟩
        obtain rfl := hw.symm
        go_wp2_with fail
        refine (hct.out w1).mono ?_
        rintro e w2 ⟨rfl, f2⟩
        have f12 := f1.seqB2 f2
        have bk2 := f2.keepN bk
        clear d0 bk ok1 f2 f1
        go_wp2_with fail
        refine (hun.out w2 (glp.out _ f12)).mono ?_
        rintro e w3 ⟨rfl, f3⟩
        have f13 := f12.seqB2 f3
        have bk3 := f3.keepN bk2
        clear bk2 f3 f12
        go_wp2_with fail
        refine (hcn.out w3).mono ?_
        rintro e w4 ⟨rfl, f4⟩
        have f14 := f13.seqB2 f4
        have bk4 := f4.keepN bk3
        have z0 := bk4.frozen 0
        have z1 := bk4.frozen 1
        have d0 : w4.cell? ⟨p, 0, none⟩ = some (.string (strB r)) := bk4.cell 0
        have d1 : w4.cell? ⟨p, 1, none⟩ = some (.bool false) := bk4.cell 1
        clear bk3 f4 f13
        go_wp2_with fail
        go_ret
        exact ⟨rfl, ⟨strB r, true, bk4.set 1 _, hrl2, Or.inl ⟨rfl, rfl⟩⟩, f14.store (onlyB_self p)⟩
      · have i1 : ¬ (C : Int) < c := by omega
        clear hcb hc2 hCc
        replace glp := Lib.hid glp
        replace hri := Lib.hid hri
        replace hok := Lib.hid hok
        replace hct := Lib.hid hct
        replace hun := Lib.hid hun
        replace hcn := Lib.hid hcn
        replace hfin := Lib.hid hfin
        replace hql := Lib.hid hql
        go_enter Tryz.func100, Tryz.ntmps100
        go_wp2_with fail
        refine hri.out.mono ?_
        rintro e w1 ⟨rfl, rd1, f1⟩
        have ok1 := hok.out w1 rd1
        obtain ⟨s1, bk, hsz⟩ := hrd.out w1 rd1
        subst hsz
        have d0 : w1.cell? ⟨p, 0, none⟩ = some (.string (strB r)) := bk.cell 0
        clear hri
        go_wp2_with fail
        refine ok1.mono ?_
        rintro e w2 ⟨rfl, hw⟩
        obtain rfl := hw.symm
        go_wp2_with fail
        refine (hct.out w1).mono ?_
        rintro e w2 ⟨rfl, f2⟩
        have f12 := f1.seqB2 f2
        have bk2 := f2.keepN bk
        clear d0 bk ok1 f2 f1
        go_wp2_with fail
        refine (hun.out w2 (glp.out _ f12)).mono ?_
        rintro e w3 ⟨rfl, f3⟩
        have f13 := f12.seqB2 f3
        have bk3 := f3.keepN bk2
        clear bk2 f3 f12
        go_wp2_with fail
        refine (hcn.out w3).mono ?_
        rintro e w4 ⟨rfl, f4⟩
        have f14 := f13.seqB2 f4
        have bk4 := f4.keepN bk3
        have z0 := bk4.frozen 0
        have z1 := bk4.frozen 1
        have d0 : w4.cell? ⟨p, 0, none⟩ = some (.string (strB r)) := bk4.cell 0
        have d1 : w4.cell? ⟨p, 1, none⟩ = some (.bool false) := bk4.cell 1
        clear bk3 f4 f13
        go_wp2_with fail
        go_ret
        exact ⟨rfl, ⟨strB r, true, bk4.set 1 _, hrl2, Or.inl ⟨rfl, rfl⟩⟩, f14.store (onlyB_self p)⟩
    | some s =>
      replace hun := fun w (h : Gl w) => (hun w h).mono (R' := fun e w' => e = .returned (.tuple #[.string (strB s), .int .i64 0]) ∧ Fr noB w w') fun e w' ⟨h1, h2⟩ => ⟨unqpost_some h1 hu, h2⟩
      have hsz : (strB s).size = s.length := rfl
      replace hu := Lib.hid hu
      simp only
      by_cases hCc : C < c
      · rw [if_pos hCc]
        generalize strB (cutL r c) = Q at *
        have i1 : (C : Int) < c := by omega
        clear hcb hc2 hCc hsz
        replace glp := Lib.hid glp
        replace hri := Lib.hid hri
        replace hok := Lib.hid hok
        replace hct := Lib.hid hct
        replace hun := Lib.hid hun
        replace hcn := Lib.hid hcn
        replace hfin := Lib.hid hfin
        replace hql := Lib.hid hql
        go_enter Tryz.func100, Tryz.ntmps100
        go_wp2_with fail
        refine hri.out.mono ?_
        rintro e w1 ⟨rfl, rd1, f1⟩
        have ok1 := hok.out w1 rd1
        obtain ⟨s1, bk, hsz⟩ := hrd.out w1 rd1
        subst hsz
        have d0 : w1.cell? ⟨p, 0, none⟩ = some (.string (strB r)) := bk.cell 0
        clear hri
        go_wp2_with fail
        refine ok1.mono ?_
        rintro e w2 ⟨rfl, hw⟩
        obtain rfl := hw.symm
        go_wp2_with fail
        refine (hct.out w1).mono ?_
        rintro e w2 ⟨rfl, f2⟩
        have f12 := f1.seqB2 f2
        have bk2 := f2.keepN bk
        clear d0 bk ok1 f2 f1
        go_wp2_with fail
        refine (hun.out w2 (glp.out _ f12)).mono ?_
        rintro e w3 ⟨rfl, f3⟩
        have f13 := f12.seqB2 f3
        have bk3 := f3.keepN bk2
        clear bk2 f3 f12
        go_wp2_with fail
        refine (hcn.out w3).mono ?_
        rintro e w4 ⟨rfl, f4⟩
        have f14 := f13.seqB2 f4
        have bk4 := f4.keepN bk3
        have z0 := bk4.frozen 0
        have z1 := bk4.frozen 1
        have d0 : w4.cell? ⟨p, 0, none⟩ = some (.string (strB r)) := bk4.cell 0
        have d1 : w4.cell? ⟨p, 1, none⟩ = some (.bool false) := bk4.cell 1
        clear bk3 f4 f13
        go_wp2_with fail
        go_ret
        exact ⟨rfl, ⟨strB r, true, bk4.set 1 _, hrl2, Or.inl ⟨rfl, rfl⟩⟩, f14.store (onlyB_self p)⟩
      · rw [if_neg hCc]
        have i1 : ¬ (C : Int) < c := by omega
        by_cases hm : m < (s.length : Int)
        · rw [if_pos hm]
          have i2 : ((strB s).size : Int) > m := by omega
          generalize strB (cutL r c) = Q at *
          generalize strB s = SS at *
          clear hcb hc2 hCc hsz hm
          replace glp := Lib.hid glp
          replace hri := Lib.hid hri
          replace hok := Lib.hid hok
          replace hct := Lib.hid hct
          replace hun := Lib.hid hun
          replace hcn := Lib.hid hcn
          replace hfin := Lib.hid hfin
          replace hql := Lib.hid hql
          go_enter Tryz.func100, Tryz.ntmps100
          go_wp2_with fail
          refine hri.out.mono ?_
          rintro e w1 ⟨rfl, rd1, f1⟩
          have ok1 := hok.out w1 rd1
          obtain ⟨s1, bk, hsz⟩ := hrd.out w1 rd1
          subst hsz
          have d0 : w1.cell? ⟨p, 0, none⟩ = some (.string (strB r)) := bk.cell 0
          clear hri
          go_wp2_with fail
          refine ok1.mono ?_
          rintro e w2 ⟨rfl, hw⟩
          obtain rfl := hw.symm
          go_wp2_with fail
          refine (hct.out w1).mono ?_
          rintro e w2 ⟨rfl, f2⟩
          have f12 := f1.seqB2 f2
          have bk2 := f2.keepN bk
          clear d0 bk ok1 f2 f1
          go_wp2_with fail
          refine (hun.out w2 (glp.out _ f12)).mono ?_
          rintro e w3 ⟨rfl, f3⟩
          have f13 := f12.seqB2 f3
          have bk3 := f3.keepN bk2
          clear bk2 f3 f12
          go_wp2_with fail
          refine (hcn.out w3).mono ?_
          rintro e w4 ⟨rfl, f4⟩
          have f14 := f13.seqB2 f4
          have bk4 := f4.keepN bk3
          have z0 := bk4.frozen 0
          have z1 := bk4.frozen 1
          have d0 : w4.cell? ⟨p, 0, none⟩ = some (.string (strB r)) := bk4.cell 0
          have d1 : w4.cell? ⟨p, 1, none⟩ = some (.bool false) := bk4.cell 1
          clear bk3 f4 f13
          go_wp2_with fail
          go_ret
          exact ⟨rfl, ⟨strB r, true, bk4.set 1 _, hrl2, Or.inl ⟨rfl, rfl⟩⟩, f14.store (onlyB_self p)⟩
        · rw [if_neg hm]
          have i2 : ¬ ((strB s).size : Int) > m := by omega
          have hvt : strB (vT (some (s, r.drop (cutL r c).length))) = strB s := rfl
          rw [hvt]
          generalize strB (cutL r c) = Q at *
          generalize strB s = SS at *
          clear hcb hc2 hCc hsz hm hvt
          replace glp := Lib.hid glp
          replace hri := Lib.hid hri
          replace hok := Lib.hid hok
          replace hct := Lib.hid hct
          replace hun := Lib.hid hun
          replace hcn := Lib.hid hcn
          replace hfin := Lib.hid hfin
          replace hql := Lib.hid hql
          go_enter Tryz.func100, Tryz.ntmps100
          go_wp2_with fail
          refine hri.out.mono ?_
          rintro e w1 ⟨rfl, rd1, f1⟩
          have ok1 := hok.out w1 rd1
          obtain ⟨s1, bk, hsz⟩ := hrd.out w1 rd1
          subst hsz
          have d0 : w1.cell? ⟨p, 0, none⟩ = some (.string (strB r)) := bk.cell 0
          clear hri
          go_wp2_with fail
          refine ok1.mono ?_
          rintro e w2 ⟨rfl, hw⟩
          obtain rfl := hw.symm
          go_wp2_with fail
          refine (hct.out w1).mono ?_
          rintro e w2 ⟨rfl, f2⟩
          have f12 := f1.seqB2 f2
          have bk2 := f2.keepN bk
          clear d0 bk ok1 f2 f1
          go_wp2_with fail
          refine (hun.out w2 (glp.out _ f12)).mono ?_
          rintro e w3 ⟨rfl, f3⟩
          have f13 := f12.seqB2 f3
          have bk3 := f3.keepN bk2
          clear bk2 f3 f12
          go_wp2_with fail
          refine (hcn.out w3).mono ?_
          rintro e w4 ⟨rfl, f4⟩
          have f14 := f13.seqB2 f4
          have bk4 := f4.keepN bk3
          have z0 := bk4.frozen 0
          have z1 := bk4.frozen 1
          have d0 : w4.cell? ⟨p, 0, none⟩ = some (.string (strB r)) := bk4.cell 0
          have d1 : w4.cell? ⟨p, 1, none⟩ = some (.bool false) := bk4.cell 1
          clear bk3 f4 f13
          go_wp2_with fail
          go_ret
          exact ⟨rfl, ⟨_, false, bk4.set 0 _, hql.out, Or.inr ⟨rfl, by rw [hfin.out]; rfl⟩⟩, f14.store (onlyB_self p)⟩
end Go.Proofs.YtdmhnoffejjpnaaGreatDoor
end

section
set_option linter.unusedVariables false
set_option linter.unusedSimpArgs false
set_option maxRecDepth 100000
namespace Go.Proofs.YtdmhnoffejjpnaaGreatDoor
open Go.RowKit Go Go.Lib

/-- the blocks from B on -/
def hiB (B : Nat) : Nat → Prop := fun k => B ≤ k
theorem Fr.hi {B : Nat} {S : Nat → Prop} {a b c : World} (h : Fr (hiB B) a b) (k : Fr S b c) (hS : ∀ i, i < B → ¬ S i) : Fr (hiB B) a c :=
  h.trans k (fun _ _ q => q) (fun i _ q => Nat.le_of_not_lt (fun hlt => hS i hlt q))
theorem Fr.hiN {a b : World} (h : Fr (hiB a.heap.size) a b) : Fr noB a b := ⟨h.os, h.tape, h.output, h.size, fun k hk _ => h.block k hk (by unfold hiB; omega)⟩
theorem Fr.hi0 {B : Nat} {a b c : World} (h : Fr (hiB B) a b) (k : Fr noB b c) : Fr (hiB B) a c := h.hi k (fun _ _ q => q)
theorem Fr.hiO {B p : Nat} {a b c : World} (h : Fr (hiB B) a b) (k : Fr (onlyB p) b c) (hp : B ≤ p) : Fr (hiB B) a c := h.hi k (fun i hi q => by unfold onlyB at q; omega)
theorem Fr.hiW {B p : Nat} {a b c : World} (h : Fr (hiB B) a b) (k : Fr (wU p B b) b c) (hp : B ≤ p) : Fr (hiB B) a c := h.hi k (fun i hi q => by
  rcases q with q | ⟨q, _⟩ <;> omega)
theorem GlB.hi {B : Nat} {w w' : World} (h : GlB B w) (f : Fr (hiB B) w w') : GlB B w' := h.fr f (fun k hk q => by unfold hiB at q; omega)
theorem GlB.ne {B p : Nat} {w : World} (h : GlB B w) (hp : B ≤ p) : p ≠ 0 ∧ p ≠ 1 ∧ p ≠ 5 := by
  have h1 := h.b1
  have h2 := h.b2
  have h3 := h.b3
  refine ⟨?_, ?_, ?_⟩ <;> omega
theorem wr_new {w : World} {p B : Nat} (h : Blk w p 202 [.slice none 0 0]) (hB : B ≤ w.heap.size) : Wr w p (.slice none 0 0) B [] := ⟨h, World.ownsRow_nil _ _ _ _, hB⟩
theorem int_back (n : Nat) (lo hi : Int) (t : List UInt8) (h : n ≤ 9007199254740992) (h1 : lo ≤ (n : Int)) (h2 : (n : Int) ≤ hi) : intS lo hi (numL n ++ t) = some (n, t) := by
  unfold intS
  rw [num_back n h]
  simp only
  rw [if_neg (by omega), if_neg (by omega)]

/-- Int of a slice that is made for it -/
theorem wint_new (p B g : Nat) (v : Value) (T : List UInt8) (xs : List Int) (w : World) (h : Wr w p v B T) (hgz : w.heap.size = g) (hx : ∀ x ∈ xs, -9223372036854775808 ≤ x ∧ x ≤ 9223372036854775807) (hT : T.length + 28 * xs.length ≤ 100000000) :
    Calls Tryz.prog 132 #[.pointer (some ⟨p, 0, none⟩), .slice (some ⟨g, 0, none⟩) xs.length xs.length] (w.alloc (.cells (xs.map (Value.int .i64)).toArray 3)) fun e w' => e = .returned (.tuple #[]) ∧ ∃ v', Wr w' p v' B (T ++ numsL xs) ∧ Fr (wU p B w) w w' := by
  subst hgz
  have f0 : Fr noB w (w.alloc (.cells (xs.map (Value.int .i64)).toArray 3)) := (Fr.refl _ w).alloc _
  have hb : Blk (w.alloc (.cells (xs.map (Value.int .i64)).toArray 3)) w.heap.size 3 (xs.map (Value.int .i64)) := Blk.new _ _ _
  have hp := h.1.lt
  refine (wint_any p B v _ T xs _ (h.frN f0) (RdN.of_blk xs hb (by omega)) hx hT).mono ?_
  rintro e w' ⟨rfl, v', hw, f⟩
  exact ⟨rfl, v', hw, (f0.toN (S := wU p B w)).seqW f⟩
/-- Text of one that is made for it -/
theorem wtext_new (p B0 B g : Nat) (v : Value) (T : List UInt8) (s : ByteArray) (w : World) (h : Wr w p v B T) (hgz : w.heap.size = g) (hg : GlB B0 w) (hp : B0 ≤ p) (h0 : B0 ≤ B) (hs : s.size ≤ 600000) (hT : T.length ≤ 50000000) :
    Calls Tryz.prog 133 #[.pointer (some ⟨p, 0, none⟩), .slice (some ⟨g, 0, none⟩) 1 1] (w.alloc (.cells #[.string s] 9)) fun e w' => e = .returned (.tuple #[]) ∧ ∃ v', Wr w' p v' B (T ++ textL s.data.toList) ∧ Fr (wU p B w) w w' := by
  subst hgz
  have f0 : Fr noB w (w.alloc (.cells #[.string s] 9)) := (Fr.refl _ w).alloc _
  have hb : Blk (w.alloc (.cells #[.string s] 9)) w.heap.size 9 [.string s] := Blk.new _ _ [.string s]
  have hpl := h.1.lt
  refine (wtext_any p B0 B w.heap.size v T s _ (h.frN f0) (hg.frN f0) hp h0 hb (by omega) hs hT).mono ?_
  rintro e w' ⟨rfl, ⟨v', hw, f⟩⟩
  exact ⟨rfl, v', hw, (f0.toN (S := wU p B w)).seqW f⟩

theorem size_alloc (w : World) (o : Obj) : (w.alloc o).heap.size = w.heap.size + 1 := by simp

def awT : List UInt8 := numL 0 ++ (numL 4096 ++ (textL [97, 10] ++ []))
theorem awT_eq : ([] ++ numsL [0, 4096]) ++ textL [97, 10] = awT := by
  unfold awT numsL
  simp [List.flatMap_cons]
theorem awT_len : awT.length ≤ 1000 := by
  unfold awT
  have := num_len 0
  have := num_len 4096
  have h1 := text_len [97, 10]
  have h2 := quote_len [97, 10]
  simp only [List.length_append, List.length_cons, List.length_nil] at *
  omega
theorem aw1 : intS 0 9 awT = some (0, numL 4096 ++ (textL [97, 10] ++ [])) := int_back 0 0 9 _ (by omega) (by omega) (by omega)
theorem aw2 : intS 0 9999 (numL 4096 ++ (textL [97, 10] ++ [])) = some (4096, textL [97, 10] ++ []) := int_back 4096 0 9999 _ (by omega) (by omega) (by omega)
theorem aw3 : textS 2 (textL [97, 10] ++ []) = some ([97, 10], []) := text_back _ 2 (by simp) (by have h2 := quote_len [97, 10]; simp only [List.length_cons, List.length_nil] at h2; omega) _
theorem aw4 : intS 0 9 [97] = none := by decide +kernel

end Go.Proofs.YtdmhnoffejjpnaaGreatDoor
end
