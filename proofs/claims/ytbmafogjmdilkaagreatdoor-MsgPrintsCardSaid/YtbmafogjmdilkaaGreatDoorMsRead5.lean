/-
  msg: Read.
-/
import Derived.Test.YtbmafogjmdilkaaGreatDoorMsRead4
set_option linter.unusedVariables false
set_option linter.unusedSimpArgs false
set_option maxRecDepth 100000
set_option maxRecDepth 100000
namespace Go.Proofs.YtbmafogjmdilkaaGreatDoor
open Go.RowKit Go Go.Lib

/-- the reader's own block is none of a message's -/
theorem Rd.cell0 {w : World} {p : Nat} {st : Option (List UInt8)} (h : Rd w p st) : ∃ s b, Blk w p 105 [.string s, .bool b] := by
  obtain ⟨s, b, h1, _⟩ := h
  exact ⟨s, b, h1⟩
theorem MsW.frP {w w' : World} {p : Nat} {v : Value} {m : Ms} {st : Option (List UInt8)} (h : MsW w v m) (hf : Fr (onlyB p) w w') (hr : Rd w p st) : MsW w' v m := by
  obtain ⟨s, b, hb⟩ := hr.cell0
  have hi : ∀ xs u, RdI w u xs → RdI w' u xs := fun xs u h => by
    obtain ⟨a, c, rfl, h1, h2, h3⟩ := h
    refine ⟨a, c, rfl, h1, h2, fun i hi => ?_⟩
    obtain ⟨g, o, e, h4⟩ := h3 i hi
    refine ⟨g, o, e, hf.cell h4 (fun q => ?_)⟩
    unfold onlyB at q
    subst q
    rw [hb.cell] at h4
    have ho : o + i < 2 := (List.getElem?_eq_some_iff.1 h4).1
    rcases (by omega : o + i = 0 ∨ o + i = 1) with q | q <;> rw [q] at h4 <;> cases h4
  cases m with
  | pinned p => obtain ⟨u, e, h1⟩ := h; exact ⟨u, e, hi _ _ h1⟩
  | chunk a t j i n sp =>
    obtain ⟨u, e, a', c, rfl, hl, hc, hn, h1⟩ := h
    refine ⟨_, e, a', c, rfl, hl, hc, hn, fun i s hs => ?_⟩
    obtain ⟨g, o, rfl, c0, c1, c2⟩ := h1 i s hs
    have hne : ¬ onlyB p g := fun q => by
      unfold onlyB at q
      subst q
      rw [hb.cell] at c2
      have ho : o + i * 3 + 2 < 2 := (List.getElem?_eq_some_iff.1 c2).1
      omega
    exact ⟨g, o, rfl, hf.cell c0 hne, hf.cell c1 hne, hf.cell c2 hne⟩
  | manifest t j c ps =>
    obtain ⟨u, e, a', c', rfl, hl, hc, h1⟩ := h
    refine ⟨_, e, a', c', rfl, hl, hc, fun i p' hs => ?_⟩
    obtain ⟨g, o, ua, uc, rfl, h2, h3⟩ := h1 i p' hs
    have hne : ¬ onlyB p g := fun q => by
      unfold onlyB at q
      subst q
      have c2 := h2 5 _ rfl
      rw [hb.cell] at c2
      have ho : o + (i * 6 + 5) < 2 := (List.getElem?_eq_some_iff.1 c2).1
      omega
    exact ⟨g, o, ua, uc, rfl, fun q x hq => hf.cell (h2 q x hq) hne, hi _ _ h3⟩
  | _ => exact h
theorem ct_s {st : Option (List UInt8)} {a lo hi : Int} {T : List UInt8} (h : Ct st (numL a.toNat ++ T)) (h0 : 0 ≤ a) (hlo : lo ≤ a) (hhi : a ≤ hi) (hb : a ≤ 9007199254740992) : Ct (sI (st.bind (intS lo hi))) T := by
  rcases ct_int h h0 hlo hhi hb with e | ⟨q, e, hq⟩
  · rw [e]; exact Or.inl rfl
  · rw [e]; exact hq
theorem body_len {m : Ms} (h : m.ok = true) : m.body.length ≤ 30000 := by
  have := fl_len h
  unfold Ms.body
  have h2 := nums_len [m.k]
  simp only [List.length_cons, List.length_nil] at h2
  rw [List.length_append]
  omega
theorem two_eq (h l : Int) : numsL [h, l] = numL h.toNat ++ (numL l.toNat ++ []) := by simp only [nums_cons, nums_nil]

set_option maxHeartbeats 2000000 in
theorem read_body (m : Ms) (h l : Int) (w : World) (hg : Gl w) (hok : m.ok = true) (hh : 0 ≤ h ∧ h ≤ 65535) (hl : 0 ≤ l ∧ l ≤ 65535) :
    Calls Tryz.prog 15 #[.string (strB (m.body ++ numsL [h, l]))] w fun e w' => Fr noB w w' ∧ ((m.txt = m.body ++ numsL [h, l] ∧ ∃ v, e = .returned (.tuple #[v, .int .i64 0]) ∧ MsW w' v m) ∨ (m.txt ≠ m.body ++ numsL [h, l] ∧ e = .returned (.tuple #[.nilIface, .int .i64 4]))) := by
  have hbl := body_len hok
  have hnl := nums_len [h, l]
  simp only [List.length_cons, List.length_nil] at hnl
  have hS : (strB (m.body ++ numsL [h, l])).size ≤ 200000 := by rw [strB_size, List.length_append]; omega
  have rd0 := rd_new (strB (m.body ++ numsL [h, l])) w hS
  rw [strB_list] at rd0
  have fA : Fr noB w (w.alloc (.cells [Value.string (strB (m.body ++ numsL [h, l])), .bool false].toArray 105)) := (Fr.refl _ w).alloc _
  have hgp := hg.low.ne (Nat.le_refl w.heap.size)
  have hgA := hg.fr fA
  have i1 := full_int (lo := 0) (hi := 65535) (a := h) (numL l.toNat ++ []) hh.1 hh.1 hh.2 (by omega)
  have i2 := full_int (lo := 0) (hi := 65535) (a := l) [] hl.1 hl.1 hl.2 (by omega)
  have hpA : w.heap.size < (w.alloc (.cells [Value.string (strB (m.body ++ numsL [h, l])), .bool false].toArray 105)).heap.size := by rw [size_alloc]; omega
  have hcmp : m.txt = m.body ++ numsL [h, l] ∨ m.txt ≠ m.body ++ numsL [h, l] := Decidable.em _
  have hnr := newr_any (strB (m.body ++ numsL [h, l])) w
  have key : ∀ w', Fr (hiB w.heap.size) w w' → Fr noB w w' := fun w' f => f.hiN
  obtain ⟨B, hB⟩ : ∃ B, w.heap.size = B := ⟨_, rfl⟩
  rw [hB] at rd0 hgp hpA hnr key
  generalize hST : strB (m.body ++ numsL [h, l]) = S at *
  generalize (w.alloc (.cells [Value.string S, .bool false].toArray 105)) = wA at *
  have fHA : Fr (hiB B) w wA := fA.toH
  have hrf := rf_full B m _ wA hgA hgp rd0 hpA hok
  rw [two_eq] at hrf
  replace hrf := Lib.hid hrf
  replace hnr := Lib.hid hnr
  replace key := Lib.hid key
  replace hST := Lib.hid hST
  replace hcmp := Lib.hid hcmp
  replace i1 := Lib.hid i1
  replace i2 := Lib.hid i2
  replace hg := Lib.hid hg
  clear hbl hnl hS rd0 hgA hgp
  go_enter Tryz.func15, Tryz.ntmps15
  go_wp2_with fail
  go_fit hnr.out
  rintro e w1 ⟨rfl, hw1⟩
  obtain rfl := hw1
  go_wp2_with fail
  go_fit hrf.out
  rintro e w2 ⟨v, rfl, hm2, rd2, f2⟩
  have fr2 := fHA.hiO f2 (Nat.le_refl B)
  replace hm2 := Lib.hid hm2
  go_wp2_with fail
  go_fit (rint_any B _ 0 65535 w2 rd2)
  rw [i1.out]
  rintro e w3 ⟨rfl, rd3, f3⟩
  rw [show sI (some (h.toNat, numL l.toNat ++ [])) = some (numL l.toNat ++ []) from rfl] at rd3
  have fr3 := fr2.hiO f3 (Nat.le_refl B)
  go_wp2_with fail
  go_fit (rint_any B _ 0 65535 w3 rd3)
  rw [i2.out]
  rintro e w4 ⟨rfl, rd4, f4⟩
  rw [show sI (some (l.toNat, ([] : List UInt8))) = some [] from rfl] at rd4
  have fr4 := fr3.hiO f4 (Nat.le_refl B)
  have hm4 : MsW w4 v m := MsW.frP (MsW.frP hm2.out f3 rd2) f4 rd3
  have hdn := rdone_any B _ w4 rd4
  rw [show decide ((some [] : Option (List UInt8)) = some []) = true by simp] at hdn
  have hmb := mayBe_ms v m w4 hm4
  rw [hok] at hmb
  have hgl4 := hg.out.fr (key.out _ fr4)
  have hpr := fun w' (f : Fr noB w4 w') => print_ms v m w' (hgl4.fr f) (hm4.frN f)
  replace hdn := Lib.hid hdn
  replace hmb := Lib.hid hmb
  replace hpr := Lib.hid hpr
  replace hm4 := Lib.hid hm4
  clear rd2 rd3 rd4 f2 f3 f4 fr2 fr3 hm2 hgl4
  go_wp2_with fail
  go_fit hdn.out
  rintro e w5 ⟨rfl, hw5⟩
  obtain rfl := hw5.symm
  go_wp2_with fail
  go_fit hmb.out
  rintro e w6 ⟨rfl, f6⟩
  have hpr6 := hpr.out w6 f6
  have fr6 := fr4.hi0 f6
  have hm6 := hm4.out.frN f6
  replace hm6 := Lib.hid hm6
  replace hpr6 := Lib.hid hpr6
  go_wp2_with fail
  go_fit hpr6.out
  rintro e w7 ⟨rfl, f7⟩
  have fr7 := fr6.hi0 f7
  have hm7 := hm6.out.frN f7
  replace hm7 := Lib.hid hm7
  have hT : (strB m.txt).toList = m.txt := ByteArray.toList_mk _
  have hS2 : S.toList = m.body ++ numsL [h, l] := by rw [← hST.out]; exact ByteArray.toList_mk _
  rcases hcmp.out with hc | hc
  · have hb : ((strB m.txt).toList == S.toList) = true := by rw [hT, hS2, hc]; simp
    generalize strB m.txt = TX at *
    clear hT hS2
    replace hc := Lib.hid hc
    go_wp2_with fail
    go_ret2
    exact ⟨key.out _ fr7, Or.inl ⟨hc.out, v, rfl, hm7.out⟩⟩
  · have hb : ((strB m.txt).toList == S.toList) = false := by rw [hT, hS2]; simpa using hc
    generalize strB m.txt = TX at *
    clear hT hS2
    replace hc := Lib.hid hc
    go_wp2_with fail
    go_ret2
    exact ⟨key.out _ fr7, Or.inr ⟨hc.out, rfl⟩⟩

set_option maxHeartbeats 2000000 in
theorem read_gen (s : ByteArray) (w : World) (hg : Gl w) (hs : s.size ≤ 200000)
    (hf : ∀ p w', Gl w' → (p ≠ 1 ∧ p ≠ 2 ∧ p ≠ 5) → Rd w' p (some s.data.toList) → p < w'.heap.size → Calls Tryz.prog 32 #[.pointer (some ⟨p, 0, none⟩)] w' fun e w'' => ∃ v st', e = .returned v ∧ Rd w'' p st' ∧ (sI ((sI (st'.bind (intS 0 65535))).bind (intS 0 65535)) = none) ∧ Fr (onlyB p) w' w'') :
    Calls Tryz.prog 15 #[.string s] w fun e w' => e = .returned (.tuple #[.nilIface, .int .i64 3]) ∧ Fr noB w w' := by
  have rd0 := rd_new s w hs
  have fA : Fr noB w (w.alloc (.cells [Value.string s, .bool false].toArray 105)) := (Fr.refl _ w).alloc _
  have hgp := hg.low.ne (Nat.le_refl w.heap.size)
  have hgA := hg.fr fA
  have hpA : w.heap.size < (w.alloc (.cells [Value.string s, .bool false].toArray 105)).heap.size := by rw [size_alloc]; omega
  have hnr := newr_any s w
  have key : ∀ w', Fr (hiB w.heap.size) w w' → Fr noB w w' := fun w' f => f.hiN
  obtain ⟨B, hB⟩ : ∃ B, w.heap.size = B := ⟨_, rfl⟩
  rw [hB] at rd0 hgp hpA hnr key
  generalize (w.alloc (.cells [Value.string s, .bool false].toArray 105)) = wA at *
  have fHA : Fr (hiB B) w wA := fA.toH
  have hrf := hf B wA hgA hgp rd0 hpA
  replace hrf := Lib.hid hrf
  replace hnr := Lib.hid hnr
  replace key := Lib.hid key
  replace hg := Lib.hid hg
  clear rd0 hgA hgp hf
  go_enter Tryz.func15, Tryz.ntmps15
  go_wp2_with fail
  go_fit hnr.out
  rintro e w1 ⟨rfl, hw1⟩
  obtain rfl := hw1
  go_wp2_with fail
  go_fit hrf.out
  rintro e w2 ⟨v, st', rfl, rd2, hst, f2⟩
  have fr2 := fHA.hiO f2 (Nat.le_refl B)
  replace hst := Lib.hid hst
  go_wp2_with fail
  go_fit (rint_any B _ 0 65535 w2 rd2)
  rintro e w3 ⟨rfl, rd3, f3⟩
  have fr3 := fr2.hiO f3 (Nat.le_refl B)
  go_wp2_with fail
  go_fit (rint_any B _ 0 65535 w3 rd3)
  rintro e w4 ⟨rfl, rd4, f4⟩
  rw [hst.out] at rd4
  have fr4 := fr3.hiO f4 (Nat.le_refl B)
  have hdn := rdone_any B _ w4 rd4
  rw [show decide ((none : Option (List UInt8)) = some []) = false by simp] at hdn
  replace hdn := Lib.hid hdn
  clear rd2 rd3 rd4 f2 f3 f4 fr2 fr3
  go_wp2_with fail
  go_fit hdn.out
  rintro e w5 ⟨rfl, hw5⟩
  obtain rfl := hw5.symm
  go_wp2_with fail
  go_ret2
  exact ⟨rfl, key.out _ fr4⟩
theorem read_cut (m : Ms) (h l : Int) (s : ByteArray) (w : World) (hg : Gl w) (hs : s.size ≤ 200000) (hok : m.ok = true) (hh : 0 ≤ h ∧ h ≤ 65535) (hl : 0 ≤ l ∧ l ≤ 65535) (hc : Ct (some s.data.toList) (m.body ++ numsL [h, l])) :
    Calls Tryz.prog 15 #[.string s] w fun e w' => e = .returned (.tuple #[.nilIface, .int .i64 3]) ∧ Fr noB w w' := by
  refine read_gen s w hg hs ?_
  intro p w' hg' hgp hrd hp
  refine (rf_cut p m (numsL [h, l]) _ w' hg' hgp hrd hp hok hc).mono ?_
  rintro e w'' ⟨v, st', rfl, rd, ct, f⟩
  rw [two_eq] at ct
  exact ⟨v, st', rfl, rd, (ct_s (ct_s ct hh.1 hh.1 hh.2 (by omega)) hl.1 hl.1 hl.2 (by omega)).nil, f⟩
theorem read_bad (s : ByteArray) (w : World) (hg : Gl w) (hs : s.size ≤ 200000) (hk : intS 1 10 s.data.toList = none) :
    Calls Tryz.prog 15 #[.string s] w fun e w' => e = .returned (.tuple #[.nilIface, .int .i64 3]) ∧ Fr noB w w' := by
  refine read_gen s w hg hs ?_
  intro p w' hg' hgp hrd hp
  refine (rf_none p _ w' hrd hk).mono ?_
  rintro e w'' ⟨v, rfl, rd, f⟩
  exact ⟨v, none, rfl, rd, rfl, f⟩
end Go.Proofs.YtbmafogjmdilkaaGreatDoor
