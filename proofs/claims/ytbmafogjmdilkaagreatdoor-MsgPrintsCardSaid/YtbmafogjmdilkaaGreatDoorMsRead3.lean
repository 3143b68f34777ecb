/-
  msg: a Chunk, a message's fields read.
-/
import Derived.Test.YtbmafogjmdilkaaGreatDoorMsRead2
set_option linter.unusedVariables false
set_option linter.unusedSimpArgs false
set_option maxRecDepth 100000
set_option maxRecDepth 100000
namespace Go.Proofs.YtbmafogjmdilkaaGreatDoor
open Go.RowKit Go Go.Lib

theorem Gl.onl {p : Nat} {w w' : World} (hg : Gl w) (hgp : p ≠ 1 ∧ p ≠ 2 ∧ p ≠ 5) (f : Fr (onlyB p) w w') : Gl w' := by
  obtain ⟨⟨a, b, h1⟩, ⟨c, d, h2⟩, h3⟩ := hg
  exact ⟨⟨a, b, f.cell h1 (fun q => hgp.1 q.symm)⟩, ⟨c, d, f.cell h2 (fun q => hgp.2.1 q.symm)⟩, f.cell h3 (fun q => hgp.2.2 q.symm)⟩
def n5S (st : Option (List UInt8)) : Option (List UInt8) := nS (nS (nS (nS (nS st))))
def tS (st : Option (List UInt8)) : Option (List UInt8) := sT (st.bind (textS 1024))

set_option maxHeartbeats 4000000 in
theorem readChunk_any (p : Nat) (st : Option (List UInt8)) (sp : List Sp) (w : World) (hg : Gl w) (hgp : p ≠ 1 ∧ p ≠ 2 ∧ p ≠ 5) (h : Rd w p st) (hp : p < w.heap.size)
    (ht : (n5S st).bind (textS 1024) = none ∨ ∃ r, (n5S st).bind (textS 1024) = some (printL sp, r)) (hl : sp.length ≤ 2) (hr : ∀ s ∈ sp, rightS s = true) :
    Calls Tryz.prog 57 #[.pointer (some ⟨p, 0, none⟩)] w fun e w' => ∃ v, e = .returned v ∧ Rd w' p (tS (n5S st)) ∧ Fr (onlyB p) w w' ∧ ((n5S st).bind (textS 1024) = none ∨ MsW w' v (.chunk (nV st) (nV (nS st)) (nV (nS (nS st))) (nV (nS (nS (nS st)))) (nV (nS (nS (nS (nS st))))) sp)) := by
  have hgl := fun w' f => hg.onl (w' := w') hgp f
  have hpre : printL sp = pre sp sp.length := print_yes sp (by omega) (fun i m _ hm => hr m (List.mem_of_getElem? hm))
  have hplen := printL_two hl hr
  unfold n5S at *
  go_enter Tryz.func57, Tryz.ntmps57
  go_wp2_with fail
  go_fit (num_any p _ _ h)
  generalize hx1q : nV st = x1 at *
  replace hx1q := Lib.hid hx1q
  generalize hs1q : nS st = s1 at *
  replace hs1q := Lib.hid hs1q
  rintro e w2 ⟨rfl, rd2, f2⟩
  go_wp2_with fail
  go_fit (num_any p _ _ rd2)
  generalize hx2q : nV s1 = x2 at *
  replace hx2q := Lib.hid hx2q
  generalize hs2q : nS s1 = s2 at *
  replace hs2q := Lib.hid hs2q
  rintro e w3 ⟨rfl, rd3, f3⟩
  go_wp2_with fail
  go_fit (num_any p _ _ rd3)
  generalize hx3q : nV s2 = x3 at *
  replace hx3q := Lib.hid hx3q
  generalize hs3q : nS s2 = s3 at *
  replace hs3q := Lib.hid hs3q
  rintro e w4 ⟨rfl, rd4, f4⟩
  go_wp2_with fail
  go_fit (num_any p _ _ rd4)
  generalize hx4q : nV s3 = x4 at *
  replace hx4q := Lib.hid hx4q
  generalize hs4q : nS s3 = s4 at *
  replace hs4q := Lib.hid hs4q
  rintro e w5 ⟨rfl, rd5, f5⟩
  go_wp2_with fail
  go_fit (num_any p _ _ rd5)
  generalize hx5q : nV s4 = x5 at *
  replace hx5q := Lib.hid hx5q
  generalize hs5q : nS s4 = s5 at *
  replace hs5q := Lib.hid hs5q
  rintro e w6 ⟨rfl, rd6, f6⟩
  have fr6 := (((f2.onl f3).onl f4).onl f5).onl f6
  have f7 : Fr noB w6 (w6.alloc (.cells #[.int .i64 x1, .int .i64 x2, .int .i64 x3, .int .i64 x4, .int .i64 x5, .slice none 0 0] 66)) := (Fr.refl _ _).alloc _
  have bm := Blk.new w6 66 [.int .i64 x1, .int .i64 x2, .int .i64 x3, .int .i64 x4, .int .i64 x5, .slice none 0 0]
  have rd7 := rd6.fr f7 (fun q => q)
  have fr7 := fr6.seqN f7
  have hs6 : p < w6.heap.size := by have := fr6.size; omega
  have hsz6 : w.heap.size ≤ w6.heap.size := fr6.size
  obtain ⟨gm, hgm⟩ : ∃ g, w6.heap.size = g := ⟨_, rfl⟩
  rw [hgm] at bm hs6 hsz6
  have hg7 := hgl _ fr7
  clear h rd2 rd3 rd4 rd5 rd6 f2 f3 f4 f5 f6 fr6 f7
  replace hgl := Lib.hid hgl
  replace hr := Lib.hid hr
  replace hpre := Lib.hid hpre
  replace hg := Lib.hid hg
  go_wp2_with fail
  generalize (w6.alloc (.cells #[.int .i64 x1, .int .i64 x2, .int .i64 x3, .int .i64 x4, .int .i64 x5, .slice none 0 0] 66)) = w7 at *
  go_fit (rtext_any p _ 1024 _ hg7 hgp rd7)
  rintro e w8 ⟨rfl, rd8, f8⟩
  have fr8 := fr7.onl f8
  have b8 := f8.blk bm (fun q => by unfold onlyB at q; omega)
  have hg8 := hgl.out _ fr8
  rw [show sT (s5.bind (textS 1024)) = tS s5 from rfl] at rd8
  clear rd7 f8 bm hg7 fr7
  rcases ht with ht | ⟨r, ht⟩
  · rw [ht]
    rw [show vT (none : Option (List UInt8 × List UInt8)) = [] from rfl]
    have hno := read_no (strB []) w8 (by decide) (by decide +kernel)
    replace hno := Lib.hid hno
    replace ht := Lib.hid ht
    go_wp2_with fail
    go_fit hno.out
    rintro e w9 ⟨rfl, f9⟩
    go_wp2_with fail
    go_ret
    simp only [hx1q.out, hs1q.out, hx2q.out, hs2q.out, hx3q.out, hs3q.out, hx4q.out, hs4q.out, hx5q.out, hs5q.out]
    exact ⟨_, rfl, rd8.fr f9 (fun q => q), fr8.seqN f9, Or.inl ht.out⟩
  · rw [ht]
    rw [show vT (some (printL sp, r) : Option (List UInt8 × List UInt8)) = printL sp from rfl]
    have hyes := read_any (strB (printL sp)) sp w8 hg8 (by rw [strB_size]; omega) (by rw [strB_list]; exact hpre.out) (fun i m hm => hr.out m (List.mem_of_getElem? hm)) (by omega)
    generalize strB (printL sp) = PP at *
    replace hyes := Lib.hid hyes
    replace ht := Lib.hid ht
    go_wp2_with fail
    go_fit hyes.out
    rintro e w9 ⟨v9, rfl, o9, f9⟩
    have rd9 := rd8.fr f9 (fun q => q)
    have fr9 := fr8.seqN f9
    have b9 := f9.blk b8 (fun q => q)
    obtain ⟨a9, c9, rfl⟩ := ownsRow_slice o9
    have z9 := b9.frozen 5
    have k9 : w9.cell? ⟨gm, 5, none⟩ = some (.slice none 0 0) := b9.cell 5
    clear rd8 fr8 b8 f9 hg8 hyes
    replace b9 := Lib.hid b9
    replace o9 := Lib.hid o9
    obtain ⟨N, hN⟩ : ∃ N, sp.length = N := ⟨_, rfl⟩
    rw [hN] at o9 ⊢
    replace hN := Lib.hid hN
    go_upto_region 6 with fail
    have fs : Fr (onlyB gm) w9 (w9.setCell ⟨gm, 5, none⟩ (.slice a9 N c9)) := (Fr.refl _ _).store (onlyB_self gm)
    have bA := b9.out.set 5 (.slice a9 N c9)
    have rdA := rd9.fr fs (fun q => by unfold onlyB at q; omega)
    have owA := ownsRow_fr o9.out fs (fun g hg q => by
      unfold onlyB at q
      subst q
      exact row_not o9.out b9.out (by decide) hg)
    have frA : Fr (onlyB p) w (w9.setCell ⟨gm, 5, none⟩ (.slice a9 N c9)) := fr9.trans fs (fun _ _ q => q) (fun i hi q => by unfold onlyB at q; omega)
    generalize (w9.setCell ⟨gm, 5, none⟩ (.slice a9 N c9)) = wA at *
    have d0 : wA.cell? ⟨gm, 0, none⟩ = some (.int .i64 x1) := bA.cell 0
    have d1 : wA.cell? ⟨gm, 1, none⟩ = some (.int .i64 x2) := bA.cell 1
    have d2 : wA.cell? ⟨gm, 2, none⟩ = some (.int .i64 x3) := bA.cell 2
    have d3 : wA.cell? ⟨gm, 3, none⟩ = some (.int .i64 x4) := bA.cell 3
    have d4 : wA.cell? ⟨gm, 4, none⟩ = some (.int .i64 x5) := bA.cell 4
    have d5 : wA.cell? ⟨gm, 5, none⟩ = some (.slice a9 N c9) := bA.cell 5
    have rsp : RdSp wA (.slice a9 N c9) sp := RdSp.of_own owA hN.out
    clear fs bA rd9 fr9 b9 o9 owA z9 k9
    replace rsp := Lib.hid rsp
    go_wp2_with fail
    go_ret
    simp only [hx1q.out, hs1q.out, hx2q.out, hs2q.out, hx3q.out, hs3q.out, hx4q.out, hs4q.out, hx5q.out, hs5q.out]
    exact ⟨_, rfl, rdA, frA, Or.inr ⟨_, rfl, rsp.out⟩⟩

theorem rf_none (p : Nat) (st : Option (List UInt8)) (w : World) (h : Rd w p st) (hk : st.bind (intS 1 10) = none) :
    Calls Tryz.prog 32 #[.pointer (some ⟨p, 0, none⟩)] w fun e w' => ∃ v, e = .returned v ∧ Rd w' p none ∧ Fr (onlyB p) w w' := by
  have h1 := rint_any p st 1 10 w h
  rw [hk, show vI (none : Option (Nat × List UInt8)) = 0 from rfl, show sI (none : Option (Nat × List UInt8)) = none from rfl] at h1
  replace h1 := Lib.hid h1
  go_enter Tryz.func32, Tryz.ntmps32
  go_wp2_with fail
  go_fit h1.out
  rintro e w2 ⟨rfl, rd2, f2⟩
  go_wp2_with fail
  go_ret
  exact ⟨_, rfl, rd2, f2⟩

set_option maxHeartbeats 2000000 in
theorem rf_Trigger (p : Nat) (st : Option (List UInt8)) (r0 : List UInt8) (w : World) (h : Rd w p st) (hp : p < w.heap.size) (hk : st.bind (intS 1 10) = some (1, r0)) :
    Calls Tryz.prog 32 #[.pointer (some ⟨p, 0, none⟩)] w fun e w' => e = .returned (mTrigger (nV (some r0)) (nV (nS (some r0))) (nV (nS (nS (some r0))))) ∧ Rd w' p (nS (nS (nS (some r0)))) ∧ Fr (onlyB p) w w' := by
  have h1 := rint_any p st 1 10 w h
  rw [hk, show vI (some (1, r0) : Option (Nat × List UInt8)) = 1 from rfl, show sI (some (1, r0) : Option (Nat × List UInt8)) = some r0 from rfl] at h1
  replace h1 := Lib.hid h1
  clear hk
  go_enter Tryz.func32, Tryz.ntmps32
  go_wp2_with fail
  go_fit h1.out
  rintro e w2 ⟨rfl, rd2, f2⟩
  have hp2 : p < w2.heap.size := by have := f2.size; omega
  go_wp2_with fail
  go_fit (num_any p _ _ rd2)
  rintro e w3 ⟨rfl, rd3, f3⟩
  go_wp2_with fail
  go_fit (num_any p _ _ rd3)
  rintro e w4 ⟨rfl, rd4, f4⟩
  go_wp2_with fail
  go_fit (num_any p _ _ rd4)
  rintro e w5 ⟨rfl, rd5, f5⟩
  go_wp2_with fail
  go_ret
  exact ⟨rfl, rd5, (((f2.onl f3).onl f4).onl f5)⟩

set_option maxHeartbeats 2000000 in
theorem rf_Pin (p : Nat) (st : Option (List UInt8)) (r0 : List UInt8) (w : World) (h : Rd w p st) (hp : p < w.heap.size) (hk : st.bind (intS 1 10) = some (2, r0)) :
    Calls Tryz.prog 32 #[.pointer (some ⟨p, 0, none⟩)] w fun e w' => e = .returned (mPin (nV (some r0)) (nV (nS (some r0)))) ∧ Rd w' p (nS (nS (some r0))) ∧ Fr (onlyB p) w w' := by
  have h1 := rint_any p st 1 10 w h
  rw [hk, show vI (some (2, r0) : Option (Nat × List UInt8)) = 2 from rfl, show sI (some (2, r0) : Option (Nat × List UInt8)) = some r0 from rfl] at h1
  replace h1 := Lib.hid h1
  clear hk
  go_enter Tryz.func32, Tryz.ntmps32
  go_wp2_with fail
  go_fit h1.out
  rintro e w2 ⟨rfl, rd2, f2⟩
  have hp2 : p < w2.heap.size := by have := f2.size; omega
  go_wp2_with fail
  go_fit (num_any p _ _ rd2)
  rintro e w3 ⟨rfl, rd3, f3⟩
  go_wp2_with fail
  go_fit (num_any p _ _ rd3)
  rintro e w4 ⟨rfl, rd4, f4⟩
  go_wp2_with fail
  go_ret
  exact ⟨rfl, rd4, ((f2.onl f3).onl f4)⟩

set_option maxHeartbeats 2000000 in
theorem rf_Pinned (p : Nat) (st : Option (List UInt8)) (r0 : List UInt8) (w : World) (h : Rd w p st) (hp : p < w.heap.size) (hk : st.bind (intS 1 10) = some (3, r0)) :
    Calls Tryz.prog 32 #[.pointer (some ⟨p, 0, none⟩)] w fun e w' => ∃ v, e = .returned v ∧ MsW w' v (.pinned (pinR (some r0)).1) ∧ Rd w' p (pinR (some r0)).2 ∧ Fr (onlyB p) w w' := by
  have h1 := rint_any p st 1 10 w h
  rw [hk, show vI (some (3, r0) : Option (Nat × List UInt8)) = 3 from rfl, show sI (some (3, r0) : Option (Nat × List UInt8)) = some r0 from rfl] at h1
  replace h1 := Lib.hid h1
  clear hk
  go_enter Tryz.func32, Tryz.ntmps32
  go_wp2_with fail
  go_fit h1.out
  rintro e w2 ⟨rfl, rd2, f2⟩
  have hp2 : p < w2.heap.size := by have := f2.size; omega
  have hpn := readPinned_any p _ w2 rd2 hp2
  generalize hq1 : (pinR (some r0)).1 = pn at *
  generalize hq2 : (pinR (some r0)).2 = s3 at *
  replace hq1 := Lib.hid hq1
  replace hq2 := Lib.hid hq2
  obtain ⟨cl, hcl⟩ : ∃ cl, pn.cr.length = cl := ⟨_, rfl⟩
  rw [hcl] at hpn
  simp only [pnC] at hpn
  replace hpn := Lib.hid hpn
  replace hcl := Lib.hid hcl
  go_wp2_with fail
  go_fit hpn.out
  rintro e w3 ⟨ua, uc, rfl, ou, rd3, f3⟩
  have hri : RdI w3 (.slice ua cl uc) pn.cr := RdI.of_own ou
  replace hri := Lib.hid hri
  clear ou hpn
  go_wp2_with fail
  go_ret
  rw [hq1.out, hq2.out]
  exact ⟨_, rfl, ⟨_, rfl, hri.out⟩, rd3, f2.onl f3⟩

set_option maxHeartbeats 2000000 in
theorem rf_Gone (p : Nat) (st : Option (List UInt8)) (r0 : List UInt8) (w : World) (h : Rd w p st) (hp : p < w.heap.size) (hk : st.bind (intS 1 10) = some (4, r0)) :
    Calls Tryz.prog 32 #[.pointer (some ⟨p, 0, none⟩)] w fun e w' => e = .returned (mGone (nV (some r0)) (nV (nS (some r0))) (nV (nS (nS (some r0))))) ∧ Rd w' p (nS (nS (nS (some r0)))) ∧ Fr (onlyB p) w w' := by
  have h1 := rint_any p st 1 10 w h
  rw [hk, show vI (some (4, r0) : Option (Nat × List UInt8)) = 4 from rfl, show sI (some (4, r0) : Option (Nat × List UInt8)) = some r0 from rfl] at h1
  replace h1 := Lib.hid h1
  clear hk
  go_enter Tryz.func32, Tryz.ntmps32
  go_wp2_with fail
  go_fit h1.out
  rintro e w2 ⟨rfl, rd2, f2⟩
  have hp2 : p < w2.heap.size := by have := f2.size; omega
  go_wp2_with fail
  go_fit (num_any p _ _ rd2)
  rintro e w3 ⟨rfl, rd3, f3⟩
  go_wp2_with fail
  go_fit (num_any p _ _ rd3)
  rintro e w4 ⟨rfl, rd4, f4⟩
  go_wp2_with fail
  go_fit (num_any p _ _ rd4)
  rintro e w5 ⟨rfl, rd5, f5⟩
  go_wp2_with fail
  go_ret
  exact ⟨rfl, rd5, (((f2.onl f3).onl f4).onl f5)⟩

set_option maxHeartbeats 2000000 in
theorem rf_Collect (p : Nat) (st : Option (List UInt8)) (r0 : List UInt8) (w : World) (h : Rd w p st) (hp : p < w.heap.size) (hk : st.bind (intS 1 10) = some (5, r0)) :
    Calls Tryz.prog 32 #[.pointer (some ⟨p, 0, none⟩)] w fun e w' => e = .returned (mCollect (nV (some r0)) (nV (nS (some r0)))) ∧ Rd w' p (nS (nS (some r0))) ∧ Fr (onlyB p) w w' := by
  have h1 := rint_any p st 1 10 w h
  rw [hk, show vI (some (5, r0) : Option (Nat × List UInt8)) = 5 from rfl, show sI (some (5, r0) : Option (Nat × List UInt8)) = some r0 from rfl] at h1
  replace h1 := Lib.hid h1
  clear hk
  go_enter Tryz.func32, Tryz.ntmps32
  go_wp2_with fail
  go_fit h1.out
  rintro e w2 ⟨rfl, rd2, f2⟩
  have hp2 : p < w2.heap.size := by have := f2.size; omega
  go_wp2_with fail
  go_fit (num_any p _ _ rd2)
  rintro e w3 ⟨rfl, rd3, f3⟩
  go_wp2_with fail
  go_fit (num_any p _ _ rd3)
  rintro e w4 ⟨rfl, rd4, f4⟩
  go_wp2_with fail
  go_ret
  exact ⟨rfl, rd4, ((f2.onl f3).onl f4)⟩

set_option maxHeartbeats 2000000 in
theorem rf_Chunk (p : Nat) (st : Option (List UInt8)) (r0 : List UInt8) (sp : List Sp) (hgp : p ≠ 1 ∧ p ≠ 2 ∧ p ≠ 5) (ht : (n5S (some r0)).bind (textS 1024) = none ∨ ∃ r, (n5S (some r0)).bind (textS 1024) = some (printL sp, r)) (hl : sp.length ≤ 2) (hr : ∀ s ∈ sp, rightS s = true) (w : World) (hg : Gl w) (h : Rd w p st) (hp : p < w.heap.size) (hk : st.bind (intS 1 10) = some (6, r0)) :
    Calls Tryz.prog 32 #[.pointer (some ⟨p, 0, none⟩)] w fun e w' => ∃ v, e = .returned v ∧ Rd w' p (tS (n5S (some r0))) ∧ Fr (onlyB p) w w' ∧ ((n5S (some r0)).bind (textS 1024) = none ∨ MsW w' v (.chunk (nV (some r0)) (nV (nS (some r0))) (nV (nS (nS (some r0)))) (nV (nS (nS (nS (some r0))))) (nV (nS (nS (nS (nS (some r0)))))) sp)) := by
  have h1 := rint_any p st 1 10 w h
  rw [hk, show vI (some (6, r0) : Option (Nat × List UInt8)) = 6 from rfl, show sI (some (6, r0) : Option (Nat × List UInt8)) = some r0 from rfl] at h1
  replace h1 := Lib.hid h1
  clear hk
  go_enter Tryz.func32, Tryz.ntmps32
  go_wp2_with fail
  go_fit h1.out
  rintro e w2 ⟨rfl, rd2, f2⟩
  have hp2 : p < w2.heap.size := by have := f2.size; omega
  have hpn := readChunk_any p _ sp w2 (hg.onl hgp f2) hgp rd2 hp2 ht hl hr
  replace hpn := Lib.hid hpn
  replace hr := Lib.hid hr
  replace ht := Lib.hid ht
  go_wp2_with fail
  go_fit hpn.out
  rintro e w3 ⟨v, rfl, rd3, f3, hm⟩
  replace hm := Lib.hid hm
  clear hpn
  go_wp2_with fail
  go_ret
  exact ⟨v, rfl, rd3, f2.onl f3, hm.out⟩

set_option maxHeartbeats 2000000 in
theorem rf_Manifest (p : Nat) (st : Option (List UInt8)) (r0 : List UInt8) (w : World) (h : Rd w p st) (hp : p < w.heap.size) (hk : st.bind (intS 1 10) = some (7, r0)) :
    Calls Tryz.prog 32 #[.pointer (some ⟨p, 0, none⟩)] w fun e w' => ∃ v, e = .returned v ∧ MsW w' v (.manifest (manR (some r0)).1.1 (manR (some r0)).1.2.1 (manR (some r0)).1.2.2.1 (manR (some r0)).1.2.2.2) ∧ Rd w' p (manR (some r0)).2 ∧ Fr (onlyB p) w w' := by
  have h1 := rint_any p st 1 10 w h
  rw [hk, show vI (some (7, r0) : Option (Nat × List UInt8)) = 7 from rfl, show sI (some (7, r0) : Option (Nat × List UInt8)) = some r0 from rfl] at h1
  replace h1 := Lib.hid h1
  clear hk
  go_enter Tryz.func32, Tryz.ntmps32
  go_wp2_with fail
  go_fit h1.out
  rintro e w2 ⟨rfl, rd2, f2⟩
  have hp2 : p < w2.heap.size := by have := f2.size; omega
  have hpn := readManifest_any p _ w2 rd2 hp2
  generalize hq1 : (manR (some r0)).1.1 = x1 at *
  generalize hq2 : (manR (some r0)).1.2.1 = x2 at *
  generalize hq3 : (manR (some r0)).1.2.2.1 = x3 at *
  generalize hq4 : (manR (some r0)).1.2.2.2 = x4 at *
  generalize hq5 : (manR (some r0)).2 = s3 at *
  replace hq1 := Lib.hid hq1
  replace hq2 := Lib.hid hq2
  replace hq3 := Lib.hid hq3
  replace hq4 := Lib.hid hq4
  replace hq5 := Lib.hid hq5
  replace hpn := Lib.hid hpn
  go_wp2_with fail
  go_fit hpn.out
  rintro e w3 ⟨a, n, c, rfl, hrp, rd3, f3⟩
  replace hrp := Lib.hid hrp
  clear hpn
  go_wp2_with fail
  go_ret
  rw [hq1.out, hq2.out, hq3.out, hq4.out, hq5.out]
  exact ⟨_, rfl, ⟨_, rfl, hrp.out⟩, rd3, f2.onl f3⟩

set_option maxHeartbeats 2000000 in
theorem rf_Stored (p : Nat) (st : Option (List UInt8)) (r0 : List UInt8) (w : World) (h : Rd w p st) (hp : p < w.heap.size) (hk : st.bind (intS 1 10) = some (8, r0)) :
    Calls Tryz.prog 32 #[.pointer (some ⟨p, 0, none⟩)] w fun e w' => e = .returned (mStored (nV (some r0)) (nV (nS (some r0)))) ∧ Rd w' p (nS (nS (some r0))) ∧ Fr (onlyB p) w w' := by
  have h1 := rint_any p st 1 10 w h
  rw [hk, show vI (some (8, r0) : Option (Nat × List UInt8)) = 8 from rfl, show sI (some (8, r0) : Option (Nat × List UInt8)) = some r0 from rfl] at h1
  replace h1 := Lib.hid h1
  clear hk
  go_enter Tryz.func32, Tryz.ntmps32
  go_wp2_with fail
  go_fit h1.out
  rintro e w2 ⟨rfl, rd2, f2⟩
  have hp2 : p < w2.heap.size := by have := f2.size; omega
  go_wp2_with fail
  go_fit (num_any p _ _ rd2)
  rintro e w3 ⟨rfl, rd3, f3⟩
  go_wp2_with fail
  go_fit (num_any p _ _ rd3)
  rintro e w4 ⟨rfl, rd4, f4⟩
  go_wp2_with fail
  go_ret
  exact ⟨rfl, rd4, ((f2.onl f3).onl f4)⟩

set_option maxHeartbeats 2000000 in
theorem rf_Unpin (p : Nat) (st : Option (List UInt8)) (r0 : List UInt8) (w : World) (h : Rd w p st) (hp : p < w.heap.size) (hk : st.bind (intS 1 10) = some (9, r0)) :
    Calls Tryz.prog 32 #[.pointer (some ⟨p, 0, none⟩)] w fun e w' => e = .returned (mUnpin (nV (some r0)) (nV (nS (some r0)))) ∧ Rd w' p (nS (nS (some r0))) ∧ Fr (onlyB p) w w' := by
  have h1 := rint_any p st 1 10 w h
  rw [hk, show vI (some (9, r0) : Option (Nat × List UInt8)) = 9 from rfl, show sI (some (9, r0) : Option (Nat × List UInt8)) = some r0 from rfl] at h1
  replace h1 := Lib.hid h1
  clear hk
  go_enter Tryz.func32, Tryz.ntmps32
  go_wp2_with fail
  go_fit h1.out
  rintro e w2 ⟨rfl, rd2, f2⟩
  have hp2 : p < w2.heap.size := by have := f2.size; omega
  go_wp2_with fail
  go_fit (num_any p _ _ rd2)
  rintro e w3 ⟨rfl, rd3, f3⟩
  go_wp2_with fail
  go_fit (num_any p _ _ rd3)
  rintro e w4 ⟨rfl, rd4, f4⟩
  go_wp2_with fail
  go_ret
  exact ⟨rfl, rd4, ((f2.onl f3).onl f4)⟩

set_option maxHeartbeats 2000000 in
theorem rf_Unpinned (p : Nat) (st : Option (List UInt8)) (r0 : List UInt8) (w : World) (h : Rd w p st) (hp : p < w.heap.size) (hk : st.bind (intS 1 10) = some (10, r0)) :
    Calls Tryz.prog 32 #[.pointer (some ⟨p, 0, none⟩)] w fun e w' => e = .returned (mUnpinned (nV (some r0)) (nV (nS (some r0))) (nV (nS (nS (some r0))))) ∧ Rd w' p (nS (nS (nS (some r0)))) ∧ Fr (onlyB p) w w' := by
  have h1 := rint_any p st 1 10 w h
  rw [hk, show vI (some (10, r0) : Option (Nat × List UInt8)) = 10 from rfl, show sI (some (10, r0) : Option (Nat × List UInt8)) = some r0 from rfl] at h1
  replace h1 := Lib.hid h1
  clear hk
  go_enter Tryz.func32, Tryz.ntmps32
  go_wp2_with fail
  go_fit h1.out
  rintro e w2 ⟨rfl, rd2, f2⟩
  have hp2 : p < w2.heap.size := by have := f2.size; omega
  go_wp2_with fail
  go_fit (num_any p _ _ rd2)
  rintro e w3 ⟨rfl, rd3, f3⟩
  go_wp2_with fail
  go_fit (num_any p _ _ rd3)
  rintro e w4 ⟨rfl, rd4, f4⟩
  go_wp2_with fail
  go_fit (num_any p _ _ rd4)
  rintro e w5 ⟨rfl, rd5, f5⟩
  go_wp2_with fail
  go_ret
  exact ⟨rfl, rd5, (((f2.onl f3).onl f4).onl f5)⟩
end Go.Proofs.YtbmafogjmdilkaaGreatDoor
