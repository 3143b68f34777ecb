import Derived.Test.YtphcjfchphgakaaDiskAwake
import Derived.Test.YtphcjfchphgakaaArgs
set_option linter.unusedVariables false
set_option linter.unusedSimpArgs false
namespace Go.Proofs.Ytphcjfchphgakaa
open Go.RowKit Go Go.Lib

/-- a number that an int can hold -/
def I64 (n : Int) : Prop := -9223372036854775808 ≤ n ∧ n ≤ 9223372036854775807
/-- an Op's cells -/
def IsOp (cs : List Value) (o : Int × Int × ByteArray) : Prop := cs = [.int .i64 o.1, .int .i64 o.2.1, .string o.2.2] ∧ I64 o.1 ∧ I64 o.2.1 ∧ o.2.2.size ≤ maxLen

theorem op_open {H : Type} {enc : TypeId × Value → H} {w : World} {base : Nat} {held : Bool} (n : Nat) (cs : List Value) (y : DataW H × List MemPlace) (hl : cs.length = 3)
    (h : DataW.trod enc Try.prog w base (fun _ => true) held n 30 cs = some y) : ∃ o, IsOp cs o := by
  obtain ⟨a, ha, wa⟩ := fld_int (i := 0) (off := 0) Try.underlying30 h rfl (by kernel_rfl) (by omega) Try.underlying3
  obtain ⟨b, hb, wb⟩ := fld_int (i := 1) (off := 1) Try.underlying30 h rfl (by kernel_rfl) (by omega) Try.underlying3
  obtain ⟨s, hs, ws⟩ := fld_str (i := 2) (off := 2) Try.underlying30 h rfl (by kernel_rfl) (by omega) Try.underlying9
  exact ⟨(a, b, s), by rw [list3 hl, ha, hb, hs], wf_i64 wa, wf_i64 wb, ws⟩

theorem Rk.frame {w w' : World} {g : Nat} {bs : List UInt8} {kept : Nat} {S : Nat → Prop} (h : Rk w g bs kept) (hf : Fr S w w') (hg : ¬ S g) : Rk w' g bs kept := by
  obtain ⟨s, hs, hb, hk, hl⟩ := h
  exact ⟨s, hs, hf.blk hb hg, hk, hl⟩
theorem Rk.drewN {w : World} {g : Nat} {bs : List UInt8} {kept : Nat} (h : Rk w g bs kept) (n : Nat) : Rk (w.drewN n) g bs kept := h

theorem Rk.cell0 {w : World} {g : Nat} {bs : List UInt8} {kept : Nat} (h : Rk w g bs kept) : w.cell? ⟨g, 0, none⟩ = some (.string (strB bs)) := by
  obtain ⟨s, hs, hb, _⟩ := h
  have := hb.cell 0
  rw [this, ← hs, strB_of]; rfl
theorem Rk.cell1 {w : World} {g : Nat} {bs : List UInt8} {kept : Nat} (h : Rk w g bs kept) : w.cell? ⟨g, 1, none⟩ = some (.int .i64 kept) := by
  obtain ⟨s, hs, hb, _⟩ := h
  exact hb.cell 1

/-- both disks, alike -/
structure Both (w0 w : World) (B g r : Nat) (bs : List UInt8) (kept : Nat) : Prop where
  dk : Dk w g B bs kept
  rk : Rk w r bs kept
  ne : r ≠ g
  rB : r < B
  fr : Fr noB w0 w
  g0 : w0.heap.size ≤ g
  r0 : w0.heap.size ≤ r
  B0 : w0.heap.size ≤ B

theorem Both.alloc {w0 w : World} {B g r : Nat} {bs : List UInt8} {kept : Nat} (h : Both w0 w B g r bs kept) (o : Obj) : Both w0 (w.alloc o) B g r bs kept :=
  ⟨h.dk.frame ((Fr.refl noB w).alloc o) (fun q => q) (fun _ _ _ q => q), h.rk.frame ((Fr.refl noB w).alloc o) (fun q => q), h.ne, h.rB, h.fr.alloc o, h.g0, h.r0, h.B0⟩
theorem Both.drewN {w0 w : World} {B g r : Nat} {bs : List UInt8} {kept : Nat} (h : Both w0 w B g r bs kept) (n : Nat) : Both w0 (w.drewN n) B g r bs kept :=
  ⟨h.dk, h.rk, h.ne, h.rB, h.fr.drewN n, h.g0, h.r0, h.B0⟩

/-- the disk's call has been made, the other one's not yet -/
structure Half (w0 w : World) (B g r : Nat) (bs : List UInt8) (kept : Nat) (bs2 : List UInt8) (kept2 : Nat) : Prop where
  dk : Dk w g B bs2 kept2
  rk : Rk w r bs kept
  ne : r ≠ g
  rB : r < B
  fr : Fr noB w0 w
  g0 : w0.heap.size ≤ g
  r0 : w0.heap.size ≤ r
  B0 : w0.heap.size ≤ B
theorem Both.half {w0 w w' : World} {B g r : Nat} {bs bs2 : List UInt8} {kept kept2 : Nat} (h : Both w0 w B g r bs kept) (d2 : Dk w' g B bs2 kept2) (hf : Fr (touched w g) w w') : Half w0 w' B g r bs kept bs2 kept2 :=
  ⟨d2, h.rk.frame hf (fun q => by have := h.dk.touch q; have := h.ne; have := h.rB; omega), h.ne, h.rB, h.fr.noD hf h.dk h.g0 h.B0, h.g0, h.r0, h.B0⟩
theorem Half.both {w0 w w' : World} {B g r : Nat} {bs bs2 : List UInt8} {kept kept2 : Nat} (h : Half w0 w B g r bs kept bs2 kept2) (r2 : Rk w' r bs2 kept2) (hf : Fr (onlyB r) w w') : Both w0 w' B g r bs2 kept2 :=
  ⟨h.dk.frame hf (fun q => h.ne q.symm) (fun q hq _ e => by have := h.rB; unfold onlyB at e; omega), r2, h.ne, h.rB, h.fr.seqB hf (fun q => by have := h.r0; omega), h.g0, h.r0, h.B0⟩

set_option maxHeartbeats 2000000 in
theorem plays_any (v : Value) (xs : List (Int × Int × ByteArray)) (w : World) (hxs : SlR w v 3 IsOp xs) :
    Calls Try.prog 3 #[v] w fun e w' => e = .returned (.bool true) ∧ Fr noB w w' := by
  obtain ⟨a, c, rfl, hx1, hx2, hx3⟩ := hxs
  unfold maxLen at hx2
  generalize hn : xs.length = n at *
  replace hx3 := Lib.hid hx3
  obtain ⟨hx1, _⟩ := hx1
  have hnb : n ≤ 9223372036854775807 := by omega
  replace hn := Lib.hid hn
  go_enter Try.func3, Try.ntmps3
  go_wp2_with fail
  refine (awake_any w).mono ?_
  rintro e w1 ⟨rfl, f1⟩
  by_cases hl : 200 < n
  · go_wp2_with fail
    refine (awake_any w1).mono ?_
    rintro e w2 ⟨rfl, f2⟩
    go_wp2
    go_ret
    exact ⟨rfl, f1.seqN f2⟩
  have hd1 : decide (200 < (n : Int)) = false := by simp; omega
  go_wp2_with fail
  refine (dnew_any w1).mono ?_
  rintro e w2 ⟨rfl, hw2⟩
  have z2 : w2.heap.size = w1.heap.size + 1 := by rw [hw2]; simp
  have b2 : Blk w2 w1.heap.size 41 [.slice none 0 0, .int .i64 0] := by rw [hw2]; exact Blk.new w1 _ _
  have f2 : Fr noB w1 w2 := by rw [hw2]; exact (Fr.refl _ _).alloc _
  clear hw2
  replace z2 := Lib.hid z2
  have dk2 : ∀ w3 : World, w2.heap.size < w3.heap.size → Fr noB w2 w3 → Dk w3 w1.heap.size w3.heap.size [] 0 := fun w3 h3 hf => ⟨none, 0, hf.keepN b2, World.ownsRow_nil _ _ _ _, by have := z2.out; omega, Nat.le_refl _, Nat.le_refl _, Nat.zero_le _⟩
  have st0 : Both w (w2.alloc (.cells #[.string ⟨#[]⟩, .int .i64 0] 28)) (w2.heap.size + 1) w1.heap.size w2.heap.size [] 0 := by
    have hf := (Fr.refl noB w2).alloc (.cells #[.string ⟨#[]⟩, .int .i64 0] 28)
    have := dk2 _ (by simp) hf
    have hsz : (w2.alloc (.cells #[.string ⟨#[]⟩, .int .i64 0] 28)).heap.size = w2.heap.size + 1 := by simp
    rw [hsz] at this
    exact ⟨this, ⟨⟨#[]⟩, rfl, Blk.new w2 _ [.string ⟨#[]⟩, .int .i64 0], Nat.le_refl _, Nat.zero_le _⟩, by have := z2.out; omega, by omega, (f1.seqN f2).seqN hf, f1.size, by have := f1.size; have := z2.out; omega, by have := f1.size; have := z2.out; omega⟩
  clear b2 dk2 f2 f1
  go_wp2_with fail
  generalize hG : w1.heap.size = g at *
  generalize hR : w2.heap.size = r at *
  generalize hBB : r + 1 = B at *
  clear hG z2 hBB
  replace hR := Lib.hid hR
  go_loopw [20] (fun i wr => ∃ (k : Nat) (bs : List UInt8) (kept : Nat), k ≤ n ∧ i = .int .i64 k ∧ Both w wr B g r bs kept) (fun i _ => n - (intOf i).toNat)
  case atStart => exact ⟨0, [], 0, by omega, rfl, st0⟩
  case round =>
    clear st0
    obtain ⟨k, bs, kept, hk, rfl, st⟩ := hrel
    by_cases hlt : k < n
    · obtain ⟨⟨kd, kk, s⟩, hop⟩ : ∃ o, xs[k]? = some o := ⟨_, List.getElem?_eq_getElem (by rw [hn.out]; exact hlt)⟩
      obtain ⟨g0, o0, cs, ha, hcs, ⟨hcs2, hI1, hI2, hsz⟩, hcell⟩ := hx3.out k _ hop
      subst ha hcs2
      have e0 := st.fr.cell (hcell 0 _ rfl) (fun q => q)
      have e1 := st.fr.cell (hcell 1 _ rfl) (fun q => q)
      have e2 := st.fr.cell (hcell 2 _ rfl) (fun q => q)
      clear hop hcell
      simp only [← Nat.add_assoc, Nat.add_zero] at e0 e1 e2 hI1 hI2 hsz
      have st1 := st.alloc (.cells #[.int .i64 kd, .int .i64 kk, .string s] 30)
      have bo := Blk.new wr 30 [.int .i64 kd, .int .i64 kk, .string s]
      have hog : wr.heap.size ≠ g := by have := st.dk; obtain ⟨_, _, hb, _⟩ := this; have := hb.lt; omega
      have hor : wr.heap.size ≠ r := by have := st.rk; obtain ⟨_, _, hb, _⟩ := this; have := hb.lt; omega
      have htch : ∀ q, touched (wr.alloc (.cells #[.int .i64 kd, .int .i64 kk, .string s] 30)) g q → q ≠ wr.heap.size := fun q hq e => by
        have hg := st.dk
        obtain ⟨_, _, hb, _⟩ := hg
        have := st.dk.touch (touched_alloc hq hb.lt)
        omega
      clear st
      by_cases hs2 : 2000 < s.size
      · go_wp2
        go_ret
        exact ⟨rfl, st1.fr⟩
      have hs3 : s.size ≤ 2000 := by omega
      have hd2 : decide (2000 < (s.size : Int)) = false := by simp; omega
      clear hsz
      obtain ⟨wa, hwa⟩ : ∃ wa, wa = wr.alloc (.cells #[.int .i64 kd, .int .i64 kk, .string s] 30) := ⟨_, rfl⟩
      go_wp2_with fail
      all_goals
        rw [← hwa] at st1 htch
        have bo1 : Blk wa wr.heap.size 30 [.int .i64 kd, .int .i64 kk, .string s] := by rw [hwa]; exact bo
        clear bo e0 e1 e2
        rw [← hwa]
        generalize hob : wr.heap.size = ob at *
        clear hob hwa
      focus (
        have o2 : wa.cell? ⟨ob, 2, none⟩ = some (.string s) := bo1.cell 2
        by_cases hfit2 : 65536 < bs.length + s.size
        focus (
          go_quiet ((first | (go_at_call 8; exact Calls.quiet_of_same (dappend_full g B bs kept s _ st1.dk (by unfold maxLen; omega) hfit2)) | (go_at_call 9; exact Calls.quiet_of_same (rappend_full r bs kept s _ st1.rk hs3 hfit2))))
          have st2 := st1.drewN nq
          clear st1 o2 bo1 htch hfit2
          generalize wa.drewN nq = wz at *)
        rotate_left
        focus (
          have hfit : bs.length + s.size ≤ 65536 := by omega
          go_region_with (first
            | (go_at_call 8; refine (dappend_any g B bs kept s _ ?_ hfit).mono ?_; exact st1.dk; rintro e w4 ⟨rfl, d4, f4⟩; have hh := (st1.drewN 1).half d4 f4; have o4 := f4.cell (a := wa.drew) o2 (fun q => htch _ q rfl))
            | (go_at_call 9; refine (rappend_any r bs kept s _ ?_ hfit).mono ?_; exact hh.rk; rintro e w5 ⟨rfl, r5, f5⟩; have st2 := hh.both r5 f5))
          all_goals clear d4 f4 hh o4 r5 f5 st1 o2 bo1 htch hfit hfit2))
      rotate_right
      rotate_right
      rotate_right
      focus (
        refine (dsync_any g B bs kept wa st1.dk).mono ?_
        rintro e w4 ⟨rfl, d4, f4⟩
        have hh := st1.half d4 f4
        have hrk := hh.rk
        obtain ⟨s', hs', hb', _, hl'⟩ := hrk
        obtain rfl : s' = strB bs := by rw [← hs', strB_of]
        have c0 : w4.cell? ⟨r, 0, none⟩ = some (.string (strB bs)) := hb'.cell 0
        have c1 : w4.cell? ⟨r, 1, none⟩ = some (.int .i64 kept) := hb'.cell 1
        have z1 := hb'.frozen 1
        have st2 := hh.both (w' := w4.setCell ⟨r, 1, none⟩ (.int .i64 ((strB bs).size : Int))) ⟨strB bs, rfl, hb'.set 1 _, Nat.le_refl _, hl'⟩ ((Fr.refl (onlyB r) w4).store (onlyB_self r))
        clear d4 f4 hh hs' hl'
        replace hb' := Lib.hid hb'
        go_wp2_with fail
        clear st1 bo1 htch hb' c0 c1 z1)
      rotate_left
      focus (
        refine (dcrash_any g B bs kept kk wa st1.dk hI2).mono ?_
        rintro e w4 ⟨rfl, d4, f4⟩
        have hh := st1.half d4 f4
        have o1 : w4.cell? ⟨ob, 1, none⟩ = some (.int .i64 kk) := f4.cell (bo1.cell 1) (fun q => htch _ q rfl)
        clear d4 f4
        go_wp2_with fail
        refine (rcrash_any r bs kept kk _ hh.rk hI2).mono ?_
        rintro e w5 ⟨rfl, r5, f5⟩
        have st2 := hh.both r5 f5
        clear st1 bo1 htch hh r5 f5 o1
        go_wp2_with fail)
      rotate_left
      focus (
        refine (dcut_any g B bs kept kk wa st1.dk hI2).mono ?_
        rintro e w4 ⟨rfl, d4, f4⟩
        have hh := st1.half d4 f4
        have o1 : w4.cell? ⟨ob, 1, none⟩ = some (.int .i64 kk) := f4.cell (bo1.cell 1) (fun q => htch _ q rfl)
        clear d4 f4
        go_wp2_with fail
        refine (rcut_any r bs kept kk _ hh.rk hI2).mono ?_
        rintro e w5 ⟨rfl, r5, f5⟩
        have st2 := hh.both r5 f5
        clear st1 bo1 htch hh r5 f5 o1
        go_wp2_with fail)
      rotate_left
      all_goals
        have q0 := st2.rk.cell0
        have q1 := st2.rk.cell1
        go_wp2_with fail
        go_quiet ((first | (go_at_call 15; exact Calls.quiet_of_same (dbytes_any _ _ _ _ _ st2.dk)) | (go_at_call 16; exact Calls.quiet_of_same (dkept_any _ _ _ _ _ st2.dk))))
        go_wp2_with fail
        go_roundw
        case rel => first | exact ⟨k + 1, _, _, by omega, by go_num, st2.drewN _⟩ | ((repeat apply Exists.intro); refine ⟨?_, rfl⟩; exact ⟨k + 1, _, _, by omega, by go_num, st2.drewN _⟩)
        case measure => simp [intOf]; omega
    · go_wp2
      go_ret
      exact ⟨rfl, st.fr⟩
end Go.Proofs.Ytphcjfchphgakaa
