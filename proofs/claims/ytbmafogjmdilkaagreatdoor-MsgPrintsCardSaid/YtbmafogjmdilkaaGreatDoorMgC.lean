/-
  MsgPrints, the kinds one to three.
  MsgPrints, the kinds four, five and eight.
-/
import Derived.Test.YtbmafogjmdilkaaGreatDoorMgA
import Derived.Test.YtbmafogjmdilkaaGreatDoorMgB
section
set_option linter.unusedVariables false
set_option linter.unusedSimpArgs false
set_option maxRecDepth 100000
namespace Go.Proofs.YtbmafogjmdilkaaGreatDoor
open Go.RowKit Go Go.Lib

set_option maxHeartbeats 8000000 in
theorem prints_1 (a t j c n : Int) (cr : List Int) (lo : Bool) (sp : List Sp) (ua : Option Addr) (uc : Nat) (sa : Option Addr) (sc : Nat) (w : World) (hg : Gl w) (hu : RdI w (.slice ua cr.length uc) cr) (hs : RdSp w (.slice sa sp.length sc) sp)
    (ha : -9223372036854775808 ≤ a ∧ a + 1 ≤ 9223372036854775807) (ha2 : a ≤ 1099511627776) (hcl : cr.length ≤ 20) (hfw : fewS sp = true) :
    Calls Tryz.prog 3 #[.int .i64 1, .int .i64 a, .int .i64 t, .int .i64 j, .int .i64 c, .int .i64 n, .slice ua cr.length uc, .bool lo, .slice sa sp.length sc] w fun e w' => e = .returned (.bool true) ∧ Fr noB w w' := by
  have haw := awake_any w hg
  have hfew := fun w' (f : Fr noB w w') => few_any _ sp w' (hs.frN f)
  rw [hfw] at hfew
  obtain ⟨M, hM⟩ : ∃ M : Ms, M = .trigger a t c := ⟨_, rfl⟩
  have hmk : ∀ w', Fr noB w w' → Calls Tryz.prog 8 #[.int .i64 1, .int .i64 a, .int .i64 t, .int .i64 j, .int .i64 c, .int .i64 n, .slice ua cr.length uc, .bool lo, .slice sa sp.length sc] w' fun e w'' => e = .returned (mTrigger a t c) ∧ MsW w'' (mTrigger a t c) M ∧ Fr noB w' w'' := fun w' f =>
    (make_1 a t j c n ua _ uc lo sa _ sc w').mono fun e w'' ⟨h, f2⟩ => ⟨h, by rw [hM]; exact rfl, f2⟩
  have hfewM : M.few := by rw [hM]; trivial
  have hlk : ∀ w' x, MsW w' x M → Calls Tryz.prog 11 #[x] w' fun e w'' => e = .returned (.agg #[.int .i64 1, .int .i64 a, .int .i64 t, .int .i64 0, .int .i64 c, .int .i64 0, .int .i64 0, .int .i64 0, .int .i64 0, .int .i64 0, .int .i64 0, .slice none 0 0, .bool false, .slice none 0 0, .slice none 0 0]) ∧ RfW w'' (.agg #[.int .i64 1, .int .i64 a, .int .i64 t, .int .i64 0, .int .i64 c, .int .i64 0, .int .i64 0, .int .i64 0, .int .i64 0, .int .i64 0, .int .i64 0, .slice none 0 0, .bool false, .slice none 0 0, .slice none 0 0]) M ∧ Fr noB w' w'' := fun w' x hx => by
    refine (like_ms x M w' hx hfewM).mono ?_
    rintro e w'' ⟨u, rfl, hu2, f2⟩
    have hu3 := hu2
    rw [hM] at hu3
    obtain rfl := hu3
    exact ⟨rfl, hu2, f2⟩
  have hrr := fun w' u (h : RfW w' u M) => rr_ms u M w' h
  have hof : ∀ w' x, MsW w' x M → Calls Tryz.prog 13 #[x] w' fun e w'' => e = .returned (.tuple #[.int .i64 t, .int .i64 0, .bool true]) ∧ Fr noB w' w'' := fun w' x hx => by
    have h := of_ms x M w' hx
    rw [hM] at h
    exact h
  have hag : ∀ w' x, MsW w' x M → Calls Tryz.prog 14 #[x] w' fun e w'' => e = .returned (.tuple #[.int .i64 a, .bool true]) ∧ Fr noB w' w'' := fun w' x hx => by
    have h := agent_ms x M w' hx
    rw [hM] at h
    exact h
  have hrt := fun w' x (h : MsW w' x M) => right_ms x M w' h
  have hpr := fun w' x (f : Fr noB w w') (h : MsW w' x M) => print_ms x M w' (hg.fr f) h
  have hrp := fun w' u (h : RfW w' u M) (hok : M.ok = true) => rprint_ms u M w' h hok
  have hrd := fun w' (f : Fr noB w w') (hok : M.ok = true) => read_own M w' (hg.fr f) hok
  have hsm := fun w' x y (h1 : RfW w' x M) (h2 : RfW w' y M) => same_ms x y M w' h1 h2
  have hno : M.ok = false → strB M.txt = ByteArray.mk #[] := fun h => txt_no h
  have hself : ((strB M.txt).toList == (strB M.txt).toList) = true := by simp
  obtain ⟨ok, hok⟩ : ∃ ok, M.ok = ok := ⟨_, rfl⟩
  rw [hok] at hrr hrt hno
  simp only [hok] at hrp hrd
  clear hfewM hu hs
  clear hM
  generalize strB M.txt = T at *
  have hc20 : ¬ ((cr.length : Int) > 20) := by omega
  have hai : ¬ (a > 1099511627776) := by omega
  generalize cr.length = cl at *
  generalize sp.length = sl at *
  unfold mTrigger at hmk
  replace haw := Lib.hid haw
  replace hfew := Lib.hid hfew
  replace hmk := Lib.hid hmk
  replace hlk := Lib.hid hlk
  replace hrr := Lib.hid hrr
  replace hof := Lib.hid hof
  replace hag := Lib.hid hag
  replace hrt := Lib.hid hrt
  replace hpr := Lib.hid hpr
  replace hrp := Lib.hid hrp
  replace hrd := Lib.hid hrd
  replace hsm := Lib.hid hsm
  replace hno := Lib.hid hno
  replace hok := Lib.hid hok
  replace hself := Lib.hid hself
  clear ha hfw
  go_enter Tryz.func3, Tryz.ntmps3
  go_wp2_with fail
  go_fit haw.out
  rintro e w1 ⟨rfl, f1⟩
  go_wp2_with fail
  go_fit (hfew.out w1 f1)
  rintro e w2 ⟨rfl, f2⟩
  have fr2 := f1.seqN f2
  go_wp2_with fail
  go_fit (hmk.out w2 fr2)
  rintro e w3 ⟨rfl, m3, f3⟩
  have fr3 := fr2.seqN f3
  clear f1 f2 f3 fr2
  replace m3 := Lib.hid m3
  go_wp2_with fail
  go_fit (hlk.out w3 _ m3.out)
  rintro e w4 ⟨rfl, u4, f4⟩
  have m4 := m3.out.frN f4
  have fr4 := fr3.seqN f4
  have fA := (Fr.refl noB w4).alloc (.cells #[.int .i64 1, .int .i64 a, .int .i64 t, .int .i64 0, .int .i64 c, .int .i64 0, .int .i64 0, .int .i64 0, .int .i64 0, .int .i64 0, .int .i64 0, .slice none 0 0, .bool false, .slice none 0 0, .slice none 0 0] 35)
  have bA := Blk.new w4 35 [.int .i64 1, .int .i64 a, .int .i64 t, .int .i64 0, .int .i64 c, .int .i64 0, .int .i64 0, .int .i64 0, .int .i64 0, .int .i64 0, .int .i64 0, .slice none 0 0, .bool false, .slice none 0 0, .slice none 0 0]
  have m5 := m4.frN fA
  have u5 := u4.frN fA
  have fr5 := fr4.seqN fA
  clear fr3 fr4 f4 m3 m4 u4
  replace m5 := Lib.hid m5
  replace u5 := Lib.hid u5
  go_wp2_with fail
  generalize (w4.alloc (.cells #[.int .i64 1, .int .i64 a, .int .i64 t, .int .i64 0, .int .i64 c, .int .i64 0, .int .i64 0, .int .i64 0, .int .i64 0, .int .i64 0, .int .i64 0, .slice none 0 0, .bool false, .slice none 0 0, .slice none 0 0] 35)) = w5 at *
  obtain ⟨gA, hgA⟩ : ∃ g, w4.heap.size = g := ⟨_, rfl⟩
  rw [hgA] at bA
  first | rw [hgA] | skip
  clear fA hgA
  go_fit (hrr.out w5 _ u5.out)
  rintro e w6 ⟨rfl, f6⟩
  have m6 := m5.out.frN f6
  have u6 := u5.out.frN f6
  have bB := f6.blk bA (fun q => q)
  have fr6 := fr5.seqN f6
  clear m5 u5 bA fr5 f6
  replace m6 := Lib.hid m6
  replace u6 := Lib.hid u6
  replace bB := Lib.hid bB
  go_wp2_with fail
  go_fit (hof.out w6 _ m6.out)
  rintro e w7 ⟨rfl, f7⟩
  have m7 := m6.out.frN f7
  have fr7 := fr6.seqN f7
  replace m7 := Lib.hid m7
  go_wp2_with fail
  go_fit (hag.out w7 _ m7.out)
  rintro e w8 ⟨rfl, f8⟩
  have m8 := m7.out.frN f8
  have fr8 := fr7.seqN f8
  have f78 := f7.seqN f8
  have u8 := u6.out.frN f78
  have bC := f78.blk bB.out (fun q => q)
  clear m6 m7 u6 bB f7 f8 f78 fr6 fr7
  replace m8 := Lib.hid m8
  replace u8 := Lib.hid u8
  replace bC := Lib.hid bC
  go_wp2_with fail
  go_fit (kind_Trigger a t c w8)
  rintro e w9 ⟨rfl, f9⟩
  have m9 := m8.out.frN f9
  replace m9 := Lib.hid m9
  go_wp2_with fail
  go_fit (hrt.out w9 _ m9.out)
  rintro e w10 ⟨rfl, f10⟩
  have m10 := m9.out.frN f10
  have f910 := f9.seqN f10
  have fr10 := fr8.seqN f910
  have u10 := u8.out.frN f910
  have bD := f910.blk bC.out (fun q => q)
  clear m8 m9 u8 bC f9 f10 f910 fr8
  replace m10 := Lib.hid m10
  replace u10 := Lib.hid u10
  replace bD := Lib.hid bD
  cases ok with
  | false =>
    go_wp2_with fail
    go_fit (hpr.out w10 _ fr10 m10.out)
    rintro e w11 ⟨rfl, f11⟩
    rw [hno.out (by trivial)]
    go_wp2_with fail
    go_ret
    exact ⟨rfl, fr10.seqN f11⟩
  | true =>
    go_wp2_with fail
    go_fit (hpr.out w10 _ fr10 m10.out)
    rintro e w11 ⟨rfl, f11⟩
    have fr11 := fr10.seqN f11
    go_wp2_with fail
    go_fit (hrd.out w11 fr11 (by trivial))
    rintro e w12 ⟨x, rfl, m12, f12⟩
    have f1112 := f11.seqN f12
    have fr12 := fr10.seqN f1112
    have u12 := u10.out.frN f1112
    have bE := f1112.blk bD.out (fun q => q)
    clear m10 u10 bD f11 f12 f1112 fr10 fr11
    replace m12 := Lib.hid m12
    replace u12 := Lib.hid u12
    have hself := hself.out
    have hS : ∀ w', Fr noB w12 w' → w'.cell? ⟨gA, 0, none⟩ = some (.int .i64 1) ∧ w'.cell? ⟨gA, 1, none⟩ = some (.int .i64 a) ∧ w'.cell? ⟨gA, 2, none⟩ = some (.int .i64 t) ∧ w'.cell? ⟨gA, 3, none⟩ = some (.int .i64 0) ∧ w'.cell? ⟨gA, 4, none⟩ = some (.int .i64 c) ∧ w'.cell? ⟨gA, 5, none⟩ = some (.int .i64 0) ∧ w'.cell? ⟨gA, 6, none⟩ = some (.int .i64 0) ∧ w'.cell? ⟨gA, 7, none⟩ = some (.int .i64 0) ∧ w'.cell? ⟨gA, 8, none⟩ = some (.int .i64 0) ∧ w'.cell? ⟨gA, 9, none⟩ = some (.int .i64 0) ∧ w'.cell? ⟨gA, 10, none⟩ = some (.int .i64 0) ∧ w'.cell? ⟨gA, 11, none⟩ = some (.slice none 0 0) ∧ w'.cell? ⟨gA, 12, none⟩ = some (.bool false) ∧ w'.cell? ⟨gA, 13, none⟩ = some (.slice none 0 0) ∧ w'.cell? ⟨gA, 14, none⟩ = some (.slice none 0 0) := fun w' f => by
      have b := f.blk bE (fun q => q)
      exact ⟨b.cell 0, b.cell 1, b.cell 2, b.cell 3, b.cell 4, b.cell 5, b.cell 6, b.cell 7, b.cell 8, b.cell 9, b.cell 10, b.cell 11, b.cell 12, b.cell 13, b.cell 14⟩
    replace hS := Lib.hid hS
    have fq := (Fr.refl noB w12).drewN 1
    go_wp2_with fail
    go_region_held3 (fun w' => w'.cell? ⟨gA, 0, none⟩ = some (.int .i64 1) ∧ w'.cell? ⟨gA, 1, none⟩ = some (.int .i64 a) ∧ w'.cell? ⟨gA, 2, none⟩ = some (.int .i64 t) ∧ w'.cell? ⟨gA, 3, none⟩ = some (.int .i64 0) ∧ w'.cell? ⟨gA, 4, none⟩ = some (.int .i64 c) ∧ w'.cell? ⟨gA, 5, none⟩ = some (.int .i64 0) ∧ w'.cell? ⟨gA, 6, none⟩ = some (.int .i64 0) ∧ w'.cell? ⟨gA, 7, none⟩ = some (.int .i64 0) ∧ w'.cell? ⟨gA, 8, none⟩ = some (.int .i64 0) ∧ w'.cell? ⟨gA, 9, none⟩ = some (.int .i64 0) ∧ w'.cell? ⟨gA, 10, none⟩ = some (.int .i64 0) ∧ w'.cell? ⟨gA, 11, none⟩ = some (.slice none 0 0) ∧ w'.cell? ⟨gA, 12, none⟩ = some (.bool false) ∧ w'.cell? ⟨gA, 13, none⟩ = some (.slice none 0 0) ∧ w'.cell? ⟨gA, 14, none⟩ = some (.slice none 0 0))
      (first | exact hS.out _ fq | exact hS.out _ ((Fr.refl noB _).drewN 1) | fail)
      (first
       | (go_at_call 17; refine (hsm.out _ _ _ ((y1.out).frN (by first | exact Fr.refl noB _ | exact fz.out)) (u12.out.frN fq)).mono ?_; rintro e w5 ⟨rfl, f5⟩; have fq := fq.seqN f5)
       | (go_at_call 16; refine (hrp.out _ _ (u12.out.frN fq) (by trivial)).mono ?_; rintro e w5 ⟨rfl, f5⟩; have fq := fq.seqN f5; have fz := Lib.hid f5)
       | (go_at_call 11; refine (hlk.out _ _ (m12.out.frN fq)).mono ?_; rintro e w5 ⟨rfl, y1, f5⟩; have y1 := Lib.hid y1; have fq := fq.seqN f5)
       | fail)
    all_goals (
      go_wp2_with fail
      go_ret
      exact ⟨rfl, fr12.seqN fq⟩)

set_option maxHeartbeats 8000000 in
theorem prints_2 (a t j c n : Int) (cr : List Int) (lo : Bool) (sp : List Sp) (ua : Option Addr) (uc : Nat) (sa : Option Addr) (sc : Nat) (w : World) (hg : Gl w) (hu : RdI w (.slice ua cr.length uc) cr) (hs : RdSp w (.slice sa sp.length sc) sp)
    (ha : -9223372036854775808 ≤ a ∧ a + 1 ≤ 9223372036854775807) (ha2 : a ≤ 1099511627776) (hcl : cr.length ≤ 20) (hfw : fewS sp = true) :
    Calls Tryz.prog 3 #[.int .i64 2, .int .i64 a, .int .i64 t, .int .i64 j, .int .i64 c, .int .i64 n, .slice ua cr.length uc, .bool lo, .slice sa sp.length sc] w fun e w' => e = .returned (.bool true) ∧ Fr noB w w' := by
  have haw := awake_any w hg
  have hfew := fun w' (f : Fr noB w w') => few_any _ sp w' (hs.frN f)
  rw [hfw] at hfew
  obtain ⟨M, hM⟩ : ∃ M : Ms, M = .pin t j := ⟨_, rfl⟩
  have hmk : ∀ w', Fr noB w w' → Calls Tryz.prog 8 #[.int .i64 2, .int .i64 a, .int .i64 t, .int .i64 j, .int .i64 c, .int .i64 n, .slice ua cr.length uc, .bool lo, .slice sa sp.length sc] w' fun e w'' => e = .returned (mPin t j) ∧ MsW w'' (mPin t j) M ∧ Fr noB w' w'' := fun w' f =>
    (make_2 a t j c n ua _ uc lo sa _ sc w').mono fun e w'' ⟨h, f2⟩ => ⟨h, by rw [hM]; exact rfl, f2⟩
  have hfewM : M.few := by rw [hM]; trivial
  have hlk : ∀ w' x, MsW w' x M → Calls Tryz.prog 11 #[x] w' fun e w'' => e = .returned (.agg #[.int .i64 2, .int .i64 0, .int .i64 t, .int .i64 j, .int .i64 0, .int .i64 0, .int .i64 0, .int .i64 0, .int .i64 0, .int .i64 0, .int .i64 0, .slice none 0 0, .bool false, .slice none 0 0, .slice none 0 0]) ∧ RfW w'' (.agg #[.int .i64 2, .int .i64 0, .int .i64 t, .int .i64 j, .int .i64 0, .int .i64 0, .int .i64 0, .int .i64 0, .int .i64 0, .int .i64 0, .int .i64 0, .slice none 0 0, .bool false, .slice none 0 0, .slice none 0 0]) M ∧ Fr noB w' w'' := fun w' x hx => by
    refine (like_ms x M w' hx hfewM).mono ?_
    rintro e w'' ⟨u, rfl, hu2, f2⟩
    have hu3 := hu2
    rw [hM] at hu3
    obtain rfl := hu3
    exact ⟨rfl, hu2, f2⟩
  have hrr := fun w' u (h : RfW w' u M) => rr_ms u M w' h
  have hof : ∀ w' x, MsW w' x M → Calls Tryz.prog 13 #[x] w' fun e w'' => e = .returned (.tuple #[.int .i64 t, .int .i64 j, .bool true]) ∧ Fr noB w' w'' := fun w' x hx => by
    have h := of_ms x M w' hx
    rw [hM] at h
    exact h
  have hag : ∀ w' x, MsW w' x M → Calls Tryz.prog 14 #[x] w' fun e w'' => e = .returned (.tuple #[.int .i64 0, .bool false]) ∧ Fr noB w' w'' := fun w' x hx => by
    have h := agent_ms x M w' hx
    rw [hM] at h
    exact h
  have hrt := fun w' x (h : MsW w' x M) => right_ms x M w' h
  have hpr := fun w' x (f : Fr noB w w') (h : MsW w' x M) => print_ms x M w' (hg.fr f) h
  have hrp := fun w' u (h : RfW w' u M) (hok : M.ok = true) => rprint_ms u M w' h hok
  have hrd := fun w' (f : Fr noB w w') (hok : M.ok = true) => read_own M w' (hg.fr f) hok
  have hsm := fun w' x y (h1 : RfW w' x M) (h2 : RfW w' y M) => same_ms x y M w' h1 h2
  have hno : M.ok = false → strB M.txt = ByteArray.mk #[] := fun h => txt_no h
  have hself : ((strB M.txt).toList == (strB M.txt).toList) = true := by simp
  obtain ⟨ok, hok⟩ : ∃ ok, M.ok = ok := ⟨_, rfl⟩
  rw [hok] at hrr hrt hno
  simp only [hok] at hrp hrd
  clear hfewM hu hs
  clear hM
  generalize strB M.txt = T at *
  have hc20 : ¬ ((cr.length : Int) > 20) := by omega
  have hai : ¬ (a > 1099511627776) := by omega
  generalize cr.length = cl at *
  generalize sp.length = sl at *
  unfold mPin at hmk
  replace haw := Lib.hid haw
  replace hfew := Lib.hid hfew
  replace hmk := Lib.hid hmk
  replace hlk := Lib.hid hlk
  replace hrr := Lib.hid hrr
  replace hof := Lib.hid hof
  replace hag := Lib.hid hag
  replace hrt := Lib.hid hrt
  replace hpr := Lib.hid hpr
  replace hrp := Lib.hid hrp
  replace hrd := Lib.hid hrd
  replace hsm := Lib.hid hsm
  replace hno := Lib.hid hno
  replace hok := Lib.hid hok
  replace hself := Lib.hid hself
  clear ha hfw
  go_enter Tryz.func3, Tryz.ntmps3
  go_wp2_with fail
  go_fit haw.out
  rintro e w1 ⟨rfl, f1⟩
  go_wp2_with fail
  go_fit (hfew.out w1 f1)
  rintro e w2 ⟨rfl, f2⟩
  have fr2 := f1.seqN f2
  go_wp2_with fail
  go_fit (hmk.out w2 fr2)
  rintro e w3 ⟨rfl, m3, f3⟩
  have fr3 := fr2.seqN f3
  clear f1 f2 f3 fr2
  replace m3 := Lib.hid m3
  go_wp2_with fail
  go_fit (hlk.out w3 _ m3.out)
  rintro e w4 ⟨rfl, u4, f4⟩
  have m4 := m3.out.frN f4
  have fr4 := fr3.seqN f4
  have fA := (Fr.refl noB w4).alloc (.cells #[.int .i64 2, .int .i64 0, .int .i64 t, .int .i64 j, .int .i64 0, .int .i64 0, .int .i64 0, .int .i64 0, .int .i64 0, .int .i64 0, .int .i64 0, .slice none 0 0, .bool false, .slice none 0 0, .slice none 0 0] 35)
  have bA := Blk.new w4 35 [.int .i64 2, .int .i64 0, .int .i64 t, .int .i64 j, .int .i64 0, .int .i64 0, .int .i64 0, .int .i64 0, .int .i64 0, .int .i64 0, .int .i64 0, .slice none 0 0, .bool false, .slice none 0 0, .slice none 0 0]
  have m5 := m4.frN fA
  have u5 := u4.frN fA
  have fr5 := fr4.seqN fA
  clear fr3 fr4 f4 m3 m4 u4
  replace m5 := Lib.hid m5
  replace u5 := Lib.hid u5
  go_wp2_with fail
  generalize (w4.alloc (.cells #[.int .i64 2, .int .i64 0, .int .i64 t, .int .i64 j, .int .i64 0, .int .i64 0, .int .i64 0, .int .i64 0, .int .i64 0, .int .i64 0, .int .i64 0, .slice none 0 0, .bool false, .slice none 0 0, .slice none 0 0] 35)) = w5 at *
  obtain ⟨gA, hgA⟩ : ∃ g, w4.heap.size = g := ⟨_, rfl⟩
  rw [hgA] at bA
  first | rw [hgA] | skip
  clear fA hgA
  go_fit (hrr.out w5 _ u5.out)
  rintro e w6 ⟨rfl, f6⟩
  have m6 := m5.out.frN f6
  have u6 := u5.out.frN f6
  have bB := f6.blk bA (fun q => q)
  have fr6 := fr5.seqN f6
  clear m5 u5 bA fr5 f6
  replace m6 := Lib.hid m6
  replace u6 := Lib.hid u6
  replace bB := Lib.hid bB
  go_wp2_with fail
  go_fit (hof.out w6 _ m6.out)
  rintro e w7 ⟨rfl, f7⟩
  have m7 := m6.out.frN f7
  have fr7 := fr6.seqN f7
  replace m7 := Lib.hid m7
  go_wp2_with fail
  go_fit (hag.out w7 _ m7.out)
  rintro e w8 ⟨rfl, f8⟩
  have m8 := m7.out.frN f8
  have fr8 := fr7.seqN f8
  have f78 := f7.seqN f8
  have u8 := u6.out.frN f78
  have bC := f78.blk bB.out (fun q => q)
  clear m6 m7 u6 bB f7 f8 f78 fr6 fr7
  replace m8 := Lib.hid m8
  replace u8 := Lib.hid u8
  replace bC := Lib.hid bC
  go_wp2_with fail
  go_fit (kind_Pin t j w8)
  rintro e w9 ⟨rfl, f9⟩
  have m9 := m8.out.frN f9
  replace m9 := Lib.hid m9
  go_wp2_with fail
  go_fit (hrt.out w9 _ m9.out)
  rintro e w10 ⟨rfl, f10⟩
  have m10 := m9.out.frN f10
  have f910 := f9.seqN f10
  have fr10 := fr8.seqN f910
  have u10 := u8.out.frN f910
  have bD := f910.blk bC.out (fun q => q)
  clear m8 m9 u8 bC f9 f10 f910 fr8
  replace m10 := Lib.hid m10
  replace u10 := Lib.hid u10
  replace bD := Lib.hid bD
  cases ok with
  | false =>
    go_wp2_with fail
    go_fit (hpr.out w10 _ fr10 m10.out)
    rintro e w11 ⟨rfl, f11⟩
    rw [hno.out (by trivial)]
    go_wp2_with fail
    go_ret
    exact ⟨rfl, fr10.seqN f11⟩
  | true =>
    go_wp2_with fail
    go_fit (hpr.out w10 _ fr10 m10.out)
    rintro e w11 ⟨rfl, f11⟩
    have fr11 := fr10.seqN f11
    go_wp2_with fail
    go_fit (hrd.out w11 fr11 (by trivial))
    rintro e w12 ⟨x, rfl, m12, f12⟩
    have f1112 := f11.seqN f12
    have fr12 := fr10.seqN f1112
    have u12 := u10.out.frN f1112
    have bE := f1112.blk bD.out (fun q => q)
    clear m10 u10 bD f11 f12 f1112 fr10 fr11
    replace m12 := Lib.hid m12
    replace u12 := Lib.hid u12
    have hself := hself.out
    have hS : ∀ w', Fr noB w12 w' → w'.cell? ⟨gA, 0, none⟩ = some (.int .i64 2) ∧ w'.cell? ⟨gA, 1, none⟩ = some (.int .i64 0) ∧ w'.cell? ⟨gA, 2, none⟩ = some (.int .i64 t) ∧ w'.cell? ⟨gA, 3, none⟩ = some (.int .i64 j) ∧ w'.cell? ⟨gA, 4, none⟩ = some (.int .i64 0) ∧ w'.cell? ⟨gA, 5, none⟩ = some (.int .i64 0) ∧ w'.cell? ⟨gA, 6, none⟩ = some (.int .i64 0) ∧ w'.cell? ⟨gA, 7, none⟩ = some (.int .i64 0) ∧ w'.cell? ⟨gA, 8, none⟩ = some (.int .i64 0) ∧ w'.cell? ⟨gA, 9, none⟩ = some (.int .i64 0) ∧ w'.cell? ⟨gA, 10, none⟩ = some (.int .i64 0) ∧ w'.cell? ⟨gA, 11, none⟩ = some (.slice none 0 0) ∧ w'.cell? ⟨gA, 12, none⟩ = some (.bool false) ∧ w'.cell? ⟨gA, 13, none⟩ = some (.slice none 0 0) ∧ w'.cell? ⟨gA, 14, none⟩ = some (.slice none 0 0) := fun w' f => by
      have b := f.blk bE (fun q => q)
      exact ⟨b.cell 0, b.cell 1, b.cell 2, b.cell 3, b.cell 4, b.cell 5, b.cell 6, b.cell 7, b.cell 8, b.cell 9, b.cell 10, b.cell 11, b.cell 12, b.cell 13, b.cell 14⟩
    replace hS := Lib.hid hS
    have fq := (Fr.refl noB w12).drewN 1
    go_wp2_with fail
    go_region_held3 (fun w' => w'.cell? ⟨gA, 0, none⟩ = some (.int .i64 2) ∧ w'.cell? ⟨gA, 1, none⟩ = some (.int .i64 0) ∧ w'.cell? ⟨gA, 2, none⟩ = some (.int .i64 t) ∧ w'.cell? ⟨gA, 3, none⟩ = some (.int .i64 j) ∧ w'.cell? ⟨gA, 4, none⟩ = some (.int .i64 0) ∧ w'.cell? ⟨gA, 5, none⟩ = some (.int .i64 0) ∧ w'.cell? ⟨gA, 6, none⟩ = some (.int .i64 0) ∧ w'.cell? ⟨gA, 7, none⟩ = some (.int .i64 0) ∧ w'.cell? ⟨gA, 8, none⟩ = some (.int .i64 0) ∧ w'.cell? ⟨gA, 9, none⟩ = some (.int .i64 0) ∧ w'.cell? ⟨gA, 10, none⟩ = some (.int .i64 0) ∧ w'.cell? ⟨gA, 11, none⟩ = some (.slice none 0 0) ∧ w'.cell? ⟨gA, 12, none⟩ = some (.bool false) ∧ w'.cell? ⟨gA, 13, none⟩ = some (.slice none 0 0) ∧ w'.cell? ⟨gA, 14, none⟩ = some (.slice none 0 0))
      (first | exact hS.out _ fq | exact hS.out _ ((Fr.refl noB _).drewN 1) | fail)
      (first
       | (go_at_call 17; refine (hsm.out _ _ _ ((y1.out).frN (by first | exact Fr.refl noB _ | exact fz.out)) (u12.out.frN fq)).mono ?_; rintro e w5 ⟨rfl, f5⟩; have fq := fq.seqN f5)
       | (go_at_call 16; refine (hrp.out _ _ (u12.out.frN fq) (by trivial)).mono ?_; rintro e w5 ⟨rfl, f5⟩; have fq := fq.seqN f5; have fz := Lib.hid f5)
       | (go_at_call 11; refine (hlk.out _ _ (m12.out.frN fq)).mono ?_; rintro e w5 ⟨rfl, y1, f5⟩; have y1 := Lib.hid y1; have fq := fq.seqN f5)
       | fail)
    all_goals (
      go_wp2_with fail
      go_ret
      exact ⟨rfl, fr12.seqN fq⟩)

set_option maxHeartbeats 8000000 in
theorem prints_3 (a t j c n : Int) (cr : List Int) (lo : Bool) (sp : List Sp) (ua : Option Addr) (uc : Nat) (sa : Option Addr) (sc : Nat) (w : World) (hg : Gl w) (hu : RdI w (.slice ua cr.length uc) cr) (hs : RdSp w (.slice sa sp.length sc) sp)
    (ha : -9223372036854775808 ≤ a ∧ a + 1 ≤ 9223372036854775807) (ha2 : a ≤ 1099511627776) (hcl : cr.length ≤ 20) (hfw : fewS sp = true) :
    Calls Tryz.prog 3 #[.int .i64 3, .int .i64 a, .int .i64 t, .int .i64 j, .int .i64 c, .int .i64 n, .slice ua cr.length uc, .bool lo, .slice sa sp.length sc] w fun e w' => e = .returned (.bool true) ∧ Fr noB w w' := by
  have haw := awake_any w hg
  have hfew := fun w' (f : Fr noB w w') => few_any _ sp w' (hs.frN f)
  rw [hfw] at hfew
  obtain ⟨M, hM⟩ : ∃ M : Ms, M = .pinned ⟨a, t, j, n, cr, lo⟩ := ⟨_, rfl⟩
  have hmk : ∀ w', Fr noB w w' → Calls Tryz.prog 8 #[.int .i64 3, .int .i64 a, .int .i64 t, .int .i64 j, .int .i64 c, .int .i64 n, .slice ua cr.length uc, .bool lo, .slice sa sp.length sc] w' fun e w'' => e = .returned (mPinned a t j n (.slice ua cr.length uc) lo) ∧ MsW w'' (mPinned a t j n (.slice ua cr.length uc) lo) M ∧ Fr noB w' w'' := fun w' f =>
    (make_3 a t j c n ua _ uc lo sa _ sc w').mono fun e w'' ⟨h, f2⟩ => ⟨h, by rw [hM]; exact ⟨_, rfl, (hu.frN f).frN f2⟩, f2⟩
  have hfewM : M.few := by rw [hM]; trivial
  have hlk : ∀ w' x, MsW w' x M → Calls Tryz.prog 11 #[x] w' fun e w'' => ∃ ua uc, e = .returned (.agg #[.int .i64 3, .int .i64 0, .int .i64 0, .int .i64 0, .int .i64 0, .int .i64 0, .int .i64 0, .int .i64 a, .int .i64 t, .int .i64 j, .int .i64 n, .slice ua cr.length uc, .bool lo, .slice none 0 0, .slice none 0 0]) ∧ RfW w'' (.agg #[.int .i64 3, .int .i64 0, .int .i64 0, .int .i64 0, .int .i64 0, .int .i64 0, .int .i64 0, .int .i64 a, .int .i64 t, .int .i64 j, .int .i64 n, .slice ua cr.length uc, .bool lo, .slice none 0 0, .slice none 0 0]) M ∧ Fr noB w' w'' := fun w' x hx => by
    refine (like_ms x M w' hx hfewM).mono ?_
    rintro e w'' ⟨u, rfl, hu2, f2⟩
    have hu3 := hu2
    rw [hM] at hu3
    obtain ⟨qa, qc, rfl, hr⟩ := hu3
    exact ⟨qa, qc, rfl, hu2, f2⟩
  have hrr := fun w' u (h : RfW w' u M) => rr_ms u M w' h
  have hof : ∀ w' x, MsW w' x M → Calls Tryz.prog 13 #[x] w' fun e w'' => e = .returned (.tuple #[.int .i64 t, .int .i64 j, .bool true]) ∧ Fr noB w' w'' := fun w' x hx => by
    have h := of_ms x M w' hx
    rw [hM] at h
    exact h
  have hag : ∀ w' x, MsW w' x M → Calls Tryz.prog 14 #[x] w' fun e w'' => e = .returned (.tuple #[.int .i64 a, .bool true]) ∧ Fr noB w' w'' := fun w' x hx => by
    have h := agent_ms x M w' hx
    rw [hM] at h
    exact h
  have hrt := fun w' x (h : MsW w' x M) => right_ms x M w' h
  have hpr := fun w' x (f : Fr noB w w') (h : MsW w' x M) => print_ms x M w' (hg.fr f) h
  have hrp := fun w' u (h : RfW w' u M) (hok : M.ok = true) => rprint_ms u M w' h hok
  have hrd := fun w' (f : Fr noB w w') (hok : M.ok = true) => read_own M w' (hg.fr f) hok
  have hsm := fun w' x y (h1 : RfW w' x M) (h2 : RfW w' y M) => same_ms x y M w' h1 h2
  have hno : M.ok = false → strB M.txt = ByteArray.mk #[] := fun h => txt_no h
  have hself : ((strB M.txt).toList == (strB M.txt).toList) = true := by simp
  obtain ⟨ok, hok⟩ : ∃ ok, M.ok = ok := ⟨_, rfl⟩
  rw [hok] at hrr hrt hno
  simp only [hok] at hrp hrd
  clear hfewM hu hs
  clear hM
  generalize strB M.txt = T at *
  have hc20 : ¬ ((cr.length : Int) > 20) := by omega
  have hai : ¬ (a > 1099511627776) := by omega
  generalize cr.length = cl at *
  generalize sp.length = sl at *
  unfold mPinned at hmk
  replace haw := Lib.hid haw
  replace hfew := Lib.hid hfew
  replace hmk := Lib.hid hmk
  replace hlk := Lib.hid hlk
  replace hrr := Lib.hid hrr
  replace hof := Lib.hid hof
  replace hag := Lib.hid hag
  replace hrt := Lib.hid hrt
  replace hpr := Lib.hid hpr
  replace hrp := Lib.hid hrp
  replace hrd := Lib.hid hrd
  replace hsm := Lib.hid hsm
  replace hno := Lib.hid hno
  replace hok := Lib.hid hok
  replace hself := Lib.hid hself
  clear ha hfw
  go_enter Tryz.func3, Tryz.ntmps3
  go_wp2_with fail
  go_fit haw.out
  rintro e w1 ⟨rfl, f1⟩
  go_wp2_with fail
  go_fit (hfew.out w1 f1)
  rintro e w2 ⟨rfl, f2⟩
  have fr2 := f1.seqN f2
  go_wp2_with fail
  go_fit (hmk.out w2 fr2)
  rintro e w3 ⟨rfl, m3, f3⟩
  have fr3 := fr2.seqN f3
  clear f1 f2 f3 fr2
  replace m3 := Lib.hid m3
  go_wp2_with fail
  go_fit (hlk.out w3 _ m3.out)
  rintro e w4 ⟨qa, qc, rfl, u4, f4⟩
  have m4 := m3.out.frN f4
  have fr4 := fr3.seqN f4
  have fA := (Fr.refl noB w4).alloc (.cells #[.int .i64 3, .int .i64 0, .int .i64 0, .int .i64 0, .int .i64 0, .int .i64 0, .int .i64 0, .int .i64 a, .int .i64 t, .int .i64 j, .int .i64 n, .slice qa cl qc, .bool lo, .slice none 0 0, .slice none 0 0] 35)
  have bA := Blk.new w4 35 [.int .i64 3, .int .i64 0, .int .i64 0, .int .i64 0, .int .i64 0, .int .i64 0, .int .i64 0, .int .i64 a, .int .i64 t, .int .i64 j, .int .i64 n, .slice qa cl qc, .bool lo, .slice none 0 0, .slice none 0 0]
  have m5 := m4.frN fA
  have u5 := u4.frN fA
  have fr5 := fr4.seqN fA
  clear fr3 fr4 f4 m3 m4 u4
  replace m5 := Lib.hid m5
  replace u5 := Lib.hid u5
  go_wp2_with fail
  generalize (w4.alloc (.cells #[.int .i64 3, .int .i64 0, .int .i64 0, .int .i64 0, .int .i64 0, .int .i64 0, .int .i64 0, .int .i64 a, .int .i64 t, .int .i64 j, .int .i64 n, .slice qa cl qc, .bool lo, .slice none 0 0, .slice none 0 0] 35)) = w5 at *
  obtain ⟨gA, hgA⟩ : ∃ g, w4.heap.size = g := ⟨_, rfl⟩
  rw [hgA] at bA
  first | rw [hgA] | skip
  clear fA hgA
  go_fit (hrr.out w5 _ u5.out)
  rintro e w6 ⟨rfl, f6⟩
  have m6 := m5.out.frN f6
  have u6 := u5.out.frN f6
  have bB := f6.blk bA (fun q => q)
  have fr6 := fr5.seqN f6
  clear m5 u5 bA fr5 f6
  replace m6 := Lib.hid m6
  replace u6 := Lib.hid u6
  replace bB := Lib.hid bB
  go_wp2_with fail
  go_fit (hof.out w6 _ m6.out)
  rintro e w7 ⟨rfl, f7⟩
  have m7 := m6.out.frN f7
  have fr7 := fr6.seqN f7
  replace m7 := Lib.hid m7
  go_wp2_with fail
  go_fit (hag.out w7 _ m7.out)
  rintro e w8 ⟨rfl, f8⟩
  have m8 := m7.out.frN f8
  have fr8 := fr7.seqN f8
  have f78 := f7.seqN f8
  have u8 := u6.out.frN f78
  have bC := f78.blk bB.out (fun q => q)
  clear m6 m7 u6 bB f7 f8 f78 fr6 fr7
  replace m8 := Lib.hid m8
  replace u8 := Lib.hid u8
  replace bC := Lib.hid bC
  go_wp2_with fail
  go_fit (kind_Pinned a t j n ua cl uc lo w8)
  rintro e w9 ⟨rfl, f9⟩
  have m9 := m8.out.frN f9
  replace m9 := Lib.hid m9
  go_wp2_with fail
  go_fit (hrt.out w9 _ m9.out)
  rintro e w10 ⟨rfl, f10⟩
  have m10 := m9.out.frN f10
  have f910 := f9.seqN f10
  have fr10 := fr8.seqN f910
  have u10 := u8.out.frN f910
  have bD := f910.blk bC.out (fun q => q)
  clear m8 m9 u8 bC f9 f10 f910 fr8
  replace m10 := Lib.hid m10
  replace u10 := Lib.hid u10
  replace bD := Lib.hid bD
  cases ok with
  | false =>
    go_wp2_with fail
    go_fit (hpr.out w10 _ fr10 m10.out)
    rintro e w11 ⟨rfl, f11⟩
    rw [hno.out (by trivial)]
    go_wp2_with fail
    go_ret
    exact ⟨rfl, fr10.seqN f11⟩
  | true =>
    go_wp2_with fail
    go_fit (hpr.out w10 _ fr10 m10.out)
    rintro e w11 ⟨rfl, f11⟩
    have fr11 := fr10.seqN f11
    go_wp2_with fail
    go_fit (hrd.out w11 fr11 (by trivial))
    rintro e w12 ⟨x, rfl, m12, f12⟩
    have f1112 := f11.seqN f12
    have fr12 := fr10.seqN f1112
    have u12 := u10.out.frN f1112
    have bE := f1112.blk bD.out (fun q => q)
    clear m10 u10 bD f11 f12 f1112 fr10 fr11
    replace m12 := Lib.hid m12
    replace u12 := Lib.hid u12
    have hself := hself.out
    have hS : ∀ w', Fr noB w12 w' → w'.cell? ⟨gA, 0, none⟩ = some (.int .i64 3) ∧ w'.cell? ⟨gA, 1, none⟩ = some (.int .i64 0) ∧ w'.cell? ⟨gA, 2, none⟩ = some (.int .i64 0) ∧ w'.cell? ⟨gA, 3, none⟩ = some (.int .i64 0) ∧ w'.cell? ⟨gA, 4, none⟩ = some (.int .i64 0) ∧ w'.cell? ⟨gA, 5, none⟩ = some (.int .i64 0) ∧ w'.cell? ⟨gA, 6, none⟩ = some (.int .i64 0) ∧ w'.cell? ⟨gA, 7, none⟩ = some (.int .i64 a) ∧ w'.cell? ⟨gA, 8, none⟩ = some (.int .i64 t) ∧ w'.cell? ⟨gA, 9, none⟩ = some (.int .i64 j) ∧ w'.cell? ⟨gA, 10, none⟩ = some (.int .i64 n) ∧ w'.cell? ⟨gA, 11, none⟩ = some (.slice qa cl qc) ∧ w'.cell? ⟨gA, 12, none⟩ = some (.bool lo) ∧ w'.cell? ⟨gA, 13, none⟩ = some (.slice none 0 0) ∧ w'.cell? ⟨gA, 14, none⟩ = some (.slice none 0 0) := fun w' f => by
      have b := f.blk bE (fun q => q)
      exact ⟨b.cell 0, b.cell 1, b.cell 2, b.cell 3, b.cell 4, b.cell 5, b.cell 6, b.cell 7, b.cell 8, b.cell 9, b.cell 10, b.cell 11, b.cell 12, b.cell 13, b.cell 14⟩
    replace hS := Lib.hid hS
    have fq := (Fr.refl noB w12).drewN 1
    go_wp2_with fail
    go_region_held3 (fun w' => w'.cell? ⟨gA, 0, none⟩ = some (.int .i64 3) ∧ w'.cell? ⟨gA, 1, none⟩ = some (.int .i64 0) ∧ w'.cell? ⟨gA, 2, none⟩ = some (.int .i64 0) ∧ w'.cell? ⟨gA, 3, none⟩ = some (.int .i64 0) ∧ w'.cell? ⟨gA, 4, none⟩ = some (.int .i64 0) ∧ w'.cell? ⟨gA, 5, none⟩ = some (.int .i64 0) ∧ w'.cell? ⟨gA, 6, none⟩ = some (.int .i64 0) ∧ w'.cell? ⟨gA, 7, none⟩ = some (.int .i64 a) ∧ w'.cell? ⟨gA, 8, none⟩ = some (.int .i64 t) ∧ w'.cell? ⟨gA, 9, none⟩ = some (.int .i64 j) ∧ w'.cell? ⟨gA, 10, none⟩ = some (.int .i64 n) ∧ w'.cell? ⟨gA, 11, none⟩ = some (.slice qa cl qc) ∧ w'.cell? ⟨gA, 12, none⟩ = some (.bool lo) ∧ w'.cell? ⟨gA, 13, none⟩ = some (.slice none 0 0) ∧ w'.cell? ⟨gA, 14, none⟩ = some (.slice none 0 0))
      (first | exact hS.out _ fq | exact hS.out _ ((Fr.refl noB _).drewN 1) | fail)
      (first
       | (go_at_call 17; refine (hsm.out _ _ _ ((y1.out).frN (by first | exact Fr.refl noB _ | exact fz.out)) (u12.out.frN fq)).mono ?_; rintro e w5 ⟨rfl, f5⟩; have fq := fq.seqN f5)
       | (go_at_call 16; refine (hrp.out _ _ (u12.out.frN fq) (by trivial)).mono ?_; rintro e w5 ⟨rfl, f5⟩; have fq := fq.seqN f5; have fz := Lib.hid f5)
       | (go_at_call 11; refine (hlk.out _ _ (m12.out.frN fq)).mono ?_; rintro e w5 ⟨y2, y3, rfl, y1, f5⟩; have y1 := Lib.hid y1; have fq := fq.seqN f5)
       | fail)
    all_goals (
      go_wp2_with fail
      go_ret
      exact ⟨rfl, fr12.seqN fq⟩)
end Go.Proofs.YtbmafogjmdilkaaGreatDoor
end

section
set_option linter.unusedVariables false
set_option linter.unusedSimpArgs false
set_option maxRecDepth 100000
namespace Go.Proofs.YtbmafogjmdilkaaGreatDoor
open Go.RowKit Go Go.Lib

set_option maxHeartbeats 8000000 in
theorem prints_4 (a t j c n : Int) (cr : List Int) (lo : Bool) (sp : List Sp) (ua : Option Addr) (uc : Nat) (sa : Option Addr) (sc : Nat) (w : World) (hg : Gl w) (hu : RdI w (.slice ua cr.length uc) cr) (hs : RdSp w (.slice sa sp.length sc) sp)
    (ha : -9223372036854775808 ≤ a ∧ a + 1 ≤ 9223372036854775807) (ha2 : a ≤ 1099511627776) (hcl : cr.length ≤ 20) (hfw : fewS sp = true) :
    Calls Tryz.prog 3 #[.int .i64 4, .int .i64 a, .int .i64 t, .int .i64 j, .int .i64 c, .int .i64 n, .slice ua cr.length uc, .bool lo, .slice sa sp.length sc] w fun e w' => e = .returned (.bool true) ∧ Fr noB w w' := by
  have haw := awake_any w hg
  have hfew := fun w' (f : Fr noB w w') => few_any _ sp w' (hs.frN f)
  rw [hfw] at hfew
  obtain ⟨M, hM⟩ : ∃ M : Ms, M = .gone a t j := ⟨_, rfl⟩
  have hmk : ∀ w', Fr noB w w' → Calls Tryz.prog 8 #[.int .i64 4, .int .i64 a, .int .i64 t, .int .i64 j, .int .i64 c, .int .i64 n, .slice ua cr.length uc, .bool lo, .slice sa sp.length sc] w' fun e w'' => e = .returned (mGone a t j) ∧ MsW w'' (mGone a t j) M ∧ Fr noB w' w'' := fun w' f =>
    (make_4 a t j c n ua _ uc lo sa _ sc w').mono fun e w'' ⟨h, f2⟩ => ⟨h, by rw [hM]; exact rfl, f2⟩
  have hfewM : M.few := by rw [hM]; trivial
  have hlk : ∀ w' x, MsW w' x M → Calls Tryz.prog 11 #[x] w' fun e w'' => e = .returned (.agg #[.int .i64 4, .int .i64 a, .int .i64 t, .int .i64 j, .int .i64 0, .int .i64 0, .int .i64 0, .int .i64 0, .int .i64 0, .int .i64 0, .int .i64 0, .slice none 0 0, .bool false, .slice none 0 0, .slice none 0 0]) ∧ RfW w'' (.agg #[.int .i64 4, .int .i64 a, .int .i64 t, .int .i64 j, .int .i64 0, .int .i64 0, .int .i64 0, .int .i64 0, .int .i64 0, .int .i64 0, .int .i64 0, .slice none 0 0, .bool false, .slice none 0 0, .slice none 0 0]) M ∧ Fr noB w' w'' := fun w' x hx => by
    refine (like_ms x M w' hx hfewM).mono ?_
    rintro e w'' ⟨u, rfl, hu2, f2⟩
    have hu3 := hu2
    rw [hM] at hu3
    obtain rfl := hu3
    exact ⟨rfl, hu2, f2⟩
  have hrr := fun w' u (h : RfW w' u M) => rr_ms u M w' h
  have hof : ∀ w' x, MsW w' x M → Calls Tryz.prog 13 #[x] w' fun e w'' => e = .returned (.tuple #[.int .i64 t, .int .i64 j, .bool true]) ∧ Fr noB w' w'' := fun w' x hx => by
    have h := of_ms x M w' hx
    rw [hM] at h
    exact h
  have hag : ∀ w' x, MsW w' x M → Calls Tryz.prog 14 #[x] w' fun e w'' => e = .returned (.tuple #[.int .i64 a, .bool true]) ∧ Fr noB w' w'' := fun w' x hx => by
    have h := agent_ms x M w' hx
    rw [hM] at h
    exact h
  have hrt := fun w' x (h : MsW w' x M) => right_ms x M w' h
  have hpr := fun w' x (f : Fr noB w w') (h : MsW w' x M) => print_ms x M w' (hg.fr f) h
  have hrp := fun w' u (h : RfW w' u M) (hok : M.ok = true) => rprint_ms u M w' h hok
  have hrd := fun w' (f : Fr noB w w') (hok : M.ok = true) => read_own M w' (hg.fr f) hok
  have hsm := fun w' x y (h1 : RfW w' x M) (h2 : RfW w' y M) => same_ms x y M w' h1 h2
  have hno : M.ok = false → strB M.txt = ByteArray.mk #[] := fun h => txt_no h
  have hself : ((strB M.txt).toList == (strB M.txt).toList) = true := by simp
  obtain ⟨ok, hok⟩ : ∃ ok, M.ok = ok := ⟨_, rfl⟩
  rw [hok] at hrr hrt hno
  simp only [hok] at hrp hrd
  clear hfewM hu hs
  clear hM
  generalize strB M.txt = T at *
  have hc20 : ¬ ((cr.length : Int) > 20) := by omega
  have hai : ¬ (a > 1099511627776) := by omega
  generalize cr.length = cl at *
  generalize sp.length = sl at *
  unfold mGone at hmk
  replace haw := Lib.hid haw
  replace hfew := Lib.hid hfew
  replace hmk := Lib.hid hmk
  replace hlk := Lib.hid hlk
  replace hrr := Lib.hid hrr
  replace hof := Lib.hid hof
  replace hag := Lib.hid hag
  replace hrt := Lib.hid hrt
  replace hpr := Lib.hid hpr
  replace hrp := Lib.hid hrp
  replace hrd := Lib.hid hrd
  replace hsm := Lib.hid hsm
  replace hno := Lib.hid hno
  replace hok := Lib.hid hok
  replace hself := Lib.hid hself
  clear ha hfw
  go_enter Tryz.func3, Tryz.ntmps3
  go_wp2_with fail
  go_fit haw.out
  rintro e w1 ⟨rfl, f1⟩
  go_wp2_with fail
  go_fit (hfew.out w1 f1)
  rintro e w2 ⟨rfl, f2⟩
  have fr2 := f1.seqN f2
  go_wp2_with fail
  go_fit (hmk.out w2 fr2)
  rintro e w3 ⟨rfl, m3, f3⟩
  have fr3 := fr2.seqN f3
  clear f1 f2 f3 fr2
  replace m3 := Lib.hid m3
  go_wp2_with fail
  go_fit (hlk.out w3 _ m3.out)
  rintro e w4 ⟨rfl, u4, f4⟩
  have m4 := m3.out.frN f4
  have fr4 := fr3.seqN f4
  have fA := (Fr.refl noB w4).alloc (.cells #[.int .i64 4, .int .i64 a, .int .i64 t, .int .i64 j, .int .i64 0, .int .i64 0, .int .i64 0, .int .i64 0, .int .i64 0, .int .i64 0, .int .i64 0, .slice none 0 0, .bool false, .slice none 0 0, .slice none 0 0] 35)
  have bA := Blk.new w4 35 [.int .i64 4, .int .i64 a, .int .i64 t, .int .i64 j, .int .i64 0, .int .i64 0, .int .i64 0, .int .i64 0, .int .i64 0, .int .i64 0, .int .i64 0, .slice none 0 0, .bool false, .slice none 0 0, .slice none 0 0]
  have m5 := m4.frN fA
  have u5 := u4.frN fA
  have fr5 := fr4.seqN fA
  clear fr3 fr4 f4 m3 m4 u4
  replace m5 := Lib.hid m5
  replace u5 := Lib.hid u5
  go_wp2_with fail
  generalize (w4.alloc (.cells #[.int .i64 4, .int .i64 a, .int .i64 t, .int .i64 j, .int .i64 0, .int .i64 0, .int .i64 0, .int .i64 0, .int .i64 0, .int .i64 0, .int .i64 0, .slice none 0 0, .bool false, .slice none 0 0, .slice none 0 0] 35)) = w5 at *
  obtain ⟨gA, hgA⟩ : ∃ g, w4.heap.size = g := ⟨_, rfl⟩
  rw [hgA] at bA
  first | rw [hgA] | skip
  clear fA hgA
  go_fit (hrr.out w5 _ u5.out)
  rintro e w6 ⟨rfl, f6⟩
  have m6 := m5.out.frN f6
  have u6 := u5.out.frN f6
  have bB := f6.blk bA (fun q => q)
  have fr6 := fr5.seqN f6
  clear m5 u5 bA fr5 f6
  replace m6 := Lib.hid m6
  replace u6 := Lib.hid u6
  replace bB := Lib.hid bB
  go_wp2_with fail
  go_fit (hof.out w6 _ m6.out)
  rintro e w7 ⟨rfl, f7⟩
  have m7 := m6.out.frN f7
  have fr7 := fr6.seqN f7
  replace m7 := Lib.hid m7
  go_wp2_with fail
  go_fit (hag.out w7 _ m7.out)
  rintro e w8 ⟨rfl, f8⟩
  have m8 := m7.out.frN f8
  have fr8 := fr7.seqN f8
  have f78 := f7.seqN f8
  have u8 := u6.out.frN f78
  have bC := f78.blk bB.out (fun q => q)
  clear m6 m7 u6 bB f7 f8 f78 fr6 fr7
  replace m8 := Lib.hid m8
  replace u8 := Lib.hid u8
  replace bC := Lib.hid bC
  go_wp2_with fail
  go_fit (kind_Gone a t j w8)
  rintro e w9 ⟨rfl, f9⟩
  have m9 := m8.out.frN f9
  replace m9 := Lib.hid m9
  go_wp2_with fail
  go_fit (hrt.out w9 _ m9.out)
  rintro e w10 ⟨rfl, f10⟩
  have m10 := m9.out.frN f10
  have f910 := f9.seqN f10
  have fr10 := fr8.seqN f910
  have u10 := u8.out.frN f910
  have bD := f910.blk bC.out (fun q => q)
  clear m8 m9 u8 bC f9 f10 f910 fr8
  replace m10 := Lib.hid m10
  replace u10 := Lib.hid u10
  replace bD := Lib.hid bD
  cases ok with
  | false =>
    go_wp2_with fail
    go_fit (hpr.out w10 _ fr10 m10.out)
    rintro e w11 ⟨rfl, f11⟩
    rw [hno.out (by trivial)]
    go_wp2_with fail
    go_ret
    exact ⟨rfl, fr10.seqN f11⟩
  | true =>
    go_wp2_with fail
    go_fit (hpr.out w10 _ fr10 m10.out)
    rintro e w11 ⟨rfl, f11⟩
    have fr11 := fr10.seqN f11
    go_wp2_with fail
    go_fit (hrd.out w11 fr11 (by trivial))
    rintro e w12 ⟨x, rfl, m12, f12⟩
    have f1112 := f11.seqN f12
    have fr12 := fr10.seqN f1112
    have u12 := u10.out.frN f1112
    have bE := f1112.blk bD.out (fun q => q)
    clear m10 u10 bD f11 f12 f1112 fr10 fr11
    replace m12 := Lib.hid m12
    replace u12 := Lib.hid u12
    have hself := hself.out
    have hS : ∀ w', Fr noB w12 w' → w'.cell? ⟨gA, 0, none⟩ = some (.int .i64 4) ∧ w'.cell? ⟨gA, 1, none⟩ = some (.int .i64 a) ∧ w'.cell? ⟨gA, 2, none⟩ = some (.int .i64 t) ∧ w'.cell? ⟨gA, 3, none⟩ = some (.int .i64 j) ∧ w'.cell? ⟨gA, 4, none⟩ = some (.int .i64 0) ∧ w'.cell? ⟨gA, 5, none⟩ = some (.int .i64 0) ∧ w'.cell? ⟨gA, 6, none⟩ = some (.int .i64 0) ∧ w'.cell? ⟨gA, 7, none⟩ = some (.int .i64 0) ∧ w'.cell? ⟨gA, 8, none⟩ = some (.int .i64 0) ∧ w'.cell? ⟨gA, 9, none⟩ = some (.int .i64 0) ∧ w'.cell? ⟨gA, 10, none⟩ = some (.int .i64 0) ∧ w'.cell? ⟨gA, 11, none⟩ = some (.slice none 0 0) ∧ w'.cell? ⟨gA, 12, none⟩ = some (.bool false) ∧ w'.cell? ⟨gA, 13, none⟩ = some (.slice none 0 0) ∧ w'.cell? ⟨gA, 14, none⟩ = some (.slice none 0 0) := fun w' f => by
      have b := f.blk bE (fun q => q)
      exact ⟨b.cell 0, b.cell 1, b.cell 2, b.cell 3, b.cell 4, b.cell 5, b.cell 6, b.cell 7, b.cell 8, b.cell 9, b.cell 10, b.cell 11, b.cell 12, b.cell 13, b.cell 14⟩
    replace hS := Lib.hid hS
    have fq := (Fr.refl noB w12).drewN 1
    go_wp2_with fail
    go_region_held3 (fun w' => w'.cell? ⟨gA, 0, none⟩ = some (.int .i64 4) ∧ w'.cell? ⟨gA, 1, none⟩ = some (.int .i64 a) ∧ w'.cell? ⟨gA, 2, none⟩ = some (.int .i64 t) ∧ w'.cell? ⟨gA, 3, none⟩ = some (.int .i64 j) ∧ w'.cell? ⟨gA, 4, none⟩ = some (.int .i64 0) ∧ w'.cell? ⟨gA, 5, none⟩ = some (.int .i64 0) ∧ w'.cell? ⟨gA, 6, none⟩ = some (.int .i64 0) ∧ w'.cell? ⟨gA, 7, none⟩ = some (.int .i64 0) ∧ w'.cell? ⟨gA, 8, none⟩ = some (.int .i64 0) ∧ w'.cell? ⟨gA, 9, none⟩ = some (.int .i64 0) ∧ w'.cell? ⟨gA, 10, none⟩ = some (.int .i64 0) ∧ w'.cell? ⟨gA, 11, none⟩ = some (.slice none 0 0) ∧ w'.cell? ⟨gA, 12, none⟩ = some (.bool false) ∧ w'.cell? ⟨gA, 13, none⟩ = some (.slice none 0 0) ∧ w'.cell? ⟨gA, 14, none⟩ = some (.slice none 0 0))
      (first | exact hS.out _ fq | exact hS.out _ ((Fr.refl noB _).drewN 1) | fail)
      (first
       | (go_at_call 17; refine (hsm.out _ _ _ ((y1.out).frN (by first | exact Fr.refl noB _ | exact fz.out)) (u12.out.frN fq)).mono ?_; rintro e w5 ⟨rfl, f5⟩; have fq := fq.seqN f5)
       | (go_at_call 16; refine (hrp.out _ _ (u12.out.frN fq) (by trivial)).mono ?_; rintro e w5 ⟨rfl, f5⟩; have fq := fq.seqN f5; have fz := Lib.hid f5)
       | (go_at_call 11; refine (hlk.out _ _ (m12.out.frN fq)).mono ?_; rintro e w5 ⟨rfl, y1, f5⟩; have y1 := Lib.hid y1; have fq := fq.seqN f5)
       | fail)
    all_goals (
      go_wp2_with fail
      go_ret
      exact ⟨rfl, fr12.seqN fq⟩)

set_option maxHeartbeats 8000000 in
theorem prints_5 (a t j c n : Int) (cr : List Int) (lo : Bool) (sp : List Sp) (ua : Option Addr) (uc : Nat) (sa : Option Addr) (sc : Nat) (w : World) (hg : Gl w) (hu : RdI w (.slice ua cr.length uc) cr) (hs : RdSp w (.slice sa sp.length sc) sp)
    (ha : -9223372036854775808 ≤ a ∧ a + 1 ≤ 9223372036854775807) (ha2 : a ≤ 1099511627776) (hcl : cr.length ≤ 20) (hfw : fewS sp = true) :
    Calls Tryz.prog 3 #[.int .i64 5, .int .i64 a, .int .i64 t, .int .i64 j, .int .i64 c, .int .i64 n, .slice ua cr.length uc, .bool lo, .slice sa sp.length sc] w fun e w' => e = .returned (.bool true) ∧ Fr noB w w' := by
  have haw := awake_any w hg
  have hfew := fun w' (f : Fr noB w w') => few_any _ sp w' (hs.frN f)
  rw [hfw] at hfew
  obtain ⟨M, hM⟩ : ∃ M : Ms, M = .collect t j := ⟨_, rfl⟩
  have hmk : ∀ w', Fr noB w w' → Calls Tryz.prog 8 #[.int .i64 5, .int .i64 a, .int .i64 t, .int .i64 j, .int .i64 c, .int .i64 n, .slice ua cr.length uc, .bool lo, .slice sa sp.length sc] w' fun e w'' => e = .returned (mCollect t j) ∧ MsW w'' (mCollect t j) M ∧ Fr noB w' w'' := fun w' f =>
    (make_5 a t j c n ua _ uc lo sa _ sc w').mono fun e w'' ⟨h, f2⟩ => ⟨h, by rw [hM]; exact rfl, f2⟩
  have hfewM : M.few := by rw [hM]; trivial
  have hlk : ∀ w' x, MsW w' x M → Calls Tryz.prog 11 #[x] w' fun e w'' => e = .returned (.agg #[.int .i64 5, .int .i64 0, .int .i64 t, .int .i64 j, .int .i64 0, .int .i64 0, .int .i64 0, .int .i64 0, .int .i64 0, .int .i64 0, .int .i64 0, .slice none 0 0, .bool false, .slice none 0 0, .slice none 0 0]) ∧ RfW w'' (.agg #[.int .i64 5, .int .i64 0, .int .i64 t, .int .i64 j, .int .i64 0, .int .i64 0, .int .i64 0, .int .i64 0, .int .i64 0, .int .i64 0, .int .i64 0, .slice none 0 0, .bool false, .slice none 0 0, .slice none 0 0]) M ∧ Fr noB w' w'' := fun w' x hx => by
    refine (like_ms x M w' hx hfewM).mono ?_
    rintro e w'' ⟨u, rfl, hu2, f2⟩
    have hu3 := hu2
    rw [hM] at hu3
    obtain rfl := hu3
    exact ⟨rfl, hu2, f2⟩
  have hrr := fun w' u (h : RfW w' u M) => rr_ms u M w' h
  have hof : ∀ w' x, MsW w' x M → Calls Tryz.prog 13 #[x] w' fun e w'' => e = .returned (.tuple #[.int .i64 t, .int .i64 j, .bool true]) ∧ Fr noB w' w'' := fun w' x hx => by
    have h := of_ms x M w' hx
    rw [hM] at h
    exact h
  have hag : ∀ w' x, MsW w' x M → Calls Tryz.prog 14 #[x] w' fun e w'' => e = .returned (.tuple #[.int .i64 0, .bool false]) ∧ Fr noB w' w'' := fun w' x hx => by
    have h := agent_ms x M w' hx
    rw [hM] at h
    exact h
  have hrt := fun w' x (h : MsW w' x M) => right_ms x M w' h
  have hpr := fun w' x (f : Fr noB w w') (h : MsW w' x M) => print_ms x M w' (hg.fr f) h
  have hrp := fun w' u (h : RfW w' u M) (hok : M.ok = true) => rprint_ms u M w' h hok
  have hrd := fun w' (f : Fr noB w w') (hok : M.ok = true) => read_own M w' (hg.fr f) hok
  have hsm := fun w' x y (h1 : RfW w' x M) (h2 : RfW w' y M) => same_ms x y M w' h1 h2
  have hno : M.ok = false → strB M.txt = ByteArray.mk #[] := fun h => txt_no h
  have hself : ((strB M.txt).toList == (strB M.txt).toList) = true := by simp
  obtain ⟨ok, hok⟩ : ∃ ok, M.ok = ok := ⟨_, rfl⟩
  rw [hok] at hrr hrt hno
  simp only [hok] at hrp hrd
  clear hfewM hu hs
  clear hM
  generalize strB M.txt = T at *
  have hc20 : ¬ ((cr.length : Int) > 20) := by omega
  have hai : ¬ (a > 1099511627776) := by omega
  generalize cr.length = cl at *
  generalize sp.length = sl at *
  unfold mCollect at hmk
  replace haw := Lib.hid haw
  replace hfew := Lib.hid hfew
  replace hmk := Lib.hid hmk
  replace hlk := Lib.hid hlk
  replace hrr := Lib.hid hrr
  replace hof := Lib.hid hof
  replace hag := Lib.hid hag
  replace hrt := Lib.hid hrt
  replace hpr := Lib.hid hpr
  replace hrp := Lib.hid hrp
  replace hrd := Lib.hid hrd
  replace hsm := Lib.hid hsm
  replace hno := Lib.hid hno
  replace hok := Lib.hid hok
  replace hself := Lib.hid hself
  clear ha hfw
  go_enter Tryz.func3, Tryz.ntmps3
  go_wp2_with fail
  go_fit haw.out
  rintro e w1 ⟨rfl, f1⟩
  go_wp2_with fail
  go_fit (hfew.out w1 f1)
  rintro e w2 ⟨rfl, f2⟩
  have fr2 := f1.seqN f2
  go_wp2_with fail
  go_fit (hmk.out w2 fr2)
  rintro e w3 ⟨rfl, m3, f3⟩
  have fr3 := fr2.seqN f3
  clear f1 f2 f3 fr2
  replace m3 := Lib.hid m3
  go_wp2_with fail
  go_fit (hlk.out w3 _ m3.out)
  rintro e w4 ⟨rfl, u4, f4⟩
  have m4 := m3.out.frN f4
  have fr4 := fr3.seqN f4
  have fA := (Fr.refl noB w4).alloc (.cells #[.int .i64 5, .int .i64 0, .int .i64 t, .int .i64 j, .int .i64 0, .int .i64 0, .int .i64 0, .int .i64 0, .int .i64 0, .int .i64 0, .int .i64 0, .slice none 0 0, .bool false, .slice none 0 0, .slice none 0 0] 35)
  have bA := Blk.new w4 35 [.int .i64 5, .int .i64 0, .int .i64 t, .int .i64 j, .int .i64 0, .int .i64 0, .int .i64 0, .int .i64 0, .int .i64 0, .int .i64 0, .int .i64 0, .slice none 0 0, .bool false, .slice none 0 0, .slice none 0 0]
  have m5 := m4.frN fA
  have u5 := u4.frN fA
  have fr5 := fr4.seqN fA
  clear fr3 fr4 f4 m3 m4 u4
  replace m5 := Lib.hid m5
  replace u5 := Lib.hid u5
  go_wp2_with fail
  generalize (w4.alloc (.cells #[.int .i64 5, .int .i64 0, .int .i64 t, .int .i64 j, .int .i64 0, .int .i64 0, .int .i64 0, .int .i64 0, .int .i64 0, .int .i64 0, .int .i64 0, .slice none 0 0, .bool false, .slice none 0 0, .slice none 0 0] 35)) = w5 at *
  obtain ⟨gA, hgA⟩ : ∃ g, w4.heap.size = g := ⟨_, rfl⟩
  rw [hgA] at bA
  first | rw [hgA] | skip
  clear fA hgA
  go_fit (hrr.out w5 _ u5.out)
  rintro e w6 ⟨rfl, f6⟩
  have m6 := m5.out.frN f6
  have u6 := u5.out.frN f6
  have bB := f6.blk bA (fun q => q)
  have fr6 := fr5.seqN f6
  clear m5 u5 bA fr5 f6
  replace m6 := Lib.hid m6
  replace u6 := Lib.hid u6
  replace bB := Lib.hid bB
  go_wp2_with fail
  go_fit (hof.out w6 _ m6.out)
  rintro e w7 ⟨rfl, f7⟩
  have m7 := m6.out.frN f7
  have fr7 := fr6.seqN f7
  replace m7 := Lib.hid m7
  go_wp2_with fail
  go_fit (hag.out w7 _ m7.out)
  rintro e w8 ⟨rfl, f8⟩
  have m8 := m7.out.frN f8
  have fr8 := fr7.seqN f8
  have f78 := f7.seqN f8
  have u8 := u6.out.frN f78
  have bC := f78.blk bB.out (fun q => q)
  clear m6 m7 u6 bB f7 f8 f78 fr6 fr7
  replace m8 := Lib.hid m8
  replace u8 := Lib.hid u8
  replace bC := Lib.hid bC
  go_wp2_with fail
  go_fit (kind_Collect t j w8)
  rintro e w9 ⟨rfl, f9⟩
  have m9 := m8.out.frN f9
  replace m9 := Lib.hid m9
  go_wp2_with fail
  go_fit (hrt.out w9 _ m9.out)
  rintro e w10 ⟨rfl, f10⟩
  have m10 := m9.out.frN f10
  have f910 := f9.seqN f10
  have fr10 := fr8.seqN f910
  have u10 := u8.out.frN f910
  have bD := f910.blk bC.out (fun q => q)
  clear m8 m9 u8 bC f9 f10 f910 fr8
  replace m10 := Lib.hid m10
  replace u10 := Lib.hid u10
  replace bD := Lib.hid bD
  cases ok with
  | false =>
    go_wp2_with fail
    go_fit (hpr.out w10 _ fr10 m10.out)
    rintro e w11 ⟨rfl, f11⟩
    rw [hno.out (by trivial)]
    go_wp2_with fail
    go_ret
    exact ⟨rfl, fr10.seqN f11⟩
  | true =>
    go_wp2_with fail
    go_fit (hpr.out w10 _ fr10 m10.out)
    rintro e w11 ⟨rfl, f11⟩
    have fr11 := fr10.seqN f11
    go_wp2_with fail
    go_fit (hrd.out w11 fr11 (by trivial))
    rintro e w12 ⟨x, rfl, m12, f12⟩
    have f1112 := f11.seqN f12
    have fr12 := fr10.seqN f1112
    have u12 := u10.out.frN f1112
    have bE := f1112.blk bD.out (fun q => q)
    clear m10 u10 bD f11 f12 f1112 fr10 fr11
    replace m12 := Lib.hid m12
    replace u12 := Lib.hid u12
    have hself := hself.out
    have hS : ∀ w', Fr noB w12 w' → w'.cell? ⟨gA, 0, none⟩ = some (.int .i64 5) ∧ w'.cell? ⟨gA, 1, none⟩ = some (.int .i64 0) ∧ w'.cell? ⟨gA, 2, none⟩ = some (.int .i64 t) ∧ w'.cell? ⟨gA, 3, none⟩ = some (.int .i64 j) ∧ w'.cell? ⟨gA, 4, none⟩ = some (.int .i64 0) ∧ w'.cell? ⟨gA, 5, none⟩ = some (.int .i64 0) ∧ w'.cell? ⟨gA, 6, none⟩ = some (.int .i64 0) ∧ w'.cell? ⟨gA, 7, none⟩ = some (.int .i64 0) ∧ w'.cell? ⟨gA, 8, none⟩ = some (.int .i64 0) ∧ w'.cell? ⟨gA, 9, none⟩ = some (.int .i64 0) ∧ w'.cell? ⟨gA, 10, none⟩ = some (.int .i64 0) ∧ w'.cell? ⟨gA, 11, none⟩ = some (.slice none 0 0) ∧ w'.cell? ⟨gA, 12, none⟩ = some (.bool false) ∧ w'.cell? ⟨gA, 13, none⟩ = some (.slice none 0 0) ∧ w'.cell? ⟨gA, 14, none⟩ = some (.slice none 0 0) := fun w' f => by
      have b := f.blk bE (fun q => q)
      exact ⟨b.cell 0, b.cell 1, b.cell 2, b.cell 3, b.cell 4, b.cell 5, b.cell 6, b.cell 7, b.cell 8, b.cell 9, b.cell 10, b.cell 11, b.cell 12, b.cell 13, b.cell 14⟩
    replace hS := Lib.hid hS
    have fq := (Fr.refl noB w12).drewN 1
    go_wp2_with fail
    go_region_held3 (fun w' => w'.cell? ⟨gA, 0, none⟩ = some (.int .i64 5) ∧ w'.cell? ⟨gA, 1, none⟩ = some (.int .i64 0) ∧ w'.cell? ⟨gA, 2, none⟩ = some (.int .i64 t) ∧ w'.cell? ⟨gA, 3, none⟩ = some (.int .i64 j) ∧ w'.cell? ⟨gA, 4, none⟩ = some (.int .i64 0) ∧ w'.cell? ⟨gA, 5, none⟩ = some (.int .i64 0) ∧ w'.cell? ⟨gA, 6, none⟩ = some (.int .i64 0) ∧ w'.cell? ⟨gA, 7, none⟩ = some (.int .i64 0) ∧ w'.cell? ⟨gA, 8, none⟩ = some (.int .i64 0) ∧ w'.cell? ⟨gA, 9, none⟩ = some (.int .i64 0) ∧ w'.cell? ⟨gA, 10, none⟩ = some (.int .i64 0) ∧ w'.cell? ⟨gA, 11, none⟩ = some (.slice none 0 0) ∧ w'.cell? ⟨gA, 12, none⟩ = some (.bool false) ∧ w'.cell? ⟨gA, 13, none⟩ = some (.slice none 0 0) ∧ w'.cell? ⟨gA, 14, none⟩ = some (.slice none 0 0))
      (first | exact hS.out _ fq | exact hS.out _ ((Fr.refl noB _).drewN 1) | fail)
      (first
       | (go_at_call 17; refine (hsm.out _ _ _ ((y1.out).frN (by first | exact Fr.refl noB _ | exact fz.out)) (u12.out.frN fq)).mono ?_; rintro e w5 ⟨rfl, f5⟩; have fq := fq.seqN f5)
       | (go_at_call 16; refine (hrp.out _ _ (u12.out.frN fq) (by trivial)).mono ?_; rintro e w5 ⟨rfl, f5⟩; have fq := fq.seqN f5; have fz := Lib.hid f5)
       | (go_at_call 11; refine (hlk.out _ _ (m12.out.frN fq)).mono ?_; rintro e w5 ⟨rfl, y1, f5⟩; have y1 := Lib.hid y1; have fq := fq.seqN f5)
       | fail)
    all_goals (
      go_wp2_with fail
      go_ret
      exact ⟨rfl, fr12.seqN fq⟩)

set_option maxHeartbeats 8000000 in
theorem prints_8 (a t j c n : Int) (cr : List Int) (lo : Bool) (sp : List Sp) (ua : Option Addr) (uc : Nat) (sa : Option Addr) (sc : Nat) (w : World) (hg : Gl w) (hu : RdI w (.slice ua cr.length uc) cr) (hs : RdSp w (.slice sa sp.length sc) sp)
    (ha : -9223372036854775808 ≤ a ∧ a + 1 ≤ 9223372036854775807) (ha2 : a ≤ 1099511627776) (hcl : cr.length ≤ 20) (hfw : fewS sp = true) :
    Calls Tryz.prog 3 #[.int .i64 8, .int .i64 a, .int .i64 t, .int .i64 j, .int .i64 c, .int .i64 n, .slice ua cr.length uc, .bool lo, .slice sa sp.length sc] w fun e w' => e = .returned (.bool true) ∧ Fr noB w w' := by
  have haw := awake_any w hg
  have hfew := fun w' (f : Fr noB w w') => few_any _ sp w' (hs.frN f)
  rw [hfw] at hfew
  obtain ⟨M, hM⟩ : ∃ M : Ms, M = .stored t j := ⟨_, rfl⟩
  have hmk : ∀ w', Fr noB w w' → Calls Tryz.prog 8 #[.int .i64 8, .int .i64 a, .int .i64 t, .int .i64 j, .int .i64 c, .int .i64 n, .slice ua cr.length uc, .bool lo, .slice sa sp.length sc] w' fun e w'' => e = .returned (mStored t j) ∧ MsW w'' (mStored t j) M ∧ Fr noB w' w'' := fun w' f =>
    (make_8 a t j c n ua _ uc lo sa _ sc w').mono fun e w'' ⟨h, f2⟩ => ⟨h, by rw [hM]; exact rfl, f2⟩
  have hfewM : M.few := by rw [hM]; trivial
  have hlk : ∀ w' x, MsW w' x M → Calls Tryz.prog 11 #[x] w' fun e w'' => e = .returned (.agg #[.int .i64 8, .int .i64 0, .int .i64 t, .int .i64 j, .int .i64 0, .int .i64 0, .int .i64 0, .int .i64 0, .int .i64 0, .int .i64 0, .int .i64 0, .slice none 0 0, .bool false, .slice none 0 0, .slice none 0 0]) ∧ RfW w'' (.agg #[.int .i64 8, .int .i64 0, .int .i64 t, .int .i64 j, .int .i64 0, .int .i64 0, .int .i64 0, .int .i64 0, .int .i64 0, .int .i64 0, .int .i64 0, .slice none 0 0, .bool false, .slice none 0 0, .slice none 0 0]) M ∧ Fr noB w' w'' := fun w' x hx => by
    refine (like_ms x M w' hx hfewM).mono ?_
    rintro e w'' ⟨u, rfl, hu2, f2⟩
    have hu3 := hu2
    rw [hM] at hu3
    obtain rfl := hu3
    exact ⟨rfl, hu2, f2⟩
  have hrr := fun w' u (h : RfW w' u M) => rr_ms u M w' h
  have hof : ∀ w' x, MsW w' x M → Calls Tryz.prog 13 #[x] w' fun e w'' => e = .returned (.tuple #[.int .i64 t, .int .i64 j, .bool true]) ∧ Fr noB w' w'' := fun w' x hx => by
    have h := of_ms x M w' hx
    rw [hM] at h
    exact h
  have hag : ∀ w' x, MsW w' x M → Calls Tryz.prog 14 #[x] w' fun e w'' => e = .returned (.tuple #[.int .i64 0, .bool false]) ∧ Fr noB w' w'' := fun w' x hx => by
    have h := agent_ms x M w' hx
    rw [hM] at h
    exact h
  have hrt := fun w' x (h : MsW w' x M) => right_ms x M w' h
  have hpr := fun w' x (f : Fr noB w w') (h : MsW w' x M) => print_ms x M w' (hg.fr f) h
  have hrp := fun w' u (h : RfW w' u M) (hok : M.ok = true) => rprint_ms u M w' h hok
  have hrd := fun w' (f : Fr noB w w') (hok : M.ok = true) => read_own M w' (hg.fr f) hok
  have hsm := fun w' x y (h1 : RfW w' x M) (h2 : RfW w' y M) => same_ms x y M w' h1 h2
  have hno : M.ok = false → strB M.txt = ByteArray.mk #[] := fun h => txt_no h
  have hself : ((strB M.txt).toList == (strB M.txt).toList) = true := by simp
  obtain ⟨ok, hok⟩ : ∃ ok, M.ok = ok := ⟨_, rfl⟩
  rw [hok] at hrr hrt hno
  simp only [hok] at hrp hrd
  clear hfewM hu hs
  clear hM
  generalize strB M.txt = T at *
  have hc20 : ¬ ((cr.length : Int) > 20) := by omega
  have hai : ¬ (a > 1099511627776) := by omega
  generalize cr.length = cl at *
  generalize sp.length = sl at *
  unfold mStored at hmk
  replace haw := Lib.hid haw
  replace hfew := Lib.hid hfew
  replace hmk := Lib.hid hmk
  replace hlk := Lib.hid hlk
  replace hrr := Lib.hid hrr
  replace hof := Lib.hid hof
  replace hag := Lib.hid hag
  replace hrt := Lib.hid hrt
  replace hpr := Lib.hid hpr
  replace hrp := Lib.hid hrp
  replace hrd := Lib.hid hrd
  replace hsm := Lib.hid hsm
  replace hno := Lib.hid hno
  replace hok := Lib.hid hok
  replace hself := Lib.hid hself
  clear ha hfw
  go_enter Tryz.func3, Tryz.ntmps3
  go_wp2_with fail
  go_fit haw.out
  rintro e w1 ⟨rfl, f1⟩
  go_wp2_with fail
  go_fit (hfew.out w1 f1)
  rintro e w2 ⟨rfl, f2⟩
  have fr2 := f1.seqN f2
  go_wp2_with fail
  go_fit (hmk.out w2 fr2)
  rintro e w3 ⟨rfl, m3, f3⟩
  have fr3 := fr2.seqN f3
  clear f1 f2 f3 fr2
  replace m3 := Lib.hid m3
  go_wp2_with fail
  go_fit (hlk.out w3 _ m3.out)
  rintro e w4 ⟨rfl, u4, f4⟩
  have m4 := m3.out.frN f4
  have fr4 := fr3.seqN f4
  have fA := (Fr.refl noB w4).alloc (.cells #[.int .i64 8, .int .i64 0, .int .i64 t, .int .i64 j, .int .i64 0, .int .i64 0, .int .i64 0, .int .i64 0, .int .i64 0, .int .i64 0, .int .i64 0, .slice none 0 0, .bool false, .slice none 0 0, .slice none 0 0] 35)
  have bA := Blk.new w4 35 [.int .i64 8, .int .i64 0, .int .i64 t, .int .i64 j, .int .i64 0, .int .i64 0, .int .i64 0, .int .i64 0, .int .i64 0, .int .i64 0, .int .i64 0, .slice none 0 0, .bool false, .slice none 0 0, .slice none 0 0]
  have m5 := m4.frN fA
  have u5 := u4.frN fA
  have fr5 := fr4.seqN fA
  clear fr3 fr4 f4 m3 m4 u4
  replace m5 := Lib.hid m5
  replace u5 := Lib.hid u5
  go_wp2_with fail
  generalize (w4.alloc (.cells #[.int .i64 8, .int .i64 0, .int .i64 t, .int .i64 j, .int .i64 0, .int .i64 0, .int .i64 0, .int .i64 0, .int .i64 0, .int .i64 0, .int .i64 0, .slice none 0 0, .bool false, .slice none 0 0, .slice none 0 0] 35)) = w5 at *
  obtain ⟨gA, hgA⟩ : ∃ g, w4.heap.size = g := ⟨_, rfl⟩
  rw [hgA] at bA
  first | rw [hgA] | skip
  clear fA hgA
  go_fit (hrr.out w5 _ u5.out)
  rintro e w6 ⟨rfl, f6⟩
  have m6 := m5.out.frN f6
  have u6 := u5.out.frN f6
  have bB := f6.blk bA (fun q => q)
  have fr6 := fr5.seqN f6
  clear m5 u5 bA fr5 f6
  replace m6 := Lib.hid m6
  replace u6 := Lib.hid u6
  replace bB := Lib.hid bB
  go_wp2_with fail
  go_fit (hof.out w6 _ m6.out)
  rintro e w7 ⟨rfl, f7⟩
  have m7 := m6.out.frN f7
  have fr7 := fr6.seqN f7
  replace m7 := Lib.hid m7
  go_wp2_with fail
  go_fit (hag.out w7 _ m7.out)
  rintro e w8 ⟨rfl, f8⟩
  have m8 := m7.out.frN f8
  have fr8 := fr7.seqN f8
  have f78 := f7.seqN f8
  have u8 := u6.out.frN f78
  have bC := f78.blk bB.out (fun q => q)
  clear m6 m7 u6 bB f7 f8 f78 fr6 fr7
  replace m8 := Lib.hid m8
  replace u8 := Lib.hid u8
  replace bC := Lib.hid bC
  go_wp2_with fail
  go_fit (kind_Stored t j w8)
  rintro e w9 ⟨rfl, f9⟩
  have m9 := m8.out.frN f9
  replace m9 := Lib.hid m9
  go_wp2_with fail
  go_fit (hrt.out w9 _ m9.out)
  rintro e w10 ⟨rfl, f10⟩
  have m10 := m9.out.frN f10
  have f910 := f9.seqN f10
  have fr10 := fr8.seqN f910
  have u10 := u8.out.frN f910
  have bD := f910.blk bC.out (fun q => q)
  clear m8 m9 u8 bC f9 f10 f910 fr8
  replace m10 := Lib.hid m10
  replace u10 := Lib.hid u10
  replace bD := Lib.hid bD
  cases ok with
  | false =>
    go_wp2_with fail
    go_fit (hpr.out w10 _ fr10 m10.out)
    rintro e w11 ⟨rfl, f11⟩
    rw [hno.out (by trivial)]
    go_wp2_with fail
    go_ret
    exact ⟨rfl, fr10.seqN f11⟩
  | true =>
    go_wp2_with fail
    go_fit (hpr.out w10 _ fr10 m10.out)
    rintro e w11 ⟨rfl, f11⟩
    have fr11 := fr10.seqN f11
    go_wp2_with fail
    go_fit (hrd.out w11 fr11 (by trivial))
    rintro e w12 ⟨x, rfl, m12, f12⟩
    have f1112 := f11.seqN f12
    have fr12 := fr10.seqN f1112
    have u12 := u10.out.frN f1112
    have bE := f1112.blk bD.out (fun q => q)
    clear m10 u10 bD f11 f12 f1112 fr10 fr11
    replace m12 := Lib.hid m12
    replace u12 := Lib.hid u12
    have hself := hself.out
    have hS : ∀ w', Fr noB w12 w' → w'.cell? ⟨gA, 0, none⟩ = some (.int .i64 8) ∧ w'.cell? ⟨gA, 1, none⟩ = some (.int .i64 0) ∧ w'.cell? ⟨gA, 2, none⟩ = some (.int .i64 t) ∧ w'.cell? ⟨gA, 3, none⟩ = some (.int .i64 j) ∧ w'.cell? ⟨gA, 4, none⟩ = some (.int .i64 0) ∧ w'.cell? ⟨gA, 5, none⟩ = some (.int .i64 0) ∧ w'.cell? ⟨gA, 6, none⟩ = some (.int .i64 0) ∧ w'.cell? ⟨gA, 7, none⟩ = some (.int .i64 0) ∧ w'.cell? ⟨gA, 8, none⟩ = some (.int .i64 0) ∧ w'.cell? ⟨gA, 9, none⟩ = some (.int .i64 0) ∧ w'.cell? ⟨gA, 10, none⟩ = some (.int .i64 0) ∧ w'.cell? ⟨gA, 11, none⟩ = some (.slice none 0 0) ∧ w'.cell? ⟨gA, 12, none⟩ = some (.bool false) ∧ w'.cell? ⟨gA, 13, none⟩ = some (.slice none 0 0) ∧ w'.cell? ⟨gA, 14, none⟩ = some (.slice none 0 0) := fun w' f => by
      have b := f.blk bE (fun q => q)
      exact ⟨b.cell 0, b.cell 1, b.cell 2, b.cell 3, b.cell 4, b.cell 5, b.cell 6, b.cell 7, b.cell 8, b.cell 9, b.cell 10, b.cell 11, b.cell 12, b.cell 13, b.cell 14⟩
    replace hS := Lib.hid hS
    have fq := (Fr.refl noB w12).drewN 1
    go_wp2_with fail
    go_region_held3 (fun w' => w'.cell? ⟨gA, 0, none⟩ = some (.int .i64 8) ∧ w'.cell? ⟨gA, 1, none⟩ = some (.int .i64 0) ∧ w'.cell? ⟨gA, 2, none⟩ = some (.int .i64 t) ∧ w'.cell? ⟨gA, 3, none⟩ = some (.int .i64 j) ∧ w'.cell? ⟨gA, 4, none⟩ = some (.int .i64 0) ∧ w'.cell? ⟨gA, 5, none⟩ = some (.int .i64 0) ∧ w'.cell? ⟨gA, 6, none⟩ = some (.int .i64 0) ∧ w'.cell? ⟨gA, 7, none⟩ = some (.int .i64 0) ∧ w'.cell? ⟨gA, 8, none⟩ = some (.int .i64 0) ∧ w'.cell? ⟨gA, 9, none⟩ = some (.int .i64 0) ∧ w'.cell? ⟨gA, 10, none⟩ = some (.int .i64 0) ∧ w'.cell? ⟨gA, 11, none⟩ = some (.slice none 0 0) ∧ w'.cell? ⟨gA, 12, none⟩ = some (.bool false) ∧ w'.cell? ⟨gA, 13, none⟩ = some (.slice none 0 0) ∧ w'.cell? ⟨gA, 14, none⟩ = some (.slice none 0 0))
      (first | exact hS.out _ fq | exact hS.out _ ((Fr.refl noB _).drewN 1) | fail)
      (first
       | (go_at_call 17; refine (hsm.out _ _ _ ((y1.out).frN (by first | exact Fr.refl noB _ | exact fz.out)) (u12.out.frN fq)).mono ?_; rintro e w5 ⟨rfl, f5⟩; have fq := fq.seqN f5)
       | (go_at_call 16; refine (hrp.out _ _ (u12.out.frN fq) (by trivial)).mono ?_; rintro e w5 ⟨rfl, f5⟩; have fq := fq.seqN f5; have fz := Lib.hid f5)
       | (go_at_call 11; refine (hlk.out _ _ (m12.out.frN fq)).mono ?_; rintro e w5 ⟨rfl, y1, f5⟩; have y1 := Lib.hid y1; have fq := fq.seqN f5)
       | fail)
    all_goals (
      go_wp2_with fail
      go_ret
      exact ⟨rfl, fr12.seqN fq⟩)
end Go.Proofs.YtbmafogjmdilkaaGreatDoor
end
