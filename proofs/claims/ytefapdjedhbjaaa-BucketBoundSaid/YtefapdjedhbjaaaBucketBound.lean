import Derived.Test.YtefapdjedhbjaaaBucketLaws
import Derived.Test.YtefapdjedhbjaaaAppend
set_option linter.unusedVariables false
set_option linter.unusedSimpArgs false
namespace Go.Proofs.Ytefapdjedhbjaaa
open Go.RowKit

/-- What was taken, and how many ticks there were, step by step; c: what is left. -/
structure Good (b r : Int) (T U : List Int) (c : Int) : Prop where
  len : T.length = U.length
  pos : 0 < T.length
  bT : ∀ i, i < T.length → 0 ≤ T.getD i 0 ∧ T.getD i 0 ≤ i
  bU : ∀ i, i < T.length → 0 ≤ U.getD i 0 ∧ U.getD i 0 ≤ i
  cb : 0 ≤ c ∧ c ≤ b
  last : ∀ i, i < T.length → c + T.getD (T.length - 1) 0 - T.getD i 0 ≤ b + r * (U.getD (T.length - 1) 0 - U.getD i 0)
  pair : ∀ i j, i ≤ j → j < T.length → T.getD j 0 - T.getD i 0 ≤ b + r * (U.getD j 0 - U.getD i 0)

theorem getD_left {l : List Int} {x : Int} {i : Nat} (h : i < l.length) : (l ++ [x]).getD i 0 = l.getD i 0 := by
  simp [List.getD, List.getElem?_append_left h]
theorem getD_right {l : List Int} {x : Int} : (l ++ [x]).getD l.length 0 = x := by
  simp [List.getD]

theorem Good.start (b r : Int) (hb : 0 ≤ b) : Good b r [0] [0] b :=
  ⟨rfl, by simp, fun i hi => by have : i = 0 := by simpa using hi
                                subst this; simp, fun i hi => by have : i = 0 := by simpa using hi
                                                                 subst this; simp, ⟨hb, Int.le_refl _⟩, fun i hi => by have : i = 0 := by simpa using hi
                                                                                                                       subst this; simp, fun i j hij hj => by have : j = 0 := by simpa using hj
                                                                                                                                                              subst this; have : i = 0 := by omega
                                                                                                                                                              subst this; simp; exact hb⟩

theorem Good.step {b r : Int} {T U : List Int} {c : Int} (h : Good b r T U c) (t u c' : Int) (ht : 0 ≤ t - T.getD (T.length - 1) 0 ∧ t - T.getD (T.length - 1) 0 ≤ 1) (hu : 0 ≤ u - U.getD (T.length - 1) 0 ∧ u - U.getD (T.length - 1) 0 ≤ 1)
    (hc : 0 ≤ c' ∧ c' ≤ b) (hs : c' + t ≤ c + T.getD (T.length - 1) 0 + r * (u - U.getD (T.length - 1) 0)) : Good b r (T ++ [t]) (U ++ [u]) c' := by
  have hp := h.pos
  have hlast : ∀ i, i < T.length → c' + t - T.getD i 0 ≤ b + r * (u - U.getD i 0) := fun i hi => by
    have h1 := h.last i hi
    have h2 : r * (u - U.getD i 0) = r * (U.getD (T.length - 1) 0 - U.getD i 0) + r * (u - U.getD (T.length - 1) 0) := by rw [← Int.mul_add]; congr 1; omega
    omega
  have eT : (T ++ [t]).length - 1 = T.length := by simp
  have eU : (U ++ [u]).getD T.length 0 = u := by rw [h.len]; exact getD_right
  have one : ∀ i, i < T.length → (U ++ [u]).getD i 0 = U.getD i 0 := fun i hi => getD_left (h.len ▸ hi)
  have hb1 := h.bT (T.length - 1) (by omega)
  have hb2 := h.bU (T.length - 1) (by omega)
  refine ⟨by simp [h.len], by simp, fun i hi => ?_, fun i hi => ?_, hc, fun i hi => ?_, fun i j hij hj => ?_⟩
  · rcases Nat.lt_or_ge i T.length with hlt | hge
    · rw [getD_left hlt]; exact h.bT i hlt
    · obtain rfl : i = T.length := by simp at hi; omega
      rw [getD_right]; omega
  · rcases Nat.lt_or_ge i T.length with hlt | hge
    · rw [one i hlt]; exact h.bU i hlt
    · obtain rfl : i = T.length := by simp at hi; omega
      rw [eU]; omega
  · rw [eT, getD_right, eU]
    rcases Nat.lt_or_ge i T.length with hlt | hge
    · rw [getD_left hlt, one i hlt]; exact hlast i hlt
    · obtain rfl : i = T.length := by simp at hi; omega
      rw [getD_right, eU]; simp; omega
  · rcases Nat.lt_or_ge j T.length with hlt | hge
    · rw [getD_left hlt, one j hlt, getD_left (by omega), one i (by omega)]; exact h.pair i j hij hlt
    · obtain rfl : j = T.length := by simp at hj; omega
      rw [getD_right, eU]
      rcases Nat.lt_or_ge i T.length with hlt | hge
      · rw [getD_left hlt, one i hlt]; have := hlast i hlt; omega
      · obtain rfl : i = T.length := by omega
        rw [getD_right, eU]; simp; omega

/-- A row that is not empty is a slice of a block. -/
theorem ownsRow_some {w : World} {base e size n : Nat} {v : Value} {xs : List Value} (h : w.ownsRow base e size v n xs) (hn : 0 < n) : ∃ g cap, v = .slice (some ⟨g, 0, none⟩) n cap ∧ base ≤ g := by
  rcases h.2 with ⟨_, rfl⟩ | ⟨g, cap, cur, rfl, hb, _⟩
  · omega
  · exact ⟨g, cap, rfl, hb⟩

theorem ownsRow_int {w : World} {base e n g cap : Nat} {T : List Int} (h : w.ownsRow base e 1 (.slice (some ⟨g, 0, none⟩) n cap) n (T.map (Value.int .i64))) {i : Nat} (hi : i < T.length) : w.cell? ⟨g, i, none⟩ = some (.int .i64 (T.getD i 0)) := by
  have := h.cells (g := g) rfl i (.int .i64 (T.getD i 0)) (by simp [List.getD, hi])
  rwa [show (⟨g, 0, none⟩ : Addr).add i = ⟨g, i, none⟩ by unfold Addr.add; split <;> simp_all] at this

theorem Try.infoInt : (Try.prog.info? 3).map (fun i => (i.zero, i.size, i.bytes)) = some (some (.int .i64 0), 1, 8) := by kernel_rfl

set_option maxHeartbeats 1000000 in
theorem bound_any (b r : Int) (v : Value) (xs : List Bool) (w : World) (hb : (Lit.int .i64 b).wf = true) (hr : (Lit.int .i64 r).wf = true) (hxs : SlR w v 1 IsB xs) :
    Calls Try.prog 4 #[.int .i64 b, .int .i64 r, v] w fun e w' => e = .returned (.bool true) ∧ Fr noB w w' := by
  obtain ⟨n, ts, hv⟩ := slr_bools hxs
  clear hxs
  obtain ⟨a, cp, rfl, hm, hcell⟩ := hv
  unfold maxLen at hm
  obtain ⟨i0, hi, hz0, hz1, hz2⟩ := info_parts Try.infoInt
  obtain ⟨x, hx, x0, x1⟩ := umod b 20 (by omega) (by omega)
  obtain ⟨y, hy, y0, y1⟩ := umod r 10 (by omega) (by omega)
  replace hx := Lib.hid hx
  replace hy := Lib.hid hy
  go_enter Try.func4, Try.ntmps4
  go_wp2_with fail
  refine (awake_any w).mono ?_
  rintro e w1 ⟨rfl, f1⟩
  by_cases hlen : 120 < n
  · go_wp2_with fail
    refine (awake_any w1).mono ?_
    rintro e w2 ⟨rfl, f2⟩
    go_wp2
    go_ret
    exact ⟨rfl, f1.seqN f2⟩
  go_wp2_with fail
  rw [hx.out, hy.out]
  clear hx hy
  refine (new_any x y w1 (by omega)).mono ?_
  rintro e w3 ⟨rfl, hw3⟩
  have b3 : Blk w3 w1.heap.size 39 (bk x y x 0) := by rw [hw3]; exact Blk.new _ _ _
  have f3 : Fr noB w1 w3 := by rw [hw3]; exact (Fr.refl _ _).alloc _
  have f03 := f1.seqN f3
  obtain ⟨G, hG, hGe⟩ : ∃ G, w.heap.size ≤ G ∧ G = w1.heap.size := ⟨_, f1.size, rfl⟩
  have s3 : w3.heap.size = G + 1 := by rw [hw3, hGe]; simp
  rw [← hGe] at b3
  rw [← hGe]
  clear hGe hw3 f1 f3
  replace s3 := Lib.hid s3
  go_wp2_with fail
  have own0 : ∀ (wx : World) (q : Nat), wx.heap.size = q → (wx.alloc (.cells #[.int .i64 0] 3)).ownsRow q 3 1 (.slice (some ⟨q, 0, none⟩) 1 1) 1 [.int .i64 0] := fun wx q hq => by
    subst hq
    exact ⟨rfl, Or.inr ⟨_, 1, _, rfl, Nat.le_refl _, (Blk.new wx _ [.int .i64 0]), by omega, by unfold maxLen; omega, rfl, rfl⟩⟩
  have o1 := (own0 w3 _ rfl).alloc (.cells #[.int .i64 0] 3)
  have o2 := own0 (w3.alloc (.cells #[.int .i64 0] 3)) (w3.heap.size + 1) (by simp)
  have f5 : Fr noB w ((w3.alloc (.cells #[.int .i64 0] 3)).alloc (.cells #[.int .i64 0] 3)) := (f03.alloc _).alloc _
  have b5 : Blk ((w3.alloc (.cells #[.int .i64 0] 3)).alloc (.cells #[.int .i64 0] 3)) G 39 (bk x y x 0) := (((Fr.refl noB _).alloc _).alloc _).keepN b3
  have o1 := ownsRow_mono o1 (base' := G + 1) (by rw [s3.out]; omega)
  have o2 := ownsRow_mono o2 (base' := G + 1) (by rw [s3.out]; omega)
  go_loopw [9, 10, 46] (fun s1 s2 i wr => ∃ (k g1 c1 g2 c2 : Nat) (T U : List Int) (c d : Int), k ≤ n ∧ i = .int .i64 k ∧ s1 = .slice (some ⟨g1, 0, none⟩) (k + 1) c1 ∧ s2 = .slice (some ⟨g2, 0, none⟩) (k + 1) c2 ∧
      wr.ownsRow (G + 1) 3 1 (.slice (some ⟨g1, 0, none⟩) (k + 1) c1) (k + 1) (T.map (Value.int .i64)) ∧ wr.ownsRow (G + 1) 3 1 (.slice (some ⟨g2, 0, none⟩) (k + 1) c2) (k + 1) (U.map (Value.int .i64)) ∧ g1 ≠ g2 ∧
      Good x y T U c ∧ 0 ≤ d ∧ d ≤ k ∧ Blk wr G 39 (bk x y c d) ∧ Fr noB w wr) (fun _ _ i _ => n - (intOf i).toNat)
  case atStart => exact ⟨0, _, _, _, _, [0], [0], x, 0, by omega, rfl, rfl, rfl, o1, o2, by omega, Good.start x y (by omega), by omega, by omega, b5, f5⟩
  case round =>
    obtain ⟨k, g1, c1, g2, c2, T, U, c, d, hk, rfl, rfl, rfl, ow1, ow2, hne, gd, hd0, hd1, hb1, hf⟩ := hrel
    clear o1 o2 f5 b5 own0 b3 f03
    have lT : T.length = k + 1 := by have := ow1.1; simpa using this
    have lU : U.length = k + 1 := by have := ow2.1; simpa using this
    by_cases hlt : k < n
    · obtain ⟨g, o, ha, hc⟩ := hcell k hlt
      subst ha
      have hc' := hf.cell hc (fun q => q)
      clear hc hcell
      have e1 : wr.cell? ⟨g1, k, none⟩ = some (.int .i64 (T.getD k 0)) := ownsRow_int ow1 (by omega)
      have e2 : wr.cell? ⟨g2, k, none⟩ = some (.int .i64 (U.getD k 0)) := ownsRow_int ow2 (by omega)
      have q1 := gd.bT k (by omega)
      have q2 := gd.bU k (by omega)
      have q3 := gd.cb
      have gs := gd.step
      rw [lT, Nat.add_sub_cancel] at gs
      generalize hT : T.getD k 0 = t at *
      generalize hU : U.getD k 0 = u at *
      clear hT hU
      replace lT := Lib.hid lT
      replace lU := Lib.hid lU
      replace gs := Lib.hid gs
      replace hne := Lib.hid hne
      obtain ⟨q1, q4⟩ := q1
      obtain ⟨q2, q5⟩ := q2
      obtain ⟨q3, q6⟩ := q3
      have hn2 : n ≤ 120 := by omega
      clear gd
      have hcase : (ts k = true ∧ c = 0) ∨ (ts k = true ∧ 1 ≤ c) ∨ ts k = false := by
        cases ts k with
        | true => by_cases h0 : c = 0
                  · exact Or.inl ⟨rfl, h0⟩
                  · exact Or.inr (Or.inl ⟨rfl, by omega⟩)
        | false => exact Or.inr (Or.inr rfl)
      rcases hcase with ⟨ht, rfl⟩ | ⟨ht, hc1⟩ | ht
      all_goals
        rw [ht] at hc'
        clear ht
        go_wp2_with fail
        go_region
        go_wp2_with fail
      focus (
        refine (take_no _ _ _ _ _ hb1.drew).mono ?_
        rintro e w4 ⟨rfl, hw4⟩
        have hb4 : Blk w4 G 39 (bk x y 0 d) := by rw [hw4]; exact hb1.drew
        have ow4 : w4.ownsRow (G + 1) 3 1 (.slice (some ⟨g1, 0, none⟩) (k + 1) c1) (k + 1) (T.map (Value.int .i64)) := by rw [hw4]; exact ow1
        have ow5 : w4.ownsRow (G + 1) 3 1 (.slice (some ⟨g2, 0, none⟩) (k + 1) c2) (k + 1) (U.map (Value.int .i64)) := by rw [hw4]; exact ow2
        have hf4 : Fr noB w w4 := by rw [hw4]; exact hf.drew
        have G4 : Good x y (T ++ [t]) (U ++ [u]) 0 := gs.out _ _ _ (by omega) (by omega) (by omega) (by simp)
        have d4 : 0 ≤ d ∧ d ≤ k + 1 := by omega
        clear hw4)
      rotate_left
      focus (
        refine (take_yes _ _ _ _ _ _ hb1.drew (by omega) (by omega)).mono ?_
        rintro e w4 ⟨rfl, hb4, f4⟩
        have ow4 := ownsRow_fr (ownsRow_drewN ow1 1) f4 (fun g h => by have := ow1.lt g h; unfold onlyB; omega)
        have ow5 := ownsRow_fr (ownsRow_drewN ow2 1) f4 (fun g h => by have := ow2.lt g h; unfold onlyB; omega)
        have hf4 : Fr noB w w4 := hf.drew.seqB f4 (fun q => by omega)
        have G4 : Good x y (T ++ [t + 1]) (U ++ [u]) (c - 1) := gs.out _ _ _ (by omega) (by omega) (by omega) (by simp; omega)
        have d4 : 0 ≤ d + 1 ∧ d + 1 ≤ k + 1 := by omega)
      rotate_left
      focus (
        refine (tick_any _ _ _ _ _ _ hb1.drew (by omega) (by omega) (by omega)).mono ?_
        rintro e w4 ⟨rfl, hb4, f4⟩
        have ow4 := ownsRow_fr (ownsRow_drewN ow1 1) f4 (fun g h => by have := ow1.lt g h; unfold onlyB; omega)
        have ow5 := ownsRow_fr (ownsRow_drewN ow2 1) f4 (fun g h => by have := ow2.lt g h; unfold onlyB; omega)
        have hf4 : Fr noB w w4 := hf.drew.seqB f4 (fun q => by omega)
        have G4 : Good x y (T ++ [t]) (U ++ [u + 1]) (min (c + y) x) := gs.out _ _ _ (by omega) (by omega) (by omega) (by rw [show u + 1 - u = 1 by omega]; simp; omega)
        have d4 : 0 ≤ d ∧ d ≤ k + 1 := by omega
        clear f4)
      rotate_left
      all_goals
        clear ow1 ow2 hf e1 e2 gs hc' hb1
        go_wp2_with (first
          | (at_builtin; refine wpList_append_at _ rfl (.tmp 70) (.tmp 72) 36 rfl (G + 1) 3 i0 (.int .i64 0) 1 8 Try.underlying36 hi hz0 hz1 hz2 rfl (by decide) _ _ _ rfl (ow4.alloc _) ⟨_, 0, none⟩ 1 1 [_] rfl rfl (cell_new _ _ _) (one_int _ _) ?_ ?_ ?_ ?_)
          | fail)
        · unfold maxLen; omega
        · omega
        · have := hb4.lt; simp; omega
        intro v1 w5 o5 gr5 mv5
        have o6 := ownsRow_other (ow5.alloc _) gr5 (fun g h q => hne.out (by simp [Value.ownBlock] at h q; omega))
        have ap := moved_apart mv5 (ow5.alloc _) (fun g h q => hne.out (by simp [Value.ownBlock] at h q; omega))
        have hf5 := (hf4.alloc (Obj.cells #[_] 3)).grown gr5 (fun g h q => by simp [Value.ownBlock] at h; have := (ow4.lt g (by simp [Value.ownBlock, h])).1; omega)
        have hb5 : Blk w5 G 39 _ := ((Fr.refl (fun k => k = g1) _).grown gr5 (fun g h _ => by simp [Value.ownBlock] at h; exact h.symm)).blk (((Fr.refl noB _).alloc _).keepN hb4) (fun q => by have := (ow4.lt g1 (by simp [Value.ownBlock])).1; omega)
        obtain ⟨g3, c3, hv1, hg3⟩ := ownsRow_some o5 (by omega)
        rw [hv1] at o5 ap ⊢
        clear ow4 ow5 gr5 mv5 hv1 hf4 hb4
        replace ap := Lib.hid ap
        go_wp2_with (first
          | (at_builtin; refine wpList_append_at _ rfl (.tmp 74) (.tmp 76) 36 rfl (G + 1) 3 i0 (.int .i64 0) 1 8 Try.underlying36 hi hz0 hz1 hz2 rfl (by decide) _ _ _ rfl (o6.alloc _) ⟨_, 0, none⟩ 1 1 [_] rfl rfl (cell_new _ _ _) (one_int _ _) ?_ ?_ ?_ ?_)
          | fail)
        · unfold maxLen; omega
        · omega
        · have := hb5.lt; simp; omega
        intro v2 w6 o7 gr6 mv6
        have o8 := ownsRow_other (o5.alloc _) gr6 (fun g h q => ap.out g h q)
        have ap2 := moved_apart mv6 (o5.alloc _) (fun g h q => ap.out g q h)
        have hf6 := (hf5.alloc (Obj.cells #[_] 3)).grown gr6 (fun g h q => by simp [Value.ownBlock] at h; have := (o6.lt g (by simp [Value.ownBlock, h])).1; omega)
        have hb6 : Blk w6 G 39 _ := ((Fr.refl (fun k => k = g2) _).grown gr6 (fun g h _ => by simp [Value.ownBlock] at h; exact h.symm)).blk (((Fr.refl noB _).alloc _).keepN hb5) (fun q => by have := (o6.lt g2 (by simp [Value.ownBlock])).1; omega)
        obtain ⟨g4, c4, hv2, hg4⟩ := ownsRow_some o7 (by omega)
        rw [hv2] at o7 ap2 ⊢
        have hne2 : g3 ≠ g4 := fun q => ap2 g4 rfl (by simp [Value.ownBlock, q])
        clear o6 gr6 mv6 hv2 ap2 ap hb5 hf5
        go_wp2_with fail
        go_roundw
        case rel => exact ⟨k + 1, g3, c3, g4, c4, _, _, _, _, by omega, by go_num, rfl, rfl, by simpa using o8, by simpa using o7, hne2, G4, d4.1, by have := d4.2; omega, hb6, hf6⟩
        case measure => simp [intOf]; omega
    · obtain rfl : k = n := by omega
      have hn2 : k ≤ 120 := by omega
      have gp : ∀ i j, i ≤ j → j < k + 1 → T.getD j 0 - T.getD i 0 ≤ x + y * (U.getD j 0 - U.getD i 0) := fun i j h1 h2 => gd.pair i j h1 (by omega)
      have gT : ∀ i, i < k + 1 → 0 ≤ T.getD i 0 ∧ T.getD i 0 ≤ 120 := fun i h => by have := gd.bT i (by omega); omega
      have gU : ∀ i, i < k + 1 → 0 ≤ U.getD i 0 ∧ U.getD i 0 ≤ 120 := fun i h => by have := gd.bU i (by omega); omega
      replace gp := Lib.hid gp
      replace gT := Lib.hid gT
      replace gU := Lib.hid gU
      replace lT := Lib.hid lT
      replace lU := Lib.hid lU
      clear gd hcell hb1 hne hd0 hd1
      go_wp2_with fail
      obtain ⟨wo, hwo⟩ : ∃ wo : World, wo = wr := ⟨_, rfl⟩
      subst hwo
      go_loopw [81] (fun i wr => ∃ (m : Nat), m ≤ k + 1 ∧ i = .int .i64 m ∧ wr.ownsRow (G + 1) 3 1 (.slice (some ⟨g1, 0, none⟩) (k + 1) c1) (k + 1) (T.map (Value.int .i64)) ∧ wr.ownsRow (G + 1) 3 1 (.slice (some ⟨g2, 0, none⟩) (k + 1) c2) (k + 1) (U.map (Value.int .i64)) ∧ Fr noB w wr) (fun i _ => k + 1 - (intOf i).toNat)
      case atStart => exact ⟨0, by omega, rfl, ow1, ow2, hf⟩
      case round =>
        clear ow1 ow2 hf
        obtain ⟨m, hm1, rfl, ow1, ow2, hf⟩ := hrel
        by_cases hlt : m < k + 1
        · have hltB : decide ((m : Int) < (k : Int) + 1) = true := by simp; omega
          go_wp2_with fail
          obtain ⟨wq, hwq⟩ : ∃ wq : World, wq = wr := ⟨_, rfl⟩
          subst hwq
          go_loopw [17] (fun i wr => ∃ (j : Nat), m ≤ j ∧ j ≤ k + 1 ∧ i = .int .i64 j ∧ wr.ownsRow (G + 1) 3 1 (.slice (some ⟨g1, 0, none⟩) (k + 1) c1) (k + 1) (T.map (Value.int .i64)) ∧ wr.ownsRow (G + 1) 3 1 (.slice (some ⟨g2, 0, none⟩) (k + 1) c2) (k + 1) (U.map (Value.int .i64)) ∧ Fr noB w wr) (fun i _ => k + 1 - (intOf i).toNat)
          case atStart => exact ⟨m, by omega, by omega, rfl, ow1, ow2, hf⟩
          case round =>
            clear ow1 ow2 hf
            obtain ⟨j, hj1, hj2, rfl, ow1, ow2, hf⟩ := hrel
            by_cases hjt : j < k + 1
            · have e1 : wr.cell? ⟨g1, j, none⟩ = some (.int .i64 (T.getD j 0)) := ownsRow_int ow1 (by rw [lT.out]; omega)
              have e2 : wr.cell? ⟨g2, j, none⟩ = some (.int .i64 (U.getD j 0)) := ownsRow_int ow2 (by rw [lU.out]; omega)
              have e3 : wr.cell? ⟨g1, m, none⟩ = some (.int .i64 (T.getD m 0)) := ownsRow_int ow1 (by rw [lT.out]; omega)
              have e4 : wr.cell? ⟨g2, m, none⟩ = some (.int .i64 (U.getD m 0)) := ownsRow_int ow2 (by rw [lU.out]; omega)
              have p1 := gT.out j (by omega)
              have p2 := gT.out m (by omega)
              have p3 := gU.out j (by omega)
              have p4 := gU.out m (by omega)
              have p5 := gp.out m j hj1 hjt
              generalize T.getD j 0 = tj at *
              generalize T.getD m 0 = tm at *
              generalize U.getD j 0 = uj at *
              generalize U.getD m 0 = um at *
              obtain ⟨p1, p1'⟩ := p1
              obtain ⟨p2, p2'⟩ := p2
              obtain ⟨p3, p3'⟩ := p3
              obtain ⟨p4, p4'⟩ := p4
              have p6 : -1200 ≤ y * (uj - um) ∧ y * (uj - um) ≤ 1200 := by
                have a1 : y * (uj - um) ≤ y * 120 := Int.mul_le_mul_of_nonneg_left (by omega) y0
                have a2 : y * (-120) ≤ y * (uj - um) := Int.mul_le_mul_of_nonneg_left (by omega) y0
                omega
              obtain ⟨p6, p6'⟩ := p6
              have p7 : wrap64 (y * (uj - um)) = y * (uj - um) := IntWalk.wrap64_in _ (by omega)
              have p8 : wrap64 (x + y * (uj - um)) = x + y * (uj - um) := IntWalk.wrap64_in _ (by omega)
              have p9 : ¬ x + y * (uj - um) < tj - tm := by omega
              go_wp2_with fail
              go_region
              go_wp2_with fail
              go_roundw
              case rel => first | exact ⟨j + 1, by omega, by omega, by go_num, ownsRow_drewN ow1 1, ownsRow_drewN ow2 1, hf.drew⟩ | ((repeat apply Exists.intro); refine ⟨?_, rfl⟩; exact ⟨j + 1, by omega, by omega, by go_num, ownsRow_drewN ow1 1, ownsRow_drewN ow2 1, hf.drew⟩)
              case measure => simp [intOf]; omega
            · go_wp2_with fail
              go_roundw
              case rel => exact ⟨m + 1, by omega, by go_num, ow1, ow2, hf⟩
              case measure => simp [intOf]; omega
        · go_wp2
          go_ret
          exact ⟨rfl, hf⟩
end Go.Proofs.Ytefapdjedhbjaaa
