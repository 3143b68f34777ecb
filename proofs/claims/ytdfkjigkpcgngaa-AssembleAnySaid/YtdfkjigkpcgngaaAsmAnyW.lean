/-
  Spans in chunks and their manifest, in any order: the walk.
-/
import Derived.Test.YtdfkjigkpcgngaaAsmAnyH
import Derived.Test.YtdfkjigkpcgngaaAsmAwake
import Derived.Lib.MinMax
set_option linter.unusedVariables false
set_option linter.unusedSimpArgs false
set_option maxRecDepth 100000
namespace Go.Proofs.Ytdfkjigkpcgngaa
open Go.RowKit Go Go.Maps Go.Lib

theorem chunksM_snoc (l : List Sp) : ∀ (R : List (List Sp)) (i : Nat), chunksM i (R ++ [l]) = chunksM i R ++ rowM (i + R.length) l
  | [], i => by show rowM i l ++ [] = [] ++ rowM (i + 0) l; simp
  | x :: r, i => by
    show rowM i x ++ chunksM (i + 1) (r ++ [l]) = (rowM i x ++ chunksM (i + 1) r) ++ _
    rw [chunksM_snoc l r (i + 1), List.append_assoc, List.length_cons, show i + 1 + r.length = i + (r.length + 1) by omega]
theorem partsM_snoc (l : List Sp) : ∀ (R : List (List Sp)) (i : Nat), partsM i (R ++ [l]) = partsM i R ++ [partM (i + R.length) l]
  | [], i => rfl
  | x :: r, i => by
    show partM i x :: partsM (i + 1) (r ++ [l]) = (partM i x :: partsM (i + 1) r) ++ _
    rw [partsM_snoc l r (i + 1), List.length_cons, show i + 1 + r.length = i + (r.length + 1) by omega]
    rfl
theorem take_snoc {α : Type} {R : List α} {i : Nat} {l : α} (h : R[i]? = some l) : R.take (i + 1) = R.take i ++ [l] := by rw [List.take_add_one, h]; rfl
theorem infoMsg : (Try.prog.info? 41).map (fun i => (i.zero, i.size, i.bytes)) = some (some .nilIface, 1, 16) := by kernel_rfl
/-- the messages so far -/
structure AllQ (w0 wr : World) (va : Value) (L : List Ms) (Q : List (Value × Ms)) : Prop where
  own : wr.ownsRow w0.heap.size 41 1 va Q.length (Q.map Prod.fst)
  qm : ∀ x ∈ Q, MsW w0 x.1 x.2
  qs : Q.map Prod.snd = L
/-- amid the loop over the rows -/
structure AnI (w0 wr : World) (R : List (List Sp)) (i mb : Nat) (pa : Option Addr) (pc : Nat) (P : List PU) (va : Value) (Q : List (Value × Ms)) : Prop where
  pl : P.length = i
  pp : P.map PU.p = partsM 0 (R.take i)
  pn : ∀ u ∈ P, u.a = none ∧ u.c = 0 ∧ u.p.cr = []
  bm : Blk wr mb 59 [.int .i64 7, .int .i64 1, .int .i64 0, .slice pa i pc]
  ow : wr.ownsRow w0.heap.size 65 6 (.slice pa i pc) i (P.flatMap PU.cs)
  q : AllQ w0 wr va (chunksM 0 (R.take i)) Q
  ok : ∀ l ∈ R.take i, rowOk l
  fr : Fr noB w0 wr
theorem AllQ.frN {w0 wr w' : World} {va : Value} {L : List Ms} {Q : List (Value × Ms)} (h : AllQ w0 wr va L Q) (f : Fr noB wr w') : AllQ w0 w' va L Q := ⟨ownsRow_fr h.own f (fun _ _ q => q), h.qm, h.qs⟩
theorem AnI.frN {w0 wr w' : World} {R : List (List Sp)} {i mb : Nat} {pa : Option Addr} {pc : Nat} {P : List PU} {va : Value} {Q : List (Value × Ms)} (h : AnI w0 wr R i mb pa pc P va Q) (f : Fr noB wr w') : AnI w0 w' R i mb pa pc P va Q :=
  ⟨h.pl, h.pp, h.pn, f.blk h.bm (fun q => q), ownsRow_fr h.ow f (fun _ _ q => q), h.q.frN f, h.ok, h.fr.seqN f⟩
/-- amid the loop over a row's chunks -/
structure AnJ (w0 wr : World) (R : List (List Sp)) (i : Nat) (l : List Sp) (mb : Nat) (pa : Option Addr) (pc : Nat) (P : List PU) (k : Nat) (va : Value) (Q : List (Value × Ms)) : Prop where
  pl : P.length = i + 1
  pp : P.map PU.p = partsM 0 (R.take (i + 1))
  pn : ∀ u ∈ P, u.a = none ∧ u.c = 0 ∧ u.p.cr = []
  bm : Blk wr mb 59 [.int .i64 7, .int .i64 1, .int .i64 0, .slice pa (i + 1 : Nat) pc]
  ow : wr.ownsRow w0.heap.size 65 6 (.slice pa (i + 1 : Nat) pc) (i + 1) (P.flatMap PU.cs)
  q : AllQ w0 wr va (chunksM 0 (R.take i) ++ (List.range k).map fun j => chM i j l) Q
  ok : ∀ l ∈ R.take (i + 1), rowOk l
  fr : Fr noB w0 wr
theorem AnJ.frN {w0 wr w' : World} {R : List (List Sp)} {i : Nat} {l : List Sp} {mb : Nat} {pa : Option Addr} {pc : Nat} {P : List PU} {k : Nat} {va : Value} {Q : List (Value × Ms)} (h : AnJ w0 wr R i l mb pa pc P k va Q) (f : Fr noB wr w') : AnJ w0 w' R i l mb pa pc P k va Q :=
  ⟨h.pl, h.pp, h.pn, f.blk h.bm (fun q => q), ownsRow_fr h.ow f (fun _ _ q => q), h.q.frN f, h.ok, h.fr.seqN f⟩
theorem AnJ.fin {w0 wr : World} {R : List (List Sp)} {i : Nat} {l : List Sp} {mb : Nat} {pa : Option Addr} {pc : Nat} {P : List PU} {va : Value} {Q : List (Value × Ms)} (h : AnJ w0 wr R i l mb pa pc P (nCh l) va Q) (hl : R[i]? = some l) : AnI w0 wr R (i + 1) mb pa pc P va Q := by
  have hi : i < R.length := (List.getElem?_eq_some_iff.1 hl).1
  refine ⟨h.pl, h.pp, h.pn, h.bm, h.ow, ⟨h.q.own, h.q.qm, ?_⟩, h.ok, h.fr⟩
  rw [h.q.qs, take_snoc hl, chunksM_snoc, List.length_take, Nat.zero_add, Nat.min_eq_left (by omega)]
  rfl
theorem part_next {w0 w8 w9 : World} {R : List (List Sp)} {i : Nat} {l : List Sp} {mb : Nat} {pa a9 : Option Addr} {pc c9 : Nat} {P : List PU} {va : Value} {Q : List (Value × Ms)} (I : AnI w0 w8 R i mb pa pc P va Q) (hl : R[i]? = some l) (hok : rowOk l)
    (o9 : w9.ownsRow w0.heap.size 65 6 (.slice a9 (i + 1) c9) (i + 1) (P.flatMap PU.cs ++ (PU.mk (partM i l) none 0).cs)) (f9 : Fr (rowB (.slice pa i pc)) w8 w9) (hlo : w0.heap.size ≤ mb) :
    AnJ w0 (w9.setCell ⟨mb, 3, none⟩ (.slice a9 (i + 1) c9)) R i l mb a9 c9 (P ++ [PU.mk (partM i l) none 0]) 0 va Q := by
  have hi : i < R.length := (List.getElem?_eq_some_iff.1 hl).1
  have bm9 := f9.blk I.bm (fun q => row_not I.ow I.bm (by decide) q)
  have bm10 := bm9.set 3 (.slice a9 (i + 1) c9)
  simp only [List.set_cons_zero, List.set_cons_succ] at bm10
  have s : Fr (onlyB mb) w9 (w9.setCell ⟨mb, 3, none⟩ (.slice a9 (i + 1) c9)) := (Fr.refl _ _).store (onlyB_self mb)
  have oq9 := ownsRow_fr I.q.own f9 (own_apart I.q.own I.ow (by decide))
  refine ⟨by rw [List.length_append, I.pl]; rfl, ?_, ?_, bm10, ?_, ⟨?_, I.q.qm, ?_⟩, ?_, ?_⟩
  · rw [List.map_append, I.pp, take_snoc hl, partsM_snoc, List.length_take, Nat.zero_add, Nat.min_eq_left (by omega)]; rfl
  · intro y hy
    rcases List.mem_append.1 hy with h | h
    · exact I.pn y h
    · obtain rfl := List.mem_singleton.1 h; exact ⟨rfl, rfl, rfl⟩
  · rw [List.flatMap_append]
    have : [PU.mk (partM i l) none 0].flatMap PU.cs = (PU.mk (partM i l) none 0).cs := by simp
    rw [this]
    exact ownsRow_fr o9 s (fun g hg q => row_not o9 bm9 (by decide) (by unfold onlyB at q; subst q; exact hg))
  · exact ownsRow_fr oq9 s (fun g hg q => row_not oq9 bm9 (by decide) (by unfold onlyB at q; subst q; exact hg))
  · rw [I.q.qs]; simp
  · intro x hx
    rw [take_snoc hl] at hx
    rcases List.mem_append.1 hx with h | h
    · exact I.ok x h
    · obtain rfl := List.mem_singleton.1 h; exact hok
  · exact (I.fr.trans f9 (fun _ _ q => q) (fun i hi q => by have := (I.ow.lt i q).1; omega)).storeNew hlo
theorem chunk_next {w0 w8 w9 : World} {R : List (List Sp)} {i : Nat} {l : List Sp} {mb : Nat} {pa : Option Addr} {pc : Nat} {P : List PU} {k : Nat} {va v9 : Value} {Q : List (Value × Ms)} (J : AnJ w0 w8 R i l mb pa pc P k va Q) (u : Value) (hu : MsW w0 u (chM i k l))
    (o9 : w9.ownsRow w0.heap.size 41 1 v9 (Q.length + 1) (Q.map Prod.fst ++ [u])) (f9 : Fr (rowB va) w8 w9) : AnJ w0 w9 R i l mb pa pc P (k + 1) v9 (Q ++ [(u, chM i k l)]) := by
  refine ⟨J.pl, J.pp, J.pn, f9.blk J.bm (fun q => row_not J.q.own J.bm (by decide) q), ownsRow_fr J.ow f9 (own_apart J.ow J.q.own (by decide)), ⟨?_, fun x hx => ?_, ?_⟩, J.ok, J.fr.trans f9 (fun _ _ q => q) (fun i hi q => by have := (J.q.own.lt i q).1; omega)⟩
  · rw [List.length_append, List.map_append]; exact o9
  · rcases List.mem_append.1 hx with h | h
    · exact J.q.qm x h
    · obtain rfl := List.mem_singleton.1 h; exact hu
  · rw [List.map_append, J.q.qs, List.range_succ, List.map_append, List.append_assoc]; rfl
theorem RdSp.sub {w : World} {g o n c : Nat} {L : List Sp} (h : RdSp w (.slice (some ⟨g, o, none⟩) n c) L) (lo hi : Nat) (h1 : lo ≤ hi) (h2 : hi ≤ L.length) : RdSp w (.slice (some ⟨g, o + lo * 3, none⟩) (hi - lo) (c - lo)) ((L.drop lo).take (hi - lo)) := by
  obtain ⟨a, c', e, hl, hc, _, h3⟩ := h
  injection e with e1 e2 e3
  subst e1 e2 e3
  have hlen : ((L.drop lo).take (hi - lo)).length = hi - lo := by rw [List.length_take, List.length_drop]; omega
  refine ⟨_, c - lo, by rw [hlen], by rw [hlen]; omega, by omega, (fun q => by cases q), fun i s hs => ?_⟩
  have hi' : i < hi - lo := by rw [← hlen]; exact (List.getElem?_eq_some_iff.1 hs).1
  rw [List.getElem?_take_of_lt hi', List.getElem?_drop] at hs
  obtain ⟨g2, o2, e4, c0, c1, c2⟩ := h3 (lo + i) s hs
  injection e4 with e4
  injection e4 with e5 e6 _
  subst e5 e6
  exact ⟨g, o + lo * 3, rfl, by rw [show o + lo * 3 + i * 3 = o + (lo + i) * 3 by omega]; exact c0, by rw [show o + lo * 3 + i * 3 = o + (lo + i) * 3 by omega]; exact c1, by rw [show o + lo * 3 + i * 3 = o + (lo + i) * 3 by omega]; exact c2⟩
theorem chunks_len : ∀ (R : List (List Sp)) (i : Nat), (∀ l ∈ R, l.length ≤ 40) → (chunksM i R).length ≤ 20 * R.length
  | [], i, _ => by simp [chunksM]
  | l :: r, i, h => by
    unfold chunksM rowM
    have := chunks_len r (i + 1) (fun x hx => h x (List.mem_cons_of_mem _ hx))
    have h1 := h l (List.mem_cons_self ..)
    have h2 : nCh l ≤ 20 := by unfold nCh; omega
    rw [List.length_append, List.length_map, List.length_range, List.length_cons]
    omega
theorem ru_get : ∀ (U : List RU) (i q : Nat) (u : RU), U[i]? = some u → q < 4 → (U.flatMap RU.cs)[i * 4 + q]? = u.cs[q]?
  | [], i, q, u, h, _ => by simp at h
  | x :: r, 0, q, u, h, hq => by
    injection h with h
    subst h
    rw [List.flatMap_cons, Nat.zero_mul, Nat.zero_add, List.getElem?_append_left (by show q < 4; exact hq)]
  | x :: r, i + 1, q, u, h, hq => by
    rw [List.flatMap_cons, List.getElem?_append_right (by show 4 ≤ _; omega)]
    have e : (i + 1) * 4 + q - x.cs.length = i * 4 + q := by show (i + 1) * 4 + q - 4 = _; omega
    rw [e]
    exact ru_get r i q u (by simpa using h) hq
set_option maxHeartbeats 16000000 in
theorem anyW (rv : Value) (R : List (List Sp)) (oa : Option Addr) (oc : Nat) (xs : List Int) (w : World) (hr : RdR w rv R)
    (ho : ∀ i, i < xs.length → ∃ g o, oa = some ⟨g, o, none⟩ ∧ w.cell? ⟨g, o + i, none⟩ = some (.int .u8 (xs.getD i 0)) ∧ 0 ≤ xs.getD i 0 ∧ xs.getD i 0 ≤ 255) (hoc : xs.length ≤ oc) (hob : xs.length ≤ 9223372036854775807) :
    Calls Try.prog 4 #[rv, .slice oa xs.length oc] w fun e w' => e = .returned (.bool true) ∧ Fr noB w w' := by
  obtain ⟨ra, rc, rfl, hr1, hr2, hr3⟩ := hr
  obtain ⟨N, hN⟩ : ∃ N, R.length = N := ⟨_, rfl⟩
  obtain ⟨X, hX⟩ : ∃ X, xs.length = X := ⟨_, rfl⟩
  rw [hN] at hr1 ⊢
  rw [hX] at ho hoc hob ⊢
  unfold maxLen at hr2
  have haw := awake_any
  replace haw := Lib.hid haw
  replace hr3 := Lib.hid hr3
  replace hN := Lib.hid hN
  replace hX := Lib.hid hX
  replace ho := Lib.hid ho
  obtain ⟨bad, hbad⟩ : ∃ bad : Prop, bad ↔ (N < 1 ∨ 4 < N ∨ 100 < X) := ⟨_, Iff.rfl⟩
  go_enter Try.func4, Try.ntmps4
  go_wp2_with fail
  refine (haw.out _).mono ?_
  rintro e w1 ⟨rfl, f1⟩
  by_cases hb1 : N < 1
  · have d1 : decide ((N : Int) < 1) = true := decide_eq_true (by omega)
    have d1' : (N : Int) < 1 := by omega
    replace hbad := Lib.hid hbad
    go_wp2_with fail
    refine (haw.out _).mono ?_
    rintro e w2 ⟨rfl, f2⟩
    go_wp2_with fail
    go_ret
    exact ⟨rfl, f1.seqN f2⟩
  by_cases hb2 : 4 < N
  · have d1 : ¬ (N : Int) < 1 := by omega
    have d2 : (N : Int) > 4 := by omega
    have d3 : (4 : Int) < N := by omega
    replace hbad := Lib.hid hbad
    go_wp2_with fail
    refine (haw.out _).mono ?_
    rintro e w2 ⟨rfl, f2⟩
    go_wp2_with fail
    go_ret
    exact ⟨rfl, f1.seqN f2⟩
  by_cases hb3 : 100 < X
  · have d1 : ¬ (N : Int) < 1 := by omega
    have d2 : ¬ (N : Int) > 4 := by omega
    have d3 : ¬ (4 : Int) < N := by omega
    have d4 : (100 : Int) < X := by omega
    replace hbad := Lib.hid hbad
    go_wp2_with fail
    refine (haw.out _).mono ?_
    rintro e w2 ⟨rfl, f2⟩
    go_wp2_with fail
    go_ret
    exact ⟨rfl, f1.seqN f2⟩
  have d1 : ¬ (N : Int) < 1 := by omega
  have d2 : ¬ (N : Int) > 4 := by omega
  have d3 : ¬ (4 : Int) < N := by omega
  have d4 : ¬ (100 : Int) < X := by omega
  clear hbad haw
  obtain ⟨mb, hmb⟩ : ∃ mb, w1.heap.size = mb := ⟨_, rfl⟩
  have fM : Fr noB w1 (w1.alloc (.cells #[.int .i64 7, .int .i64 1, .int .i64 0, .slice none 0 0] 59)) := (Fr.refl _ _).alloc _
  have bM := Blk.new w1 59 [.int .i64 7, .int .i64 1, .int .i64 0, .slice none 0 0]
  rw [hmb] at bM
  have I0 : AnI w (w1.alloc (.cells #[.int .i64 7, .int .i64 1, .int .i64 0, .slice none 0 0] 59)) R 0 mb none 0 [] (.slice none 0 0) [] := ⟨rfl, rfl, fun u hu => (by cases hu), bM, ⟨rfl, Or.inl ⟨rfl, rfl⟩⟩, ⟨⟨rfl, Or.inl ⟨rfl, rfl⟩⟩, fun x hx => (by cases hx), rfl⟩, fun l hl => (by simp at hl), f1.seqN fM⟩
  have hmbw : Hid (w.heap.size ≤ mb) := Lib.hid (by have := f1.size; omega)
  replace I0 := Lib.hid I0
  clear f1 fM bM
  go_upto_region 5 with fail
  try rw [hmb]
  clear hmb
  generalize (w1.alloc (.cells #[.int .i64 7, .int .i64 1, .int .i64 0, .slice none 0 0] 59)) = w2 at *
  obtain ⟨i0, hi0, hz0, hz1, hz2⟩ := info_parts infoPinC
  obtain ⟨j0, hj0, hy0, hy1, hy2⟩ := info_parts infoMsg
  have hN4 : Hid (1 ≤ N ∧ N ≤ 4 ∧ X ≤ 100) := Lib.hid ⟨by omega, by omega, by omega⟩
  clear hb1 hb2 hb3 d1 d2 d3 d4
  go_wp2_with fail
  go_loopg [6, 44] N (fun gk va i wr => ∃ (k : Nat) (pa : Option Addr) (pc : Nat) (P : List PU) (Q : List (Value × Ms)), k + gk = N ∧ i = .int .i64 k ∧ Hid (AnI w wr R k mb pa pc P va Q))
  case atStart => exact ⟨0, none, 0, [], [], Nat.zero_add _, rfl, I0⟩
  case round =>
    clear I0
    obtain ⟨i, pa, pc, P, Q, hk, rfl, hI⟩ := hrel
    by_cases hlt : i < N
    · have hi : i < R.length := by rw [hN.out]; exact hlt
      obtain ⟨l, hl⟩ : ∃ l, R[i]? = some l := ⟨_, List.getElem?_eq_getElem hi⟩
      obtain ⟨g, o, u, rfl, hcu, hsu⟩ := hr3.out i l hl
      obtain ⟨la, lc, rfl, hl1, hl2, hl3, hl4⟩ := id hsu
      have cu := hI.out.fr.cell hcu (fun q => q)
      obtain ⟨n, hn⟩ : ∃ n, l.length = n := ⟨_, rfl⟩
      have hfw := few_any (.slice la l.length lc) l wr (hsu.frN hI.out.fr)
      rw [hn] at hfw cu hl1
      have hb1 : (i : Int) < N := by omega
      unfold maxLen at hl2
      obtain ⟨fs, hfs⟩ : ∃ fs, fewS l = fs := ⟨_, rfl⟩
      rw [hfs] at hfw
      have hmeas : N - (i + 1) < gk := by omega
      have hkn2 : i + 1 + (N - (i + 1)) = N := by omega
      replace hmeas := Lib.hid hmeas
      replace hkn2 := Lib.hid hkn2
      replace hfw := Lib.hid hfw
      replace hfs := Lib.hid hfs
      replace hn := Lib.hid hn
      replace hl := Lib.hid hl
      replace hsu := Lib.hid hsu
      replace hl4 := Lib.hid hl4
      clear hk hi hcu hl3
      go_wp2_with fail
      go_fit hfw.out
      rintro e w3 ⟨rfl, f3⟩
      have hI3 := hI.out.frN f3
      replace hI3 := Lib.hid hI3
      clear hfw hI cu f3
      cases fs with
      | false =>
        have fz := Lib.hid hI3.out.fr
        go_wp2_with fail
        go_ret
        exact ⟨rfl, fz.out⟩
      | true =>
        by_cases h40 : 40 < n
        · have e40 : (40 : Int) < n := by omega
          have fz := Lib.hid hI3.out.fr
          go_wp2_with fail
          go_ret
          exact ⟨rfl, fz.out⟩
        have e40 : ¬ (40 : Int) < n := by omega
        have hd0 : Hid (rowF 7 0 l = rowF 7 0 (l.drop 0)) := Lib.hid (by rw [List.drop_zero])
        go_wp2_with fail
        go_loopg [59] n (fun gk ix wr => ∃ k : Nat, k + gk = n ∧ ix = .int .i64 k ∧ Hid (rowF 7 0 l = rowF 7 k (l.drop k)) ∧ Hid (∀ s ∈ l.take k, rightS s = true) ∧ Hid (Fr noB w3 wr))
        case atStart => exact ⟨0, Nat.zero_add _, rfl, hd0, Lib.hid (fun s hs => by simp at hs), Lib.hid (Fr.refl _ _)⟩
        case round =>
          clear hd0
          obtain ⟨k, hk, rfl, hrow, hrt, fr⟩ := hrel
          by_cases hlt2 : k < n
          · obtain ⟨s, hs⟩ : ∃ s, l[k]? = some s := ⟨_, List.getElem?_eq_getElem (by rw [hn.out]; exact hlt2)⟩
            obtain ⟨g2, o2, rfl, c0, c1, c2⟩ := hl4.out k s hs
            have fw := hI3.out.fr.seqN fr.out
            replace c0 := fw.cell c0 (fun q => q)
            replace c1 := fw.cell c1 (fun q => q)
            replace c2 := fw.cell c2 (fun q => q)
            have hst := row_drop 7 l k s hs
            rw [← hrow.out] at hst
            have fX : Fr noB wr (wr.alloc (.cells #[.int .i64 s.t, .int .i64 s.q, .string s.x] 63)) := (Fr.refl _ _).alloc _
            have bX := Blk.new wr 63 [.int .i64 s.t, .int .i64 s.q, .string s.x]
            have hrr := rright_any s (wr.alloc (.cells #[.int .i64 s.t, .int .i64 s.q, .string s.x] 63))
            have hb1 : (k : Int) < n := by omega
            have hmeas2 : n - (k + 1) < gk := by omega
            have hkn3 : k + 1 + (n - (k + 1)) = n := by omega
            have hset : ∀ y ∈ l.take (k + 1), y ∈ l.take k ∨ y = s := fun y hy => by
              rw [take_snoc hs] at hy
              rcases List.mem_append.1 hy with h | h
              · exact Or.inl h
              · exact Or.inr (List.mem_singleton.1 h)
            have fz := Lib.hid (fw.seqN fX)
            have f3X := Lib.hid (fr.out.seqN fX)
            obtain ⟨rb, hrb⟩ : ∃ rb, rightS s = rb := ⟨_, rfl⟩
            rw [hrb] at hrr
            replace hs := Lib.hid hs
            replace hmeas2 := Lib.hid hmeas2
            replace hkn3 := Lib.hid hkn3
            replace hset := Lib.hid hset
            replace hrr := Lib.hid hrr
            replace hrb := Lib.hid hrb
            replace bX := Lib.hid bX
            clear hk fw fr fX
            cases h1 : s.t == 7 with
            | false =>
              have hb : (s.t != 7) = true := by simp [bne, h1]
              replace hst := Lib.hid hst
              go_wp2_with fail
              go_ret
              exact ⟨rfl, fz.out⟩
            | true =>
              rw [h1, Bool.true_and] at hst
              have hb : (s.t != 7) = false := by simp [bne, h1]
              cases h2 : s.q == (k : Int) + 1 with
              | false =>
                have hb2 : (s.q != (k : Int) + 1) = true := by simp [bne, h2]
                replace hst := Lib.hid hst
                go_wp2_with fail
                go_ret
                exact ⟨rfl, fz.out⟩
              | true =>
                rw [h2, Bool.true_and] at hst
                have hb2 : (s.q != (k : Int) + 1) = false := by simp [bne, h2]
                replace hst := Lib.hid hst
                go_wp2_with fail
                go_fit hrr.out
                rintro e w5 ⟨rfl, f5⟩
                have fz5 := Lib.hid (fz.out.seqN f5)
                have f35 := Lib.hid (f3X.out.seqN f5)
                clear hrr c0 c1 c2 f5 fz f3X bX
                cases rb with
                | false =>
                  go_wp2_with fail
                  go_ret
                  exact ⟨rfl, fz5.out⟩
                | true =>
                  have hrt2 : Hid (∀ y ∈ l.take (k + 1), rightS y = true) := Lib.hid (fun y hy => (hset.out y hy).elim (hrt.out y) (fun e => by rw [e]; exact hrb.out))
                  go_wp2_with fail
                  go_roundg (n - (k + 1))
                  case rel => exact ⟨k + 1, hkn3.out, by go_num, hst, hrt2, f35⟩
                  case measure => exact hmeas2.out
          · obtain rfl : k = n := by omega
            have hokl : Hid (rowOk l) := Lib.hid (by
              have hlk : l.length = k := hn.out
              refine ⟨by omega, ?_, fun s hs => hrt.out s (by rw [List.take_of_length_le (by omega)]; exact hs)⟩
              rw [hrow.out, List.drop_of_length_le (by omega)]; rfl)
            have hI4 := Lib.hid (hI3.out.frN fr.out)
            clear hI3 fr hrow hrt hk
            have q3 : wr.cell? ⟨mb, 3, none⟩ = some (.slice pa i pc) := hI4.out.bm.cell 3
            have fA : Fr noB wr (wr.alloc (.cells #[.int .i64 i, .int .i64 7, .int .i64 1, .int .i64 k, .slice none 0 0, .bool false] 65)) := (Fr.refl _ _).alloc _
            have IA := hI4.out.frN fA
            have cn := news_at wr 65 [.int .i64 i, .int .i64 7, .int .i64 1, .int .i64 k, .slice none 0 0, .bool false]
            have hw8 : w.heap.size ≤ (wr.alloc (.cells #[.int .i64 i, .int .i64 7, .int .i64 1, .int .i64 k, .slice none 0 0, .bool false] 65)).heap.size := IA.fr.size
            have ow8 := IA.ow
            have hi4 : i < 4 := by have := hN4.out; omega
            have huc : (PU.mk (partM i l) none 0).cs = [.int .i64 i, .int .i64 7, .int .i64 1, .int .i64 k, .slice none 0 0, .bool false] := by
              unfold PU.cs pnC PU.v partM
              simp only
              rw [hn.out]; rfl
            replace IA := Lib.hid IA
            replace huc := Lib.hid huc
            replace hw8 := Lib.hid hw8
            replace hi4 := Lib.hid hi4
            clear fA hI4
            go_upto_region 16 with fail
            go_wp2_with (first
              | (at_builtin; go_must (refine wpList_append_at _ rfl (.tmp 81) (.tmp 86) 57 rfl w.heap.size 65 i0 _ 6 64 Try.underlying57 hi0 hz0 hz1 hz2 rfl (by decide) _ i (P.flatMap PU.cs) rfl ow8 ⟨wr.heap.size, 0, none⟩ 1 1 [.int .i64 i, .int .i64 7, .int .i64 1, .int .i64 k, .slice none 0 0, .bool false] rfl rfl cn (by intro u hu; simp only [List.mem_cons, List.not_mem_nil, or_false] at hu; rcases hu with rfl | rfl | rfl | rfl | rfl | rfl <;> rfl) ?_ ?_ hw8.out ?_))
              | fail)
            · have := hi4.out; unfold maxLen; omega
            · have := hi4.out; omega
            intro v9 w9 o9 gr9 _
            obtain ⟨a9, c9, rfl⟩ := ownsRow_slice o9
            have f9 : Fr (rowB (.slice pa i pc)) (wr.alloc (.cells #[.int .i64 i, .int .i64 7, .int .i64 1, .int .i64 k, .slice none 0 0, .bool false] 65)) w9 := (Fr.refl _ _).grown gr9 (fun k hk _ => hk)
            rw [← huc.out] at o9
            have hJ := part_next IA.out hl.out hokl.out o9 f9 hmbw.out
            have b9 := f9.blk IA.out.bm (fun q => row_not IA.out.ow IA.out.bm (by decide) q)
            have k9 : w9.cell? ⟨mb, 3, none⟩ = some (.slice pa i pc) := b9.cell 3
            have z9 := b9.frozen 3
            replace hJ := Lib.hid hJ
            clear o9 gr9 f9 b9 cn ow8 IA q3
            go_upto_region 17 with fail
            generalize (w9.setCell ⟨mb, 3, none⟩ (.slice a9 (i + 1) c9)) = w10 at *
            clear k9 z9
            have hk40 : k ≤ 40 := by omega
            obtain ⟨nn, hnn⟩ : ∃ nn, nCh l = nn := ⟨_, rfl⟩
            have hmx := @Go.Lib.run_max_ints Try.prog
            have hmi := @Go.Lib.run_min_ints Try.prog
            have en : max (((k : Int) + 1) / 2) 1 = (nn : Int) := by
              have hlk : l.length = k := hn.out
              unfold nCh at hnn
              omega
            have hnn2 : nn ≤ 20 ∧ (2 * nn ≤ k + 1 ∨ (nn = 1 ∧ k = 0)) ∧ k ≤ 2 * nn := by
              have hlk : l.length = k := hn.out
              unfold nCh at hnn
              omega
            replace hnn := Lib.hid hnn
            go_upto_region 18 with fail
            clear hmx en
            obtain ⟨P2, hP2⟩ : ∃ P2, P ++ [PU.mk (partM i l) none 0] = P2 := ⟨_, rfl⟩
            rw [hP2] at hJ
            clear hP2
            go_wp2_with fail
            go_loopg [6, 95] nn (fun gk vb ix wr => ∃ (q : Nat) (Q2 : List (Value × Ms)), q + gk = nn ∧ ix = .int .i64 q ∧ Hid (AnJ w wr R i l mb a9 c9 P2 q vb Q2))
            case atStart => exact ⟨0, Q, Nat.zero_add _, rfl, hJ⟩
            case round =>
              clear hJ
              obtain ⟨q, Q2, hk, rfl, hJ⟩ := hrel
              by_cases hlt3 : q < nn
              · obtain ⟨lo, hlo⟩ : ∃ lo : Nat, lo = 2 * q := ⟨_, rfl⟩
                obtain ⟨hi, hhi⟩ : ∃ hi : Nat, hi = min (2 * q + 2) k := ⟨_, rfl⟩
                have hlk : lo ≤ k := by omega
                have m1 : min (2 * (q : Int)) (k : Int) = (lo : Int) := by omega
                have m2 : min (2 * (q : Int) + 2) (k : Int) = (hi : Int) := by omega
                have hb1 : (q : Int) < nn := by omega
                have hlh : lo ≤ hi := by omega
                have hhk : hi ≤ k := by omega
                have hhc : hi ≤ lc := by omega
                have hmeas3 : nn - (q + 1) < gk := by omega
                have hkn4 : q + 1 + (nn - (q + 1)) = nn := by omega
                have hq20 : q < 20 := by omega
                have hl0 := hl
                have hch : (l.drop lo).take (hi - lo) = chOf l q := by
                  unfold chOf
                  rw [← hlo]
                  have hlk2 : l.length = k := hn.out
                  by_cases h9 : lo + 2 ≤ k
                  · rw [show hi - lo = 2 by omega]
                  · rw [List.take_of_length_le (by rw [List.length_drop]; omega), List.take_of_length_le (by rw [List.length_drop]; omega)]
                by_cases hk0 : k = 0
                · obtain rfl : k = 0 := hk0
                  obtain rfl : q = 0 := by omega
                  obtain rfl : nn = 1 := by omega
                  obtain rfl : lo = 0 := by omega
                  obtain rfl : hi = 0 := by omega
                  have hl00 : chOf l 0 = [] := by unfold chOf; rw [List.eq_nil_of_length_eq_zero hn.out]; rfl
                  have hrd0 : ∀ (a : Option Addr) (c : Nat), (a = none → c = 0) → c ≤ lc → RdSp w (.slice a 0 c) (chOf l 0) := fun a c h1 h2 => by
                    rw [hl00]
                    exact ⟨a, c, rfl, Nat.zero_le _, by unfold maxLen; omega, h1, fun i s hi => by simp at hi⟩
                  have hlc : la = none → lc = 0 := by
                    obtain ⟨_, _, e, _, _, h3, _⟩ := hsu.out
                    injection e with e1 _ e3
                    subst e1 e3
                    exact h3
                  have m3 : min (2 : Int) 0 = 0 := by decide
                  replace hmeas3 := Lib.hid hmeas3
                  replace hkn4 := Lib.hid hkn4
                  replace hrd0 := Lib.hid hrd0
                  replace hlo := ()
                  replace hhi := ()
                  clear hch hk hnn2 m1 m2 hlh hhk hhc hlk hb1
                  have hb1 : ((0 : Nat) : Int) < ((1 : Nat) : Int) := by decide
                  cases la with
                  | none =>
                    obtain rfl : lc = 0 := hlc rfl
                    go_upto_region 21 with fail
                    have hq20' : True := trivial
                    have hsub : MsW w (mChunk i 7 1 0 1 (.slice none 0 0)) (chM i 0 l) := by
                      unfold chM
                      rw [hnn.out]
                      exact ⟨_, rfl, hrd0.out _ _ (fun _ => rfl) (Nat.le_refl _)⟩
                    have fC : Fr noB wr (wr.alloc (.cells #[mChunk i 7 1 0 1 (.slice none 0 0)] 41)) := (Fr.refl _ _).alloc _
                    have JC := hJ.out.frN fC
                    have oC := JC.q.own
                    have cC := cell_new wr (mChunk i 7 1 0 1 (.slice none 0 0)) 41
                    have hwC : w.heap.size ≤ (wr.alloc (.cells #[mChunk i 7 1 0 1 (.slice none 0 0)] 41)).heap.size := JC.fr.size
                    have hQl : Q2.length ≤ 100 := by
                      have h1 := congrArg List.length hJ.out.q.qs
                      simp only [List.length_map, List.length_append, List.length_range] at h1
                      have h2 := chunks_len (R.take i) 0 (fun l hl => (hJ.out.ok l (by rw [take_snoc hl0.out]; exact List.mem_append_left _ hl)).1)
                      have h3 : (R.take i).length ≤ 3 := by rw [List.length_take]; have := hi4.out; omega
                      omega
                    replace JC := Lib.hid JC
                    replace hsub := Lib.hid hsub
                    replace hwC := Lib.hid hwC
                    replace hQl := Lib.hid hQl
                    clear fC hJ
                    unfold mChunk at oC cC JC hsub hwC
                    go_wp2_with (first
                      | (at_builtin; go_must (refine wpList_append_at _ rfl (.tmp 98) (.tmp 117) 60 rfl w.heap.size 41 j0 _ 1 16 Try.underlying60 hj0 hy0 hy1 hy2 rfl (by decide) _ Q2.length (Q2.map Prod.fst) rfl oC ⟨wr.heap.size, 0, none⟩ 1 1 [.iface 67 (.agg #[.int .i64 i, .int .i64 7, .int .i64 1, .int .i64 0, .int .i64 1, .slice none 0 0])] rfl rfl cC (by intro u hu; obtain rfl := List.mem_singleton.1 hu; rfl) ?_ ?_ hwC.out ?_))
                      | fail)
                    · have := hQl.out; unfold maxLen; omega
                    · have := hQl.out; omega
                    intro v8 w8 o8 gr8 _
                    have f8 : Fr (rowB u6) _ w8 := (Fr.refl _ _).grown gr8 (fun k hk _ => hk)
                    have JF := Lib.hid (chunk_next JC.out _ hsub.out o8 f8)
                    clear o8 gr8 f8 cC oC JC
                    go_wp2_with fail
                    go_roundg (1 - (0 + 1))
                    case rel => exact ⟨0 + 1, _, by decide, by go_num, JF⟩
                    case measure => exact hmeas3.out
                  | some ad =>
                    clear hlc
                    by_cases hc0 : lc = 0
                    · obtain rfl : lc = 0 := hc0
                      go_upto_region 21 with fail
                      have hq20' : True := trivial
                      have hsub : MsW w (mChunk i 7 1 0 1 (.slice (some ad) 0 0)) (chM i 0 l) := by
                        unfold chM
                        rw [hnn.out]
                        exact ⟨_, rfl, hrd0.out _ _ (fun e => by cases e) (Nat.le_refl _)⟩
                      have fC : Fr noB wr (wr.alloc (.cells #[mChunk i 7 1 0 1 (.slice (some ad) 0 0)] 41)) := (Fr.refl _ _).alloc _
                      have JC := hJ.out.frN fC
                      have oC := JC.q.own
                      have cC := cell_new wr (mChunk i 7 1 0 1 (.slice (some ad) 0 0)) 41
                      have hwC : w.heap.size ≤ (wr.alloc (.cells #[mChunk i 7 1 0 1 (.slice (some ad) 0 0)] 41)).heap.size := JC.fr.size
                      have hQl : Q2.length ≤ 100 := by
                        have h1 := congrArg List.length hJ.out.q.qs
                        simp only [List.length_map, List.length_append, List.length_range] at h1
                        have h2 := chunks_len (R.take i) 0 (fun l hl => (hJ.out.ok l (by rw [take_snoc hl0.out]; exact List.mem_append_left _ hl)).1)
                        have h3 : (R.take i).length ≤ 3 := by rw [List.length_take]; have := hi4.out; omega
                        omega
                      replace JC := Lib.hid JC
                      replace hsub := Lib.hid hsub
                      replace hwC := Lib.hid hwC
                      replace hQl := Lib.hid hQl
                      clear fC hJ
                      unfold mChunk at oC cC JC hsub hwC
                      go_wp2_with (first
                        | (at_builtin; go_must (refine wpList_append_at _ rfl (.tmp 98) (.tmp 117) 60 rfl w.heap.size 41 j0 _ 1 16 Try.underlying60 hj0 hy0 hy1 hy2 rfl (by decide) _ Q2.length (Q2.map Prod.fst) rfl oC ⟨wr.heap.size, 0, none⟩ 1 1 [.iface 67 (.agg #[.int .i64 i, .int .i64 7, .int .i64 1, .int .i64 0, .int .i64 1, .slice (some ad) 0 0])] rfl rfl cC (by intro u hu; obtain rfl := List.mem_singleton.1 hu; rfl) ?_ ?_ hwC.out ?_))
                        | fail)
                      · have := hQl.out; unfold maxLen; omega
                      · have := hQl.out; omega
                      intro v8 w8 o8 gr8 _
                      have f8 : Fr (rowB u6) _ w8 := (Fr.refl _ _).grown gr8 (fun k hk _ => hk)
                      have JF := Lib.hid (chunk_next JC.out _ hsub.out o8 f8)
                      clear o8 gr8 f8 cC oC JC
                      go_wp2_with fail
                      go_roundg (1 - (0 + 1))
                      case rel => exact ⟨0 + 1, _, by decide, by go_num, JF⟩
                      case measure => exact hmeas3.out
                    · have e5 : ¬ 0 = lc := fun e => hc0 e.symm
                      have e6 : 0 < lc := by omega
                      go_upto_region 21 with fail
                      have hq20' : True := trivial
                      have hsub : MsW w (mChunk i 7 1 0 1 (.slice (some ad) 0 lc)) (chM i 0 l) := by
                        unfold chM
                        rw [hnn.out]
                        exact ⟨_, rfl, hrd0.out _ _ (fun e => by cases e) (Nat.le_refl _)⟩
                      have fC : Fr noB wr (wr.alloc (.cells #[mChunk i 7 1 0 1 (.slice (some ad) 0 lc)] 41)) := (Fr.refl _ _).alloc _
                      have JC := hJ.out.frN fC
                      have oC := JC.q.own
                      have cC := cell_new wr (mChunk i 7 1 0 1 (.slice (some ad) 0 lc)) 41
                      have hwC : w.heap.size ≤ (wr.alloc (.cells #[mChunk i 7 1 0 1 (.slice (some ad) 0 lc)] 41)).heap.size := JC.fr.size
                      have hQl : Q2.length ≤ 100 := by
                        have h1 := congrArg List.length hJ.out.q.qs
                        simp only [List.length_map, List.length_append, List.length_range] at h1
                        have h2 := chunks_len (R.take i) 0 (fun l hl => (hJ.out.ok l (by rw [take_snoc hl0.out]; exact List.mem_append_left _ hl)).1)
                        have h3 : (R.take i).length ≤ 3 := by rw [List.length_take]; have := hi4.out; omega
                        omega
                      replace JC := Lib.hid JC
                      replace hsub := Lib.hid hsub
                      replace hwC := Lib.hid hwC
                      replace hQl := Lib.hid hQl
                      clear fC hJ
                      unfold mChunk at oC cC JC hsub hwC
                      go_wp2_with (first
                        | (at_builtin; go_must (refine wpList_append_at _ rfl (.tmp 98) (.tmp 117) 60 rfl w.heap.size 41 j0 _ 1 16 Try.underlying60 hj0 hy0 hy1 hy2 rfl (by decide) _ Q2.length (Q2.map Prod.fst) rfl oC ⟨wr.heap.size, 0, none⟩ 1 1 [.iface 67 (.agg #[.int .i64 i, .int .i64 7, .int .i64 1, .int .i64 0, .int .i64 1, .slice (some ad) 0 lc])] rfl rfl cC (by intro u hu; obtain rfl := List.mem_singleton.1 hu; rfl) ?_ ?_ hwC.out ?_))
                        | fail)
                      · have := hQl.out; unfold maxLen; omega
                      · have := hQl.out; omega
                      intro v8 w8 o8 gr8 _
                      have f8 : Fr (rowB u6) _ w8 := (Fr.refl _ _).grown gr8 (fun k hk _ => hk)
                      have JF := Lib.hid (chunk_next JC.out _ hsub.out o8 f8)
                      clear o8 gr8 f8 cC oC JC
                      go_wp2_with fail
                      go_roundg (1 - (0 + 1))
                      case rel => exact ⟨0 + 1, _, by decide, by go_num, JF⟩
                      case measure => exact hmeas3.out
                · obtain ⟨s0, hs0⟩ : ∃ s, l[0]? = some s := ⟨_, List.getElem?_eq_getElem (by have hlk2 : l.length = k := hn.out; omega)⟩
                  obtain ⟨g3, o3, rfl, _⟩ := hl4.out 0 s0 hs0
                  have hsu2 := hsu.out
                  have hrd := hsu2.sub lo hi hlh (by have hlk2 : l.length = k := hn.out; omega)
                  rw [hch] at hrd
                  have e1 : ¬ lc - lo = 0 := by omega
                  have e2 : ¬ lo = lc := by omega
                  have e3 : ¬ lc = lo := by omega
                  have e4 : lo < lc := by omega
                  replace hlo := Lib.hid hlo
                  replace hhi := Lib.hid hhi
                  replace hmeas3 := Lib.hid hmeas3
                  replace hkn4 := Lib.hid hkn4
                  replace hrd := Lib.hid hrd
                  replace hch := Lib.hid hch
                  clear hsu2 hs0 hk hnn2
                  go_upto_region 21 with fail
                  have hq20' : q < 20 := hq20
                  have hsub : MsW w (mChunk i 7 1 q nn (.slice (some ⟨g3, o3 + lo * 3, none⟩) (hi - lo) (lc - lo))) (chM i q l) := by
                    unfold chM
                    rw [hnn.out]
                    exact ⟨_, rfl, hrd.out⟩
                  have fC : Fr noB wr (wr.alloc (.cells #[mChunk i 7 1 q nn (.slice (some ⟨g3, o3 + lo * 3, none⟩) (hi - lo) (lc - lo))] 41)) := (Fr.refl _ _).alloc _
                  have JC := hJ.out.frN fC
                  have oC := JC.q.own
                  have cC := cell_new wr (mChunk i 7 1 q nn (.slice (some ⟨g3, o3 + lo * 3, none⟩) (hi - lo) (lc - lo))) 41
                  have hwC : w.heap.size ≤ (wr.alloc (.cells #[mChunk i 7 1 q nn (.slice (some ⟨g3, o3 + lo * 3, none⟩) (hi - lo) (lc - lo))] 41)).heap.size := JC.fr.size
                  have hQl : Q2.length ≤ 100 := by
                    have h1 := congrArg List.length hJ.out.q.qs
                    simp only [List.length_map, List.length_append, List.length_range] at h1
                    have h2 := chunks_len (R.take i) 0 (fun l hl => (hJ.out.ok l (by rw [take_snoc hl0.out]; exact List.mem_append_left _ hl)).1)
                    have h3 : (R.take i).length ≤ 3 := by rw [List.length_take]; have := hi4.out; omega
                    omega
                  replace JC := Lib.hid JC
                  replace hsub := Lib.hid hsub
                  replace hwC := Lib.hid hwC
                  replace hQl := Lib.hid hQl
                  clear fC hJ
                  unfold mChunk at oC cC JC hsub hwC
                  go_wp2_with (first
                    | (at_builtin; go_must (refine wpList_append_at _ rfl (.tmp 98) (.tmp 117) 60 rfl w.heap.size 41 j0 _ 1 16 Try.underlying60 hj0 hy0 hy1 hy2 rfl (by decide) _ Q2.length (Q2.map Prod.fst) rfl oC ⟨wr.heap.size, 0, none⟩ 1 1 [.iface 67 (.agg #[.int .i64 i, .int .i64 7, .int .i64 1, .int .i64 q, .int .i64 nn, .slice (some ⟨g3, o3 + lo * 3, none⟩) (hi - lo) (lc - lo)])] rfl rfl cC (by intro u hu; obtain rfl := List.mem_singleton.1 hu; rfl) ?_ ?_ hwC.out ?_))
                    | fail)
                  · have := hQl.out; unfold maxLen; omega
                  · have := hQl.out; omega
                  intro v8 w8 o8 gr8 _
                  have f8 : Fr (rowB u6) _ w8 := (Fr.refl _ _).grown gr8 (fun k hk _ => hk)
                  have JF := Lib.hid (chunk_next JC.out _ hsub.out o8 f8)
                  clear o8 gr8 f8 cC oC JC
                  go_wp2_with fail
                  go_roundg (nn - (q + 1))
                  case rel => exact ⟨q + 1, _, hkn4.out, by go_num, JF⟩
                  case measure => exact hmeas3.out
              · obtain rfl : q = nn := by omega
                have hF := hJ.out
                rw [← hnn.out] at hF
                have hI5 := Lib.hid (hF.fin hl.out)
                clear hJ hF
                go_wp2_with fail
                go_roundg (N - (i + 1))
                case rel => exact ⟨i + 1, _, _, _, _, hkn2.out, by go_num, hI5⟩
                case measure => exact hmeas.out
    · obtain rfl : i = N := by omega
      have hcl := hI.out
      have htk : R.take i = R := List.take_of_length_le (by rw [hN.out]; exact Nat.le_refl _)
      have hRok : RowsOk R := ⟨by rw [hN.out]; exact hN4.out.1, by rw [hN.out]; exact hN4.out.2.1, fun l hl => hcl.ok l (by rw [htk]; exact hl)⟩
      have k0 : wr.cell? ⟨mb, 0, none⟩ = some (.int .i64 7) := hcl.bm.cell 0
      have k1 : wr.cell? ⟨mb, 1, none⟩ = some (.int .i64 1) := hcl.bm.cell 1
      have k2 : wr.cell? ⟨mb, 2, none⟩ = some (.int .i64 0) := hcl.bm.cell 2
      have k3 : wr.cell? ⟨mb, 3, none⟩ = some (.slice pa i pc) := hcl.bm.cell 3
      have hopn : ∀ W : World, ∀ u ∈ P, W.ownsRow w.heap.size 3 1 u.v u.p.cr.length (u.p.cr.map (Value.int .i64)) := fun W u hu => by
        obtain ⟨h1, h2, h3⟩ := hcl.pn u hu
        unfold PU.v
        rw [h1, h2, h3]
        exact ⟨rfl, Or.inl ⟨rfl, rfl⟩⟩
      have hppR : P.map PU.p = partsM 0 R := by rw [hcl.pp, htk]
      have hplR := hcl.pl
      have fC : Fr noB wr (wr.alloc (.cells #[mManifest 7 1 0 (.slice pa i pc)] 41)) := (Fr.refl _ _).alloc _
      have oC := (hcl.q.frN fC).own
      have cC := cell_new wr (mManifest 7 1 0 (.slice pa i pc)) 41
      have hwC : w.heap.size ≤ (wr.alloc (.cells #[mManifest 7 1 0 (.slice pa i pc)] 41)).heap.size := (hcl.fr.seqN fC).size
      have hQ80 : Q.length ≤ 80 := by
        have h1 := congrArg List.length hcl.q.qs
        rw [List.length_map] at h1
        have h2 := chunks_len (R.take i) 0 (fun l hl => (hcl.ok l hl).1)
        have h3 : (R.take i).length ≤ 4 := by rw [List.length_take]; have := hN4.out; omega
        omega
      have owC := ownsRow_fr hcl.ow fC (fun _ _ q => q)
      have frC := hcl.fr.seqN fC
      have hqm := hcl.q.qm
      have hqs := hcl.q.qs
      rw [htk] at hqs
      replace owC := Lib.hid owC
      replace hopn := Lib.hid hopn
      replace hppR := Lib.hid hppR
      replace hplR := Lib.hid hplR
      replace frC := Lib.hid frC
      replace hwC := Lib.hid hwC
      replace hQ80 := Lib.hid hQ80
      replace hqm := Lib.hid hqm
      replace hqs := Lib.hid hqs
      replace hRok := Lib.hid hRok
      clear fC hcl hI htk
      unfold mManifest at oC cC hwC owC frC
      go_wp2_with (first
        | (at_builtin; go_must (refine wpList_append_at _ rfl (.tmp 121) (.tmp 124) 60 rfl w.heap.size 41 j0 _ 1 16 Try.underlying60 hj0 hy0 hy1 hy2 rfl (by decide) _ Q.length (Q.map Prod.fst) rfl oC ⟨wr.heap.size, 0, none⟩ 1 1 [.iface 59 (.agg #[.int .i64 7, .int .i64 1, .int .i64 0, .slice pa i pc])] rfl rfl cC (by intro u hu; obtain rfl := List.mem_singleton.1 hu; rfl) ?_ ?_ hwC.out ?_))
        | fail)
      · have := hQ80.out; unfold maxLen; omega
      · have := hQ80.out; omega
      intro v5 w5 o5 gr5 _
      have f5 : Fr (rowB u6) _ w5 := (Fr.refl _ _).grown gr5 (fun k hk _ => hk)
      have fr5 : Fr noB w w5 := frC.out.trans f5 (fun _ _ q => q) (fun i hi q => by have := (oC.lt i q).1; omega)
      have ow5 := ownsRow_fr owC.out f5 (own_apart owC.out oC (by decide))
      have hrd5 : RdPs w5 (.slice pa i pc) (partsM 0 R) := RdPs.of_own ow5 (hopn.out w5) hppR.out hplR.out (by have := hN4.out; omega)
      have hMl : Hid ((allM R).length = Q.length + 1) := Lib.hid (by
        have h1 := congrArg List.length hqs.out
        rw [List.length_map] at h1
        unfold allM
        rw [List.length_append, ← h1]; rfl)
      obtain ⟨M, hM⟩ : ∃ M, Q.length + 1 = M := ⟨_, rfl⟩
      rw [hM] at o5 hMl
      obtain ⟨g5, c5, rfl, hg5⟩ := ownsRow_some o5 (by omega)
      have hget : ∀ j, j < M → ∃ u m, w5.cell? ⟨g5, j, none⟩ = some u ∧ MsW w5 u m ∧ (allM R)[j]? = some m := fun j hj => by
        have hcell : ∀ u, (Q.map Prod.fst ++ [.iface 59 (.agg #[.int .i64 7, .int .i64 1, .int .i64 0, .slice pa i pc])])[j]? = some u → w5.cell? ⟨g5, j, none⟩ = some u := fun u hu => by
          have := o5.cells (g := g5) rfl j u hu
          rw [add_none, Nat.zero_add] at this
          exact this
        by_cases hjq : j < Q.length
        · obtain ⟨x, hx⟩ : ∃ x, Q[j]? = some x := ⟨_, List.getElem?_eq_getElem hjq⟩
          refine ⟨x.1, x.2, hcell _ (by rw [List.getElem?_append_left (by rw [List.length_map]; exact hjq), List.getElem?_map, hx]; rfl), (hqm.out x (List.mem_of_getElem? hx)).frN fr5, ?_⟩
          unfold allM
          rw [← hqs.out, List.getElem?_append_left (by rw [List.length_map]; exact hjq), List.getElem?_map, hx]; rfl
        · have ej : j = Q.length := by omega
          subst ej
          refine ⟨_, .manifest 7 1 0 (partsM 0 R), hcell _ (by rw [List.getElem?_append_right (by rw [List.length_map]; exact Nat.le_refl _), List.length_map, Nat.sub_self]; rfl), ⟨_, rfl, ?_⟩, ?_⟩
          · exact hrd5
          · unfold allM
            rw [← hqs.out, List.getElem?_append_right (by rw [List.length_map]; exact Nat.le_refl _), List.length_map, Nat.sub_self]; rfl
      have hM1 : 0 < M := by omega
      have hM81 : M ≤ 81 := by have := hQ80.out; omega
      have hMc : M ≤ c5 := by
        rcases o5.2 with ⟨q, _⟩ | ⟨g', cap', cur, q1, q2, q3, q4, q5, q6, q7⟩
        · cases q
        · injection q1 with _ _ q8
          omega
      replace hget := Lib.hid hget
      replace fr5 := Lib.hid fr5
      have hnew := Lib.hid (new_v 7 1 w5)
      have hg5l : g5 < w5.heap.size := (o5.lt g5 rfl).2
      clear o5 gr5 f5 oC cC hwC frC owC ow5 hrd5 hopn hppR hplR hqm hqs hQ80 hM hg5 k0 k1 k2 k3
      go_wp2_with fail
      go_fit hnew.out
      rintro e w6 ⟨p, bm, D0, rfl, hV⟩
      have hS0 : Hid (OkS R ⟨7, 1, none, []⟩) := Lib.hid ⟨rfl, rfl, Or.inl rfl, fun a t L h => by cases h⟩
      have fh0 : Hid (Fr (hiB w5.heap.size) w5 w6) := Lib.hid (hV.fr0.toH)
      replace hV := Lib.hid hV
      clear hnew
      go_wp2_with fail
      go_loopg [129] X (fun gk ix wr => ∃ (k : Nat) (s : PS) (D : Nat → Prop), k + gk = X ∧ ix = .int .i64 k ∧ Hid (AsmV w5 wr p bm D s) ∧ Hid (OkS R s) ∧ Hid (Fr (hiB w5.heap.size) w5 wr))
      case atStart => exact ⟨0, _, D0, Nat.zero_add _, rfl, hV, hS0, fh0⟩
      case round =>
        clear hV hS0 fh0
        obtain ⟨k, s, D, hk, rfl, hV, hS, fh⟩ := hrel
        by_cases hlt2 : k < X
        · obtain ⟨go, oo, rfl, hco, hx0, hx255⟩ := ho.out k hlt2
          have co := fh.out.cell (fr5.out.cell hco (fun q => q)) (fun q => by have := lt_of_cell (fr5.out.cell hco (fun q => q)); unfold hiB at q; omega)
          obtain ⟨x, hxx⟩ : ∃ x, xs.getD k 0 = x := ⟨_, rfl⟩
          rw [hxx] at co hx0 hx255
          have hb1 : (k : Int) < X := by omega
          have hmeas2 : X - (k + 1) < gk := by omega
          have hkn3 : k + 1 + (X - (k + 1)) = X := by omega
          replace hmeas2 := Lib.hid hmeas2
          replace hkn3 := Lib.hid hkn3
          replace hxx := Lib.hid hxx
          clear hk hco
          have hr0 : 0 ≤ x % (M : Int) := Int.emod_nonneg _ (by omega)
          have hr1 : x % (M : Int) < M := Int.emod_lt_of_pos _ (by omega)
          obtain ⟨u, m, hcu, hmu, hmm⟩ := hget.out (x % (M : Int)).toNat (by omega)
          have cu := fh.out.cell hcu (fun q => by unfold hiB at q; omega)
          have hh := hear_v w5 p bm D s m u wr hV.out (hmu.frH fh.out)
          obtain ⟨hS1, _, _⟩ := hear_ok hRok.out hS.out (List.mem_of_getElem? hmm)
          have hge := hV.out.ge
          replace hS1 := Lib.hid hS1
          replace hh := Lib.hid hh
          replace hge := Lib.hid hge
          clear hmu hmm hcu hS hV
          go_upto_region 29 with fail
          go_wp2_with fail
          go_fit hh.out
          rintro e w7 ⟨rfl, f7, D', hV', hn'⟩
          have fh7 := Lib.hid (fh.out.trans f7 (fun _ _ q => q) (fun g _ q => hge.out g q))
          replace hV' := Lib.hid hV'
          clear f7 hn' hh cu co fh hge
          go_wp2_with fail
          go_roundg (X - (k + 1))
          case rel => exact ⟨k + 1, _, D', hkn3.out, by go_num, hV', hS1, fh7⟩
          case measure => exact hmeas2.out
        · obtain rfl : k = X := by omega
          have hIn0 : Hid (∀ j m, M - 0 ≤ j → (allM R)[j]? = some m → InS s m) := Lib.hid (fun j m hj hm => by
            have := (List.getElem?_eq_some_iff.1 hm).1
            rw [hMl.out] at this
            omega)
          go_wp2_with fail
          go_loopg [146] M (fun gk ix wr => ∃ (k : Nat) (s : PS) (D : Nat → Prop), k + gk = M ∧ ix = .int .i64 k ∧ Hid (AsmV w5 wr p bm D s) ∧ Hid (OkS R s) ∧ Hid (∀ j m, M - k ≤ j → (allM R)[j]? = some m → InS s m) ∧ Hid (Fr (hiB w5.heap.size) w5 wr))
          case atStart => exact ⟨0, s, D, Nat.zero_add _, rfl, hV, hS, hIn0, fh⟩
          case round =>
            clear hIn0 hV hS fh
            obtain ⟨k, s, D, hk, rfl, hV, hS, hIn, fh⟩ := hrel
            have hrc := Lib.hid (record_v w5 p bm D s wr hV.out)
            by_cases hlt2 : k < M
            · have hb1 : (k : Int) < M := by omega
              have hmeas2 : M - (k + 1) < gk := by omega
              have hkn3 : k + 1 + (M - (k + 1)) = M := by omega
              have ej : ((M : Int) - 1 - (k : Int)).toNat = M - 1 - k := by omega
              have ej0 : 0 ≤ (M : Int) - 1 - (k : Int) := by omega
              have ej1 : (M : Int) - 1 - (k : Int) < M := by omega
              obtain ⟨u, m, hcu0, hmu, hmm⟩ := hget.out (M - 1 - k) (by omega)
              have hcu : w5.cell? ⟨g5, ((M : Int) - 1 - (k : Int)).toNat, none⟩ = some u := by rw [ej]; exact hcu0
              obtain ⟨hS1, hS2, hS3⟩ := hear_ok hRok.out hS.out (List.mem_of_getElem? hmm)
              have hIn2 : ∀ j m', M - (k + 1) ≤ j → (allM R)[j]? = some m' → InS (s.hear m).2 m' := fun j m' hj hm' => by
                by_cases e : j = M - 1 - k
                · rw [e, hmm] at hm'
                  injection hm' with hm'
                  rw [← hm']
                  exact hS2
                · exact hS3 m' (List.mem_of_getElem? hm') (hIn.out j m' (by omega) hm')
              replace hS1 := Lib.hid hS1
              replace hIn2 := Lib.hid hIn2
              replace hmu := Lib.hid hmu
              replace hmeas2 := Lib.hid hmeas2
              replace hkn3 := Lib.hid hkn3
              replace hcu0 := Lib.hid hcu0
              clear hS2 hS3 hmm hk hS hIn ej
              go_wp2_with fail
              go_fit hrc.out
              rintro e w7 ⟨f7, hno, hyes⟩
              clear hrc
              cases hrec : s.recd with
              | none =>
                obtain rfl := hno hrec
                unfold noRec
                clear hno hyes hrec
                have f8 : Fr noB wr (w7.alloc (.cells #[.int .i64 0, .int .i64 0, .int .i64 0, .bool false, .slice none 0 0] 50)) := f7.alloc _
                have hV8 := hV.out.frN f8
                have hms := missing_v w5 p bm D s _ hV8
                obtain ⟨ml, hml⟩ : ∃ ml, s.miss.length = ml := ⟨_, rfl⟩
                rw [hml] at hms
                have fh8 := Lib.hid (fh.out.trans f8 (fun _ _ q => q) (fun _ _ q => False.elim q))
                replace hV8 := Lib.hid hV8
                replace hms := Lib.hid hms
                clear f7 f8 hV fh hml
                go_wp2_with fail
                go_fit hms.out
                rintro e w8 ⟨vm, rfl, om, f9⟩
                obtain ⟨xa, xc, rfl⟩ := ownsRow_slice om
                have hV9 := hV8.out.frN f9
                have fh9 := fh8.out.trans f9 (fun _ _ q => q) (fun _ _ q => False.elim q)
                have cu := fh9.cell hcu (fun q => by unfold hiB at q; omega)
                have cu2 := fh9.cell hcu0.out (fun q => by unfold hiB at q; omega)
                have hh := hear_v w5 p bm D s m u w8 hV9 (hmu.out.frH fh9)
                have hge := hV9.ge
                replace hh := Lib.hid hh
                replace fh9 := Lib.hid fh9
                replace hge := Lib.hid hge
                clear hms hV8 fh8 om f9 hV9
                by_cases h0 : ml = 0
                · have e1 : ((ml : Int) == 0) = true := by simp; omega
                  have e2 : ((k : Int) == (M : Int)) = false := by simp; omega
                  replace h0 := Lib.hid h0
                  go_wp2_with fail
                  go_fit hh.out
                  rintro e w10 ⟨rfl, f10, D', hV', hn'⟩
                  have fh10 := Lib.hid (fh9.out.trans f10 (fun _ _ q => q) (fun g _ q => hge.out g q))
                  replace hV' := Lib.hid hV'
                  clear f10 hn' hh cu cu2 fh9 hge
                  go_wp2_with fail
                  go_roundg (M - (k + 1))
                  case rel => exact ⟨k + 1, _, D', hkn3.out, by go_num, hV', hS1, hIn2, fh10⟩
                  case measure => exact hmeas2.out
                · have e1 : ((ml : Int) == 0) = false := by simp; omega
                  have e2 : ((k : Int) == (M : Int)) = false := by simp; omega
                  replace h0 := Lib.hid h0
                  go_wp2_with fail
                  go_fit hh.out
                  rintro e w10 ⟨rfl, f10, D', hV', hn'⟩
                  have fh10 := Lib.hid (fh9.out.trans f10 (fun _ _ q => q) (fun g _ q => hge.out g q))
                  replace hV' := Lib.hid hV'
                  clear f10 hn' hh cu cu2 fh9 hge
                  go_wp2_with fail
                  go_roundg (M - (k + 1))
                  case rel => exact ⟨k + 1, _, D', hkn3.out, by go_num, hV', hS1, hIn2, fh10⟩
                  case measure => exact hmeas2.out
              | some x =>
                obtain ⟨c, L⟩ := x
                obtain ⟨vR, U, he, oR, _, _⟩ := hyes c L hrec
                obtain ⟨ta, tc, rfl⟩ := ownsRow_slice oR
                obtain ⟨wl, hwl⟩ : ∃ wl, wholeL L = wl := ⟨_, rfl⟩
                obtain ⟨ul, hul⟩ : ∃ ul, U.length = ul := ⟨_, rfl⟩
                obtain ⟨st, hst⟩ : ∃ st, s.tr = st := ⟨_, rfl⟩
                obtain ⟨sj, hsj⟩ : ∃ sj, s.jb = sj := ⟨_, rfl⟩
                rw [hwl, hul, hst, hsj] at he
                subst he
                clear hno hyes hrec oR hwl hul hst hsj
                have f8 : Fr noB wr (w7.alloc (.cells #[.int .i64 st, .int .i64 sj, .int .i64 c, .bool wl, .slice ta ul tc] 50)) := f7.alloc _
                have hV8 := hV.out.frN f8
                have hms := missing_v w5 p bm D s _ hV8
                obtain ⟨ml, hml⟩ : ∃ ml, s.miss.length = ml := ⟨_, rfl⟩
                rw [hml] at hms
                have fh8 := Lib.hid (fh.out.trans f8 (fun _ _ q => q) (fun _ _ q => False.elim q))
                replace hV8 := Lib.hid hV8
                replace hms := Lib.hid hms
                clear f7 f8 hV fh hml
                go_wp2_with fail
                go_fit hms.out
                rintro e w8 ⟨vm, rfl, om, f9⟩
                obtain ⟨xa, xc, rfl⟩ := ownsRow_slice om
                have hV9 := hV8.out.frN f9
                have fh9 := fh8.out.trans f9 (fun _ _ q => q) (fun _ _ q => False.elim q)
                have cu := fh9.cell hcu (fun q => by unfold hiB at q; omega)
                have cu2 := fh9.cell hcu0.out (fun q => by unfold hiB at q; omega)
                have hh := hear_v w5 p bm D s m u w8 hV9 (hmu.out.frH fh9)
                have hge := hV9.ge
                replace hh := Lib.hid hh
                replace fh9 := Lib.hid fh9
                replace hge := Lib.hid hge
                clear hms hV8 fh8 om f9 hV9
                by_cases h0 : ml = 0
                · have e1 : ((ml : Int) == 0) = true := by simp; omega
                  have e2 : ((k : Int) == (M : Int)) = false := by simp; omega
                  replace h0 := Lib.hid h0
                  go_wp2_with fail
                  go_fit hh.out
                  rintro e w10 ⟨rfl, f10, D', hV', hn'⟩
                  have fh10 := Lib.hid (fh9.out.trans f10 (fun _ _ q => q) (fun g _ q => hge.out g q))
                  replace hV' := Lib.hid hV'
                  clear f10 hn' hh cu cu2 fh9 hge
                  go_wp2_with fail
                  go_roundg (M - (k + 1))
                  case rel => exact ⟨k + 1, _, D', hkn3.out, by go_num, hV', hS1, hIn2, fh10⟩
                  case measure => exact hmeas2.out
                · have e1 : ((ml : Int) == 0) = false := by simp; omega
                  have e2 : ((k : Int) == (M : Int)) = false := by simp; omega
                  replace h0 := Lib.hid h0
                  go_wp2_with fail
                  go_fit hh.out
                  rintro e w10 ⟨rfl, f10, D', hV', hn'⟩
                  have fh10 := Lib.hid (fh9.out.trans f10 (fun _ _ q => q) (fun g _ q => hge.out g q))
                  replace hV' := Lib.hid hV'
                  clear f10 hn' hh cu cu2 fh9 hge
                  go_wp2_with fail
                  go_roundg (M - (k + 1))
                  case rel => exact ⟨k + 1, _, D', hkn3.out, by go_num, hV', hS1, hIn2, fh10⟩
                  case measure => exact hmeas2.out
            · obtain rfl : k = M := by omega
              have hall : ∀ m ∈ allM R, InS s m := fun m hm => by
                obtain ⟨j, hj⟩ := List.getElem?_of_mem hm
                exact hIn.out j m (by omega) hj
              obtain ⟨hrec, hwl⟩ := recd_all hRok.out hS.out hall
              have hrcd := hrc.out
              rw [hrec, hS.out.tr, hS.out.jb] at hrcd
              replace hrcd := Lib.hid hrcd
              replace hwl := Lib.hid hwl
              clear hrc hIn hall hrec
              go_wp2_with fail
              go_fit hrcd.out
              rintro e w7 ⟨f7, _, hyes⟩
              obtain ⟨vR, U, he, oR, oU, hU⟩ := hyes _ _ rfl
              rw [hwl.out] at he
              have hUl : U.length = i := by
                have := congrArg List.length hU
                rw [List.length_map, pairsM_len, hN.out] at this
                exact this
              rw [hUl] at oR
              obtain ⟨gR, cR, rfl, _⟩ := ownsRow_some oR (by have := hN4.out; omega)
              subst he
              have hRc : i ≤ cR := by
                rcases oR.2 with ⟨q, _⟩ | ⟨g', cap', cur, q1, q2, q3, q4, q5, q6, q7⟩
                · cases q
                · injection q1 with _ _ q8
                  omega
              have f57 : Fr (hiB w5.heap.size) w5 w7 := fh.out.trans f7 (fun _ _ q => q) (fun _ _ q => False.elim q)
              have hcell7 : ∀ g o v, w.cell? ⟨g, o, none⟩ = some v → w7.cell? ⟨g, o, none⟩ = some v := fun g o v hc => f57.cell (fr5.out.cell hc (fun q => q)) (fun q => by have := lt_of_cell (fr5.out.cell hc (fun q => q)); unfold hiB at q; omega)
              have fz7 : Fr noB w w7 := fr5.out.trans f57 (fun _ _ q => q) (fun g hg q => by have := fr5.out.size; unfold hiB at q; omega)
              have hpart : ∀ j, j < i → ∃ l ua uc sa sc cl cc, R[j]? = some l ∧ RdSp w7 (.slice sa l.length sc) l ∧ w7.cell? ⟨gR, j * 4, none⟩ = some (.int .i64 j) ∧ w7.cell? ⟨gR, j * 4 + 1, none⟩ = some (.slice sa l.length sc) ∧ w7.cell? ⟨gR, j * 4 + 2, none⟩ = some (.slice ua cl uc) ∧ w7.cell? ⟨gR, j * 4 + 3, none⟩ = some (.bool cc) := fun j hj => by
                obtain ⟨l, hl⟩ : ∃ l, R[j]? = some l := ⟨_, List.getElem?_eq_getElem (by rw [hN.out]; exact hj)⟩
                obtain ⟨y, hy⟩ : ∃ y, U[j]? = some y := ⟨_, List.getElem?_eq_getElem (by omega)⟩
                have hp := pairsM_get R 0 j l hl
                rw [← hU, List.getElem?_map, hy, Nat.zero_add] at hp
                injection hp with hp
                have hp1 : y.p = partM j l := congrArg Prod.fst hp
                have hp2 : y.S = l := congrArg Prod.snd hp
                have hc : ∀ q v, y.cs[q]? = some v → w7.cell? ⟨gR, j * 4 + q, none⟩ = some v := fun q v hv => by
                  have := oR.cells (g := gR) rfl (j * 4 + q) v (by rw [ru_get U j q y hy (by have := (List.getElem?_eq_some_iff.1 hv).1; exact this)]; exact hv)
                  rw [add_none, Nat.zero_add] at this
                  exact this
                have ho := (oU y (List.mem_of_getElem? hy)).1
                rw [hp2] at ho
                refine ⟨l, y.ca, y.cc, y.sa, y.sc, y.p.cr.length, y.p.lo, hl, RdSp.of_own ho rfl, ?_, ?_, hc 2 _ rfl, hc 3 _ rfl⟩
                · have := hc 0 _ rfl; rw [hp1] at this; exact this
                · have := hc 1 _ rfl; rw [hp2] at this; exact this
              have hrow7 : ∀ j l, R[j]? = some l → ∃ g o u, ra = some ⟨g, o, none⟩ ∧ w7.cell? ⟨g, o + j, none⟩ = some u ∧ RdSp w7 u l := fun j l hl => by
                obtain ⟨g, o, u, e, hc, hs⟩ := hr3.out j l hl
                exact ⟨g, o, u, e, hcell7 _ _ _ hc, by
                  have h5 := hs.frN fr5.out
                  obtain ⟨a', c', rfl, hq1, hq2, hq3, hq4⟩ := h5
                  refine ⟨a', c', rfl, hq1, hq2, hq3, fun i' s' hi' => ?_⟩
                  obtain ⟨g', o', e', d0, d1, d2⟩ := hq4 i' s' hi'
                  have hne : ∀ q, w5.cell? ⟨g', q, none⟩ ≠ none → ¬ hiB w5.heap.size g' := fun q hq hh => by
                    cases hc' : w5.cell? ⟨g', q, none⟩ with
                    | none => exact hq hc'
                    | some v' => have := lt_of_cell hc'; unfold hiB at hh; omega
                  exact ⟨g', o', e', f57.cell d0 (hne _ (by rw [d0]; simp)), f57.cell d1 (hne _ (by rw [d1]; simp)), f57.cell d2 (hne _ (by rw [d2]; simp))⟩⟩
              have fB : Fr noB w7 (w7.alloc (.cells #[.int .i64 7, .int .i64 1, .int .i64 0, .bool true, .slice (some ⟨gR, 0, none⟩) i cR] 50)) := (Fr.refl _ _).alloc _
              have bB := Blk.new w7 50 [.int .i64 7, .int .i64 1, .int .i64 0, .bool true, .slice (some ⟨gR, 0, none⟩) i cR]
              obtain ⟨rb, hrb⟩ : ∃ rb, w7.heap.size = rb := ⟨_, rfl⟩
              rw [hrb] at bB
              have t3 : (w7.alloc (.cells #[.int .i64 7, .int .i64 1, .int .i64 0, .bool true, .slice (some ⟨gR, 0, none⟩) i cR] 50)).cell? ⟨rb, 3, none⟩ = some (.bool true) := bB.cell 3
              have t4 : (w7.alloc (.cells #[.int .i64 7, .int .i64 1, .int .i64 0, .bool true, .slice (some ⟨gR, 0, none⟩) i cR] 50)).cell? ⟨rb, 4, none⟩ = some (.slice (some ⟨gR, 0, none⟩) i cR) := bB.cell 4
              have hi4 : 1 ≤ i ∧ i ≤ 4 := ⟨hN4.out.1, hN4.out.2.1⟩
              have hrl : Hid (i ≤ rc) := Lib.hid hr1
              replace hpart := Lib.hid hpart
              replace hrow7 := Lib.hid hrow7
              replace fz7 := Lib.hid fz7
              replace fB := Lib.hid fB
              clear hyes oR oU hU f57 hcell7 f7 hrcd bB fh hV hS hget ho hr3
              go_upto_region 40 with fail
              try rw [hrb]
              clear hrb
              generalize (w7.alloc (.cells #[.int .i64 7, .int .i64 1, .int .i64 0, .bool true, .slice (some ⟨gR, 0, none⟩) i cR] 50)) = w8 at *
              have e8 : ((i : Int) != (i : Int)) = false := by simp
              go_wp2_with fail
              go_loopg [200] i (fun gk ix wr => ∃ k : Nat, k + gk = i ∧ ix = .int .i64 k ∧ Hid (Fr noB w7 wr))
              case atStart => exact ⟨0, Nat.zero_add _, rfl, fB⟩
              case round =>
                clear t3 t4 fB
                obtain ⟨k, hk, rfl, fr⟩ := hrel
                by_cases hlt3 : k < i
                · obtain ⟨l, ua, uc, sa, sc, cl, cc, hl, hsl, d0, d1, d2, d3⟩ := hpart.out k hlt3
                  obtain ⟨g6, o6, u6', rfl, hcu, hsu⟩ := hrow7.out k l hl
                  obtain ⟨la, lc, rfl, _⟩ := id hsu
                  replace d0 := fr.out.cell d0 (fun q => q)
                  replace d1 := fr.out.cell d1 (fun q => q)
                  replace d2 := fr.out.cell d2 (fun q => q)
                  replace d3 := fr.out.cell d3 (fun q => q)
                  obtain ⟨n, hn⟩ : ∃ n, l.length = n := ⟨_, rfl⟩
                  rw [hn] at hsl d1 hsu hcu
                  have fX : Fr noB wr (wr.alloc (.cells #[.int .i64 k, .slice sa n sc, .slice ua cl uc, .bool cc] 69)) := (Fr.refl _ _).alloc _
                  have bX := Blk.new wr 69 [.int .i64 k, .slice sa n sc, .slice ua cl uc, .bool cc]
                  have f7X := fr.out.seqN fX
                  obtain ⟨pb, hpb⟩ : ∃ pb, wr.heap.size = pb := ⟨_, rfl⟩
                  rw [hpb] at bX
                  have hb1 : (k : Int) < i := by omega
                  have hmeas2 : i - (k + 1) < gk := by omega
                  have hkn3 : k + 1 + (i - (k + 1)) = i := by omega
                  have ekk : ((k : Int) != (k : Int)) = false := by simp
                  have hS9 : ∀ w', Fr noB (wr.alloc (.cells #[.int .i64 k, .slice sa n sc, .slice ua cl uc, .bool cc] 69)) w' → w'.cell? ⟨pb, 0, none⟩ = some (.int .i64 k) ∧ w'.cell? ⟨pb, 1, none⟩ = some (.slice sa n sc) ∧ w'.cell? ⟨g6, o6 + k, none⟩ = some (.slice la n lc) := fun w' f => ⟨(f.blk bX (fun q => q)).cell 0, (f.blk bX (fun q => q)).cell 1, (f7X.seqN f).cell hcu (fun q => q)⟩
                  have hsm : ∀ w', Fr noB (wr.alloc (.cells #[.int .i64 k, .slice sa n sc, .slice ua cl uc, .bool cc] 69)) w' → Calls Try.prog 21 #[.slice sa n sc, .slice la n lc] w' fun e w'' => e = .returned (.bool true) ∧ Fr noB w' w'' := fun w' f => same_any _ _ l w' (hsl.frN (f7X.seqN f)) (hsu.frN (f7X.seqN f))
                  replace f7X := Lib.hid f7X
                  replace hS9 := Lib.hid hS9
                  replace hsm := Lib.hid hsm
                  replace hmeas2 := Lib.hid hmeas2
                  replace hkn3 := Lib.hid hkn3
                  replace hn := Lib.hid hn
                  have hkrc : k < rc := by have := hrl.out; omega
                  clear hk hl hsl hsu hcu fX bX fr
                  go_upto_region 45 with fail
                  try rw [hpb]
                  clear hpb d0 d1 d2 d3
                  generalize (wr.alloc (.cells #[.int .i64 k, .slice sa n sc, .slice ua cl uc, .bool cc] 69)) = w9 at *
                  go_region_held3 (fun w' => w'.cell? ⟨pb, 0, none⟩ = some (.int .i64 k) ∧ w'.cell? ⟨pb, 1, none⟩ = some (.slice sa n sc) ∧ w'.cell? ⟨g6, o6 + k, none⟩ = some (.slice la n lc))
                    (first | exact hS9.out _ z7 | exact hS9.out _ ((Fr.refl noB _).drewN 1) | fail)
                    (first
                      | (go_at_call 21; refine (hsm.out _ ((Fr.refl noB _).drewN 1)).mono ?_; rintro e w10 ⟨rfl, z70⟩; have z7 := ((Fr.refl noB w9).drewN 1).seqN z70)
                      | fail)
                  all_goals (
                    have fz := Lib.hid (f7X.out.seqN z7)
                    go_wp2_with fail
                    go_roundg (i - (k + 1))
                    case rel => exact ⟨k + 1, hkn3.out, by go_num, fz⟩
                    case measure => exact hmeas2.out)
                · obtain rfl : k = i := by omega
                  have fz := Lib.hid (fz7.out.seqN fr.out)
                  go_wp2_with fail
                  go_ret
                  exact ⟨rfl, fz.out⟩
end Go.Proofs.Ytdfkjigkpcgngaa
