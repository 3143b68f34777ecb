/-
  span: Read, of what was printed.
-/
import Derived.Test.YtbmafogjmdilkaaGreatDoorSpan2
set_option linter.unusedVariables false
set_option linter.unusedSimpArgs false
set_option maxRecDepth 100000
namespace Go.Proofs.YtbmafogjmdilkaaGreatDoor
open Go.RowKit Go Go.Lib

theorem Tryz.infoSpan : (Tryz.prog.info? 62).map (fun i => (i.zero, i.size, i.bytes)) = some (some (.agg #[.int .i64 0, .int .i64 0, .string (ByteArray.mk #[])]), 3, 32) := by kernel_rfl
theorem row_not {w : World} {B n g : Nat} {e t : TypeId} {k : Nat} {v : Value} {xs cs : List Value} (h : w.ownsRow B e k v n xs) (hb : Blk w g t cs) (ht : t ≠ e) : ¬ rowB v g := by
  intro q
  rcases h.2 with ⟨rfl, _⟩ | ⟨g', cap, cur, rfl, _, hh, _⟩
  · simp [rowB, Value.ownBlock] at q
  · simp [rowB, Value.ownBlock] at q
    subst q
    unfold Blk at hb
    rw [hb] at hh
    simp only [Option.some.injEq, Obj.cells.injEq] at hh
    exact ht hh.2.1
theorem spans_drop (L : List Sp) (k : Nat) (s : Sp) (h : L[k]? = some s) : (L.drop k).flatMap spanF = spanF s ++ (L.drop (k + 1)).flatMap spanF := by
  obtain ⟨hk, rfl⟩ := List.getElem?_eq_some_iff.1 h
  rw [List.drop_eq_getElem_cons hk, List.flatMap_cons]
theorem cells_take (L : List Sp) (k : Nat) (s : Sp) (h : L[k]? = some s) : (L.take (k + 1)).flatMap spC = (L.take k).flatMap spC ++ spC s := by
  obtain ⟨hk, rfl⟩ := List.getElem?_eq_some_iff.1 h
  rw [List.take_succ_eq_append_getElem hk, List.flatMap_append]
  simp

set_option maxHeartbeats 1000000 in
theorem read_no (s : ByteArray) (w : World) (hs : s.size ≤ 200000) (h : intS 0 1000 s.data.toList = none) :
    Calls Tryz.prog 71 #[.string s] w fun e w' => e = .returned (.tuple #[.slice none 0 0, .int .i64 3]) ∧ Fr noB w w' := by
  go_enter Tryz.func71, Tryz.ntmps71
  go_wp2_with fail
  refine (newr_any s w).mono ?_
  rintro e w1 ⟨rfl, hw1⟩
  have rd := rd_new s w hs
  rw [← hw1] at rd
  have f1 : Fr noB w w1 := by rw [hw1]; exact (Fr.refl _ _).alloc _
  have hq : ¬ w.heap.size < w.heap.size := Nat.lt_irrefl _
  clear hw1
  go_wp2_with fail
  refine (rint_any w.heap.size _ 0 1000 w1 rd).mono ?_
  rw [show (some s.data.toList).bind (intS 0 1000) = none from h, show vI (none : Option (Nat × List UInt8)) = 0 from rfl, show sI (none : Option (Nat × List UInt8)) = none from rfl]
  rintro e w2 ⟨rfl, rd2, f2⟩
  have fr2 : Fr noB w w2 := f1.seqB f2 (fun q => absurd q (Nat.lt_irrefl _))
  have hdn := rdone_any w.heap.size _ w2 rd2
  clear f1 f2 rd rd2
  go_wp2_with fail
  go_loopw [12] (fun vi wr => vi = .int .i64 0 ∧ wr = w2) (fun _ _ => 0)
  case atStart => exact ⟨rfl, rfl⟩
  case round =>
    obtain ⟨rfl, rfl⟩ := hrel
    go_wp2_with fail
    refine hdn.mono ?_
    rintro e w3 ⟨rfl, hw3⟩
    obtain rfl := hw3.symm
    go_wp2_with fail
    go_ret2
    exact ⟨rfl, fr2⟩

set_option maxHeartbeats 4000000 in
theorem read_any (s : ByteArray) (L : List Sp) (w : World) (hg : Gl w) (hs : s.size ≤ 200000) (hp : s.data.toList = pre L L.length) (hR : ∀ (i : Nat) (m : Sp), L[i]? = some m → rightS m = true) (hl : L.length ≤ 1000) :
    Calls Tryz.prog 71 #[.string s] w fun e w' => ∃ v, e = .returned (.tuple #[v, .int .i64 0]) ∧ w'.ownsRow w.heap.size 62 3 v L.length (L.flatMap spC) ∧ Fr noB w w' := by
  have hi0 := int_back L.length 0 1000 (L.flatMap spanF) (by omega) (by omega) (by omega)
  have hp2 : s.data.toList = numL L.length ++ L.flatMap spanF := by rw [hp]; unfold pre; rw [List.take_length]
  rw [← hp2] at hi0
  have hget : ∀ k, k < L.length → ∃ m, L[k]? = some m := fun k hk => ⟨L[k], List.getElem?_eq_getElem hk⟩
  have hdr := spans_drop L
  have hct := cells_take L
  have hd0 : L.flatMap spanF = (L.drop 0).flatMap spanF := by rw [List.drop_zero]
  have hend : (L.drop L.length).flatMap spanF = [] := by rw [List.drop_length]; rfl
  have hct0 : (L.take L.length).flatMap spC = L.flatMap spC := by rw [List.take_length]
  obtain ⟨i0, hii, hz0, hz1, hz2⟩ := info_parts Tryz.infoSpan
  have gb := hg.low
  have key : ∀ w', Fr (hiB w.heap.size) w w' → Fr noB w w' := fun w' f => f.hiN
  obtain ⟨B, hB⟩ : ∃ B, w.heap.size = B := ⟨_, rfl⟩
  rw [hB] at gb key
  generalize hn : L.length = n at *
  have hnb : n ≤ 1000 := hl
  replace hn := Lib.hid hn
  replace hget := Lib.hid hget
  replace hdr := Lib.hid hdr
  replace hct := Lib.hid hct
  replace hend := Lib.hid hend
  replace hct0 := Lib.hid hct0
  replace hR := Lib.hid hR
  replace key := Lib.hid key
  rw [hd0] at hi0
  clear hp hp2 hd0
  have hqne := gb.ne (Nat.le_refl B)
  go_enter Tryz.func71, Tryz.ntmps71
  go_wp2_with fail
  refine (newr_any s w).mono ?_
  rintro e w1 ⟨rfl, hw1⟩
  have rd := rd_new s w hs
  rw [← hw1, hB] at rd
  rw [hB]
  have f1 : Fr (hiB B) w w1 := by rw [hw1]; exact (Fr.refl _ _).alloc _
  have hw1s : B ≤ w1.heap.size := by have := f1.size; omega
  clear hw1
  go_wp2_with fail
  refine (rint_any B _ 0 1000 w1 rd).mono ?_
  rw [show (some s.data.toList).bind (intS 0 1000) = some (n, (L.drop 0).flatMap spanF) from hi0, show vI (some (n, (L.drop 0).flatMap spanF)) = (n : Int) from rfl, show sI (some (n, (L.drop 0).flatMap spanF)) = some ((L.drop 0).flatMap spanF) from rfl]
  rintro e w2 ⟨rfl, rd2, f2⟩
  have fr2 := f1.hiO f2 (Nat.le_refl B)
  replace hi0 := Lib.hid hi0
  clear f1 f2 rd
  go_wp2_with fail
  go_loopg [5, 12] n (fun gk vl vi w3 => ∃ k : Nat, k + gk = n ∧ vi = .int .i64 k ∧ Hid (Rd w3 B (some ((L.drop k).flatMap spanF))) ∧ Hid (w3.ownsRow B 62 3 vl k ((L.take k).flatMap spC)) ∧ Fr (hiB B) w w3)
  case atStart => exact ⟨0, by omega, rfl, Lib.hid rd2, Lib.hid (World.ownsRow_nil _ _ _ _), fr2⟩
  case round =>
    clear rd2 fr2
    obtain ⟨k, hkn, rfl, hrd, hown, fr⟩ := hrel
    by_cases hlt : k < n
    · obtain ⟨s1, hs1⟩ := hget.out k hlt
      have hr1 := hR.out k s1 hs1
      have hdr1 := hdr.out k s1 hs1
      have hct1 := hct.out k s1 hs1
      have e1 := rd_t s1 hr1 ((L.drop (k + 1)).flatMap spanF)
      have e2 := rd_q s1 hr1 ((L.drop (k + 1)).flatMap spanF)
      have e3 := rd_x s1 hr1 ((L.drop (k + 1)).flatMap spanF)
      rw [← hdr1] at e1
      obtain ⟨r1, r2, r3, r4, r5⟩ := (right_iff s1).1 hr1
      have t1 : ((s1.t.toNat : Nat) : Int) = s1.t := by omega
      have t2 : ((s1.q.toNat : Nat) : Int) = s1.q := by omega
      have i1 := fun w h => rint_any B (some ((L.drop k).flatMap spanF)) 1 65535 w h
      rw [show (some ((L.drop k).flatMap spanF)).bind (intS 1 65535) = some (s1.t.toNat, numL s1.q.toNat ++ textL s1.x.data.toList ++ (L.drop (k + 1)).flatMap spanF) from e1, show vI (some (s1.t.toNat, numL s1.q.toNat ++ textL s1.x.data.toList ++ (L.drop (k + 1)).flatMap spanF)) = s1.t from t1, show sI (some (s1.t.toNat, numL s1.q.toNat ++ textL s1.x.data.toList ++ (L.drop (k + 1)).flatMap spanF)) = some (numL s1.q.toNat ++ textL s1.x.data.toList ++ (L.drop (k + 1)).flatMap spanF) from rfl] at i1
      have i2 := fun w h => rint_any B (some (numL s1.q.toNat ++ textL s1.x.data.toList ++ (L.drop (k + 1)).flatMap spanF)) 1 2147483648 w h
      rw [show (some (numL s1.q.toNat ++ textL s1.x.data.toList ++ (L.drop (k + 1)).flatMap spanF)).bind (intS 1 2147483648) = some (s1.q.toNat, textL s1.x.data.toList ++ (L.drop (k + 1)).flatMap spanF) from e2, show vI (some (s1.q.toNat, textL s1.x.data.toList ++ (L.drop (k + 1)).flatMap spanF)) = s1.q from t2, show sI (some (s1.q.toNat, textL s1.x.data.toList ++ (L.drop (k + 1)).flatMap spanF)) = some (textL s1.x.data.toList ++ (L.drop (k + 1)).flatMap spanF) from rfl] at i2
      have i3 := fun w g h => rtext_any B (some (textL s1.x.data.toList ++ (L.drop (k + 1)).flatMap spanF)) 40 w g hqne h
      rw [show (some (textL s1.x.data.toList ++ (L.drop (k + 1)).flatMap spanF)).bind (textS 40) = some (s1.x.data.toList, (L.drop (k + 1)).flatMap spanF) from e3, show vT (some (s1.x.data.toList, (L.drop (k + 1)).flatMap spanF)) = s1.x.data.toList from rfl, show sT (some (s1.x.data.toList, (L.drop (k + 1)).flatMap spanF)) = some ((L.drop (k + 1)).flatMap spanF) from rfl, strB_of] at i3
      generalize hR3 : (L.drop (k + 1)).flatMap spanF = R3 at *
      replace hR3 := Lib.hid hR3
      generalize textL s1.x.data.toList ++ R3 = R2 at *
      generalize numL s1.q.toNat ++ textL s1.x.data.toList ++ R3 = R1 at *
      generalize (L.drop k).flatMap spanF = R0 at *
      have hb1 : (k : Int) < n := by omega
      have hmeas : n - (k + 1) < gk := by omega
      have hkn2 : k + 1 + (n - (k + 1)) = n := by omega
      replace i1 := Lib.hid i1
      replace i2 := Lib.hid i2
      replace i3 := Lib.hid i3
      replace hdr1 := Lib.hid hdr1
      replace hct1 := Lib.hid hct1
      replace hs1 := Lib.hid hs1
      replace hr1 := Lib.hid hr1
      replace t1 := Lib.hid t1
      replace t2 := Lib.hid t2
      replace hmeas := Lib.hid hmeas
      replace hkn2 := Lib.hid hkn2
      clear e1 e2 e3 r1 r2 r3 r4 r5
      go_wp2_with fail
      refine (i1.out wr hrd.out).mono ?_
      rintro e w4 ⟨rfl, rd4, f4⟩
      have fr4 := fr.hiO f4 (Nat.le_refl B)
      have hnr := fun (q : Nat) (hq : u5.ownBlock = some q) => (show ¬ onlyB B q by
        obtain ⟨_, _, hb, _⟩ := hrd.out
        intro e
        unfold onlyB at e
        subst e
        exact row_not hown.out hb (by decide) hq)
      have ow4 := ownsRow_fr hown.out f4 hnr
      go_wp2_with fail
      refine (i2.out w4 rd4).mono ?_
      rintro e w5 ⟨rfl, rd5, f5⟩
      have fr5 := fr4.hiO f5 (Nat.le_refl B)
      have ow5 := ownsRow_fr ow4 f5 hnr
      go_wp2_with fail
      refine (i3.out w5 (gb.hi fr5).gl rd5).mono ?_
      rintro e w6 ⟨rfl, rd6, f6⟩
      have fr6 := fr5.hiO f6 (Nat.le_refl B)
      have ow6 := ownsRow_fr ow5 f6 hnr
      have hB6 : B ≤ w6.heap.size := by have := fr6.size; omega
      have b6 := news_at w6 62 (spC s1)
      obtain ⟨g6, hg6⟩ : ∃ g, w6.heap.size = g := ⟨_, rfl⟩
      rw [hg6] at b6
      have f7 : Fr noB w6 (w6.alloc (.cells #[.int .i64 s1.t, .int .i64 s1.q, .string s1.x] 62)) := (Fr.refl _ _).alloc _
      clear rd4 f4 fr4 ow4 rd5 f5 fr5 ow5 f6
      go_wp2_with (first
        | (at_builtin; go_must (refine wpList_append_at _ rfl (.tmp 18) (.tmp 24) 23 rfl B 62 i0 _ 3 32 Tryz.underlying23 hii hz0 hz1 hz2 rfl (by decide) _ k _ rfl (ownsRow_fr ow6 f7 (fun _ _ h => h)) ⟨g6, 0, none⟩ 1 1 (spC s1) rfl rfl b6 (spC_one s1) ?_ ?_ ?_ ?_))
        | fail)
      · unfold maxLen; omega
      · omega
      · have := f7.size; omega
      intro v8 w8 o8 gr8 _
      rw [← hct1.out] at o8
      have rd7 := rd6.fr f7 (fun q => q)
      have f8 : Fr (rowB u5) (w6.alloc (.cells #[.int .i64 s1.t, .int .i64 s1.q, .string s1.x] 62)) w8 := (Fr.refl (rowB u5) _).grown gr8 (fun k hk _ => hk)
      have rd8 := rd7.fr f8 (fun q => hnr B q rfl)
      have fr8 := (fr6.hi0 f7).hi f8 (fun i hi q => by have := (hown.out.lt i q).1; omega)
      replace rd8 := Lib.hid rd8
      replace o8 := Lib.hid o8
      clear gr8 rd6 rd7 f7 f8 fr6 ow6 b6
      go_wp2_with fail
      go_roundg (n - (k + 1))
      case rel => exact ⟨k + 1, hkn2.out, by go_num, by rw [hR3.out]; exact rd8, o8, fr8⟩
      case measure => exact hmeas.out
    · obtain rfl : k = n := by omega
      rw [hend.out] at hrd
      rw [hct0.out] at hown
      have hdn := rdone_any B _ wr hrd.out
      go_wp2_with fail
      refine hdn.mono ?_
      rintro e w4 ⟨rfl, hw4⟩
      obtain rfl := hw4.symm
      go_wp2_with fail
      go_ret2
      exact ⟨_, rfl, by rw [hB]; exact hown.out, key.out _ fr⟩
end Go.Proofs.YtbmafogjmdilkaaGreatDoor
