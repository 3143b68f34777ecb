/-
  span: Chunks.
-/
import Derived.Test.YtppmednmcbjafaaGreatSpanS5
set_option linter.unusedVariables false
set_option linter.unusedSimpArgs false
set_option maxRecDepth 100000
set_option maxRecDepth 100000
namespace Go.Proofs.YtppmednmcbjafaaGreat
open Go.RowKit Go Go.Lib

theorem clone2_any (v : Value) (L : List Sp) (w : World) (hv : RdSp w v L) (hl : L.length ≤ 1000000) :
    Calls Tryz.prog 167 #[v] w fun e w' => ∃ a c, e = .returned (.slice a L.length c) ∧ w'.ownsRow w.heap.size 38 3 (.slice a L.length c) L.length (L.flatMap spC) ∧ Fr noB w w' := by
  refine (clone_any v L w hv hl).mono ?_
  rintro e w' ⟨v', rfl, h1, h2⟩
  obtain ⟨a, c, rfl⟩ := ownsRow_slice h1
  exact ⟨a, c, rfl, h1, h2⟩
theorem OwnP.fr {w w' : World} {B : Nat} {S : Nat → Prop} {P : List (Value × List Sp)} (h : OwnP w B P) (f : Fr S w w') (hS : ∀ p ∈ P, ∀ g, p.1.ownBlock = some g → ¬ S g) : OwnP w' B P := fun p hp => ownsRow_fr (h p hp) f (hS p hp)
theorem OwnP.snoc {w : World} {B : Nat} {P : List (Value × List Sp)} {v : Value} {l : List Sp} (h : OwnP w B P) (h1 : w.ownsRow B 38 3 v l.length (l.flatMap spC)) : OwnP w B (P ++ [(v, l)]) := fun p hp => by
  rcases List.mem_append.1 hp with hp | hp
  · exact h p hp
  · simp at hp; subst hp; exact h1
theorem one_slice (a : Option Addr) (n c : Nat) : ∀ u ∈ [Value.slice a n c], u.oneCell' = true := by intro u hu; simp at hu; subst hu; rfl

set_option maxHeartbeats 4000000 in
theorem chunks_any (v : Value) (L : List Sp) (w : World) (hv : RdSp w v L) (hl : L.length ≤ 1000) :
    Calls Tryz.prog 158 #[v] w fun e w' => ∃ v' P, e = .returned v' ∧ w'.ownsRow w.heap.size 71 1 v' P.length (P.map Prod.fst) ∧ OwnP w' w.heap.size P ∧ P.map Prod.snd = chkL L ∧ Fr noB w w' := by
  obtain ⟨i0, hi, hz0, hz1, hz2⟩ := info_parts Tryz.infoRow
  obtain ⟨B, hB⟩ : ∃ B, w.heap.size = B := ⟨_, rfl⟩
  rw [hB]
  have own1 := own_new w 71 [] 1 0 rfl (Nat.zero_le _)
  rw [hB] at own1
  have f1 : Fr noB w (w.alloc (.cells #[] 71)) := (Fr.refl _ w).alloc _
  go_enter Tryz.func158, Tryz.ntmps158
  go_wp2_with fail
  go_loopg [0, 3] L.length (fun gk va vc w3 => ∃ (La : List Sp) (P : List (Value × List Sp)), La.length = gk ∧ P.length + gk ≤ 1000 ∧ RdSp w va La ∧ Hid (chkL L = P.map Prod.snd ++ chkL La) ∧ Hid (w3.ownsRow B 71 1 vc P.length (P.map Prod.fst)) ∧ Hid (OwnP w3 B P) ∧ Fr noB w w3)
  case atStart => exact ⟨L, [], rfl, by simpa using hl, hv, Lib.hid rfl, Lib.hid own1, Lib.hid (fun p hp => by simp at hp), f1⟩
  case round =>
    clear own1 f1 hv hl
    obtain ⟨La, P, hLa, hP, hrd, hck, hown, hop, fr⟩ := hrel
    have hrd0 := hrd
    have hwB : B ≤ wr.heap.size := by have := fr.size; omega
    by_cases h2 : 2 < La.length
    · obtain ⟨a, c, rfl, hx1, hx2, hx3, hx4⟩ := hrd
      unfold maxLen at hx2
      obtain ⟨s0, hs0⟩ : ∃ s, La[0]? = some s := ⟨La[0], List.getElem?_eq_getElem (by omega)⟩
      obtain ⟨g, o, rfl, _⟩ := hx4 0 s0 hs0
      clear hs0
      have hcs := chk_step La h2
      have hcl := clone2_any _ _ wr ((hrd0.take2 (by omega)).frN fr) (by rw [List.length_take]; omega)
      have hd := hrd0.drop2 (by omega)
      have ht2 : (La.take 2).length = 2 := by rw [List.length_take]; omega
      rw [ht2] at hcl
      have hdl : (La.drop 2).length = gk - 2 := by rw [List.length_drop, hLa]
      have hmeas : gk - 2 < gk := by omega
      have hP2 : P.length + 1 + (gk - 2) ≤ 1000 := by omega
      have hPl : (P ++ [(Value.slice none 0 0, ([] : List Sp))]).length = P.length + 1 := by simp
      have i1 : (La.length : Int) > 2 := by omega
      have i2 : 2 ≤ c := by omega
      generalize hn : La.length = n at *
      replace hLa := Lib.hid hLa
      replace hcl := Lib.hid hcl
      replace hd := Lib.hid hd
      replace hcs := Lib.hid hcs
      replace hdl := Lib.hid hdl
      replace hrd0 := Lib.hid hrd0
      replace hn := Lib.hid hn
      replace ht2 := Lib.hid ht2
      replace hP2 := Lib.hid hP2
      replace hmeas := Lib.hid hmeas
      clear hx4 hx3 hPl
      go_wp2_with fail
      refine hcl.out.mono ?_
      rintro e w4 ⟨ca, cc, rfl, ho4, f4⟩
      have ow4 := ownsRow_fr hown.out f4 (fun _ _ q => q)
      have op4 := hop.out.fr f4 (fun _ _ _ _ q => q)
      have ho4B := ownsRow_mono ho4 hwB
      have f5 : Fr noB w4 (w4.alloc (.cells #[.slice ca 2 cc] 71)) := (Fr.refl _ _).alloc _
      have fr5 := (fr.seqN f4).seqN f5
      have hw5 : B ≤ (w4.alloc (.cells #[.slice ca 2 cc] 71)).heap.size := by have := fr5.size; omega
      have ow5 := ownsRow_fr ow4 f5 (fun _ _ q => q)
      have op5 := op4.fr f5 (fun _ _ _ _ q => q)
      have hn5 := ownsRow_fr ho4B f5 (fun _ _ q => q)
      have cn := cell_new w4 (.slice ca 2 cc) 71
      go_wp2_with (first
        | (at_builtin; go_must (refine wpList_append_at _ rfl (.tmp 8) (.tmp 12) 124 rfl B 71 i0 _ 1 24 Tryz.underlying124 hi hz0 hz1 hz2 rfl (by decide) _ P.length (P.map Prod.fst) rfl ow5 ⟨w4.heap.size, 0, none⟩ 1 1 [.slice ca 2 cc] rfl rfl cn (one_slice _ _ _) ?_ ?_ hw5 ?_))
        | fail)
      · unfold maxLen; omega
      · omega
      intro v8 w8 o8 gr8 _
      have f8 : Fr (rowB u3) (w4.alloc (.cells #[.slice ca 2 cc] 71)) w8 := (Fr.refl _ _).grown gr8 (fun k hk _ => hk)
      have op8 := op5.fr f8 (fun p hp g hg => own_apart (op5 p hp) ow5 (by decide) g hg)
      have hn8 := ownsRow_fr hn5 f8 (fun g hg => own_apart hn5 ow5 (by decide) g hg)
      have fr8 : Fr noB w w8 := fr5.trans f8 (fun _ _ q => q) (fun i hi q => by have := (hown.out.lt i q).1; omega)
      have hfin : OwnP w8 B (P ++ [(.slice ca 2 cc, La.take 2)]) := op8.snoc (by rw [ht2.out]; exact hn8)
      have hck8 : chkL L = (P ++ [(Value.slice ca 2 cc, La.take 2)]).map Prod.snd ++ chkL (La.drop 2) := by rw [hck.out, hcs.out]; simp
      have o8' : w8.ownsRow B 71 1 v8 (P ++ [(Value.slice ca 2 cc, La.take 2)]).length ((P ++ [(Value.slice ca 2 cc, La.take 2)]).map Prod.fst) := by
        rw [List.length_append, List.map_append]; exact o8
      replace o8' := Lib.hid o8'
      replace hfin := Lib.hid hfin
      replace hck8 := Lib.hid hck8
      clear o8 gr8 f8 op8 hn8 fr5 ow5 op5 hn5 cn f5 ho4 ho4B ow4 op4 hcs ht2
      go_wp2_with fail
      go_roundg (gk - 2)
      case rel => exact ⟨La.drop 2, P ++ [(.slice ca 2 cc, La.take 2)], hdl.out, by rw [List.length_append]; exact hP2.out, hd.out, hck8, o8', hfin, fr8⟩
      case measure => exact hmeas.out
    · have hcl := clone2_any _ _ wr (hrd0.frN fr) (by omega)
      have hcs := chk_end La h2
      obtain ⟨a, c, rfl, hx1, hx2, hx3, hx4⟩ := hrd
      have i1 : ¬ (La.length : Int) > 2 := by omega
      generalize hn : La.length = n at *
      replace hLa := Lib.hid hLa
      replace hcl := Lib.hid hcl
      replace hcs := Lib.hid hcs
      replace hrd0 := Lib.hid hrd0
      replace hn := Lib.hid hn
      clear hx4 hx3
      go_wp2_with fail
      refine hcl.out.mono ?_
      rintro e w4 ⟨ca, cc, rfl, ho4, f4⟩
      have ow4 := ownsRow_fr hown.out f4 (fun _ _ q => q)
      have op4 := hop.out.fr f4 (fun _ _ _ _ q => q)
      have ho4B := ownsRow_mono ho4 hwB
      have f5 : Fr noB w4 (w4.alloc (.cells #[.slice ca n cc] 71)) := (Fr.refl _ _).alloc _
      have fr5 := (fr.seqN f4).seqN f5
      have hw5 : B ≤ (w4.alloc (.cells #[.slice ca n cc] 71)).heap.size := by have := fr5.size; omega
      have ow5 := ownsRow_fr ow4 f5 (fun _ _ q => q)
      have op5 := op4.fr f5 (fun _ _ _ _ q => q)
      have hn5 := ownsRow_fr ho4B f5 (fun _ _ q => q)
      have cn := cell_new w4 (.slice ca n cc) 71
      go_wp2_with (first
        | (at_builtin; go_must (refine wpList_append_at _ rfl (.tmp 16) (.tmp 19) 124 rfl B 71 i0 _ 1 24 Tryz.underlying124 hi hz0 hz1 hz2 rfl (by decide) _ P.length (P.map Prod.fst) rfl ow5 ⟨w4.heap.size, 0, none⟩ 1 1 [.slice ca n cc] rfl rfl cn (one_slice _ _ _) ?_ ?_ hw5 ?_))
        | fail)
      · unfold maxLen; omega
      · omega
      intro v8 w8 o8 gr8 _
      have f8 : Fr (rowB u3) (w4.alloc (.cells #[.slice ca n cc] 71)) w8 := (Fr.refl _ _).grown gr8 (fun k hk _ => hk)
      have op8 := op5.fr f8 (fun p hp g hg => own_apart (op5 p hp) ow5 (by decide) g hg)
      have hn8 := ownsRow_fr hn5 f8 (fun g hg => own_apart hn5 ow5 (by decide) g hg)
      have fr8 : Fr noB w w8 := fr5.trans f8 (fun _ _ q => q) (fun i hi q => by have := (hown.out.lt i q).1; omega)
      have hfin : OwnP w8 B (P ++ [(.slice ca n cc, La)]) := op8.snoc (by rw [hn.out]; exact hn8)
      have hck8 : chkL L = (P ++ [(Value.slice ca n cc, La)]).map Prod.snd := by rw [hck.out, hcs.out]; simp
      have o8' : w8.ownsRow B 71 1 v8 (P ++ [(Value.slice ca n cc, La)]).length ((P ++ [(Value.slice ca n cc, La)]).map Prod.fst) := by
        rw [List.length_append, List.map_append]; exact o8
      replace o8' := Lib.hid o8'
      replace hfin := Lib.hid hfin
      replace hck8 := Lib.hid hck8
      clear o8 gr8 f8 op8 hn8 fr5 ow5 op5 hn5 cn f5 ho4 ho4B ow4 op4 hcs
      go_wp2_with fail
      go_ret
      exact ⟨v8, P ++ [(.slice ca n cc, La)], rfl, o8'.out, hfin.out, hck8.out.symm, fr8⟩
end Go.Proofs.YtppmednmcbjafaaGreat
