/-
  name.Quote, by the text's pieces.
  Plain mathematics: what is quoted is UTF-8, and no shorter; quoted texts joined.
-/
import Derived.Test.YtdmhnoffejjpnaaGreatDoorZAD
import Derived.Deep.DeepCutAuto
import Derived.Test.YtdmhnoffejjpnaaGreatDoorZAC
section
set_option linter.unusedVariables false
set_option linter.unusedSimpArgs false
set_option maxRecDepth 100000
namespace Go.Proofs.YtdmhnoffejjpnaaGreatDoor
open Go.RowKit Go

theorem qC_len (c : List UInt8) (h : c ≠ []) : (qC c).length ≤ 12 * c.length := by
  have hp := List.length_pos_iff.2 h
  have h2 := hexL_len (dec c).1
  unfold qC
  split
  · first | omega | (simp; omega)
  split
  · first | omega | (simp; omega)
  split
  · omega
  · first | omega | (simp; omega)
theorem quote_len (l : List UInt8) : (quoteL l).length ≤ 12 * l.length := by
  induction l using chunks_ind with
  | h0 => simp [quote_nil]
  | h1 l h ih =>
    rw [quote_cons l h, List.length_append]
    have h1 := dec_pos l
    have h2 := dec_le l h
    have h3 := qC_len (l.take (dec l).2) (by intro e; have := congrArg List.length e; simp only [List.length_take, List.length_nil] at this; omega)
    rw [List.length_take] at h3
    rw [List.length_drop] at ih
    omega

theorem own_app {w : World} {B e m : Nat} {v : Value} {a b : List UInt8} (h : w.ownsRow B e 1 v (a.length + m) (a.map cellB ++ b.map cellB)) (hm : m = b.length) : w.ownsRow B e 1 v (a ++ b).length ((a ++ b).map cellB) := by
  subst hm
  rw [List.map_append, List.length_append]
  exact h
theorem own_it {w : World} {g : Nat} {s : ByteArray} {pos base e k n : Nat} {v : Value} {xs : List Value} (hi : ItAt w g s pos) (h : w.ownsRow base e k v n xs) : ¬ rowB v g := by
  intro q
  rcases h.2 with ⟨rfl, _⟩ | ⟨g', cap, cur, rfl, _, hh, _⟩
  · simp [rowB, Value.ownBlock] at q
  · simp [rowB, Value.ownBlock] at q
    subst q
    unfold ItAt at hi
    rw [hi] at hh
    cases hh
/-- what a row's growth leaves: nothing older than 'base' has turned -/
theorem Fr.rowN {w w1 w2 : World} {base e k n : Nat} {v : Value} {xs : List Value} (f : Fr noB w w1) (h : w1.ownsRow base e k v n xs) (hb : w.heap.size ≤ base) (f2 : Fr (rowB v) w1 w2) : Fr noB w w2 :=
  f.trans f2 (fun _ _ q => q) (fun i hi q => by have := (h.lt i q).1; omega)

theorem runeCells_enc (r : Nat) (h : r ≤ 2147483647) : Go.Lib.runeCells (r : Int) = (encA r).map cellB := by
  unfold Go.Lib.runeCells encA validRn
  by_cases h1 : r < 128
  · rw [Go.Lib.encodeRuneZ_one (by omega) (by omega)]
    simp only [show r < 55296 by omega, decide_true, Bool.true_or, if_true]
    unfold encL
    rw [if_pos h1]
    simp [cellB]; omega
  by_cases h2 : r < 2048
  · rw [Go.Lib.encodeRuneZ_two (by omega) (by omega)]
    simp only [show r < 55296 by omega, decide_true, Bool.true_or, if_true]
    unfold encL
    rw [if_neg h1, if_pos h2]
    simp [cellB]; omega
  by_cases h3 : r < 55296
  · rw [Go.Lib.encodeRuneZ_three (by omega)]
    simp only [h3, decide_true, Bool.true_or, if_true]
    unfold encL
    rw [if_neg h1, if_neg h2, if_pos (by omega)]
    simp [cellB]; omega
  by_cases h4 : r < 57344
  · have hbad : Go.Lib.encodeRuneZ (r : Int) = [239, 191, 189] := by
      unfold Go.Lib.encodeRuneZ
      rw [if_neg (by omega), if_neg (by omega), if_neg (by omega), if_neg (by omega)]
    rw [hbad]
    simp [h3, show ¬ 57344 ≤ r by omega, cellB]
  by_cases h5 : r < 65536
  · rw [Go.Lib.encodeRuneZ_three (by omega)]
    simp only [h3, show 57344 ≤ r by omega, show r ≤ 1114111 by omega, decide_true, decide_false, Bool.false_or, Bool.true_and, if_true]
    unfold encL
    rw [if_neg h1, if_neg h2, if_pos h5]
    simp [cellB]; omega
  by_cases h6 : r ≤ 1114111
  · rw [Go.Lib.encodeRuneZ_four (by omega) (by omega)]
    simp only [h3, show 57344 ≤ r by omega, h6, decide_true, decide_false, Bool.false_or, Bool.true_and, if_true]
    unfold encL
    rw [if_neg h1, if_neg h2, if_neg h5]
    simp [cellB]; omega
  · have hbad : Go.Lib.encodeRuneZ (r : Int) = [239, 191, 189] := by
      unfold Go.Lib.encodeRuneZ
      rw [if_neg (by omega), if_neg (by omega), if_neg (by omega), if_neg (by omega)]
    rw [hbad]
    simp [h3, h6, cellB]

theorem digit_int (x : Int) (w : World) (h0 : 0 ≤ x) (h1 : x < 16) :
    Calls Tryz.prog 150 #[.int .u8 x] w fun e w' => e = .returned (.int .u8 (hexD x.toNat).toNat) ∧ w' = w := by
  have := digit_any x.toNat w (by omega)
  rw [show ((x.toNat : Nat) : Int) = x by omega] at this
  exact this
theorem news_at (w : World) (t : TypeId) (cs : List Value) : ∀ j u, cs[j]? = some u → (w.alloc (.cells cs.toArray t)).cell? ((⟨w.heap.size, 0, none⟩ : Addr).add j) = some u := by
  intro j u hj
  rw [add_none, (Blk.new w t cs).cell, Nat.zero_add]
  exact hj
theorem bytes_one (l : List UInt8) : ∀ u ∈ l.map cellB, u.oneCell' = true := by
  intro x hx
  obtain ⟨b, _, rfl⟩ := List.mem_map.1 hx
  rfl

set_option maxRecDepth 100000 in
set_option maxHeartbeats 2000000 in
theorem quote_any (s : ByteArray) (w : World) (hg : Gl w) (hs : s.size ≤ 1000000) :
    Calls Tryz.prog 139 #[.string s] w fun e w' => e = .returned (.string (strB (quoteL s.data.toList))) ∧ Fr noB w w' := by
  obtain ⟨i0, hi, hz0, hz1, hz2⟩ := info_parts Tryz.infoByte
  obtain ⟨w1, hmk, ho1, hg1⟩ := run_make_own (P := Tryz.prog) w w.heap.size 119 5 i0 (.int .u8 0) 1 Tryz.underlying119 hi hz0 hz1 .i64 .i64 s.size (by rw [hz2]; omega) (by unfold maxLen; omega) (Nat.le_refl _)
  have hql := quote_len s.data.toList
  rw [size_len] at hql
  have f1 : Fr noB w w1 := (Fr.refl noB w).grown hg1 (fun k hk => by cases hk)
  go_enter Tryz.func139, Tryz.ntmps139
  go_wp2_with fail
  go_loopw [3, 4, 5] (fun v _ _ wr => ∃ (pos : Nat) (o : List UInt8), ItAt wr w1.heap.size s pos ∧ Fr noB w wr ∧ pos ≤ s.size ∧ wr.ownsRow w.heap.size 5 1 v o.length (o.map cellB) ∧ quoteL s.data.toList = o ++ quoteL (s.data.toList.drop pos)) (fun _ _ _ wr => s.size - wr.iterPos w1.heap.size)
  case atStart => exact ⟨0, [], it_new w1 s, f1.alloc _, Nat.zero_le _, ho1.alloc _, rfl⟩
  case round =>
    obtain ⟨pos, o, it, fr, hps, own, hk⟩ := hrel
    have hol : o.length ≤ 12 * s.size := by
      have := congrArg List.length hk
      rw [List.length_append] at this
      omega
    by_cases hp : pos < s.size
    · obtain ⟨w2, hnx, it2, f2, hz2'⟩ := next_it (P := Tryz.prog) it hp
      have hd := dec_in hp
      have h1 := dec_pos (s.data.toList.drop pos)
      have hne := drop_lt hp
      have hi1 := it.ipos
      have hi2 := it2.ipos
      have fr2 := fr.seqB f2 (fun q => absurd q (by have := f1.size; omega))
      have own2 := ownsRow_fr own f2 (fun q hq h => own_it it own (by unfold onlyB at h; subst h; exact hq))
      have hbr := broken_any (s.extract pos s.size) w2 (by rw [tail_eq]; exact hne)
      rw [quote_cons _ hne, List.drop_drop] at hk
      have hcne : (s.data.toList.drop pos).take (dec (s.data.toList.drop pos)).2 ≠ [] := by
        intro e
        have := congrArg List.length e
        simp only [List.length_take, List.length_drop, List.length_nil, size_len] at this
        omega
      rw [tail_eq] at hbr
      have hrl := dec_rune (s.data.toList.drop pos)
      have hqc := qC_len _ hcne
      have hdc := dec_chunk _ hne
      have hokc := okD_chunk _ hne
      have hb0 : ((s.data.toList.drop pos).take (dec (s.data.toList.drop pos)).2).getD 0 0 = s[pos] := by
        have : ((s.data.toList.drop pos).take (dec (s.data.toList.drop pos)).2).getD 0 0 = (s.data.toList.drop pos).getD 0 0 := by
          simp only [List.getD]; rw [List.getElem?_take, if_pos (by omega)]
        rw [this]
        simp [List.getD, List.getElem?_drop, size_len, hp]
        rfl
      have hdw : (dec ((s.data.toList.drop pos).take (dec (s.data.toList.drop pos)).2)).2 = ((s.data.toList.drop pos).take (dec (s.data.toList.drop pos)).2).length := by
        have h2 := dec_le _ hne
        rw [hdc, List.length_take]; omega
      generalize hc : (s.data.toList.drop pos).take (dec (s.data.toList.drop pos)).2 = c at *
      generalize hr : (dec (s.data.toList.drop pos)).1 = r at *
      generalize hwd : (dec (s.data.toList.drop pos)).2 = wd at *
      replace hz2' := Lib.hid hz2'
      replace hi1 := Lib.hid hi1
      replace hi2 := Lib.hid hi2
      replace hk := Lib.hid hk
      replace hwd := Lib.hid hwd
      replace hc := Lib.hid hc
      replace hne := Lib.hid hne
      replace hcne := Lib.hid hcne
      replace hr := Lib.hid hr
      replace hdw := Lib.hid hdw
      have hBw : w.heap.size ≤ w2.heap.size := fr2.size
      clear it own f2
      cases hok : okD (s.data.toList.drop pos) with
      | false =>
        rw [hok] at hokc hbr
        obtain ⟨b, hcb, hb128⟩ := bad_one c ⟨hcne.out, hdw.out⟩ hokc
        subst hcb
        have hq := qC_bad b hokc
        have hbs : s[pos] = b := by rw [← hb0]; rfl
        have hblt : b.toNat < 256 := UInt8.toNat_lt b
        have hand : bits BinOp.and IntKind.u8 (b.toNat : Int) 15 = ((b.toNat % 16 : Nat) : Int) := by
          have h1 := u8_and_nat b.toNat 15 (by omega) (by omega)
          rw [show (b.toNat &&& 15) = b.toNat % 16 from Nat.and_two_pow_sub_one_eq_mod b.toNat 4] at h1
          exact h1
        have e1 : ((b.toNat : Int) / 16).toNat = b.toNat / 16 := by omega
        have e2 : (((b.toNat % 16 : Nat) : Int)).toNat = b.toNat % 16 := by omega
        have e3 : ((b.toNat : Int) % 16).toNat = b.toNat % 16 := by omega
        replace e1 := Lib.hid e1
        replace e2 := Lib.hid e2
        replace e3 := Lib.hid e3
        replace hok := Lib.hid hok
        replace hokc := Lib.hid hokc
        replace hq := Lib.hid hq
        replace hdc := Lib.hid hdc
        replace hb0 := Lib.hid hb0
        go_wp2_with fail
        refine hbr.mono ?_
        rintro e w3 ⟨rfl, hw3⟩
        obtain rfl := hw3.symm
        clear hbr
        go_wp2_with fail
        go_region_law (first
          | (go_simp; go_at_call 150; refine (digit_int _ _ (by omega) (by omega)).mono ?_; rintro e wq ⟨rfl, hwq⟩; obtain rfl := hwq.symm; clear hwq)
          | (refine step_append_at rfl (.tmp 31) (.tmp 42) 119 rfl w.heap.size 5 i0 (.int .u8 0) 1 1 Tryz.underlying119 hi hz0 hz1 hz2 rfl (by decide) u3 o.length (o.map cellB) rfl ((ownsRow_drewN own2 1).alloc _) ⟨w2.heap.size, 0, none⟩ 4 4 [_, _, _, _] rfl rfl (news_at w2.drew _ [_, _, _, _]) (by intro u hu; simp at hu; rcases hu with rfl | rfl | rfl | rfl <;> rfl) (by unfold maxLen; omega) (by omega) (by simp; omega) ?_; intro v3 w3 o3 gr3 _)
          | fail)
        all_goals (
          have f3 : Fr (rowB u3) w2 w3 := (((Fr.refl (rowB u3) w2).alloc _).drew).grown gr3 (fun k hk _ => hk)
          rw [e1.out, e3.out] at o3
          have o4 := own_app (b := [92, 120, hexD (b.toNat / 16), hexD (b.toNat % 16)]) o3 rfl
          have it3 := it2.fr f3 (own_it it2 own2)
          have fr3 := fr2.rowN own2 (Nat.le_refl _) f3
          have hi3 := Lib.hid it3.ipos
          clear gr3 own2 it2 o3
          go_wp2_with fail
          go_roundw
          case rel =>
            have hrel2 : quoteL s.data.toList = o ++ [92, 120, hexD (b.toNat / 16), hexD (b.toNat % 16)] ++ quoteL (s.data.toList.drop (pos + wd)) := by rw [hk.out, hq.out, List.append_assoc]
            first | exact ⟨_, o ++ [92, 120, hexD (b.toNat / 16), hexD (b.toNat % 16)], it3, fr3, hd, o4, hrel2⟩ | ((repeat apply Exists.intro); exact ⟨⟨_, _, it3, fr3, hd, o4, hrel2⟩, rfl⟩)
          case measure => rw [hi1.out, hi3.out]; omega)
      | true =>
        rw [hok] at hokc hbr
        have hcr : (dec c).1 = r := by rw [hdc]; exact hr.out
        by_cases h92 : r = 92
        · subst h92
          have hq := qC_slash c hokc hcr
          replace hok := Lib.hid hok
          replace hokc := Lib.hid hokc
          replace hq := Lib.hid hq
          replace hcr := Lib.hid hcr
          replace hdc := Lib.hid hdc
          replace hb0 := Lib.hid hb0
          go_wp2_with fail
          refine hbr.mono ?_
          rintro e w3 ⟨rfl, hw3⟩
          obtain rfl := hw3.symm
          clear hbr
          go_wp2_with (first
            | (at_builtin; go_must (refine wpList_append_at _ rfl (.tmp 47) (.tmp 48) 119 rfl w.heap.size 5 i0 (.int .u8 0) 1 1 Tryz.underlying119 hi hz0 hz1 hz2 rfl (by decide) _ o.length (o.map cellB) rfl (own2.alloc _) ⟨w2.heap.size, 0, none⟩ 2 2 (([92, 92] : List UInt8).map cellB) rfl rfl (news_at w2 _ _) (bytes_one _) ?_ ?_ ?_ ?_))
            | fail)
          · unfold maxLen; (try simp only [List.length_append]); omega
          · (try simp only [List.length_append]); omega
          · first | omega | (simp; omega)
          intro v3 w3 o3 gr3 _
          have f3 : Fr (rowB u3) w2 w3 := ((Fr.refl (rowB u3) w2).alloc _).grown gr3 (fun k hk _ => hk)
          have o4 : w3.ownsRow w.heap.size 5 1 v3 (o ++ [92, 92]).length ((o ++ [92, 92]).map cellB) := by simpa using o3
          have it3 := it2.fr f3 (own_it it2 own2)
          have fr3 := fr2.rowN own2 (Nat.le_refl _) f3
          have hi3 := Lib.hid it3.ipos
          clear gr3 own2 it2 o3
          go_wp2_with fail
          go_roundw
          case rel => exact ⟨_, o ++ [92, 92], it3, fr3, hd, o4, by rw [hk.out, hq.out, List.append_assoc]⟩
          case measure => rw [hi1.out, hi3.out]; omega
        · by_cases hpr : printR r = true
          · have hq := qC_plain c hokc (by rw [hcr]; exact h92) (by rw [hcr]; exact hpr)
            have hen := enc_dec c hcne.out hdw.out hokc
            rw [hcr] at hen
            have hrb : (32 ≤ r ∧ r ≤ 126) ∨ (161 ≤ r ∧ r ≤ 591) := by
              unfold printR at hpr
              simpa using hpr
            have hea : encA r = c := by
              rw [← hen]; unfold encA validRn; rw [if_pos (by simp; omega)]
            have hrc := runeCells_enc r (by omega)
            rw [hea] at hrc
            have hcl : c.length ≤ 4 := by rw [← hea]; exact (encA_len r).2
            have b92 : ((r : Int) == 92) = false := by simp; omega
            have har := Tryz.utf8_AppendRune_plain w.heap.size u3 o.length (o.map cellB) (r : Int) (by omega) (by omega) w2 own2 (by omega) hBw
            rw [hrc] at har
            clear hen hea hrc
            replace hok := Lib.hid hok
            replace hokc := Lib.hid hokc
            replace hq := Lib.hid hq
            replace hcr := Lib.hid hcr
            replace hdc := Lib.hid hdc
            replace hb0 := Lib.hid hb0
            replace har := Lib.hid har
            replace hpr := Lib.hid hpr
            rcases hrb with ⟨ha, hb⟩ | ⟨ha, hb⟩
            · go_wp2_with fail
              refine hbr.mono ?_
              rintro e w3 ⟨rfl, hw3⟩
              obtain rfl := hw3.symm
              clear hbr
              go_wp2_with fail
              refine har.out.mono ?_
              rintro e w3 ⟨v3, rfl, o3, ob, gr3⟩
              have f3 : Fr (rowB u3) w2 w3 := ((Fr.refl (rowB u3) w2).alloc ob).grown gr3 (fun k hk _ => hk)
              have o4 : w3.ownsRow w.heap.size 5 1 v3 (o ++ c).length ((o ++ c).map cellB) := by simpa using o3
              have it3 := it2.fr f3 (own_it it2 own2)
              have fr3 := fr2.rowN own2 (Nat.le_refl _) f3
              have hi3 := Lib.hid it3.ipos
              clear gr3 own2 it2 o3 har
              go_wp2_with fail
              go_roundw
              case rel => exact ⟨_, o ++ c, it3, fr3, hd, o4, by rw [hk.out, hq.out, List.append_assoc]⟩
              case measure => rw [hi1.out, hi3.out]; omega
            · have hg126 : ¬ (r : Int) ≤ 126 := by omega
              go_wp2_with fail
              refine hbr.mono ?_
              rintro e w3 ⟨rfl, hw3⟩
              obtain rfl := hw3.symm
              clear hbr
              go_wp2_with fail
              refine har.out.mono ?_
              rintro e w3 ⟨v3, rfl, o3, ob, gr3⟩
              have f3 : Fr (rowB u3) w2 w3 := ((Fr.refl (rowB u3) w2).alloc ob).grown gr3 (fun k hk _ => hk)
              have o4 : w3.ownsRow w.heap.size 5 1 v3 (o ++ c).length ((o ++ c).map cellB) := by simpa using o3
              have it3 := it2.fr f3 (own_it it2 own2)
              have fr3 := fr2.rowN own2 (Nat.le_refl _) f3
              have hi3 := Lib.hid it3.ipos
              clear gr3 own2 it2 o3 har
              go_wp2_with fail
              go_roundw
              case rel => exact ⟨_, o ++ c, it3, fr3, hd, o4, by rw [hk.out, hq.out, List.append_assoc]⟩
              case measure => rw [hi1.out, hi3.out]; omega
          · have hq := qC_num c hokc (by rw [hcr]; exact h92) (by rw [hcr]; exact hpr)
            rw [hcr] at hq
            have hrb : r < 32 ∨ (126 < r ∧ r < 161) ∨ 591 < r := by
              unfold printR at hpr
              simp at hpr
              omega
            have b92 : ((r : Int) == 92) = false := by simp; omega
            have hxl := hexL_len r
            replace hok := Lib.hid hok
            replace hokc := Lib.hid hokc
            replace hq := Lib.hid hq
            replace hcr := Lib.hid hcr
            replace hdc := Lib.hid hdc
            replace hb0 := Lib.hid hb0
            replace hpr := Lib.hid hpr
            rcases hrb with ha | ⟨ha, hb⟩ | ha
            · have n1 : ¬ (32 : Int) ≤ r := by omega
              have n2 : ¬ (161 : Int) ≤ r := by omega
              go_wp2_with fail
              refine hbr.mono ?_
              rintro e w3 ⟨rfl, hw3⟩
              obtain rfl := hw3.symm
              clear hbr
              go_wp2_with (first
                | (at_builtin; go_must (refine wpList_append_at _ rfl (.tmp 15) (.tmp 16) 119 rfl w.heap.size 5 i0 (.int .u8 0) 1 1 Tryz.underlying119 hi hz0 hz1 hz2 rfl (by decide) _ o.length (o.map cellB) rfl (own2.alloc _) ⟨w2.heap.size, 0, none⟩ 2 2 (([92, 117] : List UInt8).map cellB) rfl rfl (news_at w2 _ _) (bytes_one _) ?_ ?_ ?_ ?_))
                | fail)
              · unfold maxLen; (try simp only [List.length_append, List.length_cons, List.length_nil]); omega
              · (try simp only [List.length_append, List.length_cons, List.length_nil]); omega
              · first | omega | (simp; omega)
              intro v3 w3 o3 gr3 _
              have f3 : Fr (rowB u3) w2 w3 := ((Fr.refl (rowB u3) w2).alloc _).grown gr3 (fun k hk _ => hk)
              have o4 : w3.ownsRow w.heap.size 5 1 v3 (o ++ [92, 117]).length ((o ++ [92, 117]).map cellB) := by simpa using o3
              have it3 := it2.fr f3 (own_it it2 own2)
              have fr3 := fr2.rowN own2 (Nat.le_refl _) f3
              have hs3 := fr3.size
              clear gr3 own2 it2 o3
              go_wp2_with fail
              refine (appendInt_16 w.heap.size _ r hrl v3 _ w3 (hg.fr fr3) o4 hs3 (by simp only [List.length_append, List.length_cons, List.length_nil]; omega)).mono ?_
              rintro e w5 ⟨v5, rfl, o5, f5⟩
              have o6 := own_app o5 rfl
              have it5 := it3.fr f5 (own_it it3 o4)
              have fr5 := fr3.rowN o4 (Nat.le_refl _) f5
              have hs5 := fr5.size
              clear o5 f5 it3 o4
              generalize hX : o ++ [92, 117] ++ hexL r = X at *
              have hXl : X.length ≤ 12 * s.size + 11 := by rw [← hX]; simp only [List.length_append, List.length_cons, List.length_nil]; omega
              replace hX := Lib.hid hX
              go_wp2_with (first
                | (at_builtin; go_must (refine wpList_append_at _ rfl (.tmp 22) (.tmp 23) 119 rfl w.heap.size 5 i0 (.int .u8 0) 1 1 Tryz.underlying119 hi hz0 hz1 hz2 rfl (by decide) _ X.length (X.map cellB) rfl (o6.alloc _) ⟨w5.heap.size, 0, none⟩ 1 1 (([46] : List UInt8).map cellB) rfl rfl (news_at w5 _ _) (bytes_one _) ?_ ?_ ?_ ?_))
                | fail)
              · unfold maxLen; (try simp only [List.length_append, List.length_cons, List.length_nil]); omega
              · (try simp only [List.length_append, List.length_cons, List.length_nil]); omega
              · first | omega | (simp; omega)
              intro v7 w7 o7 gr7 _
              have f7 : Fr (rowB v5) w5 w7 := ((Fr.refl (rowB v5) w5).alloc _).grown gr7 (fun k hk _ => hk)
              have o8 : w7.ownsRow w.heap.size 5 1 v7 (o ++ ([92, 117] ++ hexL r ++ [46])).length ((o ++ ([92, 117] ++ hexL r ++ [46])).map cellB) := by
                rw [show o ++ ([92, 117] ++ hexL r ++ [46]) = X ++ [46] by rw [← hX.out]; simp only [List.append_assoc]]
                exact own_app o7 rfl
              have it7 := it5.fr f7 (own_it it5 o6)
              have fr7 := fr5.rowN o6 (Nat.le_refl _) f7
              have hi7 := Lib.hid it7.ipos
              clear gr7 o6 it5 o7
              go_wp2_with fail
              go_roundw
              case rel => exact ⟨_, o ++ ([92, 117] ++ hexL r ++ [46]), it7, fr7, hd, o8, by rw [hk.out, hq.out]; simp only [List.append_assoc]⟩
              case measure => rw [hi1.out, hi7.out]; omega
            · have n1 : ¬ (r : Int) ≤ 126 := by omega
              have n2 : ¬ (161 : Int) ≤ r := by omega
              have n3 : 32 ≤ r := by omega
              go_wp2_with fail
              refine hbr.mono ?_
              rintro e w3 ⟨rfl, hw3⟩
              obtain rfl := hw3.symm
              clear hbr
              go_wp2_with (first
                | (at_builtin; go_must (refine wpList_append_at _ rfl (.tmp 15) (.tmp 16) 119 rfl w.heap.size 5 i0 (.int .u8 0) 1 1 Tryz.underlying119 hi hz0 hz1 hz2 rfl (by decide) _ o.length (o.map cellB) rfl (own2.alloc _) ⟨w2.heap.size, 0, none⟩ 2 2 (([92, 117] : List UInt8).map cellB) rfl rfl (news_at w2 _ _) (bytes_one _) ?_ ?_ ?_ ?_))
                | fail)
              · unfold maxLen; (try simp only [List.length_append, List.length_cons, List.length_nil]); omega
              · (try simp only [List.length_append, List.length_cons, List.length_nil]); omega
              · first | omega | (simp; omega)
              intro v3 w3 o3 gr3 _
              have f3 : Fr (rowB u3) w2 w3 := ((Fr.refl (rowB u3) w2).alloc _).grown gr3 (fun k hk _ => hk)
              have o4 : w3.ownsRow w.heap.size 5 1 v3 (o ++ [92, 117]).length ((o ++ [92, 117]).map cellB) := by simpa using o3
              have it3 := it2.fr f3 (own_it it2 own2)
              have fr3 := fr2.rowN own2 (Nat.le_refl _) f3
              have hs3 := fr3.size
              clear gr3 own2 it2 o3
              go_wp2_with fail
              refine (appendInt_16 w.heap.size _ r hrl v3 _ w3 (hg.fr fr3) o4 hs3 (by simp only [List.length_append, List.length_cons, List.length_nil]; omega)).mono ?_
              rintro e w5 ⟨v5, rfl, o5, f5⟩
              have o6 := own_app o5 rfl
              have it5 := it3.fr f5 (own_it it3 o4)
              have fr5 := fr3.rowN o4 (Nat.le_refl _) f5
              have hs5 := fr5.size
              clear o5 f5 it3 o4
              generalize hX : o ++ [92, 117] ++ hexL r = X at *
              have hXl : X.length ≤ 12 * s.size + 11 := by rw [← hX]; simp only [List.length_append, List.length_cons, List.length_nil]; omega
              replace hX := Lib.hid hX
              go_wp2_with (first
                | (at_builtin; go_must (refine wpList_append_at _ rfl (.tmp 22) (.tmp 23) 119 rfl w.heap.size 5 i0 (.int .u8 0) 1 1 Tryz.underlying119 hi hz0 hz1 hz2 rfl (by decide) _ X.length (X.map cellB) rfl (o6.alloc _) ⟨w5.heap.size, 0, none⟩ 1 1 (([46] : List UInt8).map cellB) rfl rfl (news_at w5 _ _) (bytes_one _) ?_ ?_ ?_ ?_))
                | fail)
              · unfold maxLen; (try simp only [List.length_append, List.length_cons, List.length_nil]); omega
              · (try simp only [List.length_append, List.length_cons, List.length_nil]); omega
              · first | omega | (simp; omega)
              intro v7 w7 o7 gr7 _
              have f7 : Fr (rowB v5) w5 w7 := ((Fr.refl (rowB v5) w5).alloc _).grown gr7 (fun k hk _ => hk)
              have o8 : w7.ownsRow w.heap.size 5 1 v7 (o ++ ([92, 117] ++ hexL r ++ [46])).length ((o ++ ([92, 117] ++ hexL r ++ [46])).map cellB) := by
                rw [show o ++ ([92, 117] ++ hexL r ++ [46]) = X ++ [46] by rw [← hX.out]; simp only [List.append_assoc]]
                exact own_app o7 rfl
              have it7 := it5.fr f7 (own_it it5 o6)
              have fr7 := fr5.rowN o6 (Nat.le_refl _) f7
              have hi7 := Lib.hid it7.ipos
              clear gr7 o6 it5 o7
              go_wp2_with fail
              go_roundw
              case rel => exact ⟨_, o ++ ([92, 117] ++ hexL r ++ [46]), it7, fr7, hd, o8, by rw [hk.out, hq.out]; simp only [List.append_assoc]⟩
              case measure => rw [hi1.out, hi7.out]; omega
            · have n1 : ¬ (r : Int) ≤ 126 := by omega
              have n2 : ¬ (r : Int) ≤ 591 := by omega
              have n3 : 32 ≤ r := by omega
              have n4 : 161 ≤ r := by omega
              go_wp2_with fail
              refine hbr.mono ?_
              rintro e w3 ⟨rfl, hw3⟩
              obtain rfl := hw3.symm
              clear hbr
              go_wp2_with (first
                | (at_builtin; go_must (refine wpList_append_at _ rfl (.tmp 15) (.tmp 16) 119 rfl w.heap.size 5 i0 (.int .u8 0) 1 1 Tryz.underlying119 hi hz0 hz1 hz2 rfl (by decide) _ o.length (o.map cellB) rfl (own2.alloc _) ⟨w2.heap.size, 0, none⟩ 2 2 (([92, 117] : List UInt8).map cellB) rfl rfl (news_at w2 _ _) (bytes_one _) ?_ ?_ ?_ ?_))
                | fail)
              · unfold maxLen; (try simp only [List.length_append, List.length_cons, List.length_nil]); omega
              · (try simp only [List.length_append, List.length_cons, List.length_nil]); omega
              · first | omega | (simp; omega)
              intro v3 w3 o3 gr3 _
              have f3 : Fr (rowB u3) w2 w3 := ((Fr.refl (rowB u3) w2).alloc _).grown gr3 (fun k hk _ => hk)
              have o4 : w3.ownsRow w.heap.size 5 1 v3 (o ++ [92, 117]).length ((o ++ [92, 117]).map cellB) := by simpa using o3
              have it3 := it2.fr f3 (own_it it2 own2)
              have fr3 := fr2.rowN own2 (Nat.le_refl _) f3
              have hs3 := fr3.size
              clear gr3 own2 it2 o3
              go_wp2_with fail
              refine (appendInt_16 w.heap.size _ r hrl v3 _ w3 (hg.fr fr3) o4 hs3 (by simp only [List.length_append, List.length_cons, List.length_nil]; omega)).mono ?_
              rintro e w5 ⟨v5, rfl, o5, f5⟩
              have o6 := own_app o5 rfl
              have it5 := it3.fr f5 (own_it it3 o4)
              have fr5 := fr3.rowN o4 (Nat.le_refl _) f5
              have hs5 := fr5.size
              clear o5 f5 it3 o4
              generalize hX : o ++ [92, 117] ++ hexL r = X at *
              have hXl : X.length ≤ 12 * s.size + 11 := by rw [← hX]; simp only [List.length_append, List.length_cons, List.length_nil]; omega
              replace hX := Lib.hid hX
              go_wp2_with (first
                | (at_builtin; go_must (refine wpList_append_at _ rfl (.tmp 22) (.tmp 23) 119 rfl w.heap.size 5 i0 (.int .u8 0) 1 1 Tryz.underlying119 hi hz0 hz1 hz2 rfl (by decide) _ X.length (X.map cellB) rfl (o6.alloc _) ⟨w5.heap.size, 0, none⟩ 1 1 (([46] : List UInt8).map cellB) rfl rfl (news_at w5 _ _) (bytes_one _) ?_ ?_ ?_ ?_))
                | fail)
              · unfold maxLen; (try simp only [List.length_append, List.length_cons, List.length_nil]); omega
              · (try simp only [List.length_append, List.length_cons, List.length_nil]); omega
              · first | omega | (simp; omega)
              intro v7 w7 o7 gr7 _
              have f7 : Fr (rowB v5) w5 w7 := ((Fr.refl (rowB v5) w5).alloc _).grown gr7 (fun k hk _ => hk)
              have o8 : w7.ownsRow w.heap.size 5 1 v7 (o ++ ([92, 117] ++ hexL r ++ [46])).length ((o ++ ([92, 117] ++ hexL r ++ [46])).map cellB) := by
                rw [show o ++ ([92, 117] ++ hexL r ++ [46]) = X ++ [46] by rw [← hX.out]; simp only [List.append_assoc]]
                exact own_app o7 rfl
              have it7 := it5.fr f7 (own_it it5 o6)
              have fr7 := fr5.rowN o6 (Nat.le_refl _) f7
              have hi7 := Lib.hid it7.ipos
              clear gr7 o6 it5 o7
              go_wp2_with fail
              go_roundw
              case rel => exact ⟨_, o ++ ([92, 117] ++ hexL r ++ [46]), it7, fr7, hd, o8, by rw [hk.out, hq.out]; simp only [List.append_assoc]⟩
              case measure => rw [hi1.out, hi7.out]; omega
    · have hnx := next_end (P := Tryz.prog) it hp
      rw [drop_end hp, quote_nil, List.append_nil] at hk
      have hcv := string_of_row (P := Tryz.prog) 119 9 5 Tryz.underlying119 Tryz.underlying5 Tryz.underlying9 own
      replace hk := Lib.hid hk
      go_wp2_with fail
      go_ret
      exact ⟨ret_str (by rw [hk.out]), fr⟩
end Go.Proofs.YtdmhnoffejjpnaaGreatDoor
end

section
set_option linter.unusedVariables false
set_option linter.unusedSimpArgs false
set_option maxRecDepth 100000
namespace Go.Proofs.YtdmhnoffejjpnaaGreatDoor
open Go Go.Lib

theorem dec_asc (x : UInt8) (t : List UInt8) (h : x.toNat < 128) : dec (x :: t) = (x.toNat, 1) := by
  unfold dec decodeN
  simp only [List.getD_cons_zero, h, if_true]
theorem okD_asc (x : UInt8) (t : List UInt8) (h : x.toNat < 128) : okD (x :: t) = true := by
  rw [okD_iff, dec_asc x t h]
  simp
  omega
theorem valid_asc : ∀ (l : List UInt8), (∀ x ∈ l, x.toNat < 128) → validL l = true ∧ (chunks l).length = l.length
  | [], _ => ⟨rfl, rfl⟩
  | x :: t, h => by
    have hx := h x (by simp)
    obtain ⟨i1, i2⟩ := valid_asc t (fun y hy => h y (by simp [hy]))
    have hd := dec_asc x t hx
    have hc : chunks (x :: t) = [x] :: chunks t := by rw [chunks_cons _ (by simp), hd]; rfl
    refine ⟨?_, by rw [hc]; simp [i2]⟩
    unfold validL at *
    rw [hc, List.all_cons, i1, okD_asc x [] hx]
    rfl
theorem hex_asc (n : Nat) : ∀ x ∈ hexL n, x.toNat < 128 := by
  intro x hx
  obtain ⟨k, hk, rfl⟩ := hexF_mem 8 n x hx
  rw [hexD_nat k hk]
  split <;> omega
theorem hexD_asc (k : Nat) (hk : k < 16) : (hexD k).toNat < 128 := by
  rw [hexD_nat k hk]
  split <;> omega
theorem chunks_one (c : List UInt8) (h : Pc c) : chunks c = [c] := by
  rw [chunks_cons c h.1, h.2, List.take_of_length_le (Nat.le_refl _), List.drop_of_length_le (Nat.le_refl _), chunks_nil]
theorem qC_valid (c : List UInt8) (h : Pc c) : validL (qC c) = true ∧ c.length ≤ (qC c).length := by
  cases hok : okD c with
  | false =>
    obtain ⟨b, rfl, hb⟩ := bad_one c h hok
    have hl := b.toNat_lt
    rw [qC_bad b hok]
    refine ⟨(valid_asc _ ?_).1, by simp⟩
    intro x hx
    simp only [List.mem_cons, List.not_mem_nil, or_false] at hx
    rcases hx with rfl | rfl | rfl | rfl
    · decide
    · decide
    · exact hexD_asc _ (by omega)
    · exact hexD_asc _ (by omega)
  | true =>
    have he := enc_dec c h.1 h.2 hok
    have h4 := dec_w4 c
    rw [h.2] at h4
    by_cases h92 : (dec c).1 = 92
    · have hc : c = [92] := by rw [← he, h92]; rfl
      rw [qC_slash c hok h92]
      exact ⟨by decide +kernel, by rw [hc]; simp⟩
    · by_cases hp : printR (dec c).1 = true
      · rw [qC_plain c hok h92 hp]
        refine ⟨?_, Nat.le_refl _⟩
        unfold validL
        rw [chunks_one c h]
        simp [hok]
      · rw [qC_num c hok h92 hp]
        have hl := hexL_len (dec c).1
        refine ⟨(valid_asc _ ?_).1, by simp; omega⟩
        intro x hx
        simp only [List.mem_append, List.mem_cons, List.not_mem_nil, or_false] at hx
        rcases hx with ((rfl | rfl) | hx) | rfl
        · decide
        · decide
        · exact hex_asc _ x hx
        · decide
theorem quote_valid (l : List UInt8) : validL (quoteL l) = true ∧ l.length ≤ (quoteL l).length := by
  have key : ∀ cs : List (List UInt8), (∀ c ∈ cs, Pc c) → validL (cs.flatMap qC) = true ∧ cs.flatten.length ≤ (cs.flatMap qC).length := by
    intro cs
    induction cs with
    | nil => intro _; exact ⟨rfl, by simp⟩
    | cons c cs ih =>
      intro h
      obtain ⟨a1, a2⟩ := qC_valid c (h c (by simp))
      obtain ⟨b1, b2⟩ := ih (fun d hd => h d (by simp [hd]))
      rw [List.flatMap_cons]
      refine ⟨by rw [valid_app _ _ a1]; exact b1, by rw [List.flatten_cons, List.length_append, List.length_append]; omega⟩
  have := key (chunks l) (chunks_pc l)
  rw [chunks_flat] at this
  exact this
/-- quoted texts, joined -/
theorem quote_app (a b : List UInt8) (h : validL a = true) : quoteL (a ++ b) = quoteL a ++ quoteL b := by
  unfold quoteL
  rw [chunks_app a b h, List.flatMap_append]
theorem unqL_quote (l : List UInt8) : unqP unq1 (quoteL l) = some l := unqP_quote good_unq1 l
end Go.Proofs.YtdmhnoffejjpnaaGreatDoor
end
