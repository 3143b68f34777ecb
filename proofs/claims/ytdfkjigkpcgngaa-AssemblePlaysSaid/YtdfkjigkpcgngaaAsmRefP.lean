/-
  The reference gathers an agent's spans.
-/
import Derived.Test.YtdfkjigkpcgngaaAsmRefS
set_option linter.unusedVariables false
set_option linter.unusedSimpArgs false
set_option maxRecDepth 100000
namespace Go.Proofs.Ytdfkjigkpcgngaa
open Go.RowKit Go Go.Maps Go.Lib

def hitq (a i : Int) (c : Kq) : Bool := decide (c.a = a) && decide (c.i = i)
theorem hit_none {K : List Kq} {a i : Int} (h : K.find? (hitq a i) = none) : ∀ c ∈ K.map Kq.kp, ¬ (c.a = a ∧ c.i = i) := by
  intro c hc e
  obtain ⟨y, hy, rfl⟩ := List.mem_map.1 hc
  have := List.find?_eq_none.1 h y hy
  unfold hitq at this
  have e' : y.a = a ∧ y.i = i := e
  simp [e'.1, e'.2] at this
theorem hit_some {K : List Kq} {a i : Int} {c : Kq} (h : K.find? (hitq a i) = some c) : c ∈ K ∧ c.a = a ∧ c.i = i := by
  have h1 := List.find?_some h
  unfold hitq at h1
  simp at h1
  exact ⟨List.mem_of_find?_eq_some h, h1⟩
theorem hit_step {K : List Kq} {a i : Int} {k : Nat} {y : Kq} (hy : K[k]? = some y) : (K.take (k + 1)).find? (hitq a i) = ((K.take k).find? (hitq a i)).or (if hitq a i y = true then some y else none) := by
  rw [List.take_add_one, hy, List.find?_append]
  congr 1
  simp only [Option.toList_some, List.find?_cons, List.find?_nil]
  cases hitq a i y <;> rfl
/-- two chunks of one agent have two indexes -/
theorem hit_un {C : CH} {K : List Kq} (h : CK C (K.map Kq.kp)) {a i : Int} {k : Nat} {y : Kq} (hy : K[k]? = some y) (hh : hitq a i y = true) : (K.take k).find? (hitq a i) = none := by
  cases hf : (K.take k).find? (hitq a i) with
  | none => rfl
  | some c =>
    exfalso
    obtain ⟨h1, h2, h3⟩ := hit_some hf
    obtain ⟨j, hj, hje⟩ := List.getElem_of_mem h1
    rw [List.length_take] at hj
    have hkl := (List.getElem?_eq_some_iff.1 hy).1
    have hjk : j < k := by omega
    have e1 : (K.map Kq.kp)[j]'(by rw [List.length_map]; omega) = c.kp := by
      rw [List.getElem_map, ← hje, List.getElem_take]
    have e2 : (K.map Kq.kp)[k]'(by rw [List.length_map]; omega) = y.kp := by
      rw [List.getElem_map, (List.getElem?_eq_some_iff.1 hy).2]
    have := List.pairwise_iff_getElem.1 h.un j k (by rw [List.length_map]; omega) (by rw [List.length_map]; omega) hjk
    rw [e1, e2] at this
    unfold hitq at hh
    simp at hh
    exact this ⟨h2.trans hh.1.symm, h3.trans hh.2.symm⟩
/-- what was gathered, ahead of the i-th chunk -/
def GI (C : CH) (a : Int) (i : Nat) (n0 : Int) (O : List Sp) : Prop :=
  (i = 0 ∧ n0 = 0 ∧ O = []) ∨ (1 ≤ i ∧ ∃ t L, look C a = some (t, L) ∧ n0 = t ∧ (i : Int) ≤ t ∧ O = (rowsOf L i).flatten ∧ ∀ j : Nat, j < i → look L (j : Int) ≠ none)
theorem gi_next {C : CH} {K : List Kq} (h : CK C (K.map Kq.kp)) {a : Int} {i : Nat} {n0 : Int} {O : List Sp} (g : GI C a i n0 O) (hg : n0 = 0 ∨ (i : Int) < n0) {c : Kq} (hc : K.find? (hitq a (i : Int)) = some c) : GI C a (i + 1) c.n (O ++ c.sp) := by
  obtain ⟨h1, h2, h3⟩ := hit_some hc
  have hm : c.kp ∈ K.map Kq.kp := List.mem_map_of_mem h1
  cases hl : look C a with
  | none => exact absurd h2 (h.no a hl c.kp hm)
  | some x =>
    obtain ⟨t, L⟩ := x
    obtain ⟨y1, y2, y3, y4, y5⟩ := h.yes a t L hl
    obtain ⟨z1, z2⟩ := y1 c.kp hm h2
    have z1' : c.n = t := z1
    have z2' : look L (i : Int) = some c.sp := by rw [← h3]; exact z2
    have hix := h.ix c.kp hm
    have hix' : 0 ≤ c.i ∧ c.i < c.n := hix
    refine Or.inr ⟨by omega, t, L, hl, z1', by omega, ?_, ?_⟩
    · rw [rowsOf_succ, List.flatten_append, z2']
      rcases g with ⟨rfl, _, rfl⟩ | ⟨_, t', L', hl', _, _, hO, _⟩
      · simp [rowsOf]
      · rw [hl] at hl'
        injection hl' with hl'
        injection hl' with e1 e2
        subst e1 e2
        rw [hO]; simp
    · intro j hj
      rcases Nat.lt_or_ge j i with q | q
      · rcases g with ⟨rfl, _, _⟩ | ⟨_, t', L', hl', _, _, _, hall⟩
        · omega
        · rw [hl] at hl'
          injection hl' with hl'
          injection hl' with e1 e2
          subst e1 e2
          exact hall j q
      · obtain rfl : j = i := by omega
        rw [z2']; simp
theorem gi_miss {C : CH} {K : List Kq} (h : CK C (K.map Kq.kp)) (tr : Int) (p : Pn) {i : Nat} {n0 : Int} {O : List Sp} (g : GI C p.a i n0 O) (hg : n0 = 0 ∨ (i : Int) < n0) (hc : K.find? (hitq p.a (i : Int)) = none) : partOf tr C p = none := by
  cases hl : look C p.a with
  | none => exact part_no tr p hl
  | some x =>
    obtain ⟨t, L⟩ := x
    have hn : look L (i : Int) = none := (ck_find h hl (i : Int)).2 (hit_none hc)
    have ht := ck_t h hl
    refine part_miss tr h p hl (i := i) ?_ hn
    rcases g with ⟨rfl, _, _⟩ | ⟨h1, t', L', hl', e, hle, _, _⟩
    · omega
    · rw [hl] at hl'
      injection hl' with hl'
      injection hl' with e1 e2
      omega
theorem gi_end {C : CH} {K : List Kq} (h : CK C (K.map Kq.kp)) (tr : Int) (p : Pn) {i : Nat} {n0 : Int} {O : List Sp} (g : GI C p.a i n0 O) (hg : ¬ (n0 = 0 ∨ (i : Int) < n0)) : partOf tr C p = if (O.length : Int) = p.n ∧ rowF tr 0 O = true then some O else none := by
  rcases g with ⟨_, h0, _⟩ | ⟨h1, t, L, hl, e, hle, hO, hall⟩
  · exact absurd (Or.inl h0) hg
  · have hit : (i : Int) = t := by omega
    rw [part_full tr h p hl (fun j hj => hall j (by omega)), hO, show t.toNat = i by omega]
theorem gi_len {C : CH} {K : List Kq} (h : CK C (K.map Kq.kp)) (h2 : ∀ k ∈ K, k.sp.length ≤ 2 ∧ k.n ≤ 500) {a : Int} {i : Nat} {n0 : Int} {O : List Sp} (g : GI C a i n0 O) : i ≤ 500 ∧ O.length ≤ 1000 := by
  rcases g with ⟨rfl, _, rfl⟩ | ⟨h1, t, L, hl, e, hle, hO, hall⟩
  · exact ⟨by omega, by simp⟩
  · obtain ⟨y1, y2, y3, y4, y5⟩ := h.yes a t L hl
    have hL2 : ∀ e ∈ L, e.2.length ≤ 2 := by
      intro e he
      have hnd := y3
      have hlk : look L e.1 = some e.2 := look_mem hnd he
      obtain ⟨k, hk, hke⟩ := List.mem_map.1 (y2 e.1 e.2 hlk)
      have e2 : k.sp = e.2 := congrArg Kp.sp hke
      rw [← e2]
      exact (h2 k hk).1
    have ht : t ≤ 500 := by
      cases hL : L with
      | nil => exact absurd hL y4
      | cons e r =>
        have hlk : look L e.1 = some e.2 := by rw [hL, show e :: r = (e.1, e.2) :: r from rfl, look_cons, if_pos rfl]
        obtain ⟨k, hk, hke⟩ := List.mem_map.1 (y2 e.1 e.2 hlk)
        have e2 : k.n = t := congrArg Kp.n hke
        have := (h2 k hk).2
        omega
    have := rows_len L hL2 i
    rw [← hO] at this
    omega

theorem wrap1 (k : Nat) (h : k ≤ 100000) : wrap64 ((k : Int) + 1) = (k : Int) + 1 := IntWalk.wrap64_in _ (by omega)
set_option maxHeartbeats 16000000 in
theorem gpart_any (q : Nat) (E : Nat → Prop) (M0 : Nat) (r : RS) (Mm : MR) (ca : Option Addr) (cc : Nat) (C : CH) (p : Pn) (ua : Option Addr) (un uc : Nat) (w : World) (h : AR w q E M0 r Mm ca cc) (hck : CK C (r.K.map Kq.kp)) (h2 : ∀ k ∈ r.K, k.sp.length ≤ 2 ∧ k.n ≤ 500) :
    Calls Try.prog 29 #[.pointer (some ⟨q, 0, none⟩), .agg #[.int .i64 p.a, .int .i64 p.t, .int .i64 p.j, .int .i64 p.n, .slice ua un uc, .bool p.lo]] w fun e w' => SpPost e w w' (partOf r.tr C p) := by
  obtain ⟨i0, hi, hz0, hz1, hz2⟩ := info_parts Try.infoSpan
  obtain ⟨R, hR⟩ : ∃ R, partOf r.tr C p = R := ⟨_, rfl⟩
  rw [hR]
  have hmiss := fun (i : Nat) (n0 : Int) (O : List Sp) (g : GI C p.a i n0 O) hg hc => (gi_miss hck r.tr p g hg hc).symm.trans hR
  have hend := fun (i : Nat) (n0 : Int) (O : List Sp) (g : GI C p.a i n0 O) hg => (gi_end hck r.tr p g hg).symm.trans hR
  have f1 : Fr noB w (w.alloc (.cells #[.int .i64 p.a, .int .i64 p.t, .int .i64 p.j, .int .i64 p.n, .slice ua un uc, .bool p.lo] 30)) := (Fr.refl _ _).alloc _
  have b1 := Blk.new w 30 [.int .i64 p.a, .int .i64 p.t, .int .i64 p.j, .int .i64 p.n, .slice ua un uc, .bool p.lo]
  obtain ⟨pb, hpb⟩ : ∃ pb, w.heap.size = pb := ⟨_, rfl⟩
  rw [hpb] at b1
  obtain ⟨n, hn⟩ : ∃ n, r.K.length = n := ⟨_, rfl⟩
  have hget : ∀ k, k < n → ∃ y, r.K[k]? = some y := fun k hk => ⟨r.K[k]'(by omega), List.getElem?_eq_getElem (by omega)⟩
  have hlen := h.len
  rw [hn] at hlen
  replace h := Lib.hid h
  replace hck := Lib.hid hck
  replace h2 := Lib.hid h2
  replace hR := Lib.hid hR
  replace hmiss := Lib.hid hmiss
  replace hend := Lib.hid hend
  replace hget := Lib.hid hget
  replace hn := Lib.hid hn
  go_enter Try.func29, Try.ntmps29
  go_upto_region 1 with fail
  try rw [hpb]
  generalize (w.alloc (.cells #[.int .i64 p.a, .int .i64 p.t, .int .i64 p.j, .int .i64 p.n, .slice ua un uc, .bool p.lo] 30)) = w1 at *
  replace hpb := Lib.hid hpb
  replace f1 := Lib.hid f1
  replace b1 := Lib.hid b1
  go_wp2_with fail
  go_loopg [6, 7, 8] 501 (fun gk vo vn vi wr => ∃ (i : Nat) (n0 : Int) (O : List Sp), i + gk = 501 ∧ vi = .int .i64 i ∧ vn = .int .i64 n0 ∧ Hid (GI C p.a i n0 O) ∧ Hid (wr.ownsRow pb 63 3 vo O.length (O.flatMap spC)) ∧ Fr noB w wr ∧ Hid (Blk wr pb 30 [.int .i64 p.a, .int .i64 p.t, .int .i64 p.j, .int .i64 p.n, .slice ua un uc, .bool p.lo]))
  case atStart => exact ⟨0, 0, [], by omega, rfl, rfl, Lib.hid (Or.inl ⟨rfl, rfl, rfl⟩), Lib.hid (World.ownsRow_nil _ _ _ _), f1.out, b1⟩
  case round =>
    obtain ⟨i, n0, O, hik, rfl, rfl, hG, hown, fr, hbp⟩ := hrel
    obtain ⟨wo, hwo⟩ : ∃ wo : World, wo = wr := ⟨_, rfl⟩
    subst hwo
    obtain ⟨gout, hgo⟩ : ∃ g : Nat, g = gk := ⟨_, rfl⟩
    subst hgo
    obtain ⟨vout, hvo⟩ : ∃ v : Value, v = u6 := ⟨_, rfl⟩
    subst hvo
    obtain ⟨hi5, hO5⟩ := gi_len hck.out h2.out hG.out
    have ewrap := wrap1 i (by omega)
    replace hO5 := Lib.hid hO5
    by_cases hz : n0 = 0
    · have e0 : (n0 == 0) = true := by simpa using hz
      have hng : n0 = 0 ∨ (i : Int) < n0 := Or.inl hz
      replace hz := Lib.hid hz
      have hmeas : 501 - (i + 1) < gout := by omega
      have hik2 : i + 1 + (501 - (i + 1)) = 501 := by omega
      replace hng := Lib.hid hng
      replace hmeas := Lib.hid hmeas
      replace hik2 := Lib.hid hik2
      clear hik
      go_wp2_with fail
      go_loopg [6, 7, 9, 10] n (fun gk vo vn vf vk wr => ∃ (k : Nat) (hc : Option Kq), k + gk = n ∧ vk = .int .i64 k ∧ vf = .bool hc.isSome ∧ vn = .int .i64 ((hc.map Kq.n).getD n0) ∧ Hid ((r.K.take k).find? (hitq p.a (i : Int)) = hc) ∧ Hid (wr.ownsRow pb 63 3 vo (O ++ (hc.map Kq.sp).getD []).length ((O ++ (hc.map Kq.sp).getD []).flatMap spC)) ∧ Fr noB w wr ∧ Hid (Blk wr pb 30 [.int .i64 p.a, .int .i64 p.t, .int .i64 p.j, .int .i64 p.n, .slice ua un uc, .bool p.lo]))
      case atStart => exact ⟨0, none, Nat.zero_add _, rfl, rfl, rfl, Lib.hid rfl, Lib.hid (by simpa using hown.out), fr, hbp⟩
      case round =>
        obtain ⟨k, hc, hk, rfl, rfl, rfl, hfd, hown2, fr2, hbp2⟩ := hrel
        clear fr hown hbp
        have AW := h.out.frN fr2
        have bw := hbp2.out
        have d18 : wr.cell? ⟨q, 18, none⟩ = some (.slice ca n cc) := by rw [← hn.out]; exact AW.blk.cell 18
        by_cases hlt : k < n
        · obtain ⟨y, hy⟩ := hget.out k hlt
          obtain ⟨g, rfl, hcell⟩ := AW.get hy
          have m0 : wr.cell? ⟨pb, 0, none⟩ = some (.int .i64 p.a) := bw.cell 0
          have c1 : wr.cell? ⟨g, k * 15 + 1, none⟩ = some (.int .i64 y.a) := hcell 1 _ rfl
          have c5 : wr.cell? ⟨g, k * 15 + 5, none⟩ = some (.int .i64 y.i) := hcell 5 _ rfl
          have hst := hit_step (a := p.a) (i := (i : Int)) hy
          have hb1 : (k : Int) < n := by omega
          have hms2 : n - (k + 1) < gk := by omega
          have hkn2 : k + 1 + (n - (k + 1)) = n := by omega
          replace hms2 := Lib.hid hms2
          replace hkn2 := Lib.hid hkn2
          by_cases ha : y.a = p.a
          · have ea : (y.a == p.a) = true := by simpa using ha
            by_cases hi2 : y.i = (i : Int)
            · have ei : (y.i == (i : Int)) = true := by simpa using hi2
              have hh : hitq p.a (i : Int) y = true := by unfold hitq; simp [ha, hi2]
              have hcn : hc = none := by rw [← hfd.out]; exact hit_un hck.out hy hh
              subst hcn
              rw [hh, hfd.out] at hst
              have hst2 : (r.K.take (k + 1)).find? (hitq p.a (i : Int)) = some y := hst
              replace hst2 := Lib.hid hst2
              have hy2 := h2.out y (List.mem_of_getElem? hy)
              have c6 : wr.cell? ⟨g, k * 15 + 6, none⟩ = some (.int .i64 y.n) := hcell 6 _ rfl
              have c14 : wr.cell? ⟨g, k * 15 + 14, none⟩ = some (.slice y.sa y.sp.length y.sc) := hcell 14 _ rfl
              have hsp := (AW.sps y (List.mem_of_getElem? hy)).1
              have hor := fun nq => (hsp.frN ((Fr.refl noB wr).drewN nq)).or
              have hone := flat_one y.sp
              have hfl := flat_lenS y.sp
              have o2 : wr.ownsRow pb 63 3 u6 O.length (O.flatMap spC) := by simpa using hown2.out
              have hOl := hO5.out
              have hwB : pb ≤ wr.heap.size := Nat.le_of_lt bw.lt
              clear hst hcell hy bw hlt hk
              replace AW := Lib.hid AW
              replace ha := Lib.hid ha
              replace hi2 := Lib.hid hi2
              replace hh := Lib.hid hh
              replace hor := Lib.hid hor
              replace hone := Lib.hid hone
              replace hsp := Lib.hid hsp
              replace hy2 := Lib.hid hy2
              replace fr2 := Lib.hid fr2
              obtain ⟨X, hX⟩ : ∃ X, y.sp.flatMap spC = X := ⟨_, rfl⟩
              obtain ⟨N, hN⟩ : ∃ N, y.sp.length = N := ⟨_, rfl⟩
              obtain ⟨X1, hX1⟩ : ∃ X1, O.flatMap spC = X1 := ⟨_, rfl⟩
              obtain ⟨N1, hN1⟩ : ∃ N1, O.length = N1 := ⟨_, rfl⟩
              rw [hX, hN] at hor hfl
              rw [hX] at hone
              rw [hN] at c14
              rw [hX1, hN1] at o2
              rw [hN1] at hOl
              have hN2 : N ≤ 2 := by rw [← hN]; exact hy2.out.1
              replace hX := Lib.hid hX
              replace hN := Lib.hid hN
              replace hX1 := Lib.hid hX1
              replace hN1 := Lib.hid hN1
              replace hfl := Lib.hid hfl
              go_wp2_with fail
              go_quiet (fail)
              have o3 := ownsRow_drewN o2 nq
              have hor3 := hor.out nq
              have fr3 := fr2.out.drewN nq
              have hbp3 := Lib.hid (hbp2.out.drewN nq)
              have d18' : (wr.drewN nq).cell? ⟨q, 18, none⟩ = some (.slice (some ⟨g, 0, none⟩) n cc) := d18
              have c6' : (wr.drewN nq).cell? ⟨g, k * 15 + 6, none⟩ = some (.int .i64 y.n) := c6
              have c14' : (wr.drewN nq).cell? ⟨g, k * 15 + 14, none⟩ = some (.slice y.sa N y.sc) := c14
              have hwB3 : pb ≤ (wr.drewN nq).heap.size := hwB
              have AW3 := Lib.hid (AW.out.frN ((Fr.refl noB wr).drewN nq))
              generalize wr.drewN nq = w3 at *
              replace hor3 := Lib.hid hor3
              replace fr3 := Lib.hid fr3
              clear d18 c1 c5 c6 c14 m0 o2 hwB hsp hor
              go_wp2_with (first
                | (at_builtin; go_must (refine wpList_append_rd _ rfl (.tmp 53) (.tmp 61) 32 rfl pb 63 i0 _ 3 32 Try.underlying32 hi hz0 hz1 hz2 rfl (by decide) _ N1 X1 rfl o3 N _ X rfl hor3.out hfl.out hone.out ?_ ?_ hwB3 ?_))
                | fail)
              · unfold maxLen; omega
              · omega
              intro v8 w8 o8 f8
              have fr8 : Fr noB w w8 := fr3.out.trans f8 (fun _ _ q => q) (fun i hi q => by have := (o3.lt i q).1; have := hpb.out; omega)
              have b8 := Lib.hid (f8.blk hbp3.out (fun e => row_not o3 hbp3.out (by decide) e))
              have AW8 := AW3.out.fr f8 (fun g' hg' e => by
                have h1 := (o3.lt g' e).1
                have h3 := (h.out.lo q h.out.eq)
                have h4 := hpb.out
                rcases hg' with hg' | hg'
                · have := (h.out.lo g' hg').2; omega
                · omega)
              rw [← hN1.out, ← hN.out, ← hX1.out, ← hX.out, ← List.length_append, ← List.flatMap_append] at o8
              have d18'' : w8.cell? ⟨q, 18, none⟩ = some (.slice (some ⟨g, 0, none⟩) n cc) := by rw [← hn.out]; exact AW8.blk.cell 18
              have c6'' : w8.cell? ⟨g, k * 15 + 6, none⟩ = some (.int .i64 y.n) := f8.cell c6' (fun e => by
                have h1 := (o3.lt g e).1
                have h4 := hpb.out
                have h5 := (h.out.lo g (h.out.er g rfl)).2
                omega)
              have o8' : Hid (w8.ownsRow pb 63 3 v8 (O ++ ((some y).map Kq.sp).getD []).length ((O ++ ((some y).map Kq.sp).getD []).flatMap spC)) := Lib.hid o8
              clear o3 c6' c14' d18' hwB3 f8 o8
              replace AW8 := Lib.hid AW8
              go_wp2_with fail
              go_roundg (n - (k + 1))
              case rel => exact ⟨k + 1, some y, hkn2.out, by go_num, rfl, rfl, hst2, o8', fr8, b8⟩
              case measure => exact hms2.out
            · have ei : (y.i == (i : Int)) = false := by simpa using hi2
              have hh : hitq p.a (i : Int) y = false := by unfold hitq; simp [hi2]
              rw [hh, hfd.out] at hst
              have hst2 : (r.K.take (k + 1)).find? (hitq p.a (i : Int)) = hc := by rw [hst]; simp
              replace hst2 := Lib.hid hst2
              clear hst hcell hy bw hlt hk hfd
              replace AW := Lib.hid AW
              replace ha := Lib.hid ha
              replace hi2 := Lib.hid hi2
              replace hh := Lib.hid hh
              replace fr2 := Lib.hid fr2
              go_wp2_with fail
              go_quiet (fail)
              have fr3 := fr2.out.drewN nq
              have o3 : Hid ((wr.drewN nq).ownsRow pb 63 3 u6 (O ++ (hc.map Kq.sp).getD []).length ((O ++ (hc.map Kq.sp).getD []).flatMap spC)) := Lib.hid (ownsRow_drewN hown2.out nq)
              go_wp2_with fail
              go_roundg (n - (k + 1))
              case rel => exact ⟨k + 1, hc, hkn2.out, by go_num, rfl, rfl, hst2, o3, fr3, Lib.hid (hbp2.out.drewN nq)⟩
              case measure => exact hms2.out
          · have ea : (y.a == p.a) = false := by simpa using ha
            have hh : hitq p.a (i : Int) y = false := by unfold hitq; simp [ha]
            rw [hh, hfd.out] at hst
            have hst2 : (r.K.take (k + 1)).find? (hitq p.a (i : Int)) = hc := by rw [hst]; simp
            replace hst2 := Lib.hid hst2
            clear hst hcell hy bw hlt hk hfd
            replace AW := Lib.hid AW
            replace ha := Lib.hid ha
            replace hh := Lib.hid hh
            replace fr2 := Lib.hid fr2
            go_wp2_with fail
            go_quiet (fail)
            have fr3 := fr2.out.drewN nq
            have o3 : Hid ((wr.drewN nq).ownsRow pb 63 3 u6 (O ++ (hc.map Kq.sp).getD []).length ((O ++ (hc.map Kq.sp).getD []).flatMap spC)) := Lib.hid (ownsRow_drewN hown2.out nq)
            go_wp2_with fail
            go_roundg (n - (k + 1))
            case rel => exact ⟨k + 1, hc, hkn2.out, by go_num, rfl, rfl, hst2, o3, fr3, Lib.hid (hbp2.out.drewN nq)⟩
            case measure => exact hms2.out
        · obtain rfl : k = n := by omega
          have hf : r.K.find? (hitq p.a (i : Int)) = hc := by
            have := hfd.out
            rwa [List.take_of_length_le (by rw [hn.out]; exact Nat.le_refl _)] at this
          replace AW := Lib.hid AW
          replace fr2 := Lib.hid fr2
          clear hfd bw hk hlt
          cases hcv : hc with
          | none =>
            subst hcv
            obtain rfl : none = R := hmiss.out _ _ _ hG.out hng.out hf
            replace hf := Lib.hid hf
            go_wp2_with fail
            go_ret2
            exact sp_none fr2.out
          | some y =>
            subst hcv
            have hG2 := Lib.hid (gi_next hck.out hG.out hng.out hf)
            replace hf := Lib.hid hf
            have o3 : Hid (wr.ownsRow pb 63 3 u6 (O ++ y.sp).length ((O ++ y.sp).flatMap spC)) := hown2
            clear hown2
            go_wp2_with fail
            go_roundg (501 - (i + 1))
            case rel => exact ⟨i + 1, y.n, O ++ y.sp, hik2.out, by go_num, rfl, hG2, o3, fr2.out, hbp2⟩
            case measure => exact hmeas.out
    · have e0 : (n0 == 0) = false := by simpa using hz
      by_cases hlt0 : (i : Int) < n0
      · have hng : n0 = 0 ∨ (i : Int) < n0 := Or.inr hlt0
        replace hz := Lib.hid hz
        have hmeas : 501 - (i + 1) < gout := by omega
        have hik2 : i + 1 + (501 - (i + 1)) = 501 := by omega
        replace hng := Lib.hid hng
        replace hmeas := Lib.hid hmeas
        replace hik2 := Lib.hid hik2
        clear hik
        go_wp2_with fail
        go_loopg [6, 7, 9, 10] n (fun gk vo vn vf vk wr => ∃ (k : Nat) (hc : Option Kq), k + gk = n ∧ vk = .int .i64 k ∧ vf = .bool hc.isSome ∧ vn = .int .i64 ((hc.map Kq.n).getD n0) ∧ Hid ((r.K.take k).find? (hitq p.a (i : Int)) = hc) ∧ Hid (wr.ownsRow pb 63 3 vo (O ++ (hc.map Kq.sp).getD []).length ((O ++ (hc.map Kq.sp).getD []).flatMap spC)) ∧ Fr noB w wr ∧ Hid (Blk wr pb 30 [.int .i64 p.a, .int .i64 p.t, .int .i64 p.j, .int .i64 p.n, .slice ua un uc, .bool p.lo]))
        case atStart => exact ⟨0, none, Nat.zero_add _, rfl, rfl, rfl, Lib.hid rfl, Lib.hid (by simpa using hown.out), fr, hbp⟩
        case round =>
          obtain ⟨k, hc, hk, rfl, rfl, rfl, hfd, hown2, fr2, hbp2⟩ := hrel
          clear fr hown hbp
          have AW := h.out.frN fr2
          have bw := hbp2.out
          have d18 : wr.cell? ⟨q, 18, none⟩ = some (.slice ca n cc) := by rw [← hn.out]; exact AW.blk.cell 18
          by_cases hlt : k < n
          · obtain ⟨y, hy⟩ := hget.out k hlt
            obtain ⟨g, rfl, hcell⟩ := AW.get hy
            have m0 : wr.cell? ⟨pb, 0, none⟩ = some (.int .i64 p.a) := bw.cell 0
            have c1 : wr.cell? ⟨g, k * 15 + 1, none⟩ = some (.int .i64 y.a) := hcell 1 _ rfl
            have c5 : wr.cell? ⟨g, k * 15 + 5, none⟩ = some (.int .i64 y.i) := hcell 5 _ rfl
            have hst := hit_step (a := p.a) (i := (i : Int)) hy
            have hb1 : (k : Int) < n := by omega
            have hms2 : n - (k + 1) < gk := by omega
            have hkn2 : k + 1 + (n - (k + 1)) = n := by omega
            replace hms2 := Lib.hid hms2
            replace hkn2 := Lib.hid hkn2
            by_cases ha : y.a = p.a
            · have ea : (y.a == p.a) = true := by simpa using ha
              by_cases hi2 : y.i = (i : Int)
              · have ei : (y.i == (i : Int)) = true := by simpa using hi2
                have hh : hitq p.a (i : Int) y = true := by unfold hitq; simp [ha, hi2]
                have hcn : hc = none := by rw [← hfd.out]; exact hit_un hck.out hy hh
                subst hcn
                rw [hh, hfd.out] at hst
                have hst2 : (r.K.take (k + 1)).find? (hitq p.a (i : Int)) = some y := hst
                replace hst2 := Lib.hid hst2
                have hy2 := h2.out y (List.mem_of_getElem? hy)
                have c6 : wr.cell? ⟨g, k * 15 + 6, none⟩ = some (.int .i64 y.n) := hcell 6 _ rfl
                have c14 : wr.cell? ⟨g, k * 15 + 14, none⟩ = some (.slice y.sa y.sp.length y.sc) := hcell 14 _ rfl
                have hsp := (AW.sps y (List.mem_of_getElem? hy)).1
                have hor := fun nq => (hsp.frN ((Fr.refl noB wr).drewN nq)).or
                have hone := flat_one y.sp
                have hfl := flat_lenS y.sp
                have o2 : wr.ownsRow pb 63 3 u6 O.length (O.flatMap spC) := by simpa using hown2.out
                have hOl := hO5.out
                have hwB : pb ≤ wr.heap.size := Nat.le_of_lt bw.lt
                clear hst hcell hy bw hlt hk
                replace AW := Lib.hid AW
                replace ha := Lib.hid ha
                replace hi2 := Lib.hid hi2
                replace hh := Lib.hid hh
                replace hor := Lib.hid hor
                replace hone := Lib.hid hone
                replace hsp := Lib.hid hsp
                replace hy2 := Lib.hid hy2
                replace fr2 := Lib.hid fr2
                obtain ⟨X, hX⟩ : ∃ X, y.sp.flatMap spC = X := ⟨_, rfl⟩
                obtain ⟨N, hN⟩ : ∃ N, y.sp.length = N := ⟨_, rfl⟩
                obtain ⟨X1, hX1⟩ : ∃ X1, O.flatMap spC = X1 := ⟨_, rfl⟩
                obtain ⟨N1, hN1⟩ : ∃ N1, O.length = N1 := ⟨_, rfl⟩
                rw [hX, hN] at hor hfl
                rw [hX] at hone
                rw [hN] at c14
                rw [hX1, hN1] at o2
                rw [hN1] at hOl
                have hN2 : N ≤ 2 := by rw [← hN]; exact hy2.out.1
                replace hX := Lib.hid hX
                replace hN := Lib.hid hN
                replace hX1 := Lib.hid hX1
                replace hN1 := Lib.hid hN1
                replace hfl := Lib.hid hfl
                go_wp2_with fail
                go_quiet (fail)
                have o3 := ownsRow_drewN o2 nq
                have hor3 := hor.out nq
                have fr3 := fr2.out.drewN nq
                have hbp3 := Lib.hid (hbp2.out.drewN nq)
                have d18' : (wr.drewN nq).cell? ⟨q, 18, none⟩ = some (.slice (some ⟨g, 0, none⟩) n cc) := d18
                have c6' : (wr.drewN nq).cell? ⟨g, k * 15 + 6, none⟩ = some (.int .i64 y.n) := c6
                have c14' : (wr.drewN nq).cell? ⟨g, k * 15 + 14, none⟩ = some (.slice y.sa N y.sc) := c14
                have hwB3 : pb ≤ (wr.drewN nq).heap.size := hwB
                have AW3 := Lib.hid (AW.out.frN ((Fr.refl noB wr).drewN nq))
                generalize wr.drewN nq = w3 at *
                replace hor3 := Lib.hid hor3
                replace fr3 := Lib.hid fr3
                clear d18 c1 c5 c6 c14 m0 o2 hwB hsp hor
                go_wp2_with (first
                  | (at_builtin; go_must (refine wpList_append_rd _ rfl (.tmp 53) (.tmp 61) 32 rfl pb 63 i0 _ 3 32 Try.underlying32 hi hz0 hz1 hz2 rfl (by decide) _ N1 X1 rfl o3 N _ X rfl hor3.out hfl.out hone.out ?_ ?_ hwB3 ?_))
                  | fail)
                · unfold maxLen; omega
                · omega
                intro v8 w8 o8 f8
                have fr8 : Fr noB w w8 := fr3.out.trans f8 (fun _ _ q => q) (fun i hi q => by have := (o3.lt i q).1; have := hpb.out; omega)
                have b8 := Lib.hid (f8.blk hbp3.out (fun e => row_not o3 hbp3.out (by decide) e))
                have AW8 := AW3.out.fr f8 (fun g' hg' e => by
                  have h1 := (o3.lt g' e).1
                  have h3 := (h.out.lo q h.out.eq)
                  have h4 := hpb.out
                  rcases hg' with hg' | hg'
                  · have := (h.out.lo g' hg').2; omega
                  · omega)
                rw [← hN1.out, ← hN.out, ← hX1.out, ← hX.out, ← List.length_append, ← List.flatMap_append] at o8
                have d18'' : w8.cell? ⟨q, 18, none⟩ = some (.slice (some ⟨g, 0, none⟩) n cc) := by rw [← hn.out]; exact AW8.blk.cell 18
                have c6'' : w8.cell? ⟨g, k * 15 + 6, none⟩ = some (.int .i64 y.n) := f8.cell c6' (fun e => by
                  have h1 := (o3.lt g e).1
                  have h4 := hpb.out
                  have h5 := (h.out.lo g (h.out.er g rfl)).2
                  omega)
                have o8' : Hid (w8.ownsRow pb 63 3 v8 (O ++ ((some y).map Kq.sp).getD []).length ((O ++ ((some y).map Kq.sp).getD []).flatMap spC)) := Lib.hid o8
                clear o3 c6' c14' d18' hwB3 f8 o8
                replace AW8 := Lib.hid AW8
                go_wp2_with fail
                go_roundg (n - (k + 1))
                case rel => exact ⟨k + 1, some y, hkn2.out, by go_num, rfl, rfl, hst2, o8', fr8, b8⟩
                case measure => exact hms2.out
              · have ei : (y.i == (i : Int)) = false := by simpa using hi2
                have hh : hitq p.a (i : Int) y = false := by unfold hitq; simp [hi2]
                rw [hh, hfd.out] at hst
                have hst2 : (r.K.take (k + 1)).find? (hitq p.a (i : Int)) = hc := by rw [hst]; simp
                replace hst2 := Lib.hid hst2
                clear hst hcell hy bw hlt hk hfd
                replace AW := Lib.hid AW
                replace ha := Lib.hid ha
                replace hi2 := Lib.hid hi2
                replace hh := Lib.hid hh
                replace fr2 := Lib.hid fr2
                go_wp2_with fail
                go_quiet (fail)
                have fr3 := fr2.out.drewN nq
                have o3 : Hid ((wr.drewN nq).ownsRow pb 63 3 u6 (O ++ (hc.map Kq.sp).getD []).length ((O ++ (hc.map Kq.sp).getD []).flatMap spC)) := Lib.hid (ownsRow_drewN hown2.out nq)
                go_wp2_with fail
                go_roundg (n - (k + 1))
                case rel => exact ⟨k + 1, hc, hkn2.out, by go_num, rfl, rfl, hst2, o3, fr3, Lib.hid (hbp2.out.drewN nq)⟩
                case measure => exact hms2.out
            · have ea : (y.a == p.a) = false := by simpa using ha
              have hh : hitq p.a (i : Int) y = false := by unfold hitq; simp [ha]
              rw [hh, hfd.out] at hst
              have hst2 : (r.K.take (k + 1)).find? (hitq p.a (i : Int)) = hc := by rw [hst]; simp
              replace hst2 := Lib.hid hst2
              clear hst hcell hy bw hlt hk hfd
              replace AW := Lib.hid AW
              replace ha := Lib.hid ha
              replace hh := Lib.hid hh
              replace fr2 := Lib.hid fr2
              go_wp2_with fail
              go_quiet (fail)
              have fr3 := fr2.out.drewN nq
              have o3 : Hid ((wr.drewN nq).ownsRow pb 63 3 u6 (O ++ (hc.map Kq.sp).getD []).length ((O ++ (hc.map Kq.sp).getD []).flatMap spC)) := Lib.hid (ownsRow_drewN hown2.out nq)
              go_wp2_with fail
              go_roundg (n - (k + 1))
              case rel => exact ⟨k + 1, hc, hkn2.out, by go_num, rfl, rfl, hst2, o3, fr3, Lib.hid (hbp2.out.drewN nq)⟩
              case measure => exact hms2.out
          · obtain rfl : k = n := by omega
            have hf : r.K.find? (hitq p.a (i : Int)) = hc := by
              have := hfd.out
              rwa [List.take_of_length_le (by rw [hn.out]; exact Nat.le_refl _)] at this
            replace AW := Lib.hid AW
            replace fr2 := Lib.hid fr2
            clear hfd bw hk hlt
            cases hcv : hc with
            | none =>
              subst hcv
              obtain rfl : none = R := hmiss.out _ _ _ hG.out hng.out hf
              replace hf := Lib.hid hf
              go_wp2_with fail
              go_ret2
              exact sp_none fr2.out
            | some y =>
              subst hcv
              have hG2 := Lib.hid (gi_next hck.out hG.out hng.out hf)
              replace hf := Lib.hid hf
              have o3 : Hid (wr.ownsRow pb 63 3 u6 (O ++ y.sp).length ((O ++ y.sp).flatMap spC)) := hown2
              clear hown2
              go_wp2_with fail
              go_roundg (501 - (i + 1))
              case rel => exact ⟨i + 1, y.n, O ++ y.sp, hik2.out, by go_num, rfl, hG2, o3, fr2.out, hbp2⟩
              case measure => exact hmeas.out
      · have hng : ¬ (n0 = 0 ∨ (i : Int) < n0) := fun q => q.elim hz hlt0
        have hd : decide ((i : Int) < n0) = false := by simpa using hlt0
        have hRe := hend.out _ _ _ hG.out hng
        replace hng := Lib.hid hng
        replace hz := Lib.hid hz
        obtain ⟨sa, sc, hvs⟩ := ownsRow_slice hown.out
        subst hvs
        have bw := hbp.out
        have m3 : wo.cell? ⟨pb, 3, none⟩ = some (.int .i64 p.n) := bw.cell 3
        have hs : RdSp wo (.slice sa O.length sc) O := RdSp.of_own hown.out rfl
        have hO1 := hO5.out
        have hOn : Hid (wo.ownsRow pb 63 3 (.slice sa O.length sc) O.length (O.flatMap spC)) := hown
        obtain ⟨N, hN⟩ : ∃ N, O.length = N := ⟨_, rfl⟩
        rw [hN] at hs hOn hRe hO1 ⊢
        obtain ⟨_, _, es, hx1, hx2, hx3, hx4⟩ := hs
        injection es with es1 es2 es3
        subst es1 es3
        have hget2 : ∀ k, k < N → ∃ m, O[k]? = some m := fun k hk => ⟨O[k]'(by omega), List.getElem?_eq_getElem (by omega)⟩
        have hdr := row_drop r.tr O
        replace hN := Lib.hid hN
        replace hx4 := Lib.hid hx4
        replace hget2 := Lib.hid hget2
        replace hdr := Lib.hid hdr
        replace hbp := ()
        replace fr := Lib.hid fr
        clear hown hx1 hx2 hx3 hik es2
        by_cases hnq : (N : Int) = p.n
        · have e3 : ((N : Int) != p.n) = false := by rw [hnq]; simp
          have hR2 : (if rowF r.tr 0 O = true then some O else none) = R := by
            rw [← hRe]
            by_cases q : rowF r.tr 0 O = true
            · rw [if_pos q, if_pos ⟨hnq, q⟩]
            · rw [if_neg q, if_neg (fun e => q e.2)]
          replace hnq := Lib.hid hnq
          replace hR2 := Lib.hid hR2
          clear hRe bw
          go_wp2_with fail
          clear m3
          go_loopw [11] (fun vi wr => ∃ k : Nat, k ≤ N ∧ vi = .int .i64 k ∧ Hid (rowF r.tr 0 O = rowF r.tr k (O.drop k)) ∧ Fr noB wo wr) (fun vi _ => N - (RowKit.intOf vi).toNat)
          case atStart => exact ⟨0, by omega, rfl, Lib.hid (by rw [List.drop_zero]), Fr.refl _ _⟩
          case round =>
            obtain ⟨k, hk, rfl, hE, fr3⟩ := hrel
            have frw := fr.out.seqN fr3
            have AW := h.out.frN frw
            have d0 : wr.cell? ⟨q, 0, none⟩ = some (.int .i64 r.tr) := AW.blk.cell 0
            by_cases hlt : k < N
            · obtain ⟨s, hsk⟩ := hget2.out k hlt
              obtain ⟨g, o, rfl, x0, x1, x2⟩ := hx4.out k s hsk
              have c0 := fr3.cell x0 (fun q => q)
              have c1 := fr3.cell x1 (fun q => q)
              have hst := hdr.out k s hsk
              have hb1 : (k : Int) < N := by omega
              have hw := wrap1 k (by omega)
              clear x0 x1 x2 hsk
              replace AW := Lib.hid AW
              replace frw := Lib.hid frw
              by_cases ht : s.t = r.tr
              · have et : (s.t != r.tr) = false := by rw [ht]; simp
                by_cases hq : s.q = (k : Int) + 1
                · have eq : (s.q != (k : Int) + 1) = false := by rw [hq]; simp
                  have hE2 : rowF r.tr 0 O = rowF r.tr (k + 1) (O.drop (k + 1)) := by rw [hE.out, hst, ht, hq]; simp
                  replace hE2 := Lib.hid hE2
                  replace ht := Lib.hid ht
                  replace hq := Lib.hid hq
                  clear hst
                  go_wp2_with fail
                  go_quiet (fail)
                  go_wp2_with fail
                  go_roundw
                  case rel => exact ⟨k + 1, by omega, by go_num, hE2, fr3.drewN _⟩
                  case measure => simp [RowKit.intOf]; omega
                · have eq : (s.q != (k : Int) + 1) = true := by simpa using hq
                  have hE2 : rowF r.tr 0 O = false := by rw [hE.out, hst]; simp [hq]
                  obtain rfl : none = R := by rw [← hR2.out, if_neg (by rw [hE2]; simp)]
                  replace hE2 := Lib.hid hE2
                  replace ht := Lib.hid ht
                  replace hq := Lib.hid hq
                  clear hst
                  go_wp2_with fail
                  go_quiet (fail)
                  go_wp2_with fail
                  go_ret2
                  exact sp_none (frw.out.drewN _)
              · have et : (s.t != r.tr) = true := by simpa using ht
                have hE2 : rowF r.tr 0 O = false := by rw [hE.out, hst]; simp [ht]
                obtain rfl : none = R := by rw [← hR2.out, if_neg (by rw [hE2]; simp)]
                replace hE2 := Lib.hid hE2
                replace ht := Lib.hid ht
                clear hst
                go_wp2_with fail
                go_quiet (fail)
                go_wp2_with fail
                go_ret2
                exact sp_none (frw.out.drewN _)
            · obtain rfl : k = N := by omega
              have hE2 : rowF r.tr 0 O = true := by rw [hE.out, List.drop_of_length_le (by rw [hN.out]; exact Nat.le_refl _)]; rfl
              obtain rfl : some O = R := by rw [← hR2.out, if_pos hE2]
              replace hE2 := Lib.hid hE2
              replace AW := Lib.hid AW
              replace frw := Lib.hid frw
              replace fr3 := Lib.hid fr3
              go_wp2_with fail
              go_ret2
              refine ⟨_, rfl, fun S e => ?_, fun e => (by cases e), frw.out⟩
              injection e with e
              subst e
              rw [hpb.out]
              have := ownsRow_fr hOn.out fr3.out (fun _ _ q => q)
              rw [hN.out]
              exact this
        · have e3 : ((N : Int) != p.n) = true := by simpa using hnq
          obtain rfl : none = R := by rw [← hRe, if_neg (fun e => hnq e.1)]
          replace hnq := Lib.hid hnq
          go_wp2_with fail
          go_ret2
          exact sp_none fr.out
end Go.Proofs.Ytdfkjigkpcgngaa
