/-
  A tick of the plain leases.
-/
import Derived.Test.YtomgkegjdkkhoaaLeaseRef
set_option linter.unusedVariables false
set_option linter.unusedSimpArgs false
namespace Go.Proofs.Ytomgkegjdkkhoaa
open Go.RowKit Go Go.Lib

theorem ownsRow_set {w : World} {B e size g n c : Nat} {cs : List Value} (h : w.ownsRow B e size (.slice (some ⟨g, 0, none⟩) n c) n cs) (j : Nat) (u : Value) :
    (w.setCell ⟨g, j, none⟩ u).ownsRow B e size (.slice (some ⟨g, 0, none⟩) n c) n (cs.set j u) := by
  refine ⟨by simpa using h.1, ?_⟩
  rcases h.2 with ⟨h1, _⟩ | ⟨g', cap, cur, h1, h2, h3, h4, h5, h6, h7⟩
  · cases h1
  · cases h1
    refine Or.inr ⟨g, c, cur.setIfInBounds j u, rfl, h2, ?_, h4, h5, by simpa using h6, ?_⟩
    · simp [World.setCell, Array.getElem?_modify, h3]
    · rw [Array.toList_setIfInBounds, List.take_set, h7]
theorem step_append_at {P : Program} {ops : Array Oper} {o : Oper} {a : Act} {w : World} {K : Act → World → Prop} {Q : Exit → Act → World → Prop} {E : Prop} (hgd : o.guard = none) (s x : Operand) (t : TypeId)
    (ho : o.op = .call { callee := .builtin .append, args := #[s, x], argTypes := #[t, t] })
    (base : Nat) (e : TypeId) (i : TypeInfo) (z : Value) (size bytes : Nat) (ht : P.underlying t = some (.slice e)) (hi : P.info? e = some i) (hz : i.zero = some z)
    (hsize : i.size = size) (hby : i.bytes = bytes) (hzs : z.cells.size = size) (hsz : 0 < size)
    (v : Value) (n : Nat) (xs : List Value) (hs : a.eval s = v) (hown : w.ownsRow base e size v n xs)
    (ad : Addr) (m c : Nat) (news : List Value) (hx : a.eval x = .slice (some ad) m c) (hl : news.length = m * size) (hnews : ∀ j u, news[j]? = some u → w.cell? (ad.add j) = some u) (h1 : ∀ u ∈ news, u.oneCell' = true)
    (h63 : n + m ≤ maxLen) (hbytes : (n + m) * bytes ≤ 140737488355328) (hbase : base ≤ w.heap.size)
    (h : ∀ v' w', w'.ownsRow base e size v' (n + m) (xs ++ news) → w.grownBy w' v.ownBlock → Moved w v v' → K (a.put o.dst v') w') :
    if Region.wanted o (yielded ops a.tmps) = true then Oper.wp P o a w K Q else E := by
  have hw : Region.wanted o (yielded ops a.tmps) = true := by simp [Region.wanted, hgd]
  rw [if_pos hw]
  exact wp_append_at w s x t ho base e i z size bytes ht hi hz hsize hby hzs hsz v n xs hs hown ad m c news hx hl hnews h1 h63 hbytes hbase h

def decP (m : PL) : PL := (m.1, m.2.1, m.2.2 - 1)
def mapTo (L : List PL) (k : Nat) : List PL := (L.take k).map decP ++ L.drop k
theorem mapTo_len (L : List PL) (k : Nat) : (mapTo L k).length = L.length := by
  have := congrArg List.length (List.take_append_drop k L)
  simp [mapTo] at *; omega
theorem mapTo_get (L : List PL) (k : Nat) (m : PL) (h : L[k]? = some m) : (mapTo L k)[k]? = some m := by
  have hi : k < L.length := by
    rcases Nat.lt_or_ge k L.length with h1 | h1
    · exact h1
    · rw [List.getElem?_eq_none h1] at h; cases h
  unfold mapTo
  rw [List.getElem?_append_right (by simp; omega)]
  simp
  rw [show k + (k - min k L.length) = k by omega]
  exact h
theorem mapTo_succ (L : List PL) (k : Nat) (m : PL) (h : L[k]? = some m) : (mapTo L k).set k (decP m) = mapTo L (k + 1) := by
  have hi : k < L.length := by
    rcases Nat.lt_or_ge k L.length with h1 | h1
    · exact h1
    · rw [List.getElem?_eq_none h1] at h; cases h
  rw [List.getElem?_eq_getElem hi] at h
  have h2 : L[k] = m := by simpa using h
  have h3 : ((L.take k).map decP).length = k := by simp; omega
  unfold mapTo
  rw [List.set_append_right _ _ (by rw [h3]; exact Nat.le_refl _), h3, Nat.sub_self, List.drop_eq_getElem_cons hi, List.set_cons_zero, List.take_succ_eq_append_getElem hi, List.map_append, h2]
  simp only [List.map_cons, List.map_nil, List.append_assoc, List.cons_append, List.nil_append]
/-- those that run out with this tick -/
def outL (L : List PL) : List PL := (L.map decP).filter fun m => decide (m.2.2 = 0)
theorem outL_succ (L : List PL) (k : Nat) (m : PL) (h : L[k]? = some m) : outL (L.take (k + 1)) = outL (L.take k) ++ if m.2.2 = 1 then [decP m] else [] := by
  have hi : k < L.length := by
    rcases Nat.lt_or_ge k L.length with h1 | h1
    · exact h1
    · rw [List.getElem?_eq_none h1] at h; cases h
  rw [List.getElem?_eq_getElem hi] at h
  cases h
  rw [List.take_succ_eq_append_getElem hi]
  unfold outL
  rw [List.map_append, List.filter_append]
  by_cases h1 : L[k].2.2 = 1
  · simp [decP, h1]
  · simp [decP, h1]; omega
theorem outL_len (L : List PL) : (outL L).length ≤ L.length := by
  have := List.length_filter_le (fun m : PL => decide (m.2.2 = 0)) (L.map decP)
  simpa [outL] using this

/-- amid the first loop of a tick -/
structure Rt (w0 w : World) (r B : Nat) (T : Int) (aL : Option Addr) (n cL : Nat) (Lk Ok : List PL) (E : List Int) (v : Value) : Prop where
  rowL : w.ownsRow B 40 3 (.slice aL n cL) n (plC Lk)
  ex : ∃ aO cO, Blk w r 31 [.int .i64 T, .slice aL n cL, .slice aO Ok.length cO] ∧ w.ownsRow B 40 3 (.slice aO Ok.length cO) Ok.length (plC Ok) ∧
    (∀ q, (Value.slice aO Ok.length cO).ownBlock = some q → (Value.slice aL n cL).ownBlock ≠ some q) ∧ (∀ q, (Value.slice aO Ok.length cO).ownBlock = some q → q < w0.heap.size → touchL w0 r B q)
  own : w.ownsRow w0.heap.size 3 1 v E.length (E.map (Value.int .i64))
  fr : Fr (touchL w0 r B) w0 w
  kL : ∀ q, (Value.slice aL n cL).ownBlock = some q → touchL w0 r B q ∧ q < w0.heap.size
  rB : r < B
  r0 : r < w0.heap.size
  Bw : B ≤ w0.heap.size
theorem touch_row {w : World} {r B n : Nat} {v : Value} {l : List Value} (h : w.ownsRow B 40 3 v n l) {q : Nat} (hq : v.ownBlock = some q) : touchL w r B q := Or.inr ⟨(h.lt q hq).1, row_type h hq⟩
theorem int_apart {w : World} {B B2 n m k : Nat} {v u : Value} {l l2 : List Value} (h : w.ownsRow B 40 k v n l) (h2 : w.ownsRow B2 3 1 u m l2) {q : Nat} (hq : v.ownBlock = some q) : u.ownBlock ≠ some q := by
  intro hu
  obtain ⟨c1, e1⟩ := row_type h hq
  obtain ⟨c2, e2⟩ := row_type h2 hu
  rw [e1] at e2; cases e2

theorem Rt.gone {w0 w w' : World} {r B : Nat} {T : Int} {aL : Option Addr} {n cL : Nat} {Lk Ok : List PL} {E E' : List Int} {v v' : Value} {o : Obj} (h : Rt w0 w r B T aL n cL Lk Ok E v) (gr : (w.alloc o).grownBy w' v.ownBlock)
    (o1 : w'.ownsRow w0.heap.size 3 1 v' E'.length (E'.map (Value.int .i64))) : Rt w0 w' r B T aL n cL Lk Ok E' v' := by
  have f : Fr (fun q => v.ownBlock = some q) w w' := ((Fr.refl _ w).alloc o).grown gr (fun q hq _ => hq)
  have hge : ∀ q, v.ownBlock = some q → w0.heap.size ≤ q := fun q hq => (h.own.lt q hq).1
  obtain ⟨aO, cO, hb, hro, hap, hto⟩ := h.ex
  exact ⟨ownsRow_fr h.rowL f (fun q hq => int_apart h.rowL h.own hq), ⟨aO, cO, f.blk hb (fun q => by have := hge _ q; have := h.r0; omega), ownsRow_fr hro f (fun q hq => int_apart hro h.own hq), hap, hto⟩, o1,
    h.fr.trans f (fun _ _ q => q) (fun i hi q => by have := hge _ q; omega), h.kL, h.rB, h.r0, h.Bw⟩
theorem Rt.over {w0 w X w' : World} {r B : Nat} {T : Int} {aL : Option Addr} {n cL : Nat} {Lk Ok : List PL} {E : List Int} {v v9 : Value} {m : PL} (h : Rt w0 w r B T aL n cL Lk Ok E v) {aO : Option Addr} {cO : Nat}
    (hb : Blk w r 31 [.int .i64 T, .slice aL n cL, .slice aO Ok.length cO]) (hro : w.ownsRow B 40 3 (.slice aO Ok.length cO) Ok.length (plC Ok))
    (hap : ∀ q, (Value.slice aO Ok.length cO).ownBlock = some q → (Value.slice aL n cL).ownBlock ≠ some q) (hto : ∀ q, (Value.slice aO Ok.length cO).ownBlock = some q → q < w0.heap.size → touchL w0 r B q)
    (hf : Fr noB w X) (gr : X.grownBy w' (Value.slice aO Ok.length cO).ownBlock) (o5 : w'.ownsRow B 40 3 v9 (Ok ++ [m]).length (plC (Ok ++ [m]))) (mv : Moved X (.slice aO Ok.length cO) v9) :
    ∃ a9 c9, v9 = .slice a9 (Ok ++ [m]).length c9 ∧ w'.cell? ⟨r, 2, none⟩ = some (.slice aO Ok.length cO) ∧ w'.frozen? ⟨r, 2, none⟩ = false ∧ w'.cell? ⟨r, 1, none⟩ = some (.slice aL n cL) ∧ w'.ownsRow B 40 3 (.slice aL n cL) n (plC Lk) ∧
      Rt w0 (w'.setCell ⟨r, 2, none⟩ v9) r B T aL n cL Lk (Ok ++ [m]) E v := by
  have f : Fr (fun q => (Value.slice aO Ok.length cO).ownBlock = some q) w w' := (hf.mono (fun _ _ q => False.elim q)).trans ((Fr.refl _ X).grown gr (fun q hq _ => hq)) (fun _ _ q => q) (fun _ _ q => q)
  have hBo : ∀ q, (Value.slice aO Ok.length cO).ownBlock = some q → B ≤ q := fun q hq => (hro.lt q hq).1
  obtain ⟨a9, c9, rfl⟩ := ownsRow_slice o5
  have b5 := f.blk hb (fun q => by have := hBo _ q; have := h.rB; omega)
  have l5 := ownsRow_fr h.rowL f (fun q hq z => hap q z hq)
  have e5 := ownsRow_fr h.own f (fun q hq z => int_apart hro h.own z hq)
  have b6 := b5.set 2 (.slice a9 (Ok ++ [m]).length c9)
  have fs := (Fr.refl (onlyB r) w').store (g := r) (i := 2) (v := .slice a9 (Ok ++ [m]).length c9) (onlyB_self r)
  have hr0 := h.r0
  have hrB := h.rB
  have hXw := hf.size
  have hww := h.fr.size
  refine ⟨a9, c9, rfl, b5.cell 2, b5.frozen 2, b5.cell 1, l5, ⟨ownsRow_fr l5 fs (fun q hq z => by have := (h.rowL.lt q hq).1; unfold onlyB at z; omega), ⟨a9, c9, b6, ownsRow_fr o5 fs (fun q hq z => by have := (o5.lt q hq).1; unfold onlyB at z; omega), ?_, ?_⟩,
    ownsRow_fr e5 fs (fun q hq z => by have := (h.own.lt q hq).1; unfold onlyB at z; omega), (h.fr.trans f (fun _ _ q => q) (fun i hi q => hto i q hi)).trans fs (fun _ _ q => q) (fun i hi q => Or.inl q), h.kL, h.rB, h.r0, h.Bw⟩⟩
  · intro q hq hq2
    rcases mv with e | e
    · rw [e] at hq; exact hap q hq hq2
    · rw [e] at hq
      cases hq
      have := (h.rowL.lt _ hq2).2
      omega
  · intro q hq hq2
    rcases mv with e | e
    · rw [e] at hq; exact hto q hq hq2
    · rw [e] at hq
      cases hq
      omega

set_option maxHeartbeats 4000000 in
set_option maxRecDepth 10000 in
theorem rtick1 (r B : Nat) (T : Int) (L O : List PL) (w : World) (h : Rl w r B T L O) (hLb : ∀ m ∈ L, 1 ≤ m.2.2 ∧ m.2.2 ≤ 1000) (hO5 : O.length + L.length ≤ 1000000) :
    Calls Try.prog 14 #[.pointer (some ⟨r, 0, none⟩)] w fun e w' => ∃ v, e = .returned v ∧ RdI w' v ((outL L).map (·.1)) ∧ Rl w' r B T ((L.map decP).filter fun m => decide (m.1 ∉ (outL L).map (·.1))) (O ++ outL L) ∧ Fr (touchL w r B) w w' := by
  obtain ⟨⟨aL, cL, aO, cO, hb, h1, h2, h3⟩, rB, Bw, lL, lO⟩ := h
  obtain ⟨i0, hi, hz0, hz1, hbytes⟩ := infoPL
  obtain ⟨j0, hj, hy0, hy1, hy2⟩ := info_parts Try.infoIntR
  have st0 : Rt w w r B T aL L.length cL (mapTo L 0) (O ++ outL (L.take 0)) [] (.slice none 0 0) :=
    ⟨by simpa [mapTo] using h1, ⟨aO, cO, by simpa [outL] using hb, by simpa [outL] using h2, by simpa [outL] using (fun q hq hq2 => h3 q hq2 hq), fun q hq hq2 => touch_row h2 (by simpa [outL] using hq)⟩, World.ownsRow_nil _ _ _ _, Fr.refl _ _, fun q hq => ⟨touch_row h1 hq, (h1.lt q hq).2⟩, rB, hb.lt, Bw⟩
  clear h1 h2 h3 hb
  generalize hn : L.length = n at *
  replace hn := Lib.hid hn
  replace hLb := Lib.hid hLb
  go_enter Try.func14, Try.ntmps14
  go_wp2_with fail
  go_loopw [3, 4] (fun v i wr => ∃ k : Nat, k ≤ n ∧ i = .int .i64 k ∧ Rt w wr r B T aL n cL (mapTo L k) (O ++ outL (L.take k)) ((outL (L.take k)).map (·.1)) v) (fun _ i _ => n - (RowKit.intOf i).toNat)
  case atStart => exact ⟨0, by omega, rfl, st0⟩
  case round =>
    clear st0
    obtain ⟨k, hk, rfl, st⟩ := hrel
    obtain ⟨aO2, cO2, hb, hro, hap, hto⟩ := st.ex
    have d1 : wr.cell? ⟨r, 1, none⟩ = some (.slice aL n cL) := hb.cell 1
    by_cases hlt : k < n
    · obtain ⟨m, hm⟩ : ∃ m, L[k]? = some m := ⟨_, List.getElem?_eq_getElem (by rw [hn.out]; exact hlt)⟩
      have hmb := hLb.out m (List.mem_of_getElem? hm)
      obtain ⟨g, rfl, hg, e0, e1, e2⟩ := pl_at st.rowL (mapTo_get L k m hm)
      have hfz : wr.frozen? ⟨g, k * 3 + 2, none⟩ = false := by
        obtain ⟨cs, hcs⟩ := row_type st.rowL (q := g) rfl
        simp [World.frozen?, hcs]
      have hset := ownsRow_set st.rowL (k * 3 + 2) (.int .i64 (m.2.2 - 1))
      rw [plC_set _ _ _ _ (mapTo_get L k m hm), show ((mapTo L k).set k (m.1, m.2.1, m.2.2 - 1)) = mapTo L (k + 1) from mapTo_succ L k m hm] at hset
      have hos := outL_succ L k m hm
      have fs := (Fr.refl (onlyB g) wr).store (g := g) (i := k * 3 + 2) (v := .int .i64 (m.2.2 - 1)) (onlyB_self g)
      have hgL := st.kL g rfl
      have hgr : g ≠ r := by have := st.rB; omega
      have hb2 := fs.blk hb (fun q => hgr q.symm)
      have hro2 := ownsRow_fr hro fs (fun q hq z => hap q hq (by unfold onlyB at z; rw [z]; rfl))
      have hown2 := ownsRow_fr st.own fs (fun q hq z => int_apart st.rowL st.own (q := g) rfl (by unfold onlyB at z; rw [← z]; exact hq))
      have hfr2 : Fr (touchL w r B) w (wr.setCell ⟨g, k * 3 + 2, none⟩ (.int .i64 (m.2.2 - 1))) := st.fr.trans fs (fun _ _ q => q) (fun i hi q => by unfold onlyB at q; rw [q]; exact hgL.1)
      have hL2 := plC_get _ _ _ (mapTo_get L k m hm)
      have hcs := hset
      have st2 : Rt w (wr.setCell ⟨g, k * 3 + 2, none⟩ (.int .i64 (m.2.2 - 1))) r B T (some ⟨g, 0, none⟩) n cL (mapTo L (k + 1)) (O ++ outL (L.take k)) ((outL (L.take k)).map (·.1)) u3 :=
        ⟨hset, ⟨aO2, cO2, hb2, hro2, hap, hto⟩, hown2, hfr2, st.kL, st.rB, st.r0, st.Bw⟩
      have hmk : (mapTo L (k + 1))[k]? = some (decP m) := by
        rw [← mapTo_succ L k m hm]
        have : k < (mapTo L k).length := by rw [mapTo_len, hn.out]; exact hlt
        simp [this]
      clear hset hos hb2 hro2 hown2 hfr2 hL2 hcs fs
      have hos := Lib.hid (outL_succ L k m hm)
      replace hm := Lib.hid hm
      clear st hap hto hro hb
      obtain ⟨m1, m2, m3⟩ := m
      simp only [] at e0 e1 e2 hmb st2 hmk
      have hms := IntWalk.i64_in (m3 - 1) (by omega)
      obtain ⟨aO3, cO3, hb3, hro3, hap3, hto3⟩ := st2.ex
      obtain ⟨g', hgg, _, q0, q1, q2⟩ := pl_at st2.rowL hmk
      cases hgg
      simp only [decP] at q0 q1 q2
      have d1' : (wr.setCell ⟨g, k * 3 + 2, none⟩ (.int .i64 (m3 - 1))).cell? ⟨r, 1, none⟩ = some (.slice (some ⟨g, 0, none⟩) n cL) := hb3.cell 1
      have d2' : (wr.setCell ⟨g, k * 3 + 2, none⟩ (.int .i64 (m3 - 1))).cell? ⟨r, 2, none⟩ = some (.slice aO3 (O ++ outL (L.take k)).length cO3) := hb3.cell 2
      clear hb3 hro3 hap3 hto3
      have hml := outL_len (L.take k)
      have hml2 : (L.take k).length ≤ k := List.length_take_le _ _
      by_cases hz : m3 = 1
      · have hz2 : (m3 - 1 == 0) = true := by simp; omega
        have hz3 : ((m3 : Int) == 1) = true := by simpa using hz
        replace hos : Hid (outL (L.take (k + 1)) = outL (L.take k) ++ [decP (m1, m2, m3)]) := Lib.hid (by rw [hos.out, if_pos hz])
        replace hz := Lib.hid hz
        generalize outL (L.take k) = F at *
        have hFE : (F.map (·.1)).length ≤ F.length := by simp
        generalize hE : F.map (·.1) = E at *
        replace hE := Lib.hid hE
        have hA : ((wr.setCell ⟨g, k * 3 + 2, none⟩ (.int .i64 (m3 - 1))).alloc (.cells #[.int .i64 m1] 3)).ownsRow w.heap.size 3 1 u3 E.length (E.map (Value.int .i64)) := ownsRow_fr st2.own ((Fr.refl noB _).alloc _) (fun _ _ q => q)
        have hN := cell_new (wr.setCell ⟨g, k * 3 + 2, none⟩ (.int .i64 (m3 - 1))) (.int .i64 m1) 3
        rw [show (wr.setCell ⟨g, k * 3 + 2, none⟩ (.int .i64 (m3 - 1))).heap.size = wr.heap.size by simp [World.setCell]] at hN
        have hws := st2.fr.size
        rw [show (wr.setCell ⟨g, k * 3 + 2, none⟩ (.int .i64 (m3 - 1))).heap.size = wr.heap.size by simp [World.setCell]] at hws
        have hEl : E.length ≤ 100000 := by have := hn.out; omega
        go_wp2_with (first
          | (at_builtin; go_must (refine wpList_append_at _ rfl (.tmp 35) (.tmp 44) 37 rfl w.heap.size 3 j0 _ 1 8 Try.underlying37 hj hy0 hy1 hy2 rfl (by omega) _ E.length _ rfl hA _ 1 1 [.int .i64 m1] rfl rfl hN (one_int _ _) ?_ ?_ ?_ ?_))
          | fail)
        · unfold maxLen; omega
        · omega
        · simp; omega
        intro v1 w1 o1 gr1 _
        have o2 : w1.ownsRow w.heap.size 3 1 v1 (E ++ [m1]).length ((E ++ [m1]).map (Value.int .i64)) := by
          rw [List.map_append, List.length_append]; exact o1
        have st3 := st2.gone gr1 o2
        clear st2 hA hN gr1 o1 o2 d1' d2' q0 q1 q2 e0 e1 e2 d1 hfz hgL
        obtain ⟨aO4, cO4, hb4, hro4, hap4, hto4⟩ := st3.ex
        obtain ⟨g', hgg, _, q0, q1, q2⟩ := pl_at st3.rowL hmk
        cases hgg
        simp only [decP] at q0 q1 q2
        have b1 : w1.cell? ⟨r, 1, none⟩ = some (.slice (some ⟨g, 0, none⟩) n cL) := hb4.cell 1
        have b2 : w1.cell? ⟨r, 2, none⟩ = some (.slice aO4 (O ++ F).length cO4) := hb4.cell 2
        have fX0 := (Fr.refl noB w1).alloc (.cells #[.int .i64 m1, .int .i64 m2, .int .i64 (m3 - 1)] 40)
        have fX := fX0.drew
        have hX := ownsRow_fr hro4 fX (fun _ _ q => q)
        have hNX : ∀ j u, [Value.int .i64 m1, .int .i64 m2, .int .i64 (m3 - 1)][j]? = some u → (w1.alloc (.cells #[.int .i64 m1, .int .i64 m2, .int .i64 (m3 - 1)] 40)).drew.cell? ((⟨w1.heap.size, 0, none⟩ : Addr).add j) = some u := cell_new3 w1 (.int .i64 m1) (.int .i64 m2) (.int .i64 (m3 - 1)) 40
        have hone := one_pl (m1, m2, m3 - 1)
        have hFl : (O ++ F).length ≤ 1000000 := by have := hn.out; simp; omega
        have hBw1 : B ≤ w1.heap.size := by have := st3.Bw; have := st3.fr.size; omega
        have hover := fun (v9 : Value) (w5 : World) => Rt.over (w' := w5) (v9 := v9) (m := decP (m1, m2, m3)) st3 hb4 hro4 hap4 hto4 fX
        have b2X : (w1.alloc (.cells #[.int .i64 m1, .int .i64 m2, .int .i64 (m3 - 1)] 40)).cell? ⟨r, 2, none⟩ = some (.slice aO4 (O ++ F).length cO4) := fX0.cell b2 (fun q => q)
        have b1X : (w1.alloc (.cells #[.int .i64 m1, .int .i64 m2, .int .i64 (m3 - 1)] 40)).cell? ⟨r, 1, none⟩ = some (.slice (some ⟨g, 0, none⟩) n cL) := fX0.cell b1 (fun q => q)
        have q0X := fX0.cell q0 (fun q => q)
        have q1X := fX0.cell q1 (fun q => q)
        have q2X := fX0.cell q2 (fun q => q)
        replace hover := Lib.hid hover
        replace hX := Lib.hid hX
        replace hNX := Lib.hid hNX
        generalize hFL2 : (O ++ F).length = nO at *
        have mixed : Try.prog.follows .mixedOrders = true := by kernel_rfl
        replace hFL2 := Lib.hid hFL2
        go_wp2_with fail
        go_region_law (first
           | (refine step_append_at rfl (.tmp 50) (.tmp 58) 29 rfl B 40 i0 _ 3 24 Try.underlying29 hi hz0 hz1 hbytes rfl (by omega) (.slice aO4 nO cO4) nO _ (by simp [Act.eval, Act.put]) hX.out ⟨w1.heap.size, 0, none⟩ 1 1 [.int .i64 m1, .int .i64 m2, .int .i64 (m3 - 1)] (by simp [Act.eval, Act.put]) rfl hNX.out hone (by unfold maxLen; omega) (by omega) (by simp; omega) ?_; intro v9 w5 o5 gr5 mv5
              have hv := hover.out v9 w5 gr5 (by rw [plC_append, List.length_append, hFL2.out]; exact o5) mv5
              rw [List.length_append, hFL2.out] at hv
              obtain ⟨a9, c9, rfl, y2, y3, y4, y5, st9⟩ := hv))
        all_goals (
          go_wp2_with fail
          go_roundw
          case rel => exact ⟨k + 1, by omega, by go_num, by rw [hos.out, ← List.append_assoc, List.map_append, hE.out]; exact st9⟩
          case measure => simp [RowKit.intOf]; omega)
      · have hz2 : (m3 - 1 == 0) = false := by simp; omega
        have hz3 : ((m3 : Int) == 1) = false := by simpa using hz
        replace hos : Hid (outL (L.take (k + 1)) = outL (L.take k)) := Lib.hid (by rw [hos.out, if_neg hz, List.append_nil])
        go_wp2_with fail
        go_roundw
        case rel => exact ⟨k + 1, by omega, by go_num, by rw [hos.out]; exact st2⟩
        case measure => simp [RowKit.intOf]; omega
    · obtain rfl : k = n := by omega
      have hm1 : mapTo L k = L.map decP := by unfold mapTo; rw [List.take_of_length_le (by have := hn.out; omega), List.drop_eq_nil_of_le (by have := hn.out; omega), List.append_nil]
      have ho1 : outL (L.take k) = outL L := by rw [List.take_of_length_le (by have := hn.out; omega)]
      rw [hm1, ho1] at st
      have hol := outL_len L
      have hml : (L.map decP).length = k := by simpa using hn.out
      have rl0 : Rl wr r B T ((L.map decP).filter fun m => decide (m.1 ∉ ((outL L).map (·.1)).take 0)) (O ++ outL L) := by
        obtain ⟨aO5, cO5, x1, x2, x3, x4⟩ := st.ex
        rw [show ((L.map decP).filter fun m => decide (m.1 ∉ ((outL L).map (·.1)).take 0)) = L.map decP by simp]
        refine ⟨⟨aL, cL, aO5, cO5, by rw [hml]; exact x1, by rw [hml]; exact st.rowL, x2, fun q hq hq2 => x3 q hq2 (by rw [← hml]; exact hq)⟩, st.rB, Nat.le_trans st.Bw st.fr.size, by rw [hml]; exact lL, by have := hn.out; simp; omega⟩
      have ow0 := st.own
      have fr0 := st.fr
      clear st hb hro hap hto hm1 ho1 hml
      generalize hM : L.map decP = M at *
      replace hM := Lib.hid hM
      generalize hE : (outL L).map (·.1) = E at *
      have hEl : E.length ≤ 100000 := by have := hn.out; rw [← hE]; simp; omega
      generalize hO9 : O ++ outL L = O9 at *
      replace hE := Lib.hid hE
      replace hO9 := Lib.hid hO9
      obtain ⟨aE, cE, hvE⟩ := ownsRow_slice ow0
      subst hvE
      generalize hEn : E.length = nE at *
      replace hEn := Lib.hid hEn
      go_wp2_with fail
      clear d1
      go_loopw [5] (fun i wr => ∃ j : Nat, j ≤ nE ∧ i = .int .i64 j ∧ Rl wr r B T (M.filter fun m => decide (m.1 ∉ E.take j)) O9 ∧ wr.ownsRow w.heap.size 3 1 (.slice aE nE cE) nE (E.map (Value.int .i64)) ∧ Fr (touchL w r B) w wr) (fun i _ => nE - (RowKit.intOf i).toNat)
      case atStart => exact ⟨0, by omega, rfl, rl0, ow0, fr0⟩
      case round =>
        clear rl0 ow0 fr0
        obtain ⟨wr2, rfl⟩ : ∃ wr2 : World, wr2 = wr := ⟨_, rfl⟩
        obtain ⟨j, hj9, rfl, rl, ow, fr⟩ := hrel
        by_cases hlt2 : j < nE
        · obtain ⟨x, hx⟩ : ∃ x, E[j]? = some x := ⟨_, List.getElem?_eq_getElem (by rw [hEn.out]; exact hlt2)⟩
          have hcellx : ∃ gg oo, aE = some ⟨gg, oo, none⟩ ∧ wr2.cell? ⟨gg, oo + j, none⟩ = some (.int .i64 x) := by
            obtain ⟨a6, c6, q1, q2, q3, q4⟩ := RdI.of_own ow
            cases q1
            obtain ⟨gg, oo, q5, q6⟩ := q4 j (by rw [hEn.out]; exact hlt2)
            refine ⟨gg, oo, q5, ?_⟩
            rw [q6]; simp [List.getD, hx]
          obtain ⟨gg, oo, rfl, ex⟩ := hcellx
          have hstep : (M.filter fun m => decide (m.1 ∉ E.take (j + 1))) = ((M.filter fun m => decide (m.1 ∉ E.take j)).filter fun m => decide (m.1 ≠ x)) := by
            rw [List.filter_filter]
            refine List.filter_congr fun m _ => ?_
            have hj2 : j < E.length := by rw [hEn.out]; exact hlt2
            rw [List.getElem?_eq_getElem hj2] at hx
            have hx2 : E[j] = x := by simpa using hx
            have ht : E.take (j + 1) = E.take j ++ [x] := by rw [List.take_succ_eq_append_getElem hj2, hx2]
            rw [ht]
            simp [not_or, and_comm]
          replace hstep := Lib.hid hstep
          replace hx := Lib.hid hx
          have hend := rend_any r B T x _ _ wr2 rl
          generalize (M.filter fun m => decide (m.1 ∉ E.take j)) = N at *
          go_wp2_with fail
          refine hend.mono ?_
          rintro e w5 ⟨rfl, rl5, f5⟩
          have ow5 := ownsRow_fr ow f5 (fun q hq z => by have := (ow.lt q hq).1; have := rl.rB; unfold onlyB at z; omega)
          have fr5 : Fr (touchL w r B) w w5 := fr.trans f5 (fun _ _ q => q) (fun i hi q => Or.inl q)
          clear ow fr rl f5 ex hend
          go_wp2_with fail
          go_roundw
          case rel => exact ⟨j + 1, by omega, by go_num, by rw [hstep.out]; exact rl5, ow5, fr5⟩
          case measure => simp [RowKit.intOf]; omega
        · obtain rfl : j = nE := by omega
          have hfin : (M.filter fun m => decide (m.1 ∉ E.take j)) = M.filter fun m => decide (m.1 ∉ E) := by rw [List.take_of_length_le (by have := hEn.out; omega)]
          rw [hfin] at rl
          have rE := RdI.of_own ow
          clear hfin
          go_wp2_with fail
          go_ret
          exact ⟨_, rfl, by rw [hE.out]; exact rE, by rw [hE.out, hO9.out, hM.out]; exact rl, fr⟩
end Go.Proofs.Ytomgkegjdkkhoaa
