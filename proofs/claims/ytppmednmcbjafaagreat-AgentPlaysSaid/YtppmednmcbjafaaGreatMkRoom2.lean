/-
  A keeper's makeRoom where some may go.
-/
import Derived.Test.YtppmednmcbjafaaGreatMkRoom
set_option linter.unusedVariables false
set_option linter.unusedSimpArgs false
set_option maxRecDepth 100000
namespace Go.Proofs.YtppmednmcbjafaaGreat
open Go.RowKit Go Go.Maps Go.Lib

theorem step_append_at {P : Program} {ops : Array Oper} {o : Oper} {a : Act} {w : World} {K : Act → World → Prop} {Q : Exit → Act → World → Prop} {E : Prop} (hgd : o.guard = none) (s x : Operand) (t : TypeId)
    (ho : o.op = .call { callee := .builtin .append, args := #[s, x], argTypes := #[t, t] })
    (base : Nat) (e : TypeId) (i : TypeInfo) (z : Value) (size bytes : Nat) (ht : P.underlying t = some (.slice e)) (hi : P.info? e = some i) (hz : i.zero = some z)
    (hsize : i.size = size) (hby : i.bytes = bytes) (hzs : z.cells.size = size) (hsz : 0 < size)
    (v : Value) (n : Nat) (xs : List Value) (hs : a.eval s = v) (hown : w.ownsRow base e size v n xs)
    (ad : Addr) (m c : Nat) (news : List Value) (hx : a.eval x = .slice (some ad) m c) (hl : news.length = m * size) (hnews : ∀ j u, news[j]? = some u → w.cell? (ad.add j) = some u) (h1 : ∀ u ∈ news, u.oneCell' = true)
    (h63 : n + m ≤ maxLen) (hbytes : (n + m) * bytes ≤ 140737488355328) (hbase : base ≤ w.heap.size)
    (h : ∀ v' w', w'.ownsRow base e size v' (n + m) (xs ++ news) → w.grownBy w' v.ownBlock → Moved w v v' → K (a.put o.dst v') w') :
    if Region.wanted o (yielded ops a.tmps) = true then Oper.wp P o a w K Q else E := by
  have hw : Region.wanted o (yielded ops a.tmps) = true := by simp [Region.wanted, hgd]
  rw [if_pos hw]
  exact wp_append_at w s x t ho base e i z size bytes ht hi hz hsize hby hzs hsz v n xs hs hown ad m c news hx hl hnews h1 h63 hbytes hbase h


theorem least_I64 (seed : Int) (xs : List Int) (hx : xs ≠ []) (h : ∀ t ∈ xs, I64 t) : I64 (leastS seed xs) := h _ (least_mem seed xs hx)
/-- who goes -/
def goes (K : KS) (t : Int) : Int := leastS K.sd (mayL K ++ [t])
theorem goes_mem (K : KS) (t : Int) : goes K t ∈ mayL K ∨ goes K t = t := by
  have := least_mem K.sd (mayL K ++ [t]) (by simp)
  rcases List.mem_append.1 this with q | q
  · exact Or.inl q
  · exact Or.inr (List.mem_singleton.1 q)

theorem least_L {w : World} {B n c : Nat} {sd L t : Int} {F : List Int} {va : Option Addr} (hs : U64 sd) (ho : w.ownsRow B 3 1 (.slice va n c) n (rowV F ++ [.int .i64 t])) (hI : ∀ x ∈ F ++ [t], I64 x) (hL : leastS sd (F ++ [t]) = L) :
    Calls Tryz.prog 110 #[.int .u64 sd, .slice va n c] w fun e w' => e = .returned (.int .i64 L) ∧ Fr noB w w' := by
  rw [← hL]
  exact least_any sd _ (F ++ [t]) _ hs (Ints.own (xs := F ++ [t]) (by simpa [rowV] using ho) hI)
theorem mroom_fin {k g bp bl B N wc n wc' : Nat} {wa wa' : Option Addr} {K : KS} {L : Int} {w w6 w7 w8 wX w9 : World} (h : Kp w k g bp bl B N wa wc K) (hn : K.gone.length = n) (h6 : Kp w6 k g bp bl B N wa wc K) (fw6 : Fr noB w w6) (p7 : Po w7 g N (without K.P L)) (f7 : Fr (onlyB g) w6 w7)
    {m : Nat} (m8 : Mp Tryz.prog 3 klI mkU w8 bl m (withKey (keysU K.loss) L ())) (f8 : Fr (onlyB bl) w7 w8) (hX : w8.heap.size ≤ wX.heap.size) (f9 : Fr (fun q => (Value.slice wa n wc).ownBlock = some q) w8 w9)
    (o9 : w9.ownsRow B 3 1 (.slice wa' (n + 1) wc') (n + 1) (rowV K.gone ++ [.int .i64 L])) (mv9 : Moved wX (.slice wa n wc) (.slice wa' (n + 1) wc')) (hgl : L ∉ K.loss) (hgr : 1 ≤ L ∧ L ≤ 65535) :
    KTo w (w9.setCell ⟨k, 4, none⟩ (.slice wa' (n + 1) wc')) k g bp bl B N wa { K with P := without K.P L, loss := K.loss ++ [L], gone := K.gone ++ [L] } := by
  subst hn
  have fS : Fr (onlyB k) w9 (w9.setCell ⟨k, 4, none⟩ (.slice wa' (K.gone.length + 1) wc')) := (Fr.refl _ w9).store rfl
  have hwa : ∀ q, (Value.slice wa K.gone.length wc).ownBlock = some q → B ≤ q := fun q hq => (h6.row.lt q hq).1
  have k9 := f9.blk (f8.blk (f7.blk h6.blk h6.kg) h6.kl) (fun e => by have := hwa _ e; have := h.kB; omega)
  have kS := k9.set 4 (.slice wa' (K.gone.length + 1) wc')
  have hl : (K.gone ++ [L]).length = K.gone.length + 1 := by simp
  have m9 := (m8.perm (withKey_perm K.loss L)).tight (m := (outL K.loss L ++ [L]).length) (by unfold keysU; simp)
  rw [outL_no hgl] at m9
  have hle : B ≤ (w9.setCell ⟨k, 4, none⟩ (.slice wa' (K.gone.length + 1) wc')).heap.size := Nat.le_trans (Nat.le_trans (Nat.le_trans (Nat.le_trans h6.Bw f7.size) f8.size) f9.size) fS.size
  have key : Kp (w9.setCell ⟨k, 4, none⟩ (.slice wa' (K.gone.length + 1) wc')) k g bp bl B N wa' wc' { K with P := without K.P L, loss := K.loss ++ [L], gone := K.gone ++ [L] } := by
    refine ⟨?_, ?_, ?_, ?_, ?_, h.kB, h.gB, h.pB, h.lB, hle, h.kg, h.kp, h.kl, h.gp, h.gl, h.pl, h.sd, fun u hu => ?_⟩
    · show Blk _ _ _ [_, _, _, _, .slice wa' (K.gone ++ [L]).length wc']
      rw [hl]; exact kS
    · show World.ownsRow _ _ _ _ (.slice wa' (K.gone ++ [L]).length wc') (K.gone ++ [L]).length (rowV (K.gone ++ [L]))
      rw [hl]
      have e : rowV (K.gone ++ [L]) = rowV K.gone ++ [.int .i64 L] := by simp [rowV]
      rw [e]
      exact ownsRow_fr o9 fS (fun q hq e => by have := (o9.lt q hq).1; have := h.kB; unfold onlyB at e; omega)
    · exact ((p7.fr f8 h.gl).fr f9 (fun e => by have := hwa _ e; have := h.gB; omega)).fr fS (fun e => h.kg e.symm)
    · exact (((h6.mp.fr f7 (fun e => h.gp e.symm)).fr f8 h.pl).fr f9 (fun e => by have := hwa _ e; have := h.pB; omega)).fr fS (fun e => h.kp e.symm)
    · exact (m9.fr f9 (fun e => by have := hwa _ e; have := h.lB; omega)).fr fS (fun e => h.kl e.symm)
    · rcases List.mem_append.1 hu with q | q
      · obtain ⟨q1, q2⟩ := h.lost u q
        have hne : u ≠ L := fun e => hgl (e ▸ q)
        exact ⟨by show txt (without K.P L) u = []; rw [txt_drop_other K.P hne]; exact q1, q2⟩
      · have e := List.mem_singleton.1 q
        subst e
        exact ⟨txt_drop_same K.P u, hgr⟩
  have F7 : Fr (kpS k g bp bl wa) w w7 := fw6.trans f7 (fun _ _ q => False.elim q) (fun q _ e => Or.inr (Or.inl e))
  have F8 : Fr (kpS k g bp bl wa) w w8 := F7.trans f8 (fun _ _ q => q) (fun q _ e => Or.inr (Or.inr (Or.inr (Or.inl e))))
  have F9 : Fr (kpS k g bp bl wa) w w9 := F8.trans f9 (fun _ _ q => q) (fun q _ e => Or.inr (Or.inr (Or.inr (Or.inr (own_block h.row e)))))
  refine ⟨wa', wc', key, F9.trans fS (fun _ _ q => q) (fun q _ e => Or.inl e), fun q hq hk => ?_⟩
  rcases hk with e | e | e | e | ⟨o, e⟩
  · exact Or.inl e
  · exact Or.inr (Or.inl e)
  · exact Or.inr (Or.inr (Or.inl e))
  · exact Or.inr (Or.inr (Or.inr (Or.inl e)))
  · have hob : (Value.slice wa' (K.gone.length + 1) wc').ownBlock = some q := (own_addr o9 e).2.2
    rcases mv9 with q1 | q1
    · rw [q1] at hob
      exact Or.inr (Or.inr (Or.inr (Or.inr (own_block h.row hob))))
    · rw [q1] at hob
      cases hob
      exfalso
      have := F8.size
      omega

set_option maxHeartbeats 4000000 in
set_option maxRecDepth 10000 in
theorem mroom_any (k g bp bl B N wc : Nat) (wa : Option Addr) (K : KS) (t : Int) (w : World) (h : Kp w k g bp bl B N wa wc K) (ht : 1 ≤ t ∧ t ≤ 65535) (h0 : mayL K ≠ []) (hnl : t ∉ K.loss) (hz : K.loss.length < 1000000) (hzg : K.gone.length < 1000000) :
    Calls Tryz.prog 85 #[.pointer (some ⟨k, 0, none⟩), .int .i64 t] w fun e w' => e = .returned (.int .i64 (if goes K t = t then 10 else 0)) ∧ KTo w w' k g bp bl B N wa { K with P := without K.P (goes K t), loss := K.loss ++ [goes K t], gone := K.gone ++ [goes K t] } := by
  obtain ⟨i0, hi0, hz0, hz1, hz2⟩ : ∃ i0, Tryz.prog.info? 3 = some i0 ∧ i0.zero = some (.int .i64 0) ∧ i0.size = 1 ∧ i0.bytes = 8 := by
    have hI := infoIntR
    cases hq : Tryz.prog.info? 3 with
    | none => rw [hq] at hI; cases hI
    | some k => rw [hq] at hI; simp at hI; exact ⟨k, rfl, hI⟩
  have okt : okI t := okI_of (by omega) (by omega)
  have fX := (Fr.refl noB w).alloc (.cells #[.pointer (some ⟨k, 0, none⟩)] 102)
  have bX := Blk.new w 102 [.pointer (some ⟨k, 0, none⟩)]
  have h1 := h.frN fX
  have c0 : (w.alloc (.cells #[.pointer (some ⟨k, 0, none⟩)] 102)).cell? ⟨k, 0, none⟩ = some (.pointer (some ⟨g, 0, none⟩)) := h1.blk.cell 0
  have htr := ptraces_p g N K.P _ h1.po
  have hlow := fun q => h.low (q := q)
  have hrng : ∀ x ∈ K.P.map (·.1), 1 ≤ x ∧ x ≤ 65535 := fun x hx => key_rng h.po hx
  have hkr : ∀ x ∈ K.P.map (·.1), okI x := fun x hx => by have := hrng x hx; exact okI_of (by omega) (by omega)
  have hpl : (K.P.map (·.1)).length ≤ 16 := by rw [List.length_map]; exact h.po.pl
  have hml := mayL_len h.po
  have hmr : ∀ x ∈ mayL K ++ [t], I64 x := fun x hx => by
    rcases List.mem_append.1 hx with q | q
    · have := hrng x (mayL_mem q).1; unfold I64; omega
    · simp at q; subst q; unfold I64; omega
  have hgr : 1 ≤ goes K t ∧ goes K t ≤ 65535 := by
    rcases goes_mem K t with q | q
    · exact hrng _ (mayL_mem q).1
    · rw [q]; exact ht
  have hgl : goes K t ∉ K.loss := by
    rcases goes_mem K t with q | q
    · intro hq; exact key_txt h.po (mayL_mem q).1 (h.lost _ hq).1
    · rw [q]; exact hnl
  have hsd := h.sd
  obtain ⟨L, hL⟩ : ∃ L, goes K t = L := ⟨_, rfl⟩
  rw [hL] at hgr hgl ⊢
  have okL : okI L := okI_of (by omega) (by omega)
  have hgo : leastS K.sd (mayL K ++ [t]) = L := hL
  replace hgo := Lib.hid hgo
  replace hL := Lib.hid hL
  replace hmr := Lib.hid hmr
  replace hrng := Lib.hid hrng
  replace hkr := Lib.hid hkr
  replace hlow := Lib.hid hlow
  replace h1 := Lib.hid h1
  replace h := Lib.hid h
  replace h0 := Lib.hid h0
  replace hnl := Lib.hid hnl
  replace hgl := Lib.hid hgl
  go_enter Tryz.func85, Tryz.ntmps85
  go_wp2_with fail
  refine htr.mono ?_
  rintro e w1 ⟨u, rfl, o1, f1⟩
  clear htr
  have b1 := f1.blk bX (fun q => q)
  have h2 := h1.out.frN f1
  have hd := delf_row _ u _ (K.P.map (·.1)) (.pointer (some ⟨w.heap.size, 0, none⟩)) (fun x => decide (x ∈ K.pins)) w1 o1 (by omega) (fun r hr => by
    have hrl := (o1.lt r hr).1
    refine tells_any h2 w.heap.size r b1 (fun q => ?_) (fun e => ?_) _ hkr.out
    · have := hlow.out r q; simp at hrl; omega
    · simp at hrl; omega)
  replace h2 := Lib.hid h2
  replace o1 := Lib.hid o1
  go_wp2_with fail
  refine hd.mono ?_
  rintro e w2 ⟨v, rfl, o2, f2⟩
  clear hd
  have hF : (K.P.map (·.1)).filter (fun x => !decide (x ∈ K.pins)) = mayL K := rfl
  rw [hF] at o2
  have hgrow : ∀ q, u.ownBlock = some q → w.heap.size < q := fun q hq => by have := (o1.out.lt q hq).1; simp at this; omega
  have h3 := h2.out.fr f2 (fun q hq e => by have := hlow.out q hq; have := hgrow q e; omega)
  have b2 := f2.blk b1 (fun e => by have := hgrow _ e; omega)
  have fw : Fr noB w w2 := (fX.seqN f1).trans f2 (fun _ _ q => q) (fun q hq e => by have := hgrow q e; omega)
  have hs12 : w.heap.size < w2.heap.size := b2.lt
  have hpos : 0 < (mayL K).length := List.length_pos_iff.2 h0.out
  obtain ⟨gr, cr, rfl, hgr0⟩ := ownsRow_some o2 hpos
  have hgrB : w.heap.size + 1 ≤ gr := by simpa using hgr0
  have o2' := ownsRow_mono o2 (show w.heap.size + 1 ≤ _ by simp)
  generalize hF2 : mayL K = F at *
  have hne0 : ((F.length : Int) == 0) = false := beq_eq_false_iff_ne.2 (by omega)
  have hfacts : ∀ w', Fr (fun q => w.heap.size < q) w2 w' → w'.cell? ⟨w.heap.size, 0, none⟩ = some (.pointer (some ⟨k, 0, none⟩)) ∧ w'.cell? ⟨k, 1, none⟩ = some (.int .u64 K.sd) := fun w' f =>
    ⟨(f.blk b2 (fun q => by omega)).cell 0, (f.blk h3.blk (fun q => by have := hlow.out k (Or.inl rfl); omega)).cell 1⟩
  replace hfacts := Lib.hid hfacts
  have oA : (w2.drew.alloc (.cells #[.int .i64 t] 3)).ownsRow (w.heap.size + 1) 3 1 (.slice (some ⟨gr, 0, none⟩) F.length cr) F.length (rowV F) := ownsRow_fr o2' ((Fr.refl noB w2).drew.alloc _) (fun _ _ q => q)
  have hN := cell_new w2.drew (.int .i64 t) 3
  have fA : Fr (fun q => w.heap.size < q) w2 (w2.drew.alloc (.cells #[.int .i64 t] 3)) := (Fr.refl _ w2).drew.alloc _
  replace h3 := Lib.hid h3
  replace b2 := Lib.hid b2
  replace hF2 := Lib.hid hF2
  clear hF o2 hgrow b1 o1 f1 f2 h2 h1 bX hgr0 o2'
  go_wp2_with fail
  go_region_held3 (fun w' => w'.cell? ⟨w.heap.size, 0, none⟩ = some (.pointer (some ⟨k, 0, none⟩)) ∧ w'.cell? ⟨k, 1, none⟩ = some (.int .u64 K.sd))
    (first | exact hfacts.out _ f6 | exact hfacts.out _ f5 | exact hfacts.out _ fA | exact hfacts.out _ ((Fr.refl _ w2).drew) | fail)
    (first
     | (rw [if_pos (by rfl)]; refine (wp_append_at _ (.tmp 29) (.tmp 31) 57 rfl (w.heap.size + 1) 3 i0 _ 1 8 Tryz.underlying57 hi0 hz0 hz1 hz2 rfl (by omega) (.slice (some ⟨gr, 0, none⟩) F.length cr) F.length (rowV F) (by simp [Act.eval, Act.put]) oA ⟨w2.heap.size, 0, none⟩ 1 1 [.int .i64 t] (by simp [Act.eval, Act.put]) rfl hN (one_int _ _) (by unfold maxLen; omega) (by omega) (by simp; omega) ?_); intro v5 w5 o5 gr5 mv5; obtain ⟨va, vc, rfl⟩ := ownsRow_slice o5; have f5 : Fr (fun q => w.heap.size < q) w2 w5 := fA.grown gr5 (fun q hq hlt => by simp [Value.ownBlock] at hq; omega); have hcl := least_L hsd o5 hmr.out hgo.out)
     | (go_at_call 110; refine hcl.mono ?_; rintro e w6 ⟨rfl, f6'⟩; have f6 : Fr (fun q => w.heap.size < q) w2 w6 := f5.seqN f6')
     | fail)
  have h6 := h3.out.fr f6 (fun q hq e => by have := hlow.out q hq; omega)
  have b6 := f6.blk b2.out (fun e => by omega)
  have d0 : w6.cell? ⟨w.heap.size, 0, none⟩ = some (.pointer (some ⟨k, 0, none⟩)) := b6.cell 0
  have d1 : w6.cell? ⟨k, 0, none⟩ = some (.pointer (some ⟨g, 0, none⟩)) := h6.blk.cell 0
  have hdr := pdrop_p g N K.P L w6 h6.po
  have fw6 : Fr noB w w6 := fw.trans f6 (fun _ _ q => q) (fun q hq e => by omega)
  have hk0 := hlow.out k (Or.inl rfl)
  have hg0 := hlow.out g (Or.inr (Or.inl rfl))
  have hl0 := hlow.out bl (Or.inr (Or.inr (Or.inr (Or.inl rfl))))
  have hp0 := hlow.out bp (Or.inr (Or.inr (Or.inl rfl)))
  replace h6 := Lib.hid h6
  replace b6 := Lib.hid b6
  clear f6 f5 hcl o5 gr5 mv5 oA hN fA hfacts h3 b2 fw
  go_wp2_with fail
  refine hdr.mono ?_
  rintro e w7 ⟨⟨m, rfl⟩, p7, f7⟩
  have h6' := h6.out
  have b7 := f7.blk b6.out (fun e => by unfold onlyB at e; omega)
  have k7 := f7.blk h6'.blk h6'.kg
  have e0 : w7.cell? ⟨w.heap.size, 0, none⟩ = some (.pointer (some ⟨k, 0, none⟩)) := b7.cell 0
  have e3 : w7.cell? ⟨k, 3, none⟩ = some (.map (some bl)) := k7.cell 3
  have ml7 := h6'.ml.fr f7 (fun e => h6'.gl e.symm)
  replace b7 := Lib.hid b7
  replace k7 := Lib.hid k7
  clear hdr d0 d1 h6'
  go_upto_region 9 with (first
    | (at_mapUpdate; refine wpList_put_mp _ rfl _ _ _ 151 rfl KI Tryz.underlying151 mkU_inj ml7 (by unfold maxLen; omega) L () okL rfl rfl rfl ?_; intro w8 m8 f8)
    | fail)
  have h6' := h6.out
  have b8 := f8.blk b7.out (fun e => by unfold onlyB at e; omega)
  have k8 := f8.blk k7.out h6'.kl
  have r8 : w8.ownsRow B 3 1 (.slice wa K.gone.length wc) K.gone.length (rowV K.gone) := ownsRow_fr (ownsRow_fr h6'.row f7 (fun q hq e => by have := (h6'.row.lt q hq).1; have := h6'.gB; unfold onlyB at e; omega)) f8 (fun q hq e => by have := (h6'.row.lt q hq).1; have := h6'.lB; unfold onlyB at e; omega)
  have hfacts : ∀ w', Fr (fun q => q ≠ w.heap.size ∧ q ≠ k) w8 w' → w'.cell? ⟨w.heap.size, 0, none⟩ = some (.pointer (some ⟨k, 0, none⟩)) ∧ w'.cell? ⟨k, 4, none⟩ = some (.slice wa K.gone.length wc) ∧ w'.frozen? ⟨k, 4, none⟩ = false := fun w' f =>
    ⟨(f.blk b8 (fun e => e.1 rfl)).cell 0, (f.blk k8 (fun e => e.2 rfl)).cell 4, (f.blk k8 (fun e => e.2 rfl)).frozen 4⟩
  have hB8 : B ≤ w8.heap.size := Nat.le_trans (Nat.le_trans h6'.Bw f7.size) f8.size
  have oB : (w8.alloc (.cells #[.int .i64 L] 3)).drew.ownsRow B 3 1 (.slice wa K.gone.length wc) K.gone.length (rowV K.gone) := ownsRow_fr r8 ((Fr.refl noB w8).alloc _).drew (fun _ _ q => q)
  have hN : ∀ j u, [Value.int .i64 L][j]? = some u → ((w8.alloc (.cells #[.int .i64 L] 3)).drew).cell? ((⟨w8.heap.size, 0, none⟩ : Addr).add j) = some u := cell_new w8 (.int .i64 L) 3
  have fB : Fr noB w8 (w8.alloc (.cells #[.int .i64 L] 3)).drew := ((Fr.refl _ w8).alloc _).drew
  have hwa : ∀ q, (Value.slice wa K.gone.length wc).ownBlock = some q → q ≠ w.heap.size ∧ q ≠ k := fun q hq => by
    have h1 := (h6'.row.lt q hq).1
    have h2 := hlow.out q (Or.inr (Or.inr (Or.inr (Or.inr (own_block h6'.row hq)))))
    have h3 := h6'.kB
    omega
  obtain ⟨c80, c84, z84⟩ := hfacts w8 (Fr.refl _ _)
  obtain ⟨cA0, cA4, zA4⟩ := hfacts (w8.alloc (.cells #[.int .i64 L] 3)) ((Fr.refl _ w8).alloc _)
  replace hfacts := Lib.hid hfacts
  replace hwa := Lib.hid hwa
  replace b8 := Lib.hid b8
  replace k8 := Lib.hid k8
  replace r8 := Lib.hid r8
  clear h6' e0 e3 b7 k7
  generalize hn : K.gone.length = n at *
  replace hn := Lib.hid hn
  go_region_law (first
    | (refine step_append_at rfl (.tmp 50) (.tmp 52) 57 rfl B 3 i0 _ 1 8 Tryz.underlying57 hi0 hz0 hz1 hz2 rfl (by omega) (.slice wa n wc) n (rowV K.gone) (by simp [Act.eval, Act.put]) oB ⟨w8.heap.size, 0, none⟩ 1 1 [.int .i64 L] (by simp [Act.eval, Act.put]) rfl hN (one_int _ _) (by unfold maxLen; omega) (by omega) (by simp; omega) ?_; intro v9 w9 o9 gr9 mv9; obtain ⟨wa', wc', rfl⟩ := ownsRow_slice o9; have f9 : Fr (fun q => (Value.slice wa n wc).ownBlock = some q) w8 w9 := (fB.mono (fun _ _ q => False.elim q)).grown gr9 (fun q hq _ => hq); obtain ⟨c90, c94, z94⟩ := hfacts.out w9 (f9.mono (fun q _ e => hwa.out q e)))
    | fail)
  all_goals (
    have key := mroom_fin h.out hn.out h6.out fw6 p7 f7 m8 f8 (by simp) f9 o9 mv9 hgl.out hgr
    replace key := Lib.hid key
    by_cases hLt : L = t
    · subst hLt
      go_wp2_with fail
      go_ret
      exact ⟨by first | rfl | (rw [if_pos rfl]; rfl), key.out⟩
    · have hd : (L == t) = false := by simpa using hLt
      replace hLt := Lib.hid hLt
      go_wp2_with fail
      go_ret
      exact ⟨by first | rfl | (rw [if_neg hLt.out]; rfl), key.out⟩)
end Go.Proofs.YtppmednmcbjafaaGreat
