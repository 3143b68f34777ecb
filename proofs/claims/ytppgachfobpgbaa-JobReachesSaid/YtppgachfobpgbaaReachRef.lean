/-
  The document's answer by definition: whom one comes to (stage 8's text, at this seat).
-/
import Derived.Test.YtppgachfobpgbaaJobTwice
import Derived.Deep.OwnRows
set_option linter.unusedVariables false
set_option linter.unusedSimpArgs false
namespace Go.Proofs.Ytppgachfobpgbaa
open Go.RowKit Go Go.Lib

def okI (k : Int) : Prop := (Lit.int .i64 k).wf = true
theorem okI_of {k : Int} (h0 : -9223372036854775808 ≤ k) (h1 : k ≤ 9223372036854775807) : okI k := by
  simpa [okI, Lit.wf, IntKind.min, IntKind.max, IntKind.signed, IntKind.bits] using And.intro h0 h1
theorem get_getD {xs : List Int} {q : Nat} (h : q < xs.length) : xs[q]? = some (xs.getD q 0) := by simp [List.getD, h]
theorem take_getD {xs : List Int} {q : Nat} (h : q < xs.length) : xs.take (q + 1) = xs.take q ++ [xs.getD q 0] := by
  rw [List.take_succ_eq_append_getElem h]
  simp [List.getD, h]
theorem append_int (B : Nat) (w : World) (v : Value) (O : List Int) (y : Int) (h : w.ownsRow B 3 1 v O.length (rowV O)) : (w.alloc (.cells #[.int .i64 y] 3)).ownsRow B 3 1 v O.length (rowV O) := ownsRow_fr h ((Fr.refl noB w).alloc _) (fun _ _ q => q)
inductive Rch (G : List (List Int)) (f : Int) : Int → Prop
  | base : 0 ≤ f → f < G.length → Rch G f f
  | step {i x : Int} : Rch G f i → x ∈ G.getD i.toNat [] → 0 ≤ x → x < G.length → Rch G f x
theorem Rch.range {G : List (List Int)} {f i : Int} (h : Rch G f i) : 0 ≤ i ∧ i < G.length := by
  cases h with
  | base a b => exact ⟨a, b⟩
  | step _ _ a b => exact ⟨a, b⟩

def Nm (w : World) (v : Value) (G : List (List Int)) : Prop :=
  ∃ a c, v = .slice a G.length c ∧ G.length ≤ c ∧ ∀ i, i < G.length → ∃ g o vi, a = some ⟨g, o, none⟩ ∧ w.cell? ⟨g, o + i, none⟩ = some vi ∧ RdI w vi (G.getD i [])
def Tt (T : List Bool) (i : Nat) : Prop := T.getD i false = true
/-- nobody who is met names one who isn't -/
def Cl (G : List (List Int)) (T : List Bool) : Prop := ∀ i, Tt T i → ∀ x ∈ G.getD i [], 0 ≤ x → x < G.length → Tt T x.toNat
def ups (T : List Bool) : Nat := T.countP id
theorem ups_le (T : List Bool) : ups T ≤ T.length := List.countP_le_length
theorem Tt.set {T : List Bool} {i : Nat} (x : Nat) (h : Tt T i) : Tt (T.set x true) i := by
  unfold Tt at *
  simp only [List.getD, List.getElem?_set] at h ⊢
  by_cases hx : x = i
  · subst hx
    by_cases hl : x < T.length
    · simp [hl]
    · simp [List.getElem?_eq_none (Nat.le_of_not_lt hl)] at h
  · simp [hx, h]
theorem Tt.self {T : List Bool} {x : Nat} (h : x < T.length) : Tt (T.set x true) x := by
  unfold Tt; simp [List.getD, h]
theorem Tt.of_set {T : List Bool} {x i : Nat} (h : Tt (T.set x true) i) : Tt T i ∨ (i = x ∧ x < T.length) := by
  unfold Tt at *
  simp only [List.getD, List.getElem?_set] at h ⊢
  by_cases hx : x = i
  · subst hx
    by_cases hl : x < T.length
    · exact Or.inr ⟨rfl, hl⟩
    · simp [hl] at h
  · simp only [hx, if_false] at h; exact Or.inl h
theorem set_same {T : List Bool} {x : Nat} (h : Tt T x) : T.set x true = T := by
  unfold Tt at h
  refine List.ext_getElem? fun i => ?_
  rw [List.getElem?_set]
  by_cases hx : x = i
  · subst hx
    by_cases hl : x < T.length
    · simp [List.getD, hl] at h; simp [hl, h]
    · simp [List.getElem?_eq_none (Nat.le_of_not_lt hl)]; omega
  · simp [hx]
theorem ups_lt : ∀ {T0 T : List Bool}, T.length = T0.length → (∀ i, Tt T0 i → Tt T i) → T ≠ T0 → ups T0 < ups T
  | [], [], _, _, h => absurd rfl h
  | [], b :: r, hl, _, _ => by simp at hl
  | a :: r, [], hl, _, _ => by simp at hl
  | a :: r, b :: s, hl, hg, hn => by
    have hg0 : a = true → b = true := fun q => by have := hg 0 (by unfold Tt; simpa using q); unfold Tt at this; simpa using this
    have hgr : ∀ i, Tt r i → Tt s i := fun i q => by have := hg (i + 1) (by unfold Tt at *; simpa using q); unfold Tt at *; simpa using this
    have hlr : s.length = r.length := by simpa using hl
    unfold ups
    rw [List.countP_cons, List.countP_cons]
    by_cases hs : s = r
    · subst hs
      cases a <;> cases b <;> simp_all
    · have := ups_lt hlr hgr hs
      unfold ups at this
      cases a <;> cases b <;> simp_all <;> omega

/-- one round is under way: T0 was met at its beginning -/
structure Rn (G : List (List Int)) (f : Int) (T0 T : List Bool) : Prop where
  len : T.length = G.length
  snd : ∀ i, Tt T i → Rch G f i
  ge : ∀ i, Tt T0 i → Tt T i
  cl : Cl G T0 → T = T0
def DoneTo (G : List (List Int)) (T0 T : List Bool) (i : Nat) : Prop := ∀ i', i' < i → Tt T0 i' → ∀ x ∈ G.getD i' [], 0 ≤ x → x < G.length → Tt T x.toNat
def DoneIn (G : List (List Int)) (T0 T : List Bool) (i j : Nat) : Prop := Tt T0 i → ∀ x ∈ (G.getD i []).take j, 0 ≤ x → x < G.length → Tt T x.toNat
theorem Rn.set {G : List (List Int)} {f x : Int} {T0 T : List Bool} {i : Nat} (h : Rn G f T0 T) (hi : Tt T i) (hx : x ∈ G.getD i []) (h0 : 0 ≤ x) (h1 : x < G.length) : Rn G f T0 (T.set x.toNat true) := by
  refine ⟨by simp [h.len], fun k hk => ?_, fun k hk => (h.ge k hk).set _, fun hc => ?_⟩
  · rcases hk.of_set with q | ⟨rfl, q⟩
    · exact h.snd k q
    · have := Rch.step (h.snd i hi) (x := x) (by simpa using hx) h0 h1
      rwa [show ((x.toNat : Nat) : Int) = x by omega]
  · have e := h.cl hc
    subst e
    exact set_same (hc i hi x hx h0 h1)
theorem DoneTo.set {G : List (List Int)} {T0 T : List Bool} {i : Nat} (h : DoneTo G T0 T i) (x : Nat) : DoneTo G T0 (T.set x true) i := fun i' a b y c d e => (h i' a b y c d e).set x
theorem DoneIn.next {G : List (List Int)} {T0 T : List Bool} {i j : Nat} (h : DoneIn G T0 T i j) (hj : j < (G.getD i []).length) (hn : 0 ≤ (G.getD i []).getD j 0 → (G.getD i []).getD j 0 < G.length → Tt T ((G.getD i []).getD j 0).toNat) : DoneIn G T0 T i (j + 1) := fun a x hx c d => by
  rw [take_getD hj] at hx
  rcases List.mem_append.1 hx with hx | hx
  · exact h a x hx c d
  · rw [List.mem_singleton.1 hx] at c d ⊢; exact hn c d
theorem DoneIn.set {G : List (List Int)} {T0 T : List Bool} {i j : Nat} (h : DoneIn G T0 T i j) (x : Nat) : DoneIn G T0 (T.set x true) i j := fun a y c d e => (h a y c d e).set x
theorem DoneTo.next {G : List (List Int)} {T0 T : List Bool} {i : Nat} (h : DoneTo G T0 T i) (hi : Tt T0 i → ∀ x ∈ G.getD i [], 0 ≤ x → x < G.length → Tt T x.toNat) : DoneTo G T0 T (i + 1) := fun i' a b => by
  by_cases e : i' = i
  · subst e; exact hi b
  · exact h i' (by omega) b
/-- what holds ahead of round k -/
structure Rk (G : List (List Int)) (f : Int) (T : List Bool) (k : Nat) : Prop where
  len : T.length = G.length
  snd : ∀ i, Tt T i → Rch G f i
  st : Tt T f.toNat
  more : Cl G T ∨ k + 1 ≤ ups T
theorem Rk.next {G : List (List Int)} {f : Int} {T0 T : List Bool} {k : Nat} (h : Rk G f T0 k) (r : Rn G f T0 T) (hd : DoneTo G T0 T G.length) : Rk G f T (k + 1) := by
  refine ⟨r.len, r.snd, r.ge _ h.st, ?_⟩
  have hdone : ∀ i, Tt T0 i → ∀ x ∈ G.getD i [], 0 ≤ x → x < G.length → Tt T x.toNat := fun i hi x hx h0 h1 => by
    by_cases hl : i < G.length
    · exact hd i hl hi x hx h0 h1
    · simp [List.getD, List.getElem?_eq_none (Nat.le_of_not_lt hl)] at hx
  by_cases e : T = T0
  · subst e; exact Or.inl hdone
  · have := ups_lt (r.len.trans h.len.symm) r.ge e
    rcases h.more with q | q
    · exact absurd (r.cl q) e
    · exact Or.inr (by omega)
theorem Rk.done {G : List (List Int)} {f : Int} {T : List Bool} (h : Rk G f T G.length) (hf0 : 0 ≤ f) (i : Nat) : Tt T i ↔ Rch G f i := by
  have hc : Cl G T := h.more.elim id (fun q => by have := ups_le T; have := h.len; omega)
  refine ⟨h.snd i, fun hr => ?_⟩
  have : ∀ z : Int, Rch G f z → Tt T z.toNat := fun z hz => by
    induction hz with
    | base a b => exact h.st
    | step a b c d ih => exact hc _ ih _ b c d
  simpa using this i hr
/-- who is met, in order -/
def metL (T : List Bool) (k : Nat) : List Int := ((List.range k).filter fun i => T.getD i false).map Int.ofNat
theorem metL_mem {T : List Bool} {k : Nat} {x : Int} : x ∈ metL T k ↔ 0 ≤ x ∧ x < k ∧ Tt T x.toNat := by
  unfold metL Tt
  rw [List.mem_map]
  constructor
  · rintro ⟨i, hi, rfl⟩
    rw [List.mem_filter, List.mem_range] at hi
    simp only [Int.ofNat_eq_natCast, Int.toNat_natCast]
    exact ⟨by omega, by omega, hi.2⟩
  · rintro ⟨h0, h1, h2⟩
    exact ⟨x.toNat, by rw [List.mem_filter, List.mem_range]; exact ⟨by omega, h2⟩, by simp only [Int.ofNat_eq_natCast]; omega⟩
theorem metL_sorted (T : List Bool) (k : Nat) : (metL T k).Pairwise (· < ·) := by
  unfold metL
  rw [List.pairwise_map]
  exact (List.pairwise_lt_range.sublist List.filter_sublist).imp (fun q => by simp only [Int.ofNat_eq_natCast]; omega)
theorem metL_yes {T : List Bool} {k : Nat} (h : T.getD k false = true) : metL T (k + 1) = metL T k ++ [(k : Int)] := by
  unfold metL
  rw [List.range_succ, List.filter_append, List.map_append]
  simp only [List.filter, h]
  simp
theorem metL_no {T : List Bool} {k : Nat} (h : T.getD k false = false) : metL T (k + 1) = metL T k := by
  unfold metL
  rw [List.range_succ, List.filter_append, List.map_append]
  simp only [List.filter, h]
  simp
theorem metL_len (T : List Bool) (k : Nat) : (metL T k).length ≤ k := by
  unfold metL
  rw [List.length_map]
  exact Nat.le_trans (List.length_filter_le _ _) (by simp)
def boolV (T : List Bool) : List Value := T.map Value.bool
theorem bool_cell {T : List Bool} {i : Nat} (h : i < T.length) : (boolV T)[i]? = some (.bool (T.getD i false)) := by simp [boolV, List.getD, h]
theorem bool_set (T : List Bool) (i : Nat) : (boolV T).set i (.bool true) = boolV (T.set i true) := by simp [boolV, List.map_set]

theorem made_eq (z : Value) (n : Nat) : madeCells #[z] n = (List.replicate n z).toArray := by
  apply Array.ext
  · simp [madeCells]
  · intro i h1 h2; simp [madeCells, Nat.mod_one]
theorem infoBoolR : (Try.prog.info? 4).map (fun i => (i.zero, i.size, i.bytes)) = some (some (.bool false), 1, 1) := by kernel_rfl
theorem Rk.start {G : List (List Int)} {s : Nat} (hs : s < G.length) : Rk G s ((List.replicate G.length false).set s true) 0 := by
  have hno : ∀ i, ¬ Tt (List.replicate G.length false) i := fun i h => by
    unfold Tt at h
    by_cases hi : i < G.length <;> simp [List.getD, hi] at h
  refine ⟨by simp, fun i hi => ?_, ?_, Or.inr ?_⟩
  · rcases hi.of_set with q | ⟨rfl, q⟩
    · exact absurd q (hno i)
    · exact Rch.base (by omega) (by omega)
  · exact Tt.self (by simpa using hs)
  · unfold ups
    have : true ∈ (List.replicate G.length false).set s true := List.mem_of_getElem? (show ((List.replicate G.length false).set s true)[s]? = some true by simp [hs])
    exact List.countP_pos_iff.2 ⟨true, this, rfl⟩

theorem row_type2 {w : World} {B : Nat} {e : TypeId} {k n : Nat} {v : Value} {xs : List Value} (h : w.ownsRow B e k v n xs) {q : Nat} (hq : v.ownBlock = some q) : ∃ cs, w.heap[q]? = some (.cells cs e (0, 0)) := by
  rcases h.2 with ⟨rfl, _⟩ | ⟨g, cap, cur, rfl, _, hg, _⟩
  · cases hq
  · cases hq; exact ⟨_, hg⟩
set_option maxHeartbeats 4000000 in
set_option maxRecDepth 10000 in
theorem rreach_any (f : Int) (vn : Value) (G : List (List Int)) (w : World) (hN : Nm w vn G) (hf : okI f) (hG : G.length ≤ 1000) (hR : ∀ l ∈ G, l.length ≤ 1000 ∧ ∀ x ∈ l, okI x) :
    Calls Try.prog 27 #[.int .i64 f, vn] w fun e w' => ∃ v A, e = .returned v ∧ w'.ownsRow w.heap.size 3 1 v A.length (rowV A) ∧ A.Pairwise (· < ·) ∧ (∀ i, i ∈ A ↔ Rch G f i) ∧ Fr noB w w' := by
  obtain ⟨i0, hi0, hz0, hz1, hz2⟩ : ∃ i0, Try.prog.info? 3 = some i0 ∧ i0.zero = some (.int .i64 0) ∧ i0.size = 1 ∧ i0.bytes = 8 := by
    have hI := infoIntR
    cases hq : Try.prog.info? 3 with
    | none => rw [hq] at hI; cases hI
    | some k => rw [hq] at hI; simp at hI; exact ⟨k, rfl, hI⟩
  obtain ⟨na, nc, rfl, hnc, hcells⟩ := hN
  have hGl : ∀ i, i < G.length → (G.getD i []).length ≤ 1000 ∧ ∀ x ∈ G.getD i [], okI x := fun i hi => hR _ (List.mem_of_getElem? (show G[i]? = some (G.getD i []) by simp [List.getD, hi]))
  generalize hn : G.length = n at *
  replace hn := Lib.hid hn
  replace hcells := Lib.hid hcells
  replace hGl := Lib.hid hGl
  clear hR
  by_cases hb : f < 0 ∨ (n : Int) ≤ f
  · have hno : ∀ i, i ∈ ([] : List Int) ↔ Rch G f i := fun i => ⟨fun q => by simp at q, fun q => by
      have h0 : 0 ≤ f ∧ f < G.length := by
        induction q with
        | base a b => exact ⟨a, b⟩
        | step _ _ _ _ ih => exact ih
      have := hn.out; omega⟩
    replace hno := Lib.hid hno
    clear hcells hGl
    rcases hb with hb | hb
    · go_enter Try.func27, Try.ntmps27
      go_wp2_with fail
      go_ret
      exact ⟨_, [], rfl, World.ownsRow_nil _ _ _ _, List.Pairwise.nil, hno.out, Fr.refl _ _⟩
    · have hb1 : decide (f < 0) = false := by simp; omega
      have hb2 : decide ((n : Int) ≤ f) = true := by simpa using hb
      go_enter Try.func27, Try.ntmps27
      go_wp2_with fail
      go_ret
      exact ⟨_, [], rfl, World.ownsRow_nil _ _ _ _, List.Pairwise.nil, hno.out, Fr.refl _ _⟩
  obtain ⟨s, rfl⟩ : ∃ s : Nat, f = s := ⟨f.toNat, by omega⟩
  have hs : s < n := by omega
  have hb1 : decide ((s : Int) < 0) = false := by simp
  have hb2 : decide (n ≤ s) = false := by simp; omega
  clear hb
  have hmk := run_make_row' (P := Try.prog) 52 4 (.bool false) 1 Try.underlying52 infoBoolR rfl .i64 .i64 n (by omega) (by omega)
  have hmade := made_eq (.bool false) n
  rw [hmade] at hmk
  obtain ⟨mb, hmb⟩ : ∃ mb, mb = w.heap.size := ⟨_, rfl⟩
  have hst := Rk.start (G := G) (s := s) (by rw [hn.out]; exact hs)
  rw [hn.out] at hst
  obtain ⟨T, hT⟩ : ∃ T, T = (List.replicate n false).set s true := ⟨_, rfl⟩
  have hO1 : (Array.replicate n (Value.bool false)).setIfInBounds s (Value.bool true) = (boolV T).toArray := by
    apply Array.ext'
    rw [hT]
    simp [boolV, List.map_set]
  have bm1 := Blk.new w 4 (boolV T)
  have f1 := (Fr.refl noB w).alloc (.cells (boolV T).toArray 4)
  rw [← hO1] at bm1 f1
  rw [← hT] at hst
  have bm0 := Blk.new w 4 (List.replicate n (.bool false))
  have c0 : (w.alloc (.cells (List.replicate n (Value.bool false)).toArray 4)).cell? ⟨w.heap.size, s, none⟩ = some (.bool false) := by
    rw [bm0.cell s]; simp [hs]
  have z0 := bm0.frozen s
  replace hst := Lib.hid hst
  replace bm1 := Lib.hid bm1
  replace f1 := Lib.hid f1
  clear hmade bm0 hT hO1
  have hn1000 : n ≤ 1000 := hG
  go_enter Try.func27, Try.ntmps27
  go_wp2_with fail
  rw [← hmb] at bm1 ⊢
  have hDw : Hid (w.heap.size = mb) := Lib.hid hmb.symm
  replace hmb := Lib.hid hmb
  clear c0 z0 hmk
  go_loopw [6] (fun i wr => ∃ (k : Nat) (T : List Bool), k ≤ n ∧ i = .int .i64 k ∧ Hid (Rk G s T k) ∧ Hid (Blk wr mb 4 (boolV T)) ∧ Fr noB w wr) (fun i _ => n - (RowKit.intOf i).toNat)
  case atStart => exact ⟨0, T, by omega, rfl, hst, bm1, f1.out⟩
  case round =>
    clear hst bm1 f1
    obtain ⟨k, T0, hk, rfl, hRk, hB0, fr0⟩ := hrel
    obtain ⟨wa, rfl⟩ : ∃ wa : World, wa = wr := ⟨_, rfl⟩
    have hTl0 : T0.length = n := by rw [hRk.out.len]; exact hn.out
    replace hTl0 := Lib.hid hTl0
    by_cases hlt : k < n
    · go_wp2_with fail
      go_loopw [7] (fun i wr => ∃ (p : Nat) (T : List Bool), p ≤ n ∧ i = .int .i64 p ∧ Hid (Rn G s T0 T ∧ DoneTo G T0 T p) ∧ Hid (Blk wr mb 4 (boolV T)) ∧ Fr noB w wr) (fun i _ => n - (RowKit.intOf i).toNat)
      case atStart => exact ⟨0, T0, by omega, rfl, Lib.hid ⟨⟨hRk.out.len, hRk.out.snd, fun _ q => q, fun _ => rfl⟩, fun i' a => absurd a (Nat.not_lt_zero _)⟩, hB0, fr0⟩
      case round =>
        clear hB0 fr0
        obtain ⟨p, T1, hp, rfl, hRn, hB1, fr1⟩ := hrel
        obtain ⟨wb, rfl⟩ : ∃ wb : World, wb = wr := ⟨_, rfl⟩
        by_cases hpn : p < n
        · obtain ⟨gn, on, vi, rfl, hcv, hrd⟩ := hcells.out p hpn
          obtain ⟨ai, ci, rfl, hl1, hl2, hrc⟩ := hrd
          have hGp := hGl.out p hpn
          generalize hlen : (G.getD p []).length = ln at *
          replace hlen := Lib.hid hlen
          replace hGp := Lib.hid hGp
          replace hrc := Lib.hid hrc
          go_wp2_with fail
          go_loopw [8] (fun i wr => ∃ (j : Nat) (T : List Bool), j ≤ ln ∧ i = .int .i64 j ∧ Hid (Rn G s T0 T ∧ DoneTo G T0 T p ∧ DoneIn G T0 T p j) ∧ Hid (Blk wr mb 4 (boolV T)) ∧ Fr noB w wr) (fun i _ => ln - (RowKit.intOf i).toNat)
          case atStart => exact ⟨0, T1, by omega, rfl, Lib.hid ⟨hRn.out.1, hRn.out.2, fun _ x hx => by simp at hx⟩, hB1, fr1⟩
          case round =>
            clear hRn hB1 fr1
            obtain ⟨j, T, hj, rfl, hI, hB, fr⟩ := hrel
            have hTl : T.length = n := by rw [hI.out.1.len]; exact hn.out
            have cm : wr.cell? ⟨mb, p, none⟩ = some (.bool (T.getD p false)) := by rw [hB.out.cell p]; exact bool_cell (by omega)
            have cn := fr.cell hcv (fun q => q)
            replace hTl := Lib.hid hTl
            cases hTp : T.getD p false with
            | false =>
              rw [hTp] at cm
              have hnext := Lib.hid (show Rn G s T0 T ∧ DoneTo G T0 T (p + 1) from ⟨hI.out.1, hI.out.2.1.next (fun q => by have := hI.out.1.ge p q; unfold Tt at this; rw [hTp] at this; cases this)⟩)
              clear hTp hI
              go_wp2_with fail
              go_roundw
              case rel => exact ⟨p + 1, T, by omega, by go_num, hnext, hB, fr⟩
              case measure => simp [RowKit.intOf]; omega
            | true =>
              rw [hTp] at cm
              by_cases hjl : j < ln
              · obtain ⟨g2, o2, rfl, hx2⟩ := hrc.out j hjl
                have cx := fr.cell hx2 (fun q => q)
                have hxm : (G.getD p []).getD j 0 ∈ G.getD p [] := List.mem_of_getElem? (get_getD (by rw [hlen.out]; exact hjl))
                have hxok := hGp.out.2 _ hxm
                have hnx := fun (T9 : List Bool) (h9 : DoneIn G T0 T9 p j) => h9.next (by rw [hlen.out]; exact hjl)
                generalize (G.getD p []).getD j 0 = x at *
                by_cases hx0 : 0 ≤ x
                · have hx0d : decide (0 ≤ x) = true := by simpa using hx0
                  by_cases hxn : x < n
                  · have hxnd : decide (x < (n : Int)) = true := by simpa using hxn
                    obtain ⟨y, rfl⟩ : ∃ y : Nat, x = y := ⟨x.toNat, by omega⟩
                    have hy : y < n := by omega
                    have cy : wr.cell? ⟨mb, y, none⟩ = some (.bool (T.getD y false)) := by rw [hB.out.cell y]; exact bool_cell (by have := hTl.out; omega)
                    have zy := hB.out.frozen y
                    have by1 := hB.out.set y (.bool true)
                    rw [bool_set] at by1
                    have fy : Fr noB w (wr.setCell ⟨mb, y, none⟩ (.bool true)) := fr.storeNew (by rw [hmb.out]; exact Nat.le_refl _)
                    have hnext := Lib.hid (show Rn G s T0 (T.set y true) ∧ DoneTo G T0 (T.set y true) p ∧ DoneIn G T0 (T.set y true) p (j + 1) from
                      ⟨by have := hI.out.1.set (x := (y : Int)) hTp hxm (by omega) (by have := hn.out; omega); simpa using this, hI.out.2.1.set y, hnx _ (hI.out.2.2.set y) (fun _ _ => by simpa using Tt.self (T := T) (x := y) (by have := hTl.out; omega))⟩)
                    replace by1 := Lib.hid by1
                    replace fy := Lib.hid fy
                    have hyd : decide (y < n) = true := by simpa using hy
                    clear hTp hI hnx hxm hx2 hB hxok
                    go_wp2_with fail
                    go_roundw
                    case rel => exact ⟨j + 1, _, by omega, by go_num, hnext, by1, fy.out⟩
                    case measure => simp [RowKit.intOf]; omega
                  · have hxnd : decide (x < (n : Int)) = false := by simpa using hxn
                    have hnext := Lib.hid (show Rn G s T0 T ∧ DoneTo G T0 T p ∧ DoneIn G T0 T p (j + 1) from ⟨hI.out.1, hI.out.2.1, hnx _ hI.out.2.2 (fun _ q => by have := hn.out; omega)⟩)
                    clear hTp hI hnx hxm hx2 hxok
                    go_wp2_with fail
                    go_roundw
                    case rel => exact ⟨j + 1, T, by omega, by go_num, hnext, hB, fr⟩
                    case measure => simp [RowKit.intOf]; omega
                · have hx0d : decide (0 ≤ x) = false := by simpa using hx0
                  have hnext := Lib.hid (show Rn G s T0 T ∧ DoneTo G T0 T p ∧ DoneIn G T0 T p (j + 1) from ⟨hI.out.1, hI.out.2.1, hnx _ hI.out.2.2 (fun q => absurd q hx0)⟩)
                  clear hTp hI hnx hxm hx2 hxok
                  go_wp2_with fail
                  go_roundw
                  case rel => exact ⟨j + 1, T, by omega, by go_num, hnext, hB, fr⟩
                  case measure => simp [RowKit.intOf]; omega
              · obtain rfl : j = ln := by omega
                have hnext := Lib.hid (show Rn G s T0 T ∧ DoneTo G T0 T (p + 1) from ⟨hI.out.1, hI.out.2.1.next (fun q x hx => hI.out.2.2 q x (by rw [List.take_of_length_le (by rw [hlen.out]; exact Nat.le_refl _)]; exact hx))⟩)
                clear hTp hI
                go_wp2_with fail
                go_roundw
                case rel => exact ⟨p + 1, T, by omega, by go_num, hnext, hB, fr⟩
                case measure => simp [RowKit.intOf]; omega
        · obtain rfl : p = n := by omega
          have hnext := Lib.hid (hRk.out.next hRn.out.1 (by rw [hn.out]; exact hRn.out.2))
          clear hRn
          go_wp2_with fail
          go_roundw
          case rel => exact ⟨k + 1, T1, by omega, by go_num, hnext, hB1, fr1⟩
          case measure => simp [RowKit.intOf]; omega
    · obtain rfl : k = n := by omega
      have hall : ∀ i, Tt T0 i ↔ Rch G s i := (show Rk G s T0 G.length by rw [hn.out]; exact hRk.out).done (by omega)
      replace hall := Lib.hid hall
      clear hRk
      go_wp2_with fail
      go_loopw [9, 10] (fun ov i wr => ∃ q : Nat, q ≤ k ∧ i = .int .i64 q ∧ wr.ownsRow mb 3 1 ov (metL T0 q).length (rowV (metL T0 q)) ∧ Hid (Blk wr mb 4 (boolV T0)) ∧ Fr noB w wr) (fun _ i _ => k - (RowKit.intOf i).toNat)
      case atStart => exact ⟨0, by omega, rfl, World.ownsRow_nil _ _ _ _, hB0, fr0⟩
      case round =>
        clear hB0 fr0
        obtain ⟨q, hq, rfl, own, hB, fr⟩ := hrel
        have hml := metL_len T0 q
        by_cases hqn : q < k
        · have cm : wr.cell? ⟨mb, q, none⟩ = some (.bool (T0.getD q false)) := by rw [hB.out.cell q]; exact bool_cell (by have := hTl0.out; omega)
          cases hTq : T0.getD q false with
          | false =>
            rw [hTq] at cm
            rw [← metL_no hTq] at own
            clear hTq
            go_wp2_with fail
            go_roundw
            case rel => exact ⟨q + 1, by omega, by go_num, own, hB, fr⟩
            case measure => simp [RowKit.intOf]; omega
          | true =>
            rw [hTq] at cm
            have hyes := Lib.hid (metL_yes hTq)
            clear hTq
            generalize hO : metL T0 q = O at *
            replace hO := Lib.hid hO
            have hA := append_int mb wr u9 O q own
            have hN := cell_new wr (.int .i64 (q : Int)) 3
            have hmbw : mb ≤ wr.heap.size := by rw [hmb.out]; exact fr.size
            go_wp2_with (first
              | (at_builtin; go_must (refine wpList_append_at _ rfl (.tmp 91) (.tmp 93) 31 rfl mb 3 i0 _ 1 8 Try.underlying31 hi0 hz0 hz1 hz2 rfl (by omega) _ O.length _ rfl hA ⟨wr.heap.size, 0, none⟩ 1 1 [.int .i64 q] rfl rfl hN (one_int _ _) ?_ ?_ ?_ ?_))
              | fail)
            · unfold maxLen; omega
            · omega
            · have := ((Fr.refl noB wr).alloc (.cells #[.int .i64 (q : Int)] 3)).size; omega
            intro v' w1 o1 gr1 mv1
            obtain ⟨own1, fr1⟩ := grow_int hDw fr hA o1 gr1
            have hB1 : Hid (Blk w1 mb 4 (boolV T0)) := Lib.hid (by
              have bX := ((Fr.refl noB wr).alloc (.cells #[.int .i64 (q : Int)] 3)).blk hB.out (fun q => q)
              have hk1 := gr1.block mb bX.lt (fun e => by
                obtain ⟨cs, hcs⟩ := row_type2 hA e.symm
                unfold Blk at bX
                rw [hcs] at bX
                simp only [Option.some.injEq, Obj.cells.injEq] at bX
                exact absurd bX.2.1 (by decide))
              unfold Blk at bX ⊢
              rw [hk1]; exact bX)
            rw [← hyes.out] at own1
            clear hA hN o1 gr1 own
            go_wp2_with fail
            go_roundw
            case rel => exact ⟨q + 1, by omega, by go_num, own1, hB1, fr1⟩
            case measure => simp [RowKit.intOf]; omega
        · obtain rfl : q = k := by omega
          have hmem : ∀ i, i ∈ metL T0 q ↔ Rch G s i := fun i => by
            rw [metL_mem]
            constructor
            · rintro ⟨a, b, c⟩
              have := (hall.out i.toNat).1 c
              rwa [show ((i.toNat : Nat) : Int) = i by omega] at this
            · intro hr
              have hrr := hr.range
              have := hn.out
              exact ⟨hrr.1, by omega, (hall.out i.toNat).2 (by rwa [show ((i.toNat : Nat) : Int) = i by omega])⟩
          have hsr := metL_sorted T0 q
          replace hmem := Lib.hid hmem
          replace hsr := Lib.hid hsr
          go_wp2_with fail
          go_ret
          exact ⟨_, _, rfl, by rw [hDw.out]; exact own, hsr.out, hmem.out, fr⟩
end Go.Proofs.Ytppgachfobpgbaa
