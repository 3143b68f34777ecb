/-
  The document's agent, by the same numbers: where it lies; what a part's call makes of it.
  The document's agent: what was let go, a crumb, a trigger, a tick.
  The document's agent: what is read of it; what it sends.
  The document's agent: its parts' calls amid a message.
  The document's agent hears a Pin.
  The document's agent hears a Collect: the row of chunks that it makes.
  The document's agent hears an Unpin.
  The document's agent: time goes on.
  An agent that may not be made: the program's New, the document's May.
  The document's agent that is new.
  The document's agent that is new: New walked.
-/
import Derived.Test.YtppmednmcbjafaaGreatAgA1
import Derived.Test.YtppmednmcbjafaaGreatQmA
import Derived.Test.YtppmednmcbjafaaGreatQmC
import Derived.Deep.LoopGhost
import Derived.Deep.DeepCutAuto
import Derived.Test.YtppmednmcbjafaaGreatAgL
import Derived.Test.YtppmednmcbjafaaGreatBucketWalks
section
set_option linter.unusedVariables false
set_option linter.unusedSimpArgs false
set_option maxRecDepth 100000
namespace Go.Proofs.YtppmednmcbjafaaGreat
open Go.RowKit Go Go.Maps Go.Lib

/-- where it lies -/
structure Bd where
  k : Nat
  g : Nat
  B : Nat
  c : Nat
  cB : Nat
  E : List (Int × List Int)
  aT : Option Addr
  cT : Nat
  aA : Option Addr
  cA : Nat
  VA : List Value
  l : Nat
  lB : Nat
  L : List LR.PL
  O : List LR.PL
  b : Nat → Nat
  bs : Nat
  bc : Nat
  D : List LR.PL
  dB : Nat
  da : Option Addr
  dc : Nat
def raC (A : AG) (b : Bd) : List Value := [.int .i64 A.id, .pointer (some ⟨b.k, 0, none⟩), .pointer (some ⟨b.c, 0, none⟩), .pointer (some ⟨b.l, 0, none⟩), .slice (some ⟨b.bs, 0, none⟩) 4 b.bc, .slice b.da b.D.length b.dc]
/-- the blocks of the crumbs -/
def crB (b : Bd) : Nat → Prop := fun q => q = b.c ∨ (∃ o, b.aT = some ⟨q, o, none⟩) ∨ (∃ o, b.aA = some ⟨q, o, none⟩) ∨ ∃ u ∈ b.VA, ∃ o n c, u = .slice (some ⟨q, o, none⟩) n c
theorem crB_off {b : Bd} {S : Nat → Prop} (h : ∀ q, crB b q → ¬ S q) : CR.Off S b.c b.aT b.aA b.VA := fun k hk => ⟨fun e => h k (Or.inl e) hk, fun o e => h k (Or.inr (Or.inl ⟨o, e⟩)) hk, fun o e => h k (Or.inr (Or.inr (Or.inl ⟨o, e⟩))) hk, fun u hu o n c e => h k (Or.inr (Or.inr (Or.inr ⟨u, hu, o, n, c, e⟩))) hk⟩
/-- the leases are the agent's -/
def SmA (A : AG) (L O : List LR.PL) : Prop := ∃ H P, LR.Sm H P A.now A.T L O ∧ (∀ t, look H t = A.hold t) ∧ ∀ t, (look P t).getD 0 = A.over t
def rbk (A : AG) (i : Nat) : List Value := [.int .i64 A.bB, .int .i64 A.bR, .int .i64 (A.bc i), .int .i64 (A.bd i)]
structure RA (w : World) (z : Nat) (col : Nat → Nat) (n : Nat) (A : AG) (b : Bd) : Prop where
  blk : Blk w z 48 (raC A b)
  kx : KR.Rx w b.k b.g b.B A.N A.K (fun q => col q = 1)
  cr : CR.Rc w b.c b.cB A.M b.E b.aT b.cT b.aA b.cA b.VA
  ce : b.E.Pairwise (fun x y => x.1 < y.1)
  cl : ∀ k, look b.E k = if A.X k = [] then none else some (A.X k)
  lr : LR.Rl w b.l b.lB A.T b.L b.O
  ls : SmA A b.L b.O
  bk : ∀ i, i < 4 → Blk w (b.b i) 160 (rbk A i)
  bp : ∀ i, i < 4 → w.cell? ⟨b.bs, i, none⟩ = some (.pointer (some ⟨b.b i, 0, none⟩))
  kb : (0 ≤ A.bB ∧ A.bB ≤ 1000) ∧ (0 ≤ A.bR ∧ A.bR ≤ 1000) ∧ ∀ i, i < 4 → (0 ≤ A.bc i ∧ A.bc i ≤ 1000) ∧ 0 ≤ A.bd i ∧ A.bd i ≤ n
  dr : w.ownsRow b.dB 84 3 (.slice b.da b.D.length b.dc) b.D.length (LR.plC b.D)
  dd : ∀ t, LR.lastL b.D t = A.done t
  c2 : ∀ q, crB b q → col q = 2
  c3 : ∀ q, LR.touchL w b.l b.lB q → col q = 3
  c4 : ∀ i, i < 4 → col (b.b i) = 4 + i
  c8 : col b.bs = 8
  c9 : ∀ q, (Value.slice b.da b.D.length b.dc).ownBlock = some q → col q = 9
  c10 : col z = 10
  low : ∀ q, col q ≠ 0 → q < w.heap.size
  z1 : b.E.length ≤ n ∧ b.L.length ≤ n ∧ b.O.length ≤ n * 201 ∧ b.D.length ≤ n ∧ A.now ≤ n
  z2 : A.K.pins.length ≤ n ∧ A.K.loss.length ≤ n ∧ A.K.gone.length ≤ n
  zn : n ≤ 201
  bw : b.dB ≤ w.heap.size
theorem touch_l {w w' : World} {r B : Nat} {S : Nat → Prop} (hl : r < w.heap.size) (f : Fr S w w') (hr : ¬ S r) {q : Nat} (hq : LR.touchL w' r B q) : LR.touchL w r B q := by
  rcases hq with hq | ⟨i, v, hc, hv⟩
  · exact Or.inl hq
  · refine Or.inr ⟨i, v, ?_, hv⟩
    have e := f.block r hl hr
    unfold World.cell? at hc ⊢
    rw [← hc]
    simp only [e]
theorem rl_lt {w : World} {r B : Nat} {T : Int} {L O : List LR.PL} (h : LR.Rl w r B T L O) : r < w.heap.size := by
  obtain ⟨_, _, _, _, hb, _⟩ := h.ex
  exact hb.lt
theorem touch_lt {w : World} {r B : Nat} {T : Int} {L O : List LR.PL} (h : LR.Rl w r B T L O) {q : Nat} (hq : LR.touchL w r B q) : q < w.heap.size := by
  obtain ⟨aL, cL, aO, cO, hb, h1, h2, _⟩ := h.ex
  rcases hq with rfl | ⟨i, v, hc, hv⟩
  · exact hb.lt
  · rw [hb.cell i] at hc
    match i, hc with
    | 0, hc => injection hc with hc; subst hc; cases hv
    | 1, hc => injection hc with hc; subst hc; exact (h1.lt q hv).2
    | 2, hc => injection hc with hc; subst hc; exact (h2.lt q hv).2
    | i + 3, hc => simp at hc
section
variable {w w' : World} {z : Nat} {col : Nat → Nat} {n m : Nat} {A : AG} {b : Bd}
theorem RA.fr {S : Nat → Prop} (h : RA w z col n A b) (hf : Fr S w w') (hS : ∀ q, col q ≠ 0 → ¬ S q) : RA w' z col n A b := by
  have e : ∀ q c, col q = c → c ≠ 0 → ¬ S q := fun q c h1 h2 => hS q (by rw [h1]; exact h2)
  have hl : ∀ k, LR.touchL w b.l b.lB k → ¬ S k := fun k hk => e _ _ (h.c3 k hk) (by decide)
  exact ⟨hf.blk h.blk (e _ _ h.c10 (by decide)), h.kx.fr hf (fun q hq => e _ _ hq (by decide)), CR.Rc.fr h.cr hf (crB_off (fun q hq => e _ _ (h.c2 q hq) (by decide))), h.ce, h.cl, h.lr.fr hf hl, h.ls,
    fun i hi => hf.blk (h.bk i hi) (e _ _ (h.c4 i hi) (by omega)), fun i hi => hf.cell (h.bp i hi) (e _ _ h.c8 (by decide)), h.kb, ownsRow_fr h.dr hf (fun q hq => e _ _ (h.c9 q hq) (by decide)), h.dd,
    h.c2, fun q hq => h.c3 q (touch_l (rl_lt h.lr) hf (hl _ (Or.inl rfl)) hq), h.c4, h.c8, h.c9, h.c10, fun q hq => Nat.lt_of_lt_of_le (h.low q hq) hf.size, h.z1, h.z2, h.zn, Nat.le_trans h.bw hf.size⟩
theorem RA.frN (h : RA w z col n A b) (hf : Fr noB w w') : RA w' z col n A b := h.fr hf (fun _ _ q => q)
theorem RA.up (h : RA w z col n A b) (hm : n ≤ m) (h1 : m ≤ 201) : RA w z col m A b := by
  obtain ⟨x1, x2, x3, x4, x5⟩ := h.z1
  obtain ⟨y1, y2, y3⟩ := h.z2
  obtain ⟨u1, u2, u3⟩ := h.kb
  exact { h with kb := ⟨u1, u2, fun i hi => ⟨(u3 i hi).1, (u3 i hi).2.1, by have := (u3 i hi).2.2; omega⟩⟩, z1 := ⟨by omega, by omega, by omega, by omega, by omega⟩, z2 := ⟨by omega, by omega, by omega⟩, zn := h1 }
end
/-- what a call makes of it -/
def RTo (w w' : World) (z : Nat) (col : Nat → Nat) (n : Nat) (A : AG) (col' : Nat → Nat) : Prop := (∃ b, RA w' z col' n A b) ∧ Fr (fun q => col q ≠ 0) w w' ∧ ∀ q, q < w.heap.size → col' q = col q
theorem RTo.same {w w' : World} {z : Nat} {col : Nat → Nat} {n : Nat} {A : AG} {b : Bd} (h : RA w z col n A b) (hf : Fr noB w w') : RTo w w' z col n A col := ⟨⟨b, h.frN hf⟩, hf.mono (fun _ _ q => False.elim q), fun _ _ => rfl⟩
theorem RTo.trans {w w1 w2 : World} {z : Nat} {col c1 c2 : Nat → Nat} {n m : Nat} {A B : AG} (h : RTo w w1 z col n A c1) (k : RTo w1 w2 z c1 m B c2) : RTo w w2 z col m B c2 := by
  obtain ⟨⟨a, ha⟩, f, hc⟩ := h
  obtain ⟨hb, f2, hc2⟩ := k
  exact ⟨hb, f.trans f2 (fun _ _ q => q) (fun i hi q => by rw [hc i hi] at q; exact q), fun q hq => (hc2 q (Nat.lt_of_lt_of_le hq f.size)).trans (hc q hq)⟩
theorem RTo.wrapN {w wA w2 w9 : World} {z : Nat} {col c2 : Nat → Nat} {n : Nat} {A' : AG} (f : Fr noB w wA) (h : RTo wA w2 z col n A' c2) (f9 : Fr noB w2 w9) : RTo w w9 z col n A' c2 := by
  obtain ⟨⟨a, ha⟩, f2, hc⟩ := h
  exact ⟨⟨a, ha.frN f9⟩, (f.trans f2 (fun _ _ q => False.elim q) (fun _ _ q => q)).seqN f9, fun q hq => hc q (Nat.lt_of_lt_of_le hq f.size)⟩
theorem RTo.wrap {w wA w2 w9 : World} {z : Nat} {col c2 : Nat → Nat} {n : Nat} {A' : AG} {S : Nat → Prop} (hlow : ∀ q, col q ≠ 0 → q < w.heap.size) (f : Fr noB w wA) (h : RTo wA w2 z col n A' c2) (f9 : Fr S w2 w9) (hS : ∀ q, S q → w.heap.size ≤ q ∧ q < wA.heap.size) : RTo w w9 z col n A' c2 := by
  obtain ⟨⟨a, ha⟩, f2, hc⟩ := h
  have h0 : ∀ q, S q → c2 q = 0 := fun q hq => by
    obtain ⟨h1, h2⟩ := hS q hq
    rw [hc q h2]
    rcases Nat.eq_zero_or_pos (col q) with e | e
    · exact e
    · have := hlow q (by omega); omega
  refine ⟨⟨a, ha.fr f9 (fun q hq hs => hq (h0 q hs))⟩, ?_, fun q hq => hc q (Nat.lt_of_lt_of_le hq f.size)⟩
  have g1 : Fr (fun q => col q ≠ 0) w w2 := f.trans f2 (fun _ _ q => False.elim q) (fun _ _ q => q)
  exact g1.trans f9 (fun _ _ q => q) (fun i hi q => by have := (hS i q).1; omega)
theorem rx_mono {w : World} {k g B N : Nat} {K : KS} {T U : Nat → Prop} (h : KR.Rx w k g B N K T) (hU : ∀ q, q < w.heap.size → T q → U q) : KR.Rx w k g B N K U := by
  obtain ⟨vp, vl, vg, S, h1, h2⟩ := h
  exact ⟨vp, vl, vg, S, h1, fun q hq => hU q (h1.lowk hq) (h2 q hq)⟩
/-! ### its parts' calls -/
section
variable {w w' : World} {z : Nat} {col : Nat → Nat} {n m : Nat} {A : AG} {b : Bd}
theorem RA.keeper {K' : KS} (h : RA w z col n A b) (hk : KR.Rx w' b.k b.g b.B A.N K' (KR.nx (fun q => col q = 1) w w')) (f : Fr (fun q => col q = 1) w w') (hm : n ≤ m) (hn : m ≤ 201) (hz : K'.pins.length ≤ m ∧ K'.loss.length ≤ m ∧ K'.gone.length ≤ m) : ∃ c2, RTo w w' z col m { A with K := K' } c2 := by
  have hu := h.up hm hn
  have e : ∀ q c, col q = c → c ≠ 1 → ¬ col q = 1 := fun q c h1 h2 h3 => h2 (by rw [← h1]; exact h3)
  have lo : ∀ q c, col q = c → c ≠ 0 → recol w.heap.size col (fun q => q < w'.heap.size) 1 q = c := fun q c h1 h2 => by
    rw [recol_lt (h.low q (by rw [h1]; exact h2)), h1]
  have hl : ∀ k, LR.touchL w b.l b.lB k → ¬ col k = 1 := fun k hk => e _ _ (h.c3 k hk) (by decide)
  refine ⟨recol w.heap.size col (fun q => q < w'.heap.size) 1, ⟨b, ?_⟩, f.mono (fun q _ hq => by rw [hq]; decide), fun q hq => recol_lt hq⟩
  exact ⟨f.blk h.blk (e _ _ h.c10 (by decide)), rx_mono hk (fun q hq hx => by
      rcases hx with hx | ⟨h1, h2⟩
      · exact lo q 1 hx (by decide)
      · exact recol_in h2 (fun h3 => by omega)), CR.Rc.fr h.cr f (crB_off (fun q hq => e _ _ (h.c2 q hq) (by decide))), h.ce, h.cl, h.lr.fr f hl, h.ls,
    fun i hi => f.blk (h.bk i hi) (e _ _ (h.c4 i hi) (by omega)), fun i hi => f.cell (h.bp i hi) (e _ _ h.c8 (by decide)), hu.kb, ownsRow_fr h.dr f (fun q hq => e _ _ (h.c9 q hq) (by decide)), h.dd,
    fun q hq => lo _ _ (h.c2 q hq) (by decide), fun q hq => lo _ _ (h.c3 q (touch_l (rl_lt h.lr) f (hl _ (Or.inl rfl)) hq)) (by decide), fun i hi => lo _ _ (h.c4 i hi) (by omega), lo _ _ h.c8 (by decide), fun q hq => lo _ _ (h.c9 q hq) (by decide), lo _ _ h.c10 (by decide),
    fun q hq => by
      rcases recol_low hq with h1 | h1
      · exact Nat.lt_of_lt_of_le h1 f.size
      · exact h1, hu.z1, hz, hn, Nat.le_trans h.bw f.size⟩
theorem RA.lease {L O : List LR.PL} {now : Int} {hold : Int → Option (Int × Int)} {over : Int → Int} (h : RA w z col n A b) (hr : LR.Rl w' b.l b.lB A.T L O) (f : Fr (LR.touchL w b.l b.lB) w w') (tn : LR.Tn w w' b.l b.lB) (hs : SmA { A with now := now, hold := hold, over := over } L O) (hm : n ≤ m) (hn : m ≤ 201) (hz : L.length ≤ m ∧ O.length ≤ m * 201 ∧ now ≤ m) : ∃ c2, RTo w w' z col m { A with now := now, hold := hold, over := over } c2 ∧ ∀ q, w.heap.size ≤ q → q < w'.heap.size → c2 q = 3 := by
  have hu := h.up hm hn
  have e : ∀ q c, col q = c → c ≠ 3 → ¬ LR.touchL w b.l b.lB q := fun q c h1 h2 h3 => h2 (by rw [← h1]; exact h.c3 q h3)
  have lo : ∀ q c, col q = c → c ≠ 0 → recol w.heap.size col (fun q => q < w'.heap.size) 3 q = c := fun q c h1 h2 => by
    rw [recol_lt (h.low q (by rw [h1]; exact h2)), h1]
  refine ⟨recol w.heap.size col (fun q => q < w'.heap.size) 3, ⟨⟨{ b with L := L, O := O }, ?_⟩, f.mono (fun q _ hq => by rw [h.c3 q hq]; decide), fun q hq => recol_lt hq⟩, fun q h1 h2 => recol_in h2 (fun h3 => by omega)⟩
  exact ⟨f.blk h.blk (e _ _ h.c10 (by decide)), rx_mono (h.kx.fr f (fun q hq => e _ _ hq (by decide))) (fun q hq hx => lo q 1 hx (by decide)), CR.Rc.fr h.cr f (crB_off (fun q hq => e _ _ (h.c2 q hq) (by decide))), h.ce, h.cl, hr, hs,
    fun i hi => f.blk (h.bk i hi) (e _ _ (h.c4 i hi) (by omega)), fun i hi => f.cell (h.bp i hi) (e _ _ h.c8 (by decide)), hu.kb, ownsRow_fr h.dr f (fun q hq => e _ _ (h.c9 q hq) (by decide)), h.dd,
    fun q hq => lo _ _ (h.c2 q hq) (by decide), fun q hq => by
      rcases tn q hq with h1 | h1
      · exact lo _ _ (h.c3 q h1) (by decide)
      · exact recol_in (touch_lt hr hq) (fun h3 => by omega), fun i hi => lo _ _ (h.c4 i hi) (by omega), lo _ _ h.c8 (by decide), fun q hq => lo _ _ (h.c9 q hq) (by decide), lo _ _ h.c10 (by decide),
    fun q hq => by
      rcases recol_low hq with h1 | h1
      · exact Nat.lt_of_lt_of_le h1 f.size
      · exact h1, ⟨hu.z1.1, hz.1, hz.2.1, hu.z1.2.2.2.1, hz.2.2⟩, hu.z2, hn, Nat.le_trans h.bw f.size⟩
theorem RA.crumb {X : Int → List Int} {E : List (Int × List Int)} {cB : Nat} {aT aA : Option Addr} {cT cA : Nat} {VA : List Value} (h : RA w z col n A b) (hr : CR.Rc w' b.c cB A.M E aT cT aA cA VA) (hB : w.heap.size ≤ cB) (hV : ∀ u ∈ VA, u ∈ b.VA ∨ ∀ g o n c, u = .slice (some ⟨g, o, none⟩) n c → w.heap.size ≤ g) (f : Fr (onlyB b.c) w w') (ce : E.Pairwise (fun x y => x.1 < y.1)) (cl : ∀ k, look E k = if X k = [] then none else some (X k)) (hm : n ≤ m) (hn : m ≤ 201) (hz : E.length ≤ m) : ∃ c2, RTo w w' z col m { A with X := X } c2 := by
  have hu := h.up hm hn
  have hc : col b.c = 2 := h.c2 b.c (Or.inl rfl)
  have e : ∀ q c, col q = c → c ≠ 2 → ¬ onlyB b.c q := fun q c h1 h2 h3 => by unfold onlyB at h3; subst h3; exact h2 (by rw [← h1]; exact hc)
  have lo : ∀ q c, col q = c → c ≠ 0 → recol w.heap.size col (fun q => q < w'.heap.size) 2 q = c := fun q c h1 h2 => by
    rw [recol_lt (h.low q (by rw [h1]; exact h2)), h1]
  have hl : ∀ k, LR.touchL w b.l b.lB k → ¬ onlyB b.c k := fun k hk => e _ _ (h.c3 k hk) (by decide)
  have nw : ∀ q, w.heap.size ≤ q → q < w'.heap.size → recol w.heap.size col (fun q => q < w'.heap.size) 2 q = 2 := fun q h1 h2 => recol_in h2 (fun h3 => by omega)
  refine ⟨recol w.heap.size col (fun q => q < w'.heap.size) 2, ⟨{ b with cB := cB, E := E, aT := aT, cT := cT, aA := aA, cA := cA, VA := VA }, ?_⟩, f.mono (fun q _ hq => by unfold onlyB at hq; subst hq; rw [hc]; decide), fun q hq => recol_lt hq⟩
  exact ⟨f.blk h.blk (e _ _ h.c10 (by decide)), rx_mono (h.kx.fr f (fun q hq => e _ _ hq (by decide))) (fun q hq hx => lo q 1 hx (by decide)), hr, ce, cl, h.lr.fr f hl, h.ls,
    fun i hi => f.blk (h.bk i hi) (e _ _ (h.c4 i hi) (by omega)), fun i hi => f.cell (h.bp i hi) (e _ _ h.c8 (by decide)), hu.kb, ownsRow_fr h.dr f (fun q hq => e _ _ (h.c9 q hq) (by decide)), h.dd,
    fun q hq => by
      rcases hq with rfl | ⟨o, h1⟩ | ⟨o, h1⟩ | ⟨u, hu, o, k, c, h1⟩
      · exact lo _ _ hc (by decide)
      · have h1 : aT = some ⟨q, o, none⟩ := h1
        have h2 := CR.addr_of hr.rT h1
        have h3 : q < w'.heap.size := (hr.rT.lt q (by rw [h1]; rfl)).2
        exact nw q (Nat.le_trans hB h2) h3
      · have h1 : aA = some ⟨q, o, none⟩ := h1
        have h2 := CR.addr_of hr.rA h1
        have h3 : q < w'.heap.size := (hr.rA.lt q (by rw [h1]; rfl)).2
        exact nw q (Nat.le_trans hB h2) h3
      · rcases hV u hu with h2 | h2
        · exact lo _ _ (h.c2 q (Or.inr (Or.inr (Or.inr ⟨u, h2, o, k, c, h1⟩)))) (by decide)
        · exact nw q (h2 q o k c h1) (hr.ap u hu q o k c h1).2,
    fun q hq => lo _ _ (h.c3 q (touch_l (rl_lt h.lr) f (hl _ (Or.inl rfl)) hq)) (by decide), fun i hi => lo _ _ (h.c4 i hi) (by omega), lo _ _ h.c8 (by decide), fun q hq => lo _ _ (h.c9 q hq) (by decide), lo _ _ h.c10 (by decide),
    fun q hq => by
      rcases recol_low hq with h1 | h1
      · exact Nat.lt_of_lt_of_le h1 f.size
      · exact h1, ⟨hz, hu.z1.2⟩, hu.z2, hn, Nat.le_trans h.bw f.size⟩
theorem RA.bucketB {i : Nat} {c d : Int} (h : RA w z col n A b) (hi : i < 4) (hk : Blk w' (b.b i) 160 [.int .i64 A.bB, .int .i64 A.bR, .int .i64 c, .int .i64 d]) (f : Fr (onlyB (b.b i)) w w') (hm : n ≤ m) (hn : m ≤ 201) (hc : 0 ≤ c ∧ c ≤ 1000) (hd : 0 ≤ d ∧ d ≤ m) : RA w' z col m { A with bc := fun q => if q = i then c else A.bc q, bd := fun q => if q = i then d else A.bd q } b := by
  have hu := h.up hm hn
  have hc4 := h.c4 i hi
  have e : ∀ q x, col q = x → x ≠ 4 + i → ¬ onlyB (b.b i) q := fun q x h1 h2 h3 => by unfold onlyB at h3; subst h3; exact h2 (by rw [← h1]; exact hc4)
  have hl : ∀ k, LR.touchL w b.l b.lB k → ¬ onlyB (b.b i) k := fun k hk => e _ _ (h.c3 k hk) (by omega)
  exact ⟨f.blk h.blk (e _ _ h.c10 (by omega)), h.kx.fr f (fun q hq => e _ _ hq (by omega)), CR.Rc.fr h.cr f (crB_off (fun q hq => e _ _ (h.c2 q hq) (by omega))), h.ce, h.cl, h.lr.fr f hl, h.ls,
    fun k hk4 => by
      by_cases hki : k = i
      · subst hki
        unfold rbk
        simp only [if_pos]
        exact hk
      · have hb := f.blk (h.bk k hk4) (e _ _ (h.c4 k hk4) (by omega))
        unfold rbk at hb ⊢
        simp only [if_neg hki]
        exact hb,
    fun k hk4 => f.cell (h.bp k hk4) (e _ _ h.c8 (by omega)), ⟨hu.kb.1, hu.kb.2.1, fun k hk4 => by
      by_cases hki : k = i
      · simp only [if_pos hki]; exact ⟨hc, hd⟩
      · simp only [if_neg hki]; exact hu.kb.2.2 k hk4⟩, ownsRow_fr h.dr f (fun q hq => e _ _ (h.c9 q hq) (by omega)), h.dd,
    h.c2, fun q hq => h.c3 q (touch_l (rl_lt h.lr) f (hl _ (Or.inl rfl)) hq), h.c4, h.c8, h.c9, h.c10, fun q hq => Nat.lt_of_lt_of_le (h.low q hq) f.size, hu.z1, hu.z2, hn, Nat.le_trans h.bw f.size⟩
theorem RA.bucket {i : Nat} {c d : Int} (h : RA w z col n A b) (hi : i < 4) (hk : Blk w' (b.b i) 160 [.int .i64 A.bB, .int .i64 A.bR, .int .i64 c, .int .i64 d]) (f : Fr (onlyB (b.b i)) w w') (hm : n ≤ m) (hn : m ≤ 201) (hc : 0 ≤ c ∧ c ≤ 1000) (hd : 0 ≤ d ∧ d ≤ m) : RTo w w' z col m { A with bc := fun q => if q = i then c else A.bc q, bd := fun q => if q = i then d else A.bd q } col :=
  ⟨⟨b, h.bucketB hi hk f hm hn hc hd⟩, f.mono (fun q _ hq => by unfold onlyB at hq; subst hq; rw [h.c4 i hi]; omega), fun q hq => rfl⟩
end
end Go.Proofs.YtppmednmcbjafaaGreat
end

section
set_option linter.unusedVariables false
set_option linter.unusedSimpArgs false
set_option maxRecDepth 100000
namespace Go.Proofs.YtppmednmcbjafaaGreat
open Go.RowKit Go Go.Maps Go.Lib

/-- what the agent's calls need of the keeper -/
structure KIn (N : Nat) (K : KS) : Prop where
  sd : U64 K.sd
  rng : ∀ y ∈ K.P.map (·.1), 1 ≤ y ∧ y ≤ 65535
  room : ∀ t, noRoom N K.P t → mayL K ≠ [] → goes K t ≠ t → ¬ noRoom N (without K.P (goes K t)) t
section
variable {w : World} {z : Nat} {col : Nat → Nat} {n : Nat} {A : AG} {b : Bd}
set_option maxHeartbeats 1000000 in
theorem rdone_any (t : Int) (h : RA w z col n A b) :
    Calls Tryz.prog 65 #[.pointer (some ⟨z, 0, none⟩), .int .i64 t] w fun e w' => e = .returned (.int .i64 (A.done t)) ∧ w' = w := by
  rw [← h.dd t]
  have h2 := h.dr
  have c1 : w.cell? ⟨z, 5, none⟩ = some (.slice b.da b.D.length b.dc) := h.blk.cell 5
  obtain ⟨O, hO⟩ : ∃ O, b.D = O := ⟨_, rfl⟩
  rw [hO] at h2 c1 ⊢
  have hl2 : O.length ≤ 201 := by have := h.z1.2.2.2.1; have := h.zn; rw [← hO]; omega
  generalize hn : O.length = n at *
  replace hn := Lib.hid hn
  clear h hO
  go_enter Tryz.func65, Tryz.ntmps65
  go_wp2_with fail
  go_loop [5, 6] (fun v i => ∃ k : Nat, k ≤ n ∧ i = .int .i64 k ∧ v = .int .i64 (LR.lastL (O.take k) t)) (fun _ i => n - (RowKit.intOf i).toNat)
  case atStart => exact ⟨0, by omega, rfl, rfl⟩
  case round =>
    obtain ⟨k, hk, rfl, rfl⟩ := hrel
    by_cases hlt : k < n
    · obtain ⟨m, hm⟩ : ∃ m, O[k]? = some m := ⟨_, List.getElem?_eq_getElem (by rw [hn.out]; exact hlt)⟩
      obtain ⟨g, hda, hg, e0, e1, e2⟩ := LR.pl_at h2 hm
      rw [hda] at c1
      have hsn : LR.lastL (O.take (k + 1)) t = if m.1 = t ∧ LR.lastL (O.take k) t < m.2.1 then m.2.1 else LR.lastL (O.take k) t := by
        have hi : k < O.length := by rw [hn.out]; exact hlt
        rw [List.getElem?_eq_getElem hi] at hm
        cases hm
        rw [List.take_succ_eq_append_getElem hi]
        unfold LR.lastL
        rw [List.foldl_append]
        rfl
      generalize LR.lastL (O.take k) t = old at *
      replace hm := Lib.hid hm
      replace hda := Lib.hid hda
      obtain ⟨m1, m2, m3⟩ := m
      simp only [] at e0 e1 e2 hsn
      by_cases hmt : m1 = t ∧ old < m2
      · rw [if_pos hmt] at hsn
        obtain ⟨rfl, hlt2⟩ := hmt
        replace hsn := Lib.hid hsn
        have hd2 : decide (old < m2) = true := by simp; omega
        go_wp2_with fail
        go_round
        case rel => exact ⟨k + 1, by omega, by go_num, by rw [hsn.out]⟩
        case measure => simp [RowKit.intOf]; omega
      · rw [if_neg hmt] at hsn
        replace hsn := Lib.hid hsn
        by_cases hmt1 : m1 = t
        · subst hmt1
          have hd2 : decide (old < m2) = false := by simp; omega
          go_wp2_with fail
          go_round
          case rel => exact ⟨k + 1, by omega, by go_num, by rw [hsn.out]⟩
          case measure => simp [RowKit.intOf]; omega
        · have hb2 : (m1 == t) = false := by simpa using hmt1
          clear hmt
          go_wp2_with fail
          go_round
          case rel => exact ⟨k + 1, by omega, by go_num, by rw [hsn.out]⟩
          case measure => simp [RowKit.intOf]; omega
    · obtain rfl : k = n := by omega
      rw [List.take_of_length_le (by have := hn.out; omega)]
      go_wp2_with fail
      go_ret
      exact ⟨rfl, rfl⟩
theorem SmA.of {A : AG} {L O : List LR.PL} (h : SmA A L O) (t : Int) : (LR.ofL L t).2.1 = A.job t := by
  obtain ⟨H, P, h1, h2, h3⟩ := h
  rw [(h1.of t).1, h2 t]
  rfl
/-- the job that holds a trace -/
theorem rof_job (t : Int) (h : RA w z col n A b) :
    Calls Tryz.prog 33 #[.pointer (some ⟨b.l, 0, none⟩), .int .i64 t] w fun e w' => ∃ m0 m2 : Int, e = .returned (.agg #[.int .i64 m0, .int .i64 (A.job t), .int .i64 m2]) ∧ Fr noB w w' := by
  refine (LR.rof_any b.l b.lB A.T t b.L b.O w h.lr).mono ?_
  rintro e w' ⟨rfl, f⟩
  rw [h.ls.of t]
  exact ⟨_, _, rfl, f⟩
theorem look_X (h : RA w z col n A b) (t : Int) : (look b.E t).getD [] = A.X t := by
  rw [h.cl t]
  by_cases hx : A.X t = []
  · rw [if_pos hx, hx]; rfl
  · rw [if_neg hx]; rfl
/-- who is named -/
theorem rcof_any (t : Int) (h : RA w z col n A b) :
    Calls Tryz.prog 31 #[.pointer (some ⟨b.c, 0, none⟩), .int .i64 t] w fun e w' => ∃ v, e = .returned v ∧ RdI w v (A.X t) ∧ Fr noB w w' := by
  refine (CR.rof_any b.c b.cB A.M t b.E b.aT b.cT b.aA b.cA b.VA w h.cr (by have := h.z1.1; have := h.zn; omega)).mono ?_
  rintro e w' ⟨v, rfl, hv, q, rfl⟩
  rw [look_X h t] at hv
  exact ⟨v, rfl, hv, (Fr.refl noB w).drewN q⟩
theorem field_job (m0 j m2 : Int) (w : World) : (Instr.field 84 (.agg #[.int .i64 m0, .int .i64 j, .int .i64 m2]) 1).run Tryz.prog w = .ok (.int .i64 j) w := by kernel_rfl
theorem inB_cases {t : Int} : (inB 1 65535 t = false → t < 1 ∨ 65535 < t) ∧ (¬ inB 1 65535 t = false → 1 ≤ t ∧ t ≤ 65535) := by
  unfold inB
  simp only [Bool.and_eq_false_iff, decide_eq_false_iff_not]
  constructor
  · rintro (h | h) <;> omega
  · intro h
    omega
/-- a crumb, noted -/
theorem crumb_add (h : RA w z col n A b) (hn : n < 201) {t o : Int} (hXs : (A.X t).Pairwise (· < ·)) (hm : o ∉ A.X t) {w' : World} {aT aA : Option Addr} {cT cA : Nat} {V : List Value} (hR : CR.Rc w' b.c w.heap.size A.M (CR.insP (without b.E t) (t, CR.insG (A.X t) o)) aT cT aA cA V) (hV : ∀ z ∈ V, z ∈ b.VA ∨ ∀ g o n c, z = .slice (some ⟨g, o, none⟩) n c → w.heap.size ≤ g) (f : Fr (onlyB b.c) w w') : ∃ c2, RTo w w' z col (n + 1) { A with X := addX A.X t o } c2 := by
  have hw : ∀ m ∈ without b.E t, m.1 ≠ t := fun m hm => (mem_without.1 hm).2
  have hz := h.z1.1
  have hlen : (CR.insP (without b.E t) (t, CR.insG (A.X t) o)).length ≤ n + 1 := by
    rw [CR.insP_len]
    have : (without b.E t).length ≤ b.E.length := List.length_filter_le _ _
    omega
  refine h.crumb hR (Nat.le_refl _) hV f (CR.sorted_insP (h.ce.sublist List.filter_sublist) hw) (fun k => ?_) (Nat.le_succ n) (by omega) hlen
  rw [CR.look_insP hw k]
  by_cases hk : k = t
  · subst hk
    have hne : insAt (A.X k) (placeI (A.X k) o) o ≠ [] := fun e => by
      have := congrArg List.length e
      rw [insAt_len _ _ _ (placeI_le _ _)] at this
      simp at this
    rw [if_pos rfl, CR.insG_insAt hXs hm]
    simp only [addX, if_true, if_neg hne]
  · rw [if_neg hk, look_without_other _ hk, h.cl k]
    simp only [addX, if_neg hk]
set_option maxHeartbeats 2000000 in
theorem rcrumb_any (t o : Int) (h : RA w z col n A b) (hi : A.Inv) (hXl : (A.X t).length ≤ 4) (hXs : (A.X t).Pairwise (· < ·)) (hn : n < 201) :
    Calls Tryz.prog 16 #[.pointer (some ⟨z, 0, none⟩), .int .i64 t, .int .i64 o] w fun e w' => e = .returned (.int .i64 (A.crE t o)) ∧ ∃ c2, RTo w w' z col (n + 1) (A.cr t o) c2 := by
  have d3 : w.cell? ⟨z, 3, none⟩ = some (.pointer (some ⟨b.l, 0, none⟩)) := h.blk.cell 3
  have hlk := look_X h t
  have same : ∀ w', Fr noB w w' → ∃ c2, RTo w w' z col (n + 1) A c2 := fun w' f => ⟨col, RTo.same (h.up (Nat.le_succ n) (by omega)) f⟩
  have hof := rof_job t h
  have hE : b.E.length ≤ 1000000 := by have := h.z1.1; have := h.zn; omega
  have h0 : 0 ≤ A.job t := by
    unfold AG.job
    cases hq : A.hold t with
    | none => exact Int.le_refl _
    | some x => have := (hi.rng t x hq).2; show 0 ≤ x.1; omega
  have hfj := field_job
  replace hfj := Lib.hid hfj
  by_cases hb : inB 1 65535 t = false
  · have e1 : A.crE t o = 1 := by unfold AG.crE; rw [if_pos hb]
    have e2 : A.cr t o = A := by unfold AG.cr; rw [if_neg (by rw [e1]; decide)]
    rw [e1, e2]
    replace same := Lib.hid same
    rcases inB_cases.1 hb with hr | hr
    · have hd : decide (t < 1) = true := by simpa using hr
      clear h hof hlk hb e1 e2
      go_enter Tryz.func16, Tryz.ntmps16
      go_wp2_with fail
      go_ret
      exact ⟨rfl, same.out _ (Fr.refl _ _)⟩
    · have hd : decide (t < 1) = false := by simp; omega
      have hd2 : decide (65535 < t) = true := by simpa using hr
      clear h hof hlk hb e1 e2
      go_enter Tryz.func16, Tryz.ntmps16
      go_wp2_with fail
      go_ret
      exact ⟨rfl, same.out _ (Fr.refl _ _)⟩
  obtain ⟨ht1, ht2⟩ := inB_cases.2 hb
  have hd : decide (t < 1) = false := by simp; omega
  have hd2 : decide (65535 < t) = false := by simp; omega
  by_cases hj : A.job t ≠ 0
  · have e1 : A.crE t o = 12 := by unfold AG.crE; rw [if_neg hb, if_pos hj]
    have e2 : A.cr t o = A := by unfold AG.cr; rw [if_neg (by rw [e1]; decide)]
    rw [e1, e2]
    have hd3 : decide (0 < A.job t) = true := by simp; omega
    replace same := Lib.hid same
    replace hof := Lib.hid hof
    clear h hlk hb e1 e2 hj
    go_enter Tryz.func16, Tryz.ntmps16
    go_wp2_with fail
    go_fit hof.out
    rintro e w1 ⟨m0, m2, rfl, f1⟩
    have hf1 := hfj.out m0 (A.job t) m2 w1
    go_wp2_with fail
    go_ret
    exact ⟨rfl, same.out _ f1⟩
  have hj0 : A.job t = 0 := Classical.not_not.1 hj
  have hd3 : decide ((0 : Int) < 0) = false := by simp
  rw [hj0] at hof
  have hstep : ∀ w1, Fr noB w w1 → Calls Tryz.prog 52 #[.pointer (some ⟨b.c, 0, none⟩), .int .i64 t, .int .i64 o] w1 fun e w' => e = .returned (.int .i64 (A.crE t o)) ∧ ∃ c2, RTo w w' z col (n + 1) (A.cr t o) c2 := fun w1 f1 => by
    have h1 := h.frN f1
    have wr : ∀ {B : AG} {w'}, (∃ c2, RTo w1 w' z col (n + 1) B c2) → ∃ c2, RTo w w' z col (n + 1) B c2 := fun ⟨c2, k⟩ => ⟨c2, RTo.wrapN f1 k (Fr.refl _ _)⟩
    by_cases hr : o < 0 ∨ A.M ≤ o
    · have e1 : A.crE t o = 2 := by unfold AG.crE; rw [if_neg hb, if_neg hj, if_pos hr]
      have e2 : A.cr t o = A := by unfold AG.cr; rw [if_neg (by rw [e1]; decide)]
      rw [e1, e2]
      refine (CR.radd_range b.c b.cB A.M t o b.E b.aT b.cT b.aA b.cA b.VA w1 h1.cr ht1 ht2 hr).mono ?_
      rintro e w' ⟨rfl, rfl⟩
      exact ⟨rfl, same _ f1⟩
    · by_cases hm : o ∈ A.X t
      · have e1 : A.crE t o = 8 := by unfold AG.crE; rw [if_neg hb, if_neg hj, if_neg hr, if_pos hm]
        have e2 : A.cr t o = A := by unfold AG.cr; rw [if_neg (by rw [e1]; decide)]
        rw [e1, e2]
        refine (CR.radd_once b.c b.cB A.M t o b.E b.aT b.cT b.aA b.cA b.VA w1 h1.cr hE ht1 ht2 (by omega) (by omega) (by rw [hlk]; exact hm)).mono ?_
        rintro e w' ⟨rfl, f⟩
        exact ⟨rfl, same _ (f1.seqN f)⟩
      · have e1 : A.crE t o = 0 := by unfold AG.crE; rw [if_neg hb, if_neg hj, if_neg hr, if_neg hm]
        have e2 : A.cr t o = { A with X := addX A.X t o } := by unfold AG.cr; rw [if_pos e1]
        rw [e1, e2]
        refine (CR.radd_ok b.c b.cB A.M t o b.E b.aT b.cT b.aA b.cA b.VA w1 h1.cr hE ht1 ht2 (by omega) (by omega) (by rw [hlk]; exact hm) (by rw [hlk]; omega)).mono ?_
        rintro e w' ⟨rfl, ⟨aT, cT, aA, cA, V, hR, hV⟩, f⟩
        rw [hlk] at hR
        exact ⟨rfl, wr (crumb_add h1 hn hXs hm hR hV f)⟩
  have d2 : w.cell? ⟨z, 2, none⟩ = some (.pointer (some ⟨b.c, 0, none⟩)) := h.blk.cell 2
  replace same := Lib.hid same
  replace hof := Lib.hid hof
  replace hstep := Lib.hid hstep
  clear h hlk hb hj hj0
  go_enter Tryz.func16, Tryz.ntmps16
  go_wp2_with fail
  go_fit hof.out
  rintro e w1 ⟨m0, m2, rfl, f1⟩
  have hf1 := hfj.out m0 0 m2 w1
  have d21 := f1.cell d2 (fun q => q)
  have hs1 := hstep.out w1 f1
  replace hs1 := Lib.hid hs1
  go_wp2_with fail
  go_fit hs1.out
  rintro e w2 ⟨rfl, hto⟩
  replace hto := Lib.hid hto
  go_wp2_with fail
  go_ret
  exact ⟨rfl, hto.out⟩
set_option maxHeartbeats 2000000 in
theorem rtrig_any (t c : Int) (h : RA w z col n A b) (hn : n < 201) :
    Calls Tryz.prog 18 #[.pointer (some ⟨z, 0, none⟩), .int .i64 t, .int .i64 c] w fun e w' => e = .returned (.int .i64 (A.trE t c)) ∧ RTo w w' z col (n + 1) (A.tr t c) col := by
  have same : ∀ w', Fr noB w w' → RTo w w' z col (n + 1) A col := fun w' f => RTo.same (h.up (Nat.le_succ n) (by omega)) f
  have bad : A.trE t c = 1 → A.tr t c = A := fun e => by unfold AG.tr; rw [if_neg (by rw [e]; decide)]
  have d4 : w.cell? ⟨z, 4, none⟩ = some (.slice (some ⟨b.bs, 0, none⟩) 4 b.bc) := h.blk.cell 4
  by_cases hb : inB 1 65535 t = false
  · have e1 : A.trE t c = 1 := by unfold AG.trE; rw [if_pos hb]
    rw [bad e1, e1]
    replace same := Lib.hid same
    rcases inB_cases.1 hb with hr | hr
    · have hd : decide (t < 1) = true := by simpa using hr
      clear h hb e1 bad
      go_enter Tryz.func18, Tryz.ntmps18
      go_wp2_with fail
      go_ret
      exact ⟨rfl, same.out _ (Fr.refl _ _)⟩
    · have hd : decide (t < 1) = false := by simp; omega
      have hd2 : decide (65535 < t) = true := by simpa using hr
      clear h hb e1 bad
      go_enter Tryz.func18, Tryz.ntmps18
      go_wp2_with fail
      go_ret
      exact ⟨rfl, same.out _ (Fr.refl _ _)⟩
  obtain ⟨ht1, ht2⟩ := inB_cases.2 hb
  have hd : decide (t < 1) = false := by simp; omega
  have hd2 : decide (65535 < t) = false := by simp; omega
  by_cases hc : inB 0 3 c = false
  · have e1 : A.trE t c = 1 := by unfold AG.trE; rw [if_neg hb, if_pos hc]
    rw [bad e1, e1]
    replace same := Lib.hid same
    have hr : c < 0 ∨ 3 < c := by
      unfold inB at hc
      simp only [Bool.and_eq_false_iff, decide_eq_false_iff_not] at hc
      omega
    rcases hr with hr | hr
    · have hd3 : decide (c < 0) = true := by simpa using hr
      clear h hb e1 bad hc
      go_enter Tryz.func18, Tryz.ntmps18
      go_wp2_with fail
      go_ret
      exact ⟨rfl, same.out _ (Fr.refl _ _)⟩
    · have hd3 : decide (c < 0) = false := by simp; omega
      have hd4 : decide (3 < c) = true := by simpa using hr
      clear h hb e1 bad hc
      go_enter Tryz.func18, Tryz.ntmps18
      go_wp2_with fail
      go_ret
      exact ⟨rfl, same.out _ (Fr.refl _ _)⟩
  have hcr : 0 ≤ c ∧ c ≤ 3 := by
    unfold inB at hc
    simp only [Bool.and_eq_false_iff, decide_eq_false_iff_not] at hc
    omega
  obtain ⟨i, rfl⟩ := Int.eq_ofNat_of_zero_le hcr.1
  have hi4 : i < 4 := by omega
  have hd3 : decide ((i : Int) < 0) = false := by simp
  have hd4 : decide (3 < (i : Int)) = false := by simp; omega
  have hci : (i : Int) < 4 := by omega
  have p0 := h.bp i hi4
  have hbk := h.bk i hi4
  have hkb := h.kb.2.2 i hi4
  have hzn := h.zn
  unfold rbk at hbk
  have htake : Calls Tryz.prog 54 #[.pointer (some ⟨b.b i, 0, none⟩)] w fun e w' => e = .returned (.bool (decide (A.bc i ≠ 0))) ∧ RTo w w' z col (n + 1) (A.tr t i) col := by
    by_cases h0 : A.bc i = 0
    · have e1 : A.trE t i = 11 := by unfold AG.trE; rw [if_neg hb, if_neg hc, Int.toNat_natCast, if_pos h0]
      have e2 : A.tr t i = A := by unfold AG.tr; rw [if_neg (by rw [e1]; decide)]
      rw [e2, h0]
      rw [h0] at hbk
      refine (rtake_no (b.b i) A.bB A.bR (A.bd i) w hbk).mono ?_
      rintro e w' ⟨rfl, rfl⟩
      exact ⟨by simp, same _ (Fr.refl _ _)⟩
    · have e1 : A.trE t i = 0 := by unfold AG.trE; rw [if_neg hb, if_neg hc, Int.toNat_natCast, if_neg h0]
      have e2 : A.tr t i = { A with bc := fun q => if q = i then A.bc i - 1 else A.bc q, bd := fun q => if q = i then A.bd i + 1 else A.bd q } := by unfold AG.tr; rw [if_pos e1, Int.toNat_natCast]
      rw [e2]
      refine (rtake_yes (b.b i) A.bB A.bR (A.bc i) (A.bd i) w hbk (by omega) (by omega)).mono ?_
      rintro e w' ⟨rfl, hk, f⟩
      exact ⟨by simp [h0], h.bucket hi4 hk f (Nat.le_succ n) (by omega) (by omega) (by omega)⟩
  have hE : A.trE t i = if decide (A.bc i ≠ 0) = true then 0 else 11 := by
    unfold AG.trE
    rw [if_neg hb, if_neg hc, Int.toNat_natCast]
    by_cases h0 : A.bc i = 0 <;> simp [h0]
  rw [hE]
  generalize decide (A.bc i ≠ 0) = q at *
  replace same := Lib.hid same
  replace htake := Lib.hid htake
  clear h hb bad hc hbk hE hkb
  cases q
  · go_enter Tryz.func18, Tryz.ntmps18
    go_wp2_with fail
    go_fit htake.out
    rintro e w2 ⟨rfl, hto⟩
    replace hto := Lib.hid hto
    go_wp2_with fail
    go_ret
    exact ⟨rfl, hto.out⟩
  · go_enter Tryz.func18, Tryz.ntmps18
    go_wp2_with fail
    go_fit htake.out
    rintro e w2 ⟨rfl, hto⟩
    replace hto := Lib.hid hto
    go_wp2_with fail
    go_ret
    exact ⟨rfl, hto.out⟩
end
end Go.Proofs.YtppmednmcbjafaaGreat
end

section
set_option linter.unusedVariables false
set_option linter.unusedSimpArgs false
set_option maxRecDepth 100000
namespace Go.Proofs.YtppmednmcbjafaaGreat
open Go.RowKit Go Go.Maps Go.Lib

theorem chk_get : ∀ (n : Nat) (L : List Sp), L.length = n → ∀ i, i < (chkL L).length → (chkL L)[i]? = some ((L.drop (2 * i)).take 2) := by
  intro n
  induction n using Nat.strongRecOn with
  | ind n ih =>
    intro L hL i hi
    by_cases h2 : 2 < L.length
    · rw [chk_step L h2] at hi ⊢
      cases i with
      | zero => rfl
      | succ i =>
        rw [List.getElem?_cons_succ, ih (L.drop 2).length (by rw [List.length_drop]; omega) (L.drop 2) rfl i (by simpa using hi), List.drop_drop, show 2 + 2 * i = 2 * (i + 1) by omega]
    · rw [chk_end L h2] at hi ⊢
      have h0 : i = 0 := by simpa using hi
      subst h0
      show some L = some ((L.drop 0).take 2)
      rw [List.drop_zero, List.take_of_length_le (by omega)]
theorem cks_len (A : AG) (t j : Int) : (A.cks t j).length = max (((txt A.K.P t).length + 1) / 2) 1 := by
  unfold AG.cks
  rw [List.length_mapIdx, (chk_props _ _ rfl).2.1, spansOf_len]
theorem cks_get (A : AG) (t j : Int) {i : Nat} (hi : i < (A.cks t j).length) : (A.cks t j)[i]? = some (.chunk A.id t j i (A.cks t j).length (((spansOf t (txt A.K.P t)).drop (2 * i)).take 2)) := by
  have hl : (A.cks t j).length = (chkL (spansOf t (txt A.K.P t))).length := by unfold AG.cks; rw [List.length_mapIdx]
  rw [hl] at hi ⊢
  unfold AG.cks
  rw [List.getElem?_mapIdx, chk_get _ _ rfl i hi]
  rfl
section
variable {w : World} {z : Nat} {col : Nat → Nat} {n : Nat} {A : AG} {b : Bd}
theorem rpof_any (t : Int) (h : RA w z col n A b) :
    Calls Tryz.prog 29 #[.pointer (some ⟨b.g, 0, none⟩), .int .i64 t] w fun e w' => ∃ v, e = .returned v ∧ RdSp w v (spansOf t (txt A.K.P t)) ∧ (∀ q, v.ownBlock = some q → col q = 1) ∧ w' = w := by
  obtain ⟨vp, vl, vg, S, hk, hS⟩ := h.kx
  obtain ⟨vt, vs, V, hp, hS2⟩ := hk.pool
  obtain ⟨r, hr⟩ := KR.AtT.ex A.K.P t
  rcases hr with ⟨j, p, hj, hp2, _⟩ | ⟨hn, _⟩
  · subst hp2
    have hjl := (List.getElem?_eq_some_iff.1 hj).1
    have hv : V[j]? = some (V[j]'(by rw [hp.rd.1]; exact hjl)) := List.getElem?_eq_getElem _
    refine (KR.rof_at b.g b.B A.N A.K.P vt vs V j p _ w hp hj hv).mono ?_
    rintro e w' ⟨rfl, hw⟩
    rw [KR.txt_at hp.ris hj]
    refine ⟨_, rfl, RdSp.of_own (hp.rd.2 j p _ hj hv) (spansOf_len _ _), fun q hq => hS q (Or.inr (Or.inr (Or.inr (Or.inr (hS2 q (Or.inr (Or.inr (Or.inr ⟨_, List.mem_of_getElem? hv, hq⟩)))))))), hw⟩
  · refine (KR.rof_no b.g b.B A.N A.K.P vt vs V t w hp hn).mono ?_
    rintro e w' ⟨rfl, hw⟩
    rw [KR.txt_no hn]
    exact ⟨_, rfl, ⟨none, 0, rfl, by simp [spansOf], by simp [maxLen], fun _ => rfl, fun i s hi => by simp [spansOf] at hi⟩, (fun q hq => by cases hq), hw⟩
theorem rpfree_any (h : RA w z col n A b) :
    Calls Tryz.prog 37 #[.pointer (some ⟨b.g, 0, none⟩)] w fun e w' => e = .returned (.int .i64 ((A.N - used A.K.P : Nat))) ∧ w' = w ∧ used A.K.P ≤ A.N ∧ A.N ≤ 16 := by
  obtain ⟨vp, vl, vg, S, hk, hS⟩ := h.kx
  obtain ⟨vt, vs, V, hp, hS2⟩ := hk.pool
  exact (KR.rfree_any b.g b.B A.N A.K.P vt vs V w hp).mono fun e w' ⟨h1, h2⟩ => ⟨h1, h2, hp.le, hp.n16⟩
/-- the keeper's cells -/
theorem rk_cells (h : RA w z col n A b) : ∃ vl vg, w.cell? ⟨b.k, 0, none⟩ = some (.pointer (some ⟨b.g, 0, none⟩)) ∧ w.cell? ⟨b.k, 3, none⟩ = some vl ∧ w.cell? ⟨b.k, 4, none⟩ = some vg ∧ RdI w vl A.K.loss ∧ RdI w vg A.K.gone := by
  obtain ⟨vp, vl, vg, S, hk, hS⟩ := h.kx
  exact ⟨vl, vg, hk.blk.cell 0, hk.blk.cell 3, hk.blk.cell 4, hk.los, hk.gon⟩
theorem rin_loss (t : Int) {vl : Value} {w' : World} (hv : RdI w' vl A.K.loss) :
    Calls Tryz.prog 35 #[vl, .int .i64 t] w' fun e w'' => e = .returned (.bool (decide (t ∈ A.K.loss))) ∧ w'' = w' := KR.rin_any vl A.K.loss t w' hv
end
/-- the messages that the document's agent sends -/
def OutR (w : World) (v : Value) (ms : List Ms) : Prop := ∃ a c, v = .slice a ms.length c ∧ ms.length ≤ c ∧ ∀ i m, ms[i]? = some m → ∃ g o M, a = some ⟨g, o, none⟩ ∧ (∀ q u, (mrC M)[q]? = some u → w.cell? ⟨g, o + (i * 15 + q), none⟩ = some u) ∧ RfW w (mrV M) m
theorem OutR.nil (w : World) : OutR w (.slice none 0 0) [] := ⟨none, 0, rfl, Nat.le_refl _, fun i m h => by simp at h⟩
theorem OutR.one {w : World} {g : Nat} {M : MR} {m : Ms} (hb : Blk w g 73 (mrC M)) (h : RfW w (mrV M) m) : OutR w (.slice (some ⟨g, 0, none⟩) 1 1) [m] :=
  ⟨_, 1, rfl, Nat.le_refl _, fun i m' hi => by
    have h0 : i = 0 := by have := (List.getElem?_eq_some_iff.1 hi).1; simpa using this
    subst h0
    have : m = m' := by simpa using hi
    subst this
    exact ⟨g, 0, M, rfl, fun q u hq => by rw [Nat.zero_mul, Nat.zero_add, Nat.zero_add, hb.cell q]; exact hq, h⟩⟩
theorem OutR.frN {w w' : World} {v : Value} {ms : List Ms} (h : OutR w v ms) (f : Fr noB w w') : OutR w' v ms := by
  obtain ⟨a, c, e, h1, h2⟩ := h
  refine ⟨a, c, e, h1, fun i m hi => ?_⟩
  obtain ⟨g, o, M, k1, k2, k3⟩ := h2 i m hi
  exact ⟨g, o, M, k1, fun q u hq => f.cell (k2 q u hq) (fun q => q), k3.frN f⟩
end Go.Proofs.YtppmednmcbjafaaGreat
end

section
set_option linter.unusedVariables false
set_option linter.unusedSimpArgs false
set_option maxRecDepth 100000
namespace Go.Proofs.YtppmednmcbjafaaGreat
open Go.RowKit Go Go.Maps Go.Lib

theorem insL_lenQ (l : List LR.PL) (x : LR.PL) : (LR.insL l x).length = l.length + 1 := by
  unfold LR.insL
  rw [List.length_append, List.length_cons]
  have := congrArg List.length (List.takeWhile_append_dropWhile (p := fun m : LR.PL => !decide (x.1 < m.1)) (l := l))
  rw [List.length_append] at this
  omega
section
variable {w : World} {z : Nat} {col : Nat → Nat} {n : Nat} {A : AG} {b : Bd}
theorem rover_any (t : Int) (h : RA w z col n A b) :
    Calls Tryz.prog 66 #[.pointer (some ⟨b.l, 0, none⟩), .int .i64 t] w fun e w' => e = .returned (.int .i64 (A.over t)) ∧ w' = w := by
  obtain ⟨H, P, sm, hH, hP⟩ := h.ls
  have := sm.ov t
  rw [hP t] at this
  rw [this]
  exact LR.rlast_any b.l b.lB A.T t b.L b.O w h.lr
theorem rgrant_ra (t j : Int) (h : RA w z col n A b) (hT : 1 ≤ A.T) (hn : n < 201) :
    Calls Tryz.prog 67 #[.pointer (some ⟨b.l, 0, none⟩), .int .i64 t, .int .i64 j] w fun e w' => e = .returned (.tuple #[]) ∧ ∃ c2, RTo w w' z col (n + 1) { A with hold := fun u => if u = t then some (j, A.now + A.T) else A.hold u } c2 := by
  obtain ⟨H, P, sm, hH, hP⟩ := h.ls
  obtain ⟨z1, z2, z3, z4, z5⟩ := h.z1
  refine (LR.rgrant_any b.l b.lB A.T t j b.L b.O w h.lr (by omega)).mono ?_
  rintro e w' ⟨rfl, hr, f, tn⟩
  have hl := List.length_filter_le (fun m : LR.PL => decide (m.1 ≠ t)) b.L
  obtain ⟨c2, k, _⟩ := h.lease (now := A.now) (hold := fun u => if u = t then some (j, A.now + A.T) else A.hold u) (over := A.over) hr (f.mono (fun q _ e => Or.inl e)) tn ⟨_, P, sm.grant t j hT, fun u => (by
    by_cases hu : u = t
    · subst hu; rw [look_withKey_same]; simp
    · rw [look_withKey_other _ _ hu, hH u]; simp [hu]), hP⟩ (Nat.le_succ n) (by omega) ⟨by rw [insL_lenQ]; omega, by omega, by omega⟩
  exact ⟨rfl, c2, k⟩
theorem rend_ra (t : Int) (h : RA w z col n A b) (hn : n ≤ 201) :
    Calls Tryz.prog 69 #[.pointer (some ⟨b.l, 0, none⟩), .int .i64 t] w fun e w' => e = .returned (.tuple #[]) ∧ ∃ c2, RTo w w' z col n (A.en t) c2 := by
  obtain ⟨H, P, sm, hH, hP⟩ := h.ls
  obtain ⟨z1, z2, z3, z4, z5⟩ := h.z1
  refine (LR.rend_any b.l b.lB A.T t b.L b.O w h.lr).mono ?_
  rintro e w' ⟨rfl, hr, f, tn⟩
  have hl := List.length_filter_le (fun m : LR.PL => decide (m.1 ≠ t)) b.L
  obtain ⟨c2, k, _⟩ := h.lease (now := A.now) (hold := fun u => if u = t then none else A.hold u) (over := A.over) hr (f.mono (fun q _ e => Or.inl e)) tn ⟨_, P, sm.stop t, fun u => (by
    by_cases hu : u = t
    · subst hu; rw [look_without_same]; simp
    · rw [look_without_other _ hu, hH u]; simp [hu]), hP⟩ (Nat.le_refl n) (by omega) ⟨by omega, by omega, by omega⟩
  exact ⟨rfl, c2, k⟩
theorem rpin_ra (t : Int) (h : RA w z col n A b) (hn : n ≤ 201) (hp : A.K.pins.length < n) :
    Calls Tryz.prog 68 #[.pointer (some ⟨b.k, 0, none⟩), .int .i64 t] w fun e w' => e = .returned (.tuple #[]) ∧ ∃ c2, RTo w w' z col n { A with K := { A.K with pins := outL A.K.pins t ++ [t] } } c2 := by
  obtain ⟨z1, z2, z3⟩ := h.z2
  refine (KR.rkpin_any b.k b.g b.B A.N A.K t _ w h.kx (by omega)).mono ?_
  rintro e w' ⟨rfl, hx, f⟩
  have := outL_len A.K.pins t
  exact ⟨rfl, h.keeper hx f (Nat.le_refl n) (by omega) ⟨by show (outL A.K.pins t ++ [t]).length ≤ n; rw [List.length_append, List.length_singleton]; omega, z2, z3⟩⟩
theorem rforget_ra (t : Int) (h : RA w z col n A b) (hn : n ≤ 201) :
    Calls Tryz.prog 70 #[.pointer (some ⟨b.k, 0, none⟩), .int .i64 t] w fun e w' => e = .returned (.tuple #[]) ∧ ∃ c2, RTo w w' z col n (A.fo t) c2 := by
  obtain ⟨z1, z2, z3⟩ := h.z2
  refine (KR.rkforget_any b.k b.g b.B A.N A.K t _ w h.kx (by omega) (by omega)).mono ?_
  rintro e w' ⟨rfl, hx, f⟩
  have h1 := outL_len A.K.pins t
  have h2 := outL_len A.K.loss t
  exact ⟨rfl, h.keeper hx f (Nat.le_refl n) (by omega) ⟨by show (outL A.K.pins t).length ≤ n; omega, by show (outL A.K.loss t).length ≤ n; omega, z3⟩⟩
theorem rdrop_ra (t : Int) (h : RA w z col n A b) (hn : n ≤ 201) :
    Calls Tryz.prog 71 #[.pointer (some ⟨b.c, 0, none⟩), .int .i64 t] w fun e w' => e = .returned (.tuple #[]) ∧ ∃ c2, RTo w w' z col n (A.dr t) c2 := by
  refine (CR.rdrop_any b.c b.cB A.M t b.E b.aT b.cT b.aA b.cA b.VA w h.cr (by have := h.z1.1; omega)).mono ?_
  rintro e w' ⟨rfl, ⟨aT, cT, aA, cA, V, hR, hV⟩, f⟩
  have hl : (without b.E t).length ≤ b.E.length := List.length_filter_le _ _
  refine ⟨rfl, h.crumb hR (Nat.le_refl _) (fun u hu => Or.inl (hV u hu)) f (h.ce.sublist List.filter_sublist) (fun k => ?_) (Nat.le_refl n) (by omega) (by have := h.z1.1; omega)⟩
  by_cases hk : k = t
  · subst hk
    rw [look_without_same]
    simp
  · rw [look_without_other _ hk, h.cl k]
    simp [hk]
theorem RA.letgo {w' : World} {m : Nat} {D : List LR.PL} {da : Option Addr} {dc : Nat} {done : Int → Int} (h : RA w z col n A b) (hd : w'.ownsRow b.dB 84 3 (.slice da D.length dc) D.length (LR.plC D)) (hb : Blk w' z 48 [.int .i64 A.id, .pointer (some ⟨b.k, 0, none⟩), .pointer (some ⟨b.c, 0, none⟩), .pointer (some ⟨b.l, 0, none⟩), .slice (some ⟨b.bs, 0, none⟩) 4 b.bc, .slice da D.length dc])
    (f : Fr (fun q => q = z ∨ (Value.slice b.da b.D.length b.dc).ownBlock = some q) w w') (hmv : ∀ q, (Value.slice da D.length dc).ownBlock = some q → (Value.slice b.da b.D.length b.dc).ownBlock = some q ∨ w.heap.size ≤ q) (hdd : ∀ t, LR.lastL D t = done t) (hm : n ≤ m) (hn : m ≤ 201) (hz : D.length ≤ m) : ∃ c2, RTo w w' z col m { A with done := done } c2 := by
  have hu := h.up hm hn
  have e : ∀ q c, col q = c → c ≠ 9 → c ≠ 10 → ¬ (q = z ∨ (Value.slice b.da b.D.length b.dc).ownBlock = some q) := fun q c h1 h2 h3 h4 => by
    rcases h4 with rfl | h4
    · exact h3 (by rw [← h1]; exact h.c10)
    · exact h2 (by rw [← h1]; exact h.c9 q h4)
  have lo : ∀ q c, col q = c → c ≠ 0 → recol w.heap.size col (fun q => q < w'.heap.size) 9 q = c := fun q c h1 h2 => by
    rw [recol_lt (h.low q (by rw [h1]; exact h2)), h1]
  have hl : ∀ k, LR.touchL w b.l b.lB k → ¬ (k = z ∨ (Value.slice b.da b.D.length b.dc).ownBlock = some k) := fun k hk => e _ _ (h.c3 k hk) (by decide) (by decide)
  refine ⟨recol w.heap.size col (fun q => q < w'.heap.size) 9, ⟨{ b with D := D, da := da, dc := dc }, ?_⟩, f.mono (fun q _ hq => by
    rcases hq with rfl | hq
    · rw [h.c10]; decide
    · rw [h.c9 q hq]; decide), fun q hq => recol_lt hq⟩
  exact ⟨hb, rx_mono (h.kx.fr f (fun q hq => e _ _ hq (by decide) (by decide))) (fun q hq hx => lo q 1 hx (by decide)), CR.Rc.fr h.cr f (crB_off (fun q hq => e _ _ (h.c2 q hq) (by decide) (by decide))), h.ce, h.cl, h.lr.fr f hl, h.ls,
    fun i hi => f.blk (h.bk i hi) (e _ _ (h.c4 i hi) (by omega) (by omega)), fun i hi => f.cell (h.bp i hi) (e _ _ h.c8 (by decide) (by decide)), hu.kb, hd, hdd,
    fun q hq => lo _ _ (h.c2 q hq) (by decide), fun q hq => lo _ _ (h.c3 q (touch_l (rl_lt h.lr) f (hl _ (Or.inl rfl)) hq)) (by decide), fun i hi => lo _ _ (h.c4 i hi) (by omega), lo _ _ h.c8 (by decide), fun q hq => by
      rcases hmv q hq with h1 | h1
      · exact lo _ _ (h.c9 q h1) (by decide)
      · exact recol_in (hd.lt q hq).2 (fun h3 => by omega), lo _ _ h.c10 (by decide),
    fun q hq => by
      rcases recol_low hq with h1 | h1
      · exact Nat.lt_of_lt_of_le h1 f.size
      · exact h1, ⟨hu.z1.1, hu.z1.2.1, hu.z1.2.2.1, hz, hu.z1.2.2.2.2⟩, hu.z2, hn, Nat.le_trans h.bw f.size⟩
theorem last_snoc (D : List LR.PL) (t j u : Int) : LR.lastL (D ++ [(t, j, 0)]) u = if u = t then max (LR.lastL D t) j else LR.lastL D u := by
  rw [LR.lastL_append]
  show (if t = u ∧ LR.lastL D u < j then j else LR.lastL D u) = _
  by_cases hu : u = t
  · subst hu
    rw [if_pos rfl]
    by_cases hj : LR.lastL D u < j
    · rw [if_pos ⟨rfl, hj⟩]; omega
    · rw [if_neg (fun q => hj q.2)]; omega
  · rw [if_neg (fun q => hu q.1.symm), if_neg hu]
end
end Go.Proofs.YtppmednmcbjafaaGreat
end

section
set_option linter.unusedVariables false
set_option linter.unusedSimpArgs false
set_option maxRecDepth 100000
namespace Go.Proofs.YtppmednmcbjafaaGreat
open Go.RowKit Go Go.Maps Go.Lib

def QHear (e : Ending) (w w' : World) (z : Nat) (col : Nat → Nat) (n : Nat) (A' : AG) (up over : List Ms) : Prop := ∃ vu vo, e = .returned (.tuple #[vu, vo]) ∧ OutR w' vu up ∧ OutR w' vo over ∧ ∃ c2, RTo w w' z col n A' c2
section
variable {w : World} {z : Nat} {col : Nat → Nat} {n : Nat} {A : AG} {b : Bd}
theorem pn_no {A : AG} {t j : Int} (h : j ≤ A.done t ∨ j < A.job t) : A.pn t j = A ∧ A.pu t j = [] := by unfold AG.pn AG.pu; rw [if_pos h, if_pos h]; exact ⟨rfl, rfl⟩
theorem pn_gone {A : AG} {t j : Int} (h : ¬ (j ≤ A.done t ∨ j < A.job t)) (h2 : j ≤ A.over t) : A.pn t j = A ∧ A.pu t j = [.gone A.id t j] := by unfold AG.pn AG.pu; rw [if_neg h, if_neg h, if_pos h2, if_pos h2]; exact ⟨rfl, rfl⟩
theorem pn_yes {A : AG} {t j : Int} (h : ¬ (j ≤ A.done t ∨ j < A.job t)) (h2 : ¬ j ≤ A.over t) : A.pn t j = { A with hold := fun u => if u = t then some (j, A.now + A.T) else A.hold u, K := { A.K with pins := outL A.K.pins t ++ [t] } } ∧ A.pu t j = [.pinned ⟨A.id, t, j, (txt A.K.P t).length, A.X t, decide (t ∈ A.K.loss)⟩] := by unfold AG.pn AG.pu; rw [if_neg h, if_neg h, if_neg h2, if_neg h2]; exact ⟨rfl, rfl⟩
set_option maxHeartbeats 8000000 in
theorem rhear_pin (t j : Int) (hb : bPin t j = true) (h : RA w z col n A b) (hT : 1 ≤ A.T) (hXl : (A.X t).length ≤ 4) (hn : n < 201) :
    Calls Tryz.prog 24 #[.pointer (some ⟨z, 0, none⟩), mrV { k := 2, t := t, j := j }] w fun e w' => QHear e w w' z col (n + 1) (A.pn t j) (A.pu t j) [] := by
  have hr := fun w' (f : Fr noB w w') => rr_2 t j w'
  simp only [show (inB 1 65535 t && inB 1 1073741824 j) = true from hb] at hr
  have hfj := field_job
  have hof := fun w' (f : Fr noB w w') => rof_job t (h.frN f)
  have hdn := fun w' (f : Fr noB w w') => rdone_any t (h.frN f)
  have hov := fun w' (f : Fr noB w w') => rover_any t (h.frN f)
  have hzw : z < w.heap.size := h.blk.lt
  unfold mrV mrC
  unfold mrV mrC at hr
  simp only at hr ⊢
  have fX := (Fr.refl noB w).alloc (.cells #[.int .i64 2, .int .i64 0, .int .i64 t, .int .i64 j, .int .i64 0, .int .i64 0, .int .i64 0, .int .i64 0, .int .i64 0, .int .i64 0, .int .i64 0, .slice none 0 0, .bool false, .slice none 0 0, .slice none 0 0] 73)
  have bX := Blk.new w 73 [.int .i64 2, .int .i64 0, .int .i64 t, .int .i64 j, .int .i64 0, .int .i64 0, .int .i64 0, .int .i64 0, .int .i64 0, .int .i64 0, .int .i64 0, .slice none 0 0, .bool false, .slice none 0 0, .slice none 0 0]
  replace hr := Lib.hid hr
  replace hfj := Lib.hid hfj
  replace hof := Lib.hid hof
  replace hdn := Lib.hid hdn
  replace hov := Lib.hid hov
  have hh := Lib.hid h
  clear h
  go_enter Tryz.func24, Tryz.ntmps24
  go_upto_region 1 with fail
  generalize (w.alloc (.cells #[.int .i64 2, .int .i64 0, .int .i64 t, .int .i64 j, .int .i64 0, .int .i64 0, .int .i64 0, .int .i64 0, .int .i64 0, .int .i64 0, .int .i64 0, .slice none 0 0, .bool false, .slice none 0 0, .slice none 0 0] 73)) = w1 at *
  obtain ⟨gX, hgX⟩ : ∃ g, w.heap.size = g := ⟨_, rfl⟩
  rw [hgX] at bX
  try rw [hgX]
  replace hgX := Lib.hid hgX
  have y0 : w1.cell? ⟨gX, 0, none⟩ = some (.int .i64 2) := bX.cell 0
  have y1 : w1.cell? ⟨gX, 1, none⟩ = some (.int .i64 0) := bX.cell 1
  have y2 : w1.cell? ⟨gX, 2, none⟩ = some (.int .i64 t) := bX.cell 2
  have y3 : w1.cell? ⟨gX, 3, none⟩ = some (.int .i64 j) := bX.cell 3
  have y4 : w1.cell? ⟨gX, 4, none⟩ = some (.int .i64 0) := bX.cell 4
  have y5 : w1.cell? ⟨gX, 5, none⟩ = some (.int .i64 0) := bX.cell 5
  have y6 : w1.cell? ⟨gX, 6, none⟩ = some (.int .i64 0) := bX.cell 6
  have y7 : w1.cell? ⟨gX, 7, none⟩ = some (.int .i64 0) := bX.cell 7
  have y8 : w1.cell? ⟨gX, 8, none⟩ = some (.int .i64 0) := bX.cell 8
  have y9 : w1.cell? ⟨gX, 9, none⟩ = some (.int .i64 0) := bX.cell 9
  have y10 : w1.cell? ⟨gX, 10, none⟩ = some (.int .i64 0) := bX.cell 10
  have y11 : w1.cell? ⟨gX, 11, none⟩ = some (.slice none 0 0) := bX.cell 11
  have y12 : w1.cell? ⟨gX, 12, none⟩ = some (.bool false) := bX.cell 12
  have y13 : w1.cell? ⟨gX, 13, none⟩ = some (.slice none 0 0) := bX.cell 13
  have y14 : w1.cell? ⟨gX, 14, none⟩ = some (.slice none 0 0) := bX.cell 14
  go_wp2_with fail
  go_fit (hr.out w1 fX)
  rintro e w2 ⟨rfl, f2⟩
  have f12 := fX.seqN f2
  have b2 := f2.blk bX (fun q => q)
  clear y0 y1 y2 y3 y4 y5 y6 y7 y8 y9 y10 y11 y12 y13 y14 fX f2 hr bX
  have hS : ∀ w', Fr noB w2 w' → (w'.cell? ⟨gX, 2, none⟩ = some (.int .i64 t) ∧ w'.cell? ⟨gX, 3, none⟩ = some (.int .i64 j)) := fun w' f => ⟨f.cell (b2.cell 2) (fun q => q), f.cell (b2.cell 3) (fun q => q)⟩
  replace hS := Lib.hid hS
  replace b2 := Lib.hid b2
  have f13 := f12.seqN (Fr.refl noB w2).drew
  have b3 := (Fr.refl noB w2).drew.blk b2.out (fun q => q)
  have R3 := hh.out.frN f13
  have d3 : w2.drew.cell? ⟨z, 3, none⟩ = some (.pointer (some ⟨b.l, 0, none⟩)) := R3.blk.cell 3
  replace R3 := Lib.hid R3
  replace b3 := Lib.hid b3
  go_upto_region 3 with fail
  go_region_held3 (fun w' => w'.cell? ⟨gX, 2, none⟩ = some (.int .i64 t) ∧ w'.cell? ⟨gX, 3, none⟩ = some (.int .i64 j))
    (first | exact hS.out _ ((Fr.refl noB _).drewN 1) | fail) (fail)
  clear b2 hS f12
  generalize w2.drew = w3 at *
  go_wp2_with fail
  go_fit (hof.out w3 f13)
  rintro e w4 ⟨m0, m2, rfl, f4⟩
  have hf4 := hfj.out m0 (A.job t) m2 w4
  have f14 := f13.seqN f4
  have R4 := R3.out.frN f4
  have d0 : w4.cell? ⟨z, 0, none⟩ = some (.int .i64 A.id) := R4.blk.cell 0
  have b4 := f4.blk b3.out (fun q => q)
  have fG := (Fr.refl noB w4).alloc (.cells #[.int .i64 4, .int .i64 A.id, .int .i64 t, .int .i64 j, .int .i64 0, .int .i64 0, .int .i64 0, .int .i64 0, .int .i64 0, .int .i64 0, .int .i64 0, .slice none 0 0, .bool false, .slice none 0 0, .slice none 0 0] 73)
  have bG := Blk.new w4 73 [.int .i64 4, .int .i64 A.id, .int .i64 t, .int .i64 j, .int .i64 0, .int .i64 0, .int .i64 0, .int .i64 0, .int .i64 0, .int .i64 0, .int .i64 0, .slice none 0 0, .bool false, .slice none 0 0, .slice none 0 0]
  have f15 := f14.seqN fG
  have R5 := R4.frN fG
  have b5 := fG.blk b4 (fun q => q)
  obtain ⟨gG, hgG⟩ : ∃ g, w4.heap.size = g := ⟨_, rfl⟩
  rw [hgG] at bG
  replace R5 := Lib.hid R5
  replace b5 := Lib.hid b5
  replace bG := Lib.hid bG
  clear f13 R3 b3 d3 hof R4 b4 fG f14 f4
  go_upto_region 6 with fail
  try rw [hgG]
  replace hgG := Lib.hid hgG
  generalize (w4.alloc (.cells #[.int .i64 4, .int .i64 A.id, .int .i64 t, .int .i64 j, .int .i64 0, .int .i64 0, .int .i64 0, .int .i64 0, .int .i64 0, .int .i64 0, .int .i64 0, .slice none 0 0, .bool false, .slice none 0 0, .slice none 0 0] 73)) = w5 at *
  have z0 : w5.cell? ⟨gX, 0, none⟩ = some (.int .i64 2) := b5.out.cell 0
  clear d0 hf4 hfj b5
  have no5 : ∀ w', Fr noB w w' → ∃ c2, RTo w w' z col (n + 1) A c2 := fun w' f => ⟨col, RTo.same (hh.out.up (Nat.le_succ n) (by omega)) f⟩
  have hdn5 := hdn.out w5 f15
  have hov5 := hov.out w5 f15
  replace no5 := Lib.hid no5
  replace hdn5 := Lib.hid hdn5
  replace hov5 := Lib.hid hov5
  clear hdn hov
  by_cases hc : j ≤ A.done t ∨ j < A.job t
  · obtain ⟨e1, e2⟩ := pn_no hc
    have E1 := Lib.hid e1
    have E2 := Lib.hid e2
    clear e1 e2
    by_cases hc1 : j ≤ A.done t
    · have hd1 : decide (j ≤ A.done t) = true := by simpa using hc1
      go_wp2_with fail
      go_fit hdn5.out
      rintro e w6 ⟨rfl, hw6⟩
      obtain rfl := hw6.symm
      clear hw6
      go_wp2_with fail
      go_returns
      rw [E1.out, E2.out]
      exact ⟨_, _, rfl, OutR.nil _, OutR.nil _, no5.out _ f15⟩
    · have hd1 : decide (j ≤ A.done t) = false := by simpa using hc1
      have hd2 : decide (j < A.job t) = true := by simp; omega
      go_wp2_with fail
      go_fit hdn5.out
      rintro e w6 ⟨rfl, hw6⟩
      obtain rfl := hw6.symm
      clear hw6
      go_wp2_with fail
      go_returns
      rw [E1.out, E2.out]
      exact ⟨_, _, rfl, OutR.nil _, OutR.nil _, no5.out _ f15⟩
  have hd1 : decide (j ≤ A.done t) = false := by simp; omega
  have hd2 : decide (j < A.job t) = false := by simp; omega
  have d5 : w5.cell? ⟨z, 3, none⟩ = some (.pointer (some ⟨b.l, 0, none⟩)) := R5.out.blk.cell 3
  by_cases ho : j ≤ A.over t
  · obtain ⟨e1, e2⟩ := pn_gone hc ho
    have E1 := Lib.hid e1
    have E2 := Lib.hid e2
    have hd3 : decide (j ≤ A.over t) = true := by simpa using ho
    clear e1 e2 hc
    go_wp2_with fail
    go_fit hdn5.out
    rintro e w6 ⟨rfl, hw6⟩
    obtain rfl := hw6.symm
    clear hw6
    go_wp2_with fail
    go_fit hov5.out
    rintro e w6 ⟨rfl, hw6⟩
    obtain rfl := hw6.symm
    clear hw6
    go_wp2_with fail
    go_returns
    rw [E1.out, E2.out]
    exact ⟨_, _, rfl, OutR.one (M := { k := 4, a := A.id, t := t, j := j }) (m := .gone A.id t j) bG.out rfl, OutR.nil _, no5.out _ f15⟩
  obtain ⟨e1, e2⟩ := pn_yes hc ho
  have E1 := Lib.hid e1
  have E2 := Lib.hid e2
  have hd3 : decide (j ≤ A.over t) = false := by simpa using ho
  have hgr := rgrant_ra t j R5.out hT hn
  replace hgr := Lib.hid hgr
  clear e1 e2 hc ho no5
  go_wp2_with fail
  go_fit hdn5.out
  rintro e w6 ⟨rfl, hw6⟩
  obtain rfl := hw6.symm
  clear hw6
  go_wp2_with fail
  go_fit hov5.out
  rintro e w6 ⟨rfl, hw6⟩
  obtain rfl := hw6.symm
  clear hw6
  go_wp2_with fail
  go_fit hgr.out
  rintro e w6 ⟨rfl, c6, ⟨b6, R6⟩, F6, C6⟩
  have k1 : w6.cell? ⟨z, 1, none⟩ = some (.pointer (some ⟨b6.k, 0, none⟩)) := R6.blk.cell 1
  have hpn := rpin_ra t R6 (by omega) (by show A.K.pins.length < n + 1; have := hh.out.z2.1; omega)
  have T6 := Lib.hid (RTo.wrapN f15 ⟨⟨b6, R6⟩, F6, C6⟩ (Fr.refl noB w6))
  replace hpn := Lib.hid hpn
  clear R6 F6 C6 hdn5 hov5 hgr d5 bG R5
  go_wp2_with fail
  go_fit hpn.out
  rintro e w7 ⟨rfl, c7, ⟨b7, R7⟩, F7, C7⟩
  have T7 := Lib.hid (T6.out.trans ⟨⟨b7, R7⟩, F7, C7⟩)
  obtain ⟨vl, vg, q0, q3, q4, hvl, hvg⟩ := rk_cells R7
  have p0 : w7.cell? ⟨z, 0, none⟩ = some (.int .i64 A.id) := R7.blk.cell 0
  have p1 : w7.cell? ⟨z, 1, none⟩ = some (.pointer (some ⟨b7.k, 0, none⟩)) := R7.blk.cell 1
  have p2 : w7.cell? ⟨z, 2, none⟩ = some (.pointer (some ⟨b7.c, 0, none⟩)) := R7.blk.cell 2
  have hS7 : ∀ w', Fr noB w7 w' → (w'.cell? ⟨z, 0, none⟩ = some (.int .i64 A.id) ∧ w'.cell? ⟨z, 1, none⟩ = some (.pointer (some ⟨b7.k, 0, none⟩)) ∧ w'.cell? ⟨z, 2, none⟩ = some (.pointer (some ⟨b7.c, 0, none⟩)) ∧ w'.cell? ⟨b7.k, 0, none⟩ = some (.pointer (some ⟨b7.g, 0, none⟩)) ∧ w'.cell? ⟨b7.k, 3, none⟩ = some vl) := fun w' f => ⟨f.cell p0 (fun q => q), f.cell p1 (fun q => q), f.cell p2 (fun q => q), f.cell q0 (fun q => q), f.cell q3 (fun q => q)⟩
  have hpo := fun w' (f : Fr noB w7 w') => rpof_any t (R7.frN f)
  have hco := fun w' (f : Fr noB w7 w') => rcof_any t (R7.frN f)
  have hin := fun w' (f : Fr noB w7 w') => rin_loss (A := A) t (hvl.frN f)
  replace hS7 := Lib.hid hS7
  replace hpo := Lib.hid hpo
  replace hco := Lib.hid hco
  replace hin := Lib.hid hin
  clear R7 F7 C7 q0 q3 q4 hvl hvg p0 p1 p2 T6 hpn k1
  go_upto_region 14 with fail
  go_region_held3 (fun w' => w'.cell? ⟨z, 0, none⟩ = some (.int .i64 A.id) ∧ w'.cell? ⟨z, 1, none⟩ = some (.pointer (some ⟨b7.k, 0, none⟩)) ∧ w'.cell? ⟨z, 2, none⟩ = some (.pointer (some ⟨b7.c, 0, none⟩)) ∧ w'.cell? ⟨b7.k, 0, none⟩ = some (.pointer (some ⟨b7.g, 0, none⟩)) ∧ w'.cell? ⟨b7.k, 3, none⟩ = some vl)
    (first | exact hS7.out _ g8 | exact hS7.out _ (g8.seqN ((Fr.refl noB _).alloc _)) | exact hS7.out _ ((Fr.refl noB _).drewN 1) | fail)
    (first
      | (go_at_call 35; refine (hin.out _ (by first | exact g8 | exact (Fr.refl noB _).drewN 1)).mono ?_; rintro e w9 ⟨rfl, hw9⟩; obtain rfl := hw9.symm; clear hw9)
      | (go_at_call 31; refine (hco.out _ ((Fr.refl noB _).drewN 1)).mono ?_; rintro e w8 ⟨vc, rfl, hvc, f8⟩; have g8 := ((Fr.refl noB w7).drewN 1).seqN f8; have hvc' := hvc; obtain ⟨ca, cc, rfl, _⟩ := hvc')
      | (go_at_call 29; refine (hpo.out _ ((Fr.refl noB _).drewN 1)).mono ?_; rintro e wP ⟨vP, rfl, hvP, _, hwP⟩; obtain rfl := hwP.symm; clear hwP; obtain ⟨pa, pc, rfl, _⟩ := hvP)
      | fail)
  all_goals (
    have hvc2 : RdI w8 (.slice ca (A.X t).length cc) (A.X t) := RdI.frN hvc f8
    rw [show (spansOf t (txt A.K.P t)).length = (txt A.K.P t).length from spansOf_len _ _]
    have bN := Blk.new w8 73 [.int .i64 3, .int .i64 0, .int .i64 0, .int .i64 0, .int .i64 0, .int .i64 0, .int .i64 0, .int .i64 A.id, .int .i64 t, .int .i64 j, .int .i64 (txt A.K.P t).length, .slice ca (A.X t).length cc, .bool (decide (t ∈ A.K.loss)), .slice none 0 0, .slice none 0 0]
    have fN := (Fr.refl noB w8).alloc (.cells #[.int .i64 3, .int .i64 0, .int .i64 0, .int .i64 0, .int .i64 0, .int .i64 0, .int .i64 0, .int .i64 A.id, .int .i64 t, .int .i64 j, .int .i64 (txt A.K.P t).length, .slice ca (A.X t).length cc, .bool (decide (t ∈ A.K.loss)), .slice none 0 0, .slice none 0 0] 73)
    have T9 := Lib.hid (RTo.wrapN (Fr.refl noB w) T7.out (g8.seqN fN))
    have hvc3 := Lib.hid (hvc2.frN fN)
    replace bN := Lib.hid bN
    clear hvc hvc2 fN T7
    go_wp2_with fail
    go_returns
    rw [E1.out, E2.out]
    exact ⟨_, _, rfl, OutR.one (M := { k := 3, pa := A.id, pt := t, pj := j, pc := (txt A.K.P t).length, ua := ca, un := (A.X t).length, uc := cc, lo := decide (t ∈ A.K.loss) }) (m := .pinned ⟨A.id, t, j, (txt A.K.P t).length, A.X t, decide (t ∈ A.K.loss)⟩) bN.out ⟨ca, cc, rfl, hvc3.out⟩, OutR.nil _, _, T9.out⟩)
end
end Go.Proofs.YtppmednmcbjafaaGreat
end

section
set_option linter.unusedVariables false
set_option linter.unusedSimpArgs false
set_option maxRecDepth 100000
namespace Go.Proofs.YtppmednmcbjafaaGreat
open Go.RowKit Go Go.Maps Go.Lib

theorem Tryz.infoMsgK : (Tryz.prog.info? 73).map (fun i => (i.zero, i.size, i.bytes)) = some (some (.agg (mrC {}).toArray), 15, 168) := by kernel_rfl
theorem infoMK : ∃ i0, Tryz.prog.info? 73 = some i0 ∧ i0.zero = some (.agg (mrC {}).toArray) ∧ i0.size = 15 ∧ i0.bytes = 168 := by
  have hI := Tryz.infoMsgK
  cases hq : Tryz.prog.info? 73 with
  | none => rw [hq] at hI; cases hI
  | some k => rw [hq] at hI; simp at hI; exact ⟨k, rfl, hI⟩
theorem mrc_one (m : MR) : ∀ u ∈ mrC m, u.oneCell' = true := by
  intro v hv
  unfold mrC at hv
  simp only [List.mem_cons, List.not_mem_nil, or_false] at hv
  rcases hv with rfl | rfl | rfl | rfl | rfl | rfl | rfl | rfl | rfl | rfl | rfl | rfl | rfl | rfl | rfl <;> rfl
theorem RdSp.sub {w : World} {g o n c : Nat} {L : List Sp} (h : RdSp w (.slice (some ⟨g, o, none⟩) n c) L) (lo hi : Nat) (h1 : lo ≤ hi) (h2 : hi ≤ L.length) : RdSp w (.slice (some ⟨g, o + lo * 3, none⟩) (hi - lo) (c - lo)) ((L.drop lo).take (hi - lo)) := by
  obtain ⟨a, c', e, hl, hc, _, h3⟩ := h
  injection e with e1 e2 e3
  subst e1 e2 e3
  have hlen : ((L.drop lo).take (hi - lo)).length = hi - lo := by rw [List.length_take, List.length_drop]; omega
  refine ⟨_, c - lo, by rw [hlen], by rw [hlen]; omega, by omega, (fun q => by cases q), fun i s hs => ?_⟩
  have hi' : i < hi - lo := by rw [← hlen]; exact (List.getElem?_eq_some_iff.1 hs).1
  rw [List.getElem?_take_of_lt hi', List.getElem?_drop] at hs
  obtain ⟨g2, o2, e4, c0, c1, c2⟩ := h3 (lo + i) s hs
  injection e4 with e4
  injection e4 with e5 e6 _
  subst e5 e6
  exact ⟨g, o + lo * 3, rfl, by rw [show o + lo * 3 + i * 3 = o + (lo + i) * 3 by omega]; exact c0, by rw [show o + lo * 3 + i * 3 + 1 = o + (lo + i) * 3 + 1 by omega]; exact c1, by rw [show o + lo * 3 + i * 3 + 2 = o + (lo + i) * 3 + 2 by omega]; exact c2⟩
/-- the row of chunks, q of them made -/
structure CkJ (w0 wr : World) (C : List Ms) (q : Nat) (v : Value) (Ml : List MR) : Prop where
  len : Ml.length = q
  own : wr.ownsRow w0.heap.size 73 15 v q (Ml.flatMap mrC)
  rel : ∀ (i : Nat) (M : MR), Ml[i]? = some M → ∃ m : Ms, C[i]? = some m ∧ RfW w0 (mrV M) m
  fr : Fr noB w0 wr
theorem CkJ.nil {w0 wr : World} {C : List Ms} (f : Fr noB w0 wr) : CkJ w0 wr C 0 (.slice none 0 0) [] := ⟨rfl, World.ownsRow_nil _ _ _ _, fun i M h => by simp at h, f⟩
theorem CkJ.next {w0 wr W1 w9 : World} {C : List Ms} {q : Nat} {v v9 : Value} {Ml : List MR} {M : MR} {m : Ms} (h : CkJ w0 wr C q v Ml) (hm : C[q]? = some m) (hM : RfW w0 (mrV M) m) (f : Fr noB wr W1) (o9 : w9.ownsRow w0.heap.size 73 15 v9 (q + 1) (Ml.flatMap mrC ++ mrC M)) (f9 : Fr (rowB v) W1 w9) : CkJ w0 w9 C (q + 1) v9 (Ml ++ [M]) := by
  refine ⟨by rw [List.length_append, h.len]; rfl, ?_, fun i M2 hi => ?_, (h.fr.seqN f).trans f9 (fun _ _ q => q) (fun i hi q => by have h1 := (h.own.lt i q).1; omega)⟩
  · rw [List.flatMap_append]
    simpa using o9
  · by_cases hq : i < Ml.length
    · rw [List.getElem?_append_left hq] at hi
      exact h.rel i M2 hi
    · have h1 := (List.getElem?_eq_some_iff.1 hi).1
      rw [List.length_append, List.length_singleton] at h1
      have hl := h.len
      obtain rfl : i = q := by omega
      rw [List.getElem?_append_right (by omega), hl, Nat.sub_self] at hi
      simp at hi
      subst hi
      exact ⟨m, hm, hM⟩
theorem mrs_get : ∀ (G : List MR) (i : Nat) M, G[i]? = some M → ∀ q v, (mrC M)[q]? = some v → (G.flatMap mrC)[i * 15 + q]? = some v := by
  intro G
  induction G with
  | nil => intro i m h; simp at h
  | cons y r ih =>
    intro i m h q v hq
    have hq15 : q < 15 := (List.getElem?_eq_some_iff.1 hq).1
    have hl : (mrC y).length = 15 := rfl
    rw [List.flatMap_cons]
    cases i with
    | zero =>
      simp at h; subst h
      rw [List.getElem?_append_left (by rw [hl]; omega), Nat.zero_mul, Nat.zero_add]
      exact hq
    | succ i =>
      rw [List.getElem?_append_right (by rw [hl]; omega), hl, show (i + 1) * 15 + q - 15 = i * 15 + q by omega]
      exact ih i m (by simpa using h) q v hq
theorem CkJ.out {w0 wr : World} {C : List Ms} {q : Nat} {v : Value} {Ml : List MR} (h : CkJ w0 wr C q v Ml) (hq : C.length = q) : OutR wr v C := by
  obtain ⟨h1, h2⟩ := h.own
  rcases h2 with ⟨e, e0⟩ | ⟨g, cap, cur, e, _, hg, hc, _⟩
  · subst e e0
    obtain rfl : C = [] := List.eq_nil_of_length_eq_zero hq
    exact OutR.nil wr
  · refine ⟨some ⟨g, 0, none⟩, cap, by rw [hq]; exact e, by omega, fun i m hi => ?_⟩
    have hil : i < Ml.length := by rw [h.len, ← hq]; exact (List.getElem?_eq_some_iff.1 hi).1
    obtain ⟨m', hm', hM⟩ := h.rel i Ml[i] (List.getElem?_eq_getElem hil)
    rw [hi] at hm'
    injection hm' with hm'
    subst hm'
    refine ⟨g, 0, Ml[i], rfl, fun q u hu => ?_, hM.frN h.fr⟩
    have c1 := h.own.cells (g := g) (by rw [e]; rfl) _ _ (mrs_get Ml i _ (List.getElem?_eq_getElem hil) q u hu)
    rw [Addr.add_lit] at c1
    exact c1
theorem CkJ.frN {w0 w w' : World} {C : List Ms} {q : Nat} {v : Value} {Ml : List MR} (h : CkJ w0 w C q v Ml) (f : Fr noB w w') : CkJ w0 w' C q v Ml := ⟨h.len, ownsRow_fr h.own f (fun _ _ q => q), h.rel, h.fr.seqN f⟩
end Go.Proofs.YtppmednmcbjafaaGreat
end

section
set_option linter.unusedVariables false
set_option linter.unusedSimpArgs false
set_option maxRecDepth 100000
namespace Go.Proofs.YtppmednmcbjafaaGreat
open Go.RowKit Go Go.Maps Go.Lib

section
variable {w : World} {z : Nat} {col : Nat → Nat} {n : Nat} {A : AG} {b : Bd}
theorem un_yes {A : AG} {t j : Int} (h : A.job t = j) : A.un t j = (((A.dn t j).en t).fo t).dr t := by unfold AG.un; rw [if_pos h.symm]
theorem un_no {A : AG} {t j : Int} (h : A.job t ≠ j) : A.un t j = A.dn t j := by unfold AG.un; rw [if_neg (fun q => h q.symm)]
set_option maxHeartbeats 8000000 in
theorem rhear_unpin (t j : Int) (hb : bUnpin t j = true) (h : RA w z col n A b) (hn : n < 201) :
    Calls Tryz.prog 24 #[.pointer (some ⟨z, 0, none⟩), mrV { k := 9, t := t, j := j }] w fun e w' => QHear e w w' z col (n + 1) (A.un t j) [.unpinned A.id t j] [] := by
  have hr := fun w' (f : Fr noB w w') => rr_9 t j w'
  simp only [show (inB 1 65535 t && inB 1 1073741824 j) = true from hb] at hr
  have hfj := field_job
  have hof := fun w' (f : Fr noB w w') => rof_job t (h.frN f)
  have hdn := fun w' (f : Fr noB w w') => rdone_any t (h.frN f)
  have hov := fun w' (f : Fr noB w w') => rover_any t (h.frN f)
  have hzw : z < w.heap.size := h.blk.lt
  unfold mrV mrC
  unfold mrV mrC at hr
  simp only at hr ⊢
  have fX := (Fr.refl noB w).alloc (.cells #[.int .i64 9, .int .i64 0, .int .i64 t, .int .i64 j, .int .i64 0, .int .i64 0, .int .i64 0, .int .i64 0, .int .i64 0, .int .i64 0, .int .i64 0, .slice none 0 0, .bool false, .slice none 0 0, .slice none 0 0] 73)
  have bX := Blk.new w 73 [.int .i64 9, .int .i64 0, .int .i64 t, .int .i64 j, .int .i64 0, .int .i64 0, .int .i64 0, .int .i64 0, .int .i64 0, .int .i64 0, .int .i64 0, .slice none 0 0, .bool false, .slice none 0 0, .slice none 0 0]
  replace hr := Lib.hid hr
  replace hfj := Lib.hid hfj
  replace hof := Lib.hid hof
  replace hdn := Lib.hid hdn
  replace hov := Lib.hid hov
  have hh := Lib.hid h
  clear h
  go_enter Tryz.func24, Tryz.ntmps24
  go_upto_region 1 with fail
  generalize (w.alloc (.cells #[.int .i64 9, .int .i64 0, .int .i64 t, .int .i64 j, .int .i64 0, .int .i64 0, .int .i64 0, .int .i64 0, .int .i64 0, .int .i64 0, .int .i64 0, .slice none 0 0, .bool false, .slice none 0 0, .slice none 0 0] 73)) = w1 at *
  obtain ⟨gX, hgX⟩ : ∃ g, w.heap.size = g := ⟨_, rfl⟩
  rw [hgX] at bX
  try rw [hgX]
  replace hgX := Lib.hid hgX
  have y0 : w1.cell? ⟨gX, 0, none⟩ = some (.int .i64 9) := bX.cell 0
  have y1 : w1.cell? ⟨gX, 1, none⟩ = some (.int .i64 0) := bX.cell 1
  have y2 : w1.cell? ⟨gX, 2, none⟩ = some (.int .i64 t) := bX.cell 2
  have y3 : w1.cell? ⟨gX, 3, none⟩ = some (.int .i64 j) := bX.cell 3
  have y4 : w1.cell? ⟨gX, 4, none⟩ = some (.int .i64 0) := bX.cell 4
  have y5 : w1.cell? ⟨gX, 5, none⟩ = some (.int .i64 0) := bX.cell 5
  have y6 : w1.cell? ⟨gX, 6, none⟩ = some (.int .i64 0) := bX.cell 6
  have y7 : w1.cell? ⟨gX, 7, none⟩ = some (.int .i64 0) := bX.cell 7
  have y8 : w1.cell? ⟨gX, 8, none⟩ = some (.int .i64 0) := bX.cell 8
  have y9 : w1.cell? ⟨gX, 9, none⟩ = some (.int .i64 0) := bX.cell 9
  have y10 : w1.cell? ⟨gX, 10, none⟩ = some (.int .i64 0) := bX.cell 10
  have y11 : w1.cell? ⟨gX, 11, none⟩ = some (.slice none 0 0) := bX.cell 11
  have y12 : w1.cell? ⟨gX, 12, none⟩ = some (.bool false) := bX.cell 12
  have y13 : w1.cell? ⟨gX, 13, none⟩ = some (.slice none 0 0) := bX.cell 13
  have y14 : w1.cell? ⟨gX, 14, none⟩ = some (.slice none 0 0) := bX.cell 14
  go_wp2_with fail
  go_fit (hr.out w1 fX)
  rintro e w2 ⟨rfl, f2⟩
  have f12 := fX.seqN f2
  have b2 := f2.blk bX (fun q => q)
  clear y0 y1 y2 y3 y4 y5 y6 y7 y8 y9 y10 y11 y12 y13 y14 fX f2 hr bX
  have hS : ∀ w', Fr noB w2 w' → (w'.cell? ⟨gX, 2, none⟩ = some (.int .i64 t) ∧ w'.cell? ⟨gX, 3, none⟩ = some (.int .i64 j)) := fun w' f => ⟨f.cell (b2.cell 2) (fun q => q), f.cell (b2.cell 3) (fun q => q)⟩
  replace hS := Lib.hid hS
  replace b2 := Lib.hid b2
  have f13 := f12.seqN (Fr.refl noB w2).drew
  have b3 := (Fr.refl noB w2).drew.blk b2.out (fun q => q)
  have R3 := hh.out.frN f13
  have d3 : w2.drew.cell? ⟨z, 3, none⟩ = some (.pointer (some ⟨b.l, 0, none⟩)) := R3.blk.cell 3
  replace R3 := Lib.hid R3
  replace b3 := Lib.hid b3
  go_upto_region 3 with fail
  go_region_held3 (fun w' => w'.cell? ⟨gX, 2, none⟩ = some (.int .i64 t) ∧ w'.cell? ⟨gX, 3, none⟩ = some (.int .i64 j))
    (first | exact hS.out _ ((Fr.refl noB _).drewN 1) | fail) (fail)
  clear b2 hS f12
  generalize w2.drew = w3 at *
  go_wp2_with fail
  go_fit (hof.out w3 f13)
  rintro e w4 ⟨m0, m2, rfl, f4⟩
  have hf4 := hfj.out m0 (A.job t) m2 w4
  have f14 := f13.seqN f4
  have R4 := R3.out.frN f4
  have d0 : w4.cell? ⟨z, 0, none⟩ = some (.int .i64 A.id) := R4.blk.cell 0
  have b4 := f4.blk b3.out (fun q => q)
  have fG := (Fr.refl noB w4).alloc (.cells #[.int .i64 4, .int .i64 A.id, .int .i64 t, .int .i64 j, .int .i64 0, .int .i64 0, .int .i64 0, .int .i64 0, .int .i64 0, .int .i64 0, .int .i64 0, .slice none 0 0, .bool false, .slice none 0 0, .slice none 0 0] 73)
  have bG := Blk.new w4 73 [.int .i64 4, .int .i64 A.id, .int .i64 t, .int .i64 j, .int .i64 0, .int .i64 0, .int .i64 0, .int .i64 0, .int .i64 0, .int .i64 0, .int .i64 0, .slice none 0 0, .bool false, .slice none 0 0, .slice none 0 0]
  have f15 := f14.seqN fG
  have R5 := R4.frN fG
  have b5 := fG.blk b4 (fun q => q)
  obtain ⟨gG, hgG⟩ : ∃ g, w4.heap.size = g := ⟨_, rfl⟩
  rw [hgG] at bG
  replace R5 := Lib.hid R5
  replace b5 := Lib.hid b5
  replace bG := Lib.hid bG
  clear f13 R3 b3 d3 hof R4 b4 fG f14 f4
  go_upto_region 6 with fail
  try rw [hgG]
  replace hgG := Lib.hid hgG
  generalize (w4.alloc (.cells #[.int .i64 4, .int .i64 A.id, .int .i64 t, .int .i64 j, .int .i64 0, .int .i64 0, .int .i64 0, .int .i64 0, .int .i64 0, .int .i64 0, .int .i64 0, .slice none 0 0, .bool false, .slice none 0 0, .slice none 0 0] 73)) = w5 at *
  have z0 : w5.cell? ⟨gX, 0, none⟩ = some (.int .i64 9) := b5.out.cell 0
  clear d0 hf4 hfj b5
  clear hdn hov bG
  have d5 : w5.cell? ⟨z, 5, none⟩ = some (.slice b.da b.D.length b.dc) := R5.out.blk.cell 5
  have hzl : z < w5.heap.size := R5.out.blk.lt
  have hdB : b.dB ≤ w5.heap.size := R5.out.bw
  have hDl : b.D.length ≤ n := R5.out.z1.2.2.2.1
  have fA := (Fr.refl noB w5).alloc (.cells #[.int .i64 t, .int .i64 j, .int .i64 0] 84)
  have hA := ownsRow_fr R5.out.dr fA (fun _ _ q => q)
  have hN := LR.cell_new3 w5 (.int .i64 t) (.int .i64 j) (.int .i64 0) 84
  have hone := LR.one_pl (t, j, 0)
  obtain ⟨i0, hi0, hz0, hz1, hz2⟩ := LR.infoPL
  obtain ⟨BD, hBD⟩ : ∃ BD, b.dB = BD := ⟨_, rfl⟩
  obtain ⟨ND, hND⟩ : ∃ ND, b.D.length = ND := ⟨_, rfl⟩
  rw [hBD] at hA hdB
  rw [hND] at hA d5 hDl
  have hda : b.D.length = ND → True := fun _ => trivial
  replace hBD := Lib.hid hBD
  replace hND := Lib.hid hND
  clear hda
  go_wp2_with (first
    | (at_builtin; go_must (refine wpList_append_at _ rfl (.tmp 168) (.tmp 172) 46 rfl BD 84 i0 _ 3 24 Tryz.underlying46 hi0 hz0 hz1 hz2 rfl (by omega) _ ND _ rfl hA ⟨w5.heap.size, 0, none⟩ 1 1 [.int .i64 t, .int .i64 j, .int .i64 0] rfl rfl hN hone ?_ ?_ ?_ ?_))
    | fail)
  · unfold maxLen; omega
  · omega
  · have := fA.size; omega
  intro v6 w6 o6 gr6 mv6
  obtain ⟨a6, c6, rfl⟩ := ownsRow_slice o6
  have hrow : ∀ q, (Value.slice b.da ND b.dc).ownBlock = some q → q < w5.heap.size ∧ q ≠ z := fun q hq => by
    rw [← hND.out] at hq
    exact ⟨(R5.out.dr.lt q hq).2, fun e => by have h1 := R5.out.c9 q hq; rw [e, R5.out.c10] at h1; exact absurd h1 (by decide)⟩
  have f6 : Fr (fun q => (Value.slice b.da ND b.dc).ownBlock = some q) w5 w6 := ((Fr.refl _ w5).alloc (.cells #[.int .i64 t, .int .i64 j, .int .i64 0] 84)).grown gr6 (fun k hk _ => hk)
  have b6 := f6.blk R5.out.blk (fun q => (hrow z q).2 rfl)
  have z6 := b6.frozen 5
  have d6 : w6.cell? ⟨z, 5, none⟩ = some (.slice b.da ND b.dc) := by rw [← hND.out]; exact b6.cell 5
  have b7 := b6.set 5 (.slice a6 (ND + 1) c6)
  have f7 : Fr (onlyB z) w6 (w6.setCell ⟨z, 5, none⟩ (.slice a6 (ND + 1) c6)) := (Fr.refl _ _).store rfl
  have o7 := ownsRow_fr o6 f7 (fun q hq e => by
    unfold onlyB at e
    subst e
    rcases mv6 with e | e
    · rw [e] at hq; exact (hrow q hq).2 rfl
    · rw [e] at hq
      injection hq with hq
      have := fA.size
      omega)
  have hmv : ∀ q, (Value.slice a6 (ND + 1) c6).ownBlock = some q → (Value.slice b.da ND b.dc).ownBlock = some q ∨ w5.heap.size ≤ q := fun q hq => by
    rcases mv6 with e | e
    · rw [e] at hq; exact Or.inl hq
    · rw [e] at hq
      injection hq with hq
      have := fA.size
      exact Or.inr (by omega)
  have hD7 : ∃ c2, RTo w5 (w6.setCell ⟨z, 5, none⟩ (.slice a6 (ND + 1) c6)) z col (n + 1) (A.dn t j) c2 := by
    have hl : (b.D ++ [(t, j, 0)]).length = ND + 1 := by rw [List.length_append, hND.out]; rfl
    refine R5.out.letgo (D := b.D ++ [(t, j, 0)]) (da := a6) (dc := c6) ?_ ?_ ?_ ?_ (fun u => ?_) (Nat.le_succ n) (by omega) (by omega)
    · rw [hl, LR.plC_append, hBD.out]
      exact o7
    · rw [hl]; exact b7
    · exact f6.trans f7 (fun q _ e => Or.inr (by rw [hND.out]; exact e)) (fun q _ e => Or.inl e)
    · rw [hl, hND.out]; exact hmv
    · rw [last_snoc, R5.out.dd t, R5.out.dd u]
  have T7 : ∃ c2, RTo w (w6.setCell ⟨z, 5, none⟩ (.slice a6 (ND + 1) c6)) z col (n + 1) (A.dn t j) c2 := by
    obtain ⟨c2, k2⟩ := hD7
    exact ⟨c2, RTo.wrapN f15 k2 (Fr.refl _ _)⟩
  replace T7 := Lib.hid T7
  clear hA hN hone o6 gr6 mv6 hrow f6 b6 b7 f7 o7 hmv hD7 fA d5 hdB hDl R5
  go_upto_region 30 with fail
  generalize (w6.setCell ⟨z, 5, none⟩ (.slice a6 (ND + 1) c6)) = w7 at *
  clear d6 z6
  by_cases hj : A.job t = j
  · have hd : (A.job t == j) = true := by simp [hj]
    replace hj := Lib.hid hj
    obtain ⟨c7, ⟨b7, R7⟩, F7, C7⟩ := T7.out
    have p3 : w7.cell? ⟨z, 3, none⟩ = some (.pointer (some ⟨b7.l, 0, none⟩)) := R7.blk.cell 3
    have hen := rend_ra t R7 (by omega)
    have T7' : Hid (RTo w w7 z col (n + 1) (A.dn t j) c7) := Lib.hid ⟨⟨b7, R7⟩, F7, C7⟩
    replace hen := Lib.hid hen
    clear R7 F7 C7 T7
    go_wp2_with fail
    go_fit hen.out
    rintro e w8 ⟨rfl, c8, k8⟩
    have T8 := T7'.out.trans k8
    obtain ⟨⟨b8, R8⟩, F8, C8⟩ := k8
    have p1 : w8.cell? ⟨z, 1, none⟩ = some (.pointer (some ⟨b8.k, 0, none⟩)) := R8.blk.cell 1
    have hfo := rforget_ra t R8 (by omega)
    replace T8 := Lib.hid T8
    replace hfo := Lib.hid hfo
    clear R8 F8 C8 T7' hen p3
    go_wp2_with fail
    go_fit hfo.out
    rintro e w9 ⟨rfl, c9, k9⟩
    have T9 := T8.out.trans k9
    obtain ⟨⟨b9, R9⟩, F9, C9⟩ := k9
    have p2 : w9.cell? ⟨z, 2, none⟩ = some (.pointer (some ⟨b9.c, 0, none⟩)) := R9.blk.cell 2
    have hdr := rdrop_ra t R9 (by omega)
    replace T9 := Lib.hid T9
    replace hdr := Lib.hid hdr
    clear R9 F9 C9 T8 hfo p1
    go_wp2_with fail
    go_fit hdr.out
    rintro e w10 ⟨rfl, c10, k10⟩
    have T10 : ∃ c2, RTo w w10 z col (n + 1) ((((A.dn t j).en t).fo t).dr t) c2 := ⟨c10, T9.out.trans k10⟩
    obtain ⟨⟨b10, R10⟩, F10, C10⟩ := k10
    have p0 : w10.cell? ⟨z, 0, none⟩ = some (.int .i64 A.id) := R10.blk.cell 0
    replace T10 := Lib.hid T10
    clear R10 F10 C10 T9 hdr p2
    have bN := Blk.new w10 73 [.int .i64 10, .int .i64 A.id, .int .i64 t, .int .i64 j, .int .i64 0, .int .i64 0, .int .i64 0, .int .i64 0, .int .i64 0, .int .i64 0, .int .i64 0, .slice none 0 0, .bool false, .slice none 0 0, .slice none 0 0]
    have fN := (Fr.refl noB w10).alloc (.cells #[.int .i64 10, .int .i64 A.id, .int .i64 t, .int .i64 j, .int .i64 0, .int .i64 0, .int .i64 0, .int .i64 0, .int .i64 0, .int .i64 0, .int .i64 0, .slice none 0 0, .bool false, .slice none 0 0, .slice none 0 0] 73)
    have TN : ∃ c2, RTo w (w10.alloc (.cells #[.int .i64 10, .int .i64 A.id, .int .i64 t, .int .i64 j, .int .i64 0, .int .i64 0, .int .i64 0, .int .i64 0, .int .i64 0, .int .i64 0, .int .i64 0, .slice none 0 0, .bool false, .slice none 0 0, .slice none 0 0] 73)) z col (n + 1) (A.un t j) c2 := by
      rw [un_yes hj.out]
      obtain ⟨c2, k2⟩ := T10.out
      exact ⟨c2, RTo.wrapN (Fr.refl noB w) k2 fN⟩
    replace bN := Lib.hid bN
    replace TN := Lib.hid TN
    clear fN T10
    go_wp2_with fail
    go_returns
    exact ⟨_, _, rfl, OutR.one (M := { k := 10, a := A.id, t := t, j := j }) (m := .unpinned A.id t j) bN.out rfl, OutR.nil _, TN.out⟩
  · have hd : (A.job t == j) = false := by simp [hj]
    replace hj := Lib.hid hj
    have p0 : w7.cell? ⟨z, 0, none⟩ = some (.int .i64 A.id) := by
      obtain ⟨c7, ⟨b7, R7⟩, F7, C7⟩ := T7.out
      exact R7.blk.cell 0
    have bN := Blk.new w7 73 [.int .i64 10, .int .i64 A.id, .int .i64 t, .int .i64 j, .int .i64 0, .int .i64 0, .int .i64 0, .int .i64 0, .int .i64 0, .int .i64 0, .int .i64 0, .slice none 0 0, .bool false, .slice none 0 0, .slice none 0 0]
    have fN := (Fr.refl noB w7).alloc (.cells #[.int .i64 10, .int .i64 A.id, .int .i64 t, .int .i64 j, .int .i64 0, .int .i64 0, .int .i64 0, .int .i64 0, .int .i64 0, .int .i64 0, .int .i64 0, .slice none 0 0, .bool false, .slice none 0 0, .slice none 0 0] 73)
    have TN : ∃ c2, RTo w (w7.alloc (.cells #[.int .i64 10, .int .i64 A.id, .int .i64 t, .int .i64 j, .int .i64 0, .int .i64 0, .int .i64 0, .int .i64 0, .int .i64 0, .int .i64 0, .int .i64 0, .slice none 0 0, .bool false, .slice none 0 0, .slice none 0 0] 73)) z col (n + 1) (A.un t j) c2 := by
      rw [un_no hj.out]
      obtain ⟨c2, k2⟩ := T7.out
      exact ⟨c2, RTo.wrapN (Fr.refl noB w) k2 fN⟩
    replace bN := Lib.hid bN
    replace TN := Lib.hid TN
    clear fN T7
    go_wp2_with fail
    go_returns
    exact ⟨_, _, rfl, OutR.one (M := { k := 10, a := A.id, t := t, j := j }) (m := .unpinned A.id t j) bN.out rfl, OutR.nil _, TN.out⟩
end
end Go.Proofs.YtppmednmcbjafaaGreat
end

section
set_option linter.unusedVariables false
set_option linter.unusedSimpArgs false
set_option maxRecDepth 100000
namespace Go.Proofs.YtppmednmcbjafaaGreat
open Go.RowKit Go Go.Maps Go.Lib

section
variable {w : World} {z : Nat} {col : Nat → Nat} {n : Nat} {A : AG} {b : Bd}
/-- the leases' tick -/
theorem ended_ticked {H : List (Int × (Int × Int))} {P : List (Int × Int)} {E : List Int} (hH : ∀ t, look H t = A.hold t) (hP : ∀ t, (look P t).getD 0 = A.over t) (hE : A.Ended E) : ∃ P2, Ticked H P (A.now + 1) E P2 ∧ ∀ t, (look P2 t).getD 0 = (A.tick E).over t := by
  refine ⟨E.map (fun k => (k, max (A.job k) (A.over k))) ++ P, ⟨hE.es, hE.en, fun k => ?_, fun k => ?_⟩, fun t => ?_⟩
  · rw [hE.e k, hH k]
  · have key : (look (E.map (fun k => (k, max (A.job k) (A.over k))) ++ P) k).getD 0 = if k ∈ E then max (A.job k) (A.over k) else A.over k := by
      clear hE
      induction E with
      | nil => simp [hP k]
      | cons a r ih =>
        rw [List.map_cons, List.cons_append, CR.look_cons]
        by_cases hk : a = k
        · subst hk; simp
        · rw [if_neg hk, ih]
          simp [show k ≠ a from fun e => hk e.symm]
    rw [key, hP k]
    unfold jobOf
    rw [hH k]
    rfl
  · have key : (look (E.map (fun k => (k, max (A.job k) (A.over k))) ++ P) t).getD 0 = if t ∈ E then max (A.job t) (A.over t) else A.over t := by
      clear hE
      induction E with
      | nil => simp [hP t]
      | cons a r ih =>
        rw [List.map_cons, List.cons_append, CR.look_cons]
        by_cases hk : a = t
        · subst hk; simp
        · rw [if_neg hk, ih]
          simp [show t ≠ a from fun e => hk e.symm]
    exact key
theorem look_goneOf {H : List (Int × (Int × Int))} (hn : (H.map (·.1)).Nodup) (nw t : Int) : look (goneOf H nw) t = match look H t with | some x => if nw < x.2 then some x else none | none => none := by
  have hng : ((goneOf H nw).map (·.1)).Nodup := hn.sublist (List.Sublist.map _ List.filter_sublist)
  cases hq : look H t with
  | none =>
    cases hg : look (goneOf H nw) t with
    | none => rfl
    | some x =>
      have := look_mem hn (List.mem_filter.1 (look_some hg)).1
      rw [hq] at this
      cases this
  | some x =>
    have hm := look_some hq
    show look (goneOf H nw) t = if nw < x.2 then some x else none
    by_cases hx : nw < x.2
    · rw [if_pos hx]
      exact look_mem hng (List.mem_filter.2 ⟨hm, by simpa using hx⟩)
    · rw [if_neg hx]
      cases hg : look (goneOf H nw) t with
      | none => rfl
      | some y =>
        have h1 := List.mem_filter.1 (look_some hg)
        have h2 := look_mem hn h1.1
        rw [hq] at h2
        injection h2 with h2
        subst h2
        exact absurd (by simpa using h1.2) hx
theorem rltick_any (E : List Int) (h : RA w z col n A b) (hE : A.Ended E) (hT : A.T ≤ 1000) (hn : n < 201) :
    Calls Tryz.prog 59 #[.pointer (some ⟨b.l, 0, none⟩)] w fun e w' => ∃ v, e = .returned v ∧ w'.ownsRow w.heap.size 3 1 v E.length (E.map (Value.int .i64)) ∧ ∃ c2, RTo w w' z col (n + 1) { A with now := (A.tick E).now, hold := (A.tick E).hold, over := (A.tick E).over } c2 ∧ ∀ q, w.heap.size ≤ q → q < w'.heap.size → c2 q = 3 := by
  obtain ⟨H, P, sm, hH, hP⟩ := h.ls
  obtain ⟨P2, ht, hP2⟩ := ended_ticked hH hP hE
  obtain ⟨eE, sm2⟩ := sm.tick ht
  obtain ⟨z1, z2, z3, z4, z5⟩ := h.z1
  have hzn := h.zn
  refine (LR.rtick1 b.l b.lB A.T b.L b.O w h.lr (fun m hm => ⟨(sm.lb m hm).1, by have := (sm.lb m hm).2; omega⟩) (by have : n * 201 ≤ 201 * 201 := Nat.mul_le_mul_right _ hzn; omega)).mono ?_
  rintro e w' ⟨v, rfl, ho, hr, f, tn⟩
  rw [← eE] at ho
  have hol := LR.outL_len b.L
  refine ⟨v, rfl, ho, h.lease hr f tn ⟨_, P2, sm2, fun t => ?_, hP2⟩ (Nat.le_succ n) (by omega) ⟨?_, ?_, ?_⟩⟩
  · rw [look_goneOf sm.nodup, hH t]
    rfl
  · have h1 := List.length_filter_le (fun m : LR.PL => decide (m.1 ∉ (LR.outL b.L).map (·.1))) (b.L.map LR.decP)
    rw [List.length_map] at h1
    omega
  · rw [List.length_append]; omega
  · show A.now + 1 ≤ _; omega
/-- amid the tick's second loop -/
def AG.tk (A : AG) (E : List Int) (j : Nat) : AG := { A.bt 4 with now := A.now + 1, hold := (A.tick E).hold, over := (A.tick E).over, K := { A.K with pins := (E.take j).foldl outL A.K.pins } }
theorem tk_end (A : AG) (E : List Int) : A.tk E E.length = A.tick E := by
  unfold AG.tk
  rw [List.take_length]
  rfl
theorem tk_succ (A : AG) (E : List Int) (j : Nat) (x : Int) (h : E[j]? = some x) : ({ A.tk E j with K := { (A.tk E j).K with pins := outL (A.tk E j).K.pins x } } : AG) = A.tk E (j + 1) := by
  unfold AG.tk
  rw [foldl_take E A.K.pins j x h]
theorem tk_pins (A : AG) (E : List Int) (j : Nat) : (A.tk E j).K.pins.length ≤ A.K.pins.length := foldl_len _ _
set_option maxHeartbeats 4000000 in
theorem ratick_any (E : List Int) (h : RA w z col n A b) (hE : A.Ended E) (hT : A.T ≤ 1000) (hn : n < 201) :
    Calls Tryz.prog 21 #[.pointer (some ⟨z, 0, none⟩)] w fun e w' => ∃ v, e = .returned v ∧ RdI w' v E ∧ ∃ c2, RTo w w' z col (n + 1) (A.tick E) c2 := by
  have h0 : RA w z col n (A.bt 0) b := by rw [bt_zero]; exact h
  have hkb := h.kb
  have hz2 := h.z2
  replace h0 := Lib.hid h0
  replace h := Lib.hid h
  replace hE := Lib.hid hE
  replace hz2 := Lib.hid hz2
  go_enter Tryz.func21, Tryz.ntmps21
  go_wp2_with fail
  go_loopw [3] (fun i wr => ∃ k : Nat, k ≤ 4 ∧ i = .int .i64 k ∧ Hid (RA wr z col n (A.bt k) b) ∧ Hid (Fr (fun q => col q ≠ 0) w wr)) (fun i _ => 4 - (RowKit.intOf i).toNat)
  case atStart => exact ⟨0, by omega, rfl, h0, Lib.hid (Fr.refl _ _)⟩
  case round =>
    clear h0
    obtain ⟨k, hk, rfl, hR, fr⟩ := hrel
    by_cases hlt : k < 4
    · have d4 : wr.cell? ⟨z, 4, none⟩ = some (.slice (some ⟨b.bs, 0, none⟩) 4 b.bc) := hR.out.blk.cell 4
      have p0 := hR.out.bp k hlt
      have hbk := hR.out.bk k hlt
      unfold rbk at hbk
      obtain ⟨kb1, kb2, kb3⟩ := hR.out.kb
      have htk := rtick_any (b.b k) (A.bt k).bB (A.bt k).bR ((A.bt k).bc k) ((A.bt k).bd k) wr hbk (kb3 k hlt).1 kb2 kb1
      have hk4 : (k : Int) < 4 := by omega
      replace htk := Lib.hid htk
      replace kb3 := Lib.hid kb3
      clear hbk
      go_wp2_with fail
      go_fit htk.out
      rintro e w1 ⟨rfl, hb1, f1⟩
      have kb3 := kb3.out k hlt
      have R1 := hR.out.bucketB hlt hb1 f1 (Nat.le_refl n) (by omega) (by omega) kb3.2
      rw [bt_succ] at R1
      have fr1 := fr.out.trans f1 (fun _ _ q => q) (fun q _ e => by unfold onlyB at e; subst e; rw [hR.out.c4 k hlt]; omega)
      replace R1 := Lib.hid R1
      replace fr1 := Lib.hid fr1
      clear hb1 f1 d4 p0 kb1 kb2 kb3 htk
      go_wp2_with fail
      go_roundw
      case rel => exact ⟨k + 1, by omega, by go_num, R1, fr1⟩
      case measure => simp [RowKit.intOf]; omega
    · obtain rfl : k = 4 := by omega
      have d3 : wr.cell? ⟨z, 3, none⟩ = some (.pointer (some ⟨b.l, 0, none⟩)) := hR.out.blk.cell 3
      have hlt := rltick_any E hR.out ⟨hE.out.es, hE.out.en, hE.out.e⟩ hT hn
      replace hlt := Lib.hid hlt
      go_wp2_with fail
      go_fit hlt.out
      rintro e w1 ⟨v, rfl, ho, c2, hto, hc2⟩
      obtain ⟨va, vc, rfl⟩ := ownsRow_slice ho
      have hv0 : ∀ g, (Value.slice va E.length vc).ownBlock = some g → c2 g = 3 ∧ g < w1.heap.size := fun g hg => ⟨hc2 g (ho.lt g hg).1 (ho.lt g hg).2, (ho.lt g hg).2⟩
      have hrd := RdI.of_own ho
      have hto0 : ∃ c3, RTo w w1 z col (n + 1) (A.tk E 0) c3 ∧ ∀ g, (Value.slice va E.length vc).ownBlock = some g → c3 g = 3 ∧ g < w1.heap.size := ⟨c2, (RTo.trans ⟨⟨b, hR.out⟩, fr.out, fun _ _ => rfl⟩ hto : RTo w w1 z col (n + 1) _ c2), hv0⟩
      obtain ⟨nE, hnE⟩ : ∃ nE, E.length = nE := ⟨_, rfl⟩
      have hb1 := hrd
      rw [hnE] at hb1 hto0 ⊢
      have hn8 : nE ≤ 9223372036854775807 := by
        obtain ⟨_, _, _, _, h2, _⟩ := hrd
        omega
      replace hto0 := Lib.hid hto0
      replace hb1 := Lib.hid hb1
      replace hnE := Lib.hid hnE
      clear hR fr d3 hlt ho hto hc2 hv0 hrd
      go_wp2_with fail
      go_loopg [5] nE (fun gk i wr2 => ∃ j : Nat, j + gk = nE ∧ i = .int .i64 j ∧ Hid (∃ c3, RTo w wr2 z col (n + 1) (A.tk E j) c3 ∧ ∀ g, (Value.slice va nE vc).ownBlock = some g → c3 g = 3 ∧ g < wr2.heap.size) ∧ Hid (RdI wr2 (.slice va nE vc) E))
      case atStart => exact ⟨0, Nat.zero_add _, rfl, hto0, hb1⟩
      case round =>
        clear hto0 hb1
        obtain ⟨j, hj, rfl, hT3, hv⟩ := hrel
        obtain ⟨wr2, rfl⟩ : ∃ wr2 : World, wr2 = wr := ⟨_, rfl⟩
        obtain ⟨gk2, rfl⟩ : ∃ gk2 : Nat, gk2 = gk := ⟨_, rfl⟩
        by_cases hlt2 : j < nE
        · obtain ⟨c3, ⟨⟨b3, R3⟩, F3, C3⟩, hvc⟩ := hT3.out
          obtain ⟨a', c', e', l1, l2, hget⟩ := hv.out
          obtain ⟨g, o, ha, hcell⟩ := hget j (by rw [hnE.out]; exact hlt2)
          injection e' with e1 e2 e3
          clear e2 e3
          subst e1
          subst ha
          have hxj : E[j]? = some (E.getD j 0) := by
            have : j < E.length := by rw [hnE.out]; exact hlt2
            simp [List.getD, this]
          obtain ⟨x, hx⟩ : ∃ x, E.getD j 0 = x := ⟨_, rfl⟩
          rw [hx] at hcell hxj
          have d1 : wr2.cell? ⟨z, 1, none⟩ = some (.pointer (some ⟨b3.k, 0, none⟩)) := R3.blk.cell 1
          have hp := tk_pins A E j
          obtain ⟨q1, q2, q3⟩ := hz2.out
          have hun := fun w' (f : Fr noB wr2 w') => KR.rkunpin_any b3.k b3.g b3.B (A.tk E j).N (A.tk E j).K x (fun q => c3 q = 1) w' (R3.frN f).kx (by omega)
          have hS : ∀ w', Fr noB wr2 w' → (w'.cell? ⟨z, 1, none⟩ = some (.pointer (some ⟨b3.k, 0, none⟩)) ∧ w'.cell? ⟨g, o + j, none⟩ = some (.int .i64 x)) := fun w' f => ⟨f.cell d1 (fun q => q), f.cell hcell (fun q => q)⟩
          have hj2 : (j : Int) < nE := by omega
          have hm2 : nE - (j + 1) < gk2 := by omega
          have hk22 : j + 1 + (nE - (j + 1)) = nE := by omega
          replace hm2 := Lib.hid hm2
          replace hk22 := Lib.hid hk22
          have R3' := Lib.hid R3
          have F3' := Lib.hid F3
          have C3' := Lib.hid C3
          replace hun := Lib.hid hun
          replace hS := Lib.hid hS
          replace hxj := Lib.hid hxj
          replace hvc := Lib.hid hvc
          clear R3 F3 C3 hT3 hget l1 l2 hx q1 q2 q3 hp d1 hcell
          go_upto_region 9 with fail
          go_region_held3 (fun w' => w'.cell? ⟨z, 1, none⟩ = some (.pointer (some ⟨b3.k, 0, none⟩)) ∧ w'.cell? ⟨g, o + j, none⟩ = some (.int .i64 x))
            (first | exact hS.out _ ((Fr.refl noB _).drewN 1) | exact hS.out _ (Fr.refl _ _) | exact hS5.out | fail)
            (first | (go_at_call 60; refine (hun.out _ ((Fr.refl noB _).drewN 1)).mono ?_; rintro e w5 ⟨rfl, hx5, f5⟩; have fd : Fr noB wr2 (wr2.drewN 1) := (Fr.refl noB _).drewN 1; obtain ⟨c4, k4⟩ := (R3'.out.frN fd).keeper hx5 f5 (Nat.le_refl _) (by omega) ⟨by have := outL_len (A.tk E j).K.pins x; have := R3'.out.z2.1; show (outL (A.tk E j).K.pins x).length ≤ _; omega, R3'.out.z2.2.1, R3'.out.z2.2.2⟩; have hS5 : Hid (w5.cell? ⟨z, 1, none⟩ = some (.pointer (some ⟨b3.k, 0, none⟩)) ∧ w5.cell? ⟨g, o + j, none⟩ = some (.int .i64 x)) := Lib.hid (by have h1 := hS.out _ fd; have hg3 := hvc.out g rfl; exact ⟨f5.cell h1.1 (fun q => by have h2 := R3'.out.c10; rw [h2] at q; exact absurd q (by decide)), f5.cell h1.2 (fun q => by rw [hg3.1] at q; exact absurd q (by decide))⟩)) | fail)
          all_goals (
            have hT4 : Hid (∃ c4, RTo w w5 z col (n + 1) (A.tk E (j + 1)) c4 ∧ ∀ g', (Value.slice (some ⟨g, o, none⟩) nE vc).ownBlock = some g' → c4 g' = 3 ∧ g' < w5.heap.size) := Lib.hid (by
              rw [tk_succ A E j x hxj.out] at k4
              have hT3 : RTo w (wr2.drewN 1) z col (n + 1) (A.tk E j) c3 := ⟨⟨b3, R3'.out.frN fd⟩, F3'.out.seqN fd, C3'.out⟩
              refine ⟨c4, hT3.trans k4, fun g' hg => ?_⟩
              obtain ⟨q1, q2⟩ := hvc.out g' hg
              exact ⟨by rw [k4.2.2 g' (Nat.lt_of_lt_of_le q2 fd.size)]; exact q1, Nat.lt_of_lt_of_le q2 (Nat.le_trans fd.size f5.size)⟩)
            have hv4 : Hid (RdI w5 (.slice (some ⟨g, o, none⟩) nE vc) E) := Lib.hid ((hv.out.frN fd).fr f5 (fun g' o' n' c' e q => by
              injection e with e1 e2 e3
              injection e1 with e1
              injection e1 with e1 e2
              subst e1
              rw [(hvc.out g rfl).1] at q
              exact absurd q (by decide)))
            clear hx5 f5 k4 fd hS5
            go_wp2_with fail
            go_roundg (nE - (j + 1))
            case rel => exact ⟨j + 1, hk22.out, by go_num, hT4, hv4⟩
            case measure => exact hm2.out)
        · obtain rfl : j = nE := by omega
          have hT5 : ∃ c3, RTo w wr2 z col (n + 1) (A.tick E) c3 := by
            obtain ⟨c3, h3, _⟩ := hT3.out
            rw [← hnE.out, tk_end] at h3
            exact ⟨c3, h3⟩
          replace hT5 := Lib.hid hT5
          clear hT3
          go_wp2_with fail
          go_ret
          exact ⟨_, rfl, hv.out, hT5.out⟩
end
end Go.Proofs.YtppmednmcbjafaaGreat
end

section
set_option linter.unusedVariables false
set_option linter.unusedSimpArgs false
set_option maxRecDepth 100000
namespace Go.Proofs.YtppmednmcbjafaaGreat
open Go.RowKit Go Go.Maps Go.Lib

theorem cr_all (M : Int) (w : World) (h : 1 ≤ M ∧ M ≤ 4) : Calls Tryz.prog 40 #[.int .i64 M] w fun e w' => ∃ a, e = .returned (.pointer (some a)) ∧ Fr noB w w' :=
  (cnew_any M w h.1 h.2).mono fun e w' ⟨h1, _, f⟩ => ⟨_, h1, f⟩
theorem kn_all (N sd : Int) (w : World) (hsd : U64 sd) : Calls Tryz.prog 41 #[.int .i64 N, .int .u64 sd] w fun e w' => ∃ o x, e = .returned (.tuple #[.pointer o, .int .i64 x]) ∧ (x == 0) = decide (1 ≤ N ∧ N ≤ 16) ∧ Fr noB w w' := by
  by_cases h : 1 ≤ N ∧ N ≤ 16
  · obtain ⟨n, rfl⟩ : ∃ n : Nat, N = (n : Int) := ⟨N.toNat, by omega⟩
    refine (knew_any n sd w (by omega) (by omega) hsd).mono ?_
    rintro e w' ⟨k, g, bp, bl, B, rfl, kp, f2, _⟩
    exact ⟨_, _, rfl, by simp; omega, f2⟩
  · refine (knew_no N sd w (by omega)).mono ?_
    rintro e w' ⟨rfl, hw⟩
    obtain rfl := hw.symm
    exact ⟨_, _, rfl, by simp; omega, Fr.refl _ _⟩
theorem ln_all (T : Int) (w : World) : Calls Tryz.prog 42 #[.int .i64 T] w fun e w' => ∃ o x, e = .returned (.tuple #[.pointer o, .int .i64 x]) ∧ (x == 0) = decide (1 ≤ T ∧ T ≤ 1000) ∧ Fr noB w w' := by
  by_cases h : 1 ≤ T ∧ T ≤ 1000
  · refine (lnew_any T w h.1 h.2).mono ?_
    rintro e w' ⟨rfl, ls, f⟩
    exact ⟨_, _, rfl, by simp; omega, f⟩
  · refine (lnew_no T w (by omega)).mono ?_
    rintro e w' ⟨rfl, hw⟩
    obtain rfl := hw.symm
    exact ⟨_, _, rfl, by simp; omega, Fr.refl _ _⟩
set_option maxHeartbeats 2000000 in
theorem an_m (id M N T J sd bB bR : Int) (w : World) (hsd : U64 sd) (h : M < 1 ∨ 4 < M) : Calls Tryz.prog 10 #[.int .i64 id, .agg #[.int .i64 M, .int .i64 N, .int .i64 T, .int .i64 J, .int .u64 sd, .int .i64 bB, .int .i64 bR]] w fun e w' => e = .returned (.tuple #[.pointer none, .int .i64 1]) ∧ Fr noB w w' := by
  have fX := (Fr.refl noB w).alloc (.cells #[.int .i64 M, .int .i64 N, .int .i64 T, .int .i64 J, .int .u64 sd, .int .i64 bB, .int .i64 bR] 24)
  have bX := Blk.new w 24 [.int .i64 M, .int .i64 N, .int .i64 T, .int .i64 J, .int .u64 sd, .int .i64 bB, .int .i64 bR]
  have hcr := fun w' => cnew_no M w' h
  have hkn := fun w' => kn_all N sd w' hsd
  have hln := fun w' => ln_all T w'
  have x0 : (w.alloc (.cells #[.int .i64 M, .int .i64 N, .int .i64 T, .int .i64 J, .int .u64 sd, .int .i64 bB, .int .i64 bR] 24)).cell? ⟨w.heap.size, 0, none⟩ = some (.int .i64 M) := bX.cell 0

  replace hcr := Lib.hid hcr
  replace hkn := Lib.hid hkn
  replace hln := Lib.hid hln
  go_enter Tryz.func10, Tryz.ntmps10
  go_wp2_with fail
  generalize (w.alloc (.cells #[.int .i64 M, .int .i64 N, .int .i64 T, .int .i64 J, .int .u64 sd, .int .i64 bB, .int .i64 bR] 24)) = wX at *
  obtain ⟨gX, hgX⟩ : ∃ g, w.heap.size = g := ⟨_, rfl⟩
  rw [hgX] at bX x0 ⊢
  replace hgX := Lib.hid hgX
  go_fit (hcr.out wX)
  rintro e w1 ⟨rfl, hw1⟩
  have f1 : Fr noB wX w1 := by rw [hw1]; exact Fr.refl _ _
  clear hw1
  have b1c := f1.blk bX (fun q => q)
  have x1 : w1.cell? ⟨gX, 1, none⟩ = some (.int .i64 N) := b1c.cell 1
  have x4 : w1.cell? ⟨gX, 4, none⟩ = some (.int .u64 sd) := b1c.cell 4
  clear x0
  go_wp2_with fail
  go_fit (hkn.out w1)
  rintro e w2 ⟨ko, kx, rfl, hkx, f2⟩
  have b2c := f2.blk b1c (fun q => q)
  have y2 : w2.cell? ⟨gX, 2, none⟩ = some (.int .i64 T) := b2c.cell 2
  clear x1 x4
  clear hkx
  go_wp2_with fail
  go_fit (hln.out w2)
  rintro e w3 ⟨lo, lx, rfl, hlx, f3⟩
  have b3c := f3.blk b2c (fun q => q)
  have y0 : w3.cell? ⟨gX, 0, none⟩ = some (.int .i64 M) := b3c.cell 0
  clear y2
  clear hlx
  go_wp2_with fail
  go_ret2
  exact ⟨rfl, ((fX.seqN f1).seqN f2).seqN f3⟩
set_option maxHeartbeats 2000000 in
theorem an_lo (id M N T J sd bB bR : Int) (w : World) (hsd : U64 sd) (hm : 1 ≤ M ∧ M ≤ 4) (h : id < 0) : Calls Tryz.prog 10 #[.int .i64 id, .agg #[.int .i64 M, .int .i64 N, .int .i64 T, .int .i64 J, .int .u64 sd, .int .i64 bB, .int .i64 bR]] w fun e w' => e = .returned (.tuple #[.pointer none, .int .i64 1]) ∧ Fr noB w w' := by
  have fX := (Fr.refl noB w).alloc (.cells #[.int .i64 M, .int .i64 N, .int .i64 T, .int .i64 J, .int .u64 sd, .int .i64 bB, .int .i64 bR] 24)
  have bX := Blk.new w 24 [.int .i64 M, .int .i64 N, .int .i64 T, .int .i64 J, .int .u64 sd, .int .i64 bB, .int .i64 bR]
  have hcr := fun w' => cr_all M w' hm
  have hkn := fun w' => kn_all N sd w' hsd
  have hln := fun w' => ln_all T w'
  have x0 : (w.alloc (.cells #[.int .i64 M, .int .i64 N, .int .i64 T, .int .i64 J, .int .u64 sd, .int .i64 bB, .int .i64 bR] 24)).cell? ⟨w.heap.size, 0, none⟩ = some (.int .i64 M) := bX.cell 0
  have g1 : decide (id < 0) = true := by simp; omega
  replace hcr := Lib.hid hcr
  replace hkn := Lib.hid hkn
  replace hln := Lib.hid hln
  go_enter Tryz.func10, Tryz.ntmps10
  go_wp2_with fail
  generalize (w.alloc (.cells #[.int .i64 M, .int .i64 N, .int .i64 T, .int .i64 J, .int .u64 sd, .int .i64 bB, .int .i64 bR] 24)) = wX at *
  obtain ⟨gX, hgX⟩ : ∃ g, w.heap.size = g := ⟨_, rfl⟩
  rw [hgX] at bX x0 ⊢
  replace hgX := Lib.hid hgX
  go_fit (hcr.out wX)
  rintro e w1 ⟨ca, rfl, f1⟩
  have b1c := f1.blk bX (fun q => q)
  have x1 : w1.cell? ⟨gX, 1, none⟩ = some (.int .i64 N) := b1c.cell 1
  have x4 : w1.cell? ⟨gX, 4, none⟩ = some (.int .u64 sd) := b1c.cell 4
  clear x0
  go_wp2_with fail
  go_fit (hkn.out w1)
  rintro e w2 ⟨ko, kx, rfl, hkx, f2⟩
  have b2c := f2.blk b1c (fun q => q)
  have y2 : w2.cell? ⟨gX, 2, none⟩ = some (.int .i64 T) := b2c.cell 2
  clear x1 x4
  clear hkx
  go_wp2_with fail
  go_fit (hln.out w2)
  rintro e w3 ⟨lo, lx, rfl, hlx, f3⟩
  have b3c := f3.blk b2c (fun q => q)
  have y0 : w3.cell? ⟨gX, 0, none⟩ = some (.int .i64 M) := b3c.cell 0
  clear y2
  clear hlx
  go_wp2_with fail
  go_ret2
  exact ⟨rfl, ((fX.seqN f1).seqN f2).seqN f3⟩
set_option maxHeartbeats 2000000 in
theorem an_hi (id M N T J sd bB bR : Int) (w : World) (hsd : U64 sd) (hm : 1 ≤ M ∧ M ≤ 4) (h0 : 0 ≤ id) (h : M ≤ id) : Calls Tryz.prog 10 #[.int .i64 id, .agg #[.int .i64 M, .int .i64 N, .int .i64 T, .int .i64 J, .int .u64 sd, .int .i64 bB, .int .i64 bR]] w fun e w' => e = .returned (.tuple #[.pointer none, .int .i64 1]) ∧ Fr noB w w' := by
  have fX := (Fr.refl noB w).alloc (.cells #[.int .i64 M, .int .i64 N, .int .i64 T, .int .i64 J, .int .u64 sd, .int .i64 bB, .int .i64 bR] 24)
  have bX := Blk.new w 24 [.int .i64 M, .int .i64 N, .int .i64 T, .int .i64 J, .int .u64 sd, .int .i64 bB, .int .i64 bR]
  have hcr := fun w' => cr_all M w' hm
  have hkn := fun w' => kn_all N sd w' hsd
  have hln := fun w' => ln_all T w'
  have x0 : (w.alloc (.cells #[.int .i64 M, .int .i64 N, .int .i64 T, .int .i64 J, .int .u64 sd, .int .i64 bB, .int .i64 bR] 24)).cell? ⟨w.heap.size, 0, none⟩ = some (.int .i64 M) := bX.cell 0
  have g1 : decide (id < 0) = false := by simp; omega
  have g2 : decide (M ≤ id) = true := by simp; omega
  replace hcr := Lib.hid hcr
  replace hkn := Lib.hid hkn
  replace hln := Lib.hid hln
  go_enter Tryz.func10, Tryz.ntmps10
  go_wp2_with fail
  generalize (w.alloc (.cells #[.int .i64 M, .int .i64 N, .int .i64 T, .int .i64 J, .int .u64 sd, .int .i64 bB, .int .i64 bR] 24)) = wX at *
  obtain ⟨gX, hgX⟩ : ∃ g, w.heap.size = g := ⟨_, rfl⟩
  rw [hgX] at bX x0 ⊢
  replace hgX := Lib.hid hgX
  go_fit (hcr.out wX)
  rintro e w1 ⟨ca, rfl, f1⟩
  have b1c := f1.blk bX (fun q => q)
  have x1 : w1.cell? ⟨gX, 1, none⟩ = some (.int .i64 N) := b1c.cell 1
  have x4 : w1.cell? ⟨gX, 4, none⟩ = some (.int .u64 sd) := b1c.cell 4
  clear x0
  go_wp2_with fail
  go_fit (hkn.out w1)
  rintro e w2 ⟨ko, kx, rfl, hkx, f2⟩
  have b2c := f2.blk b1c (fun q => q)
  have y2 : w2.cell? ⟨gX, 2, none⟩ = some (.int .i64 T) := b2c.cell 2
  clear x1 x4
  clear hkx
  go_wp2_with fail
  go_fit (hln.out w2)
  rintro e w3 ⟨lo, lx, rfl, hlx, f3⟩
  have b3c := f3.blk b2c (fun q => q)
  have y0 : w3.cell? ⟨gX, 0, none⟩ = some (.int .i64 M) := b3c.cell 0
  clear y2
  clear hlx
  go_wp2_with fail
  go_ret2
  exact ⟨rfl, ((fX.seqN f1).seqN f2).seqN f3⟩
set_option maxHeartbeats 2000000 in
theorem an_n (id M N T J sd bB bR : Int) (w : World) (hsd : U64 sd) (hm : 1 ≤ M ∧ M ≤ 4) (h0 : 0 ≤ id) (h1 : id < M) (h : N < 1 ∨ 16 < N) : Calls Tryz.prog 10 #[.int .i64 id, .agg #[.int .i64 M, .int .i64 N, .int .i64 T, .int .i64 J, .int .u64 sd, .int .i64 bB, .int .i64 bR]] w fun e w' => e = .returned (.tuple #[.pointer none, .int .i64 1]) ∧ Fr noB w w' := by
  have fX := (Fr.refl noB w).alloc (.cells #[.int .i64 M, .int .i64 N, .int .i64 T, .int .i64 J, .int .u64 sd, .int .i64 bB, .int .i64 bR] 24)
  have bX := Blk.new w 24 [.int .i64 M, .int .i64 N, .int .i64 T, .int .i64 J, .int .u64 sd, .int .i64 bB, .int .i64 bR]
  have hcr := fun w' => cr_all M w' hm
  have hkn := fun w' => kn_all N sd w' hsd
  have hln := fun w' => ln_all T w'
  have x0 : (w.alloc (.cells #[.int .i64 M, .int .i64 N, .int .i64 T, .int .i64 J, .int .u64 sd, .int .i64 bB, .int .i64 bR] 24)).cell? ⟨w.heap.size, 0, none⟩ = some (.int .i64 M) := bX.cell 0
  have g1 : decide (id < 0) = false := by simp; omega
  have g2 : decide (M ≤ id) = false := by simp; omega
  replace hcr := Lib.hid hcr
  replace hkn := Lib.hid hkn
  replace hln := Lib.hid hln
  go_enter Tryz.func10, Tryz.ntmps10
  go_wp2_with fail
  generalize (w.alloc (.cells #[.int .i64 M, .int .i64 N, .int .i64 T, .int .i64 J, .int .u64 sd, .int .i64 bB, .int .i64 bR] 24)) = wX at *
  obtain ⟨gX, hgX⟩ : ∃ g, w.heap.size = g := ⟨_, rfl⟩
  rw [hgX] at bX x0 ⊢
  replace hgX := Lib.hid hgX
  go_fit (hcr.out wX)
  rintro e w1 ⟨ca, rfl, f1⟩
  have b1c := f1.blk bX (fun q => q)
  have x1 : w1.cell? ⟨gX, 1, none⟩ = some (.int .i64 N) := b1c.cell 1
  have x4 : w1.cell? ⟨gX, 4, none⟩ = some (.int .u64 sd) := b1c.cell 4
  clear x0
  go_wp2_with fail
  go_fit (hkn.out w1)
  rintro e w2 ⟨ko, kx, rfl, hkx, f2⟩
  have b2c := f2.blk b1c (fun q => q)
  have y2 : w2.cell? ⟨gX, 2, none⟩ = some (.int .i64 T) := b2c.cell 2
  clear x1 x4
  have hk1 : (kx == 0) = false := by rw [hkx]; simp; omega
  have hk2 : (kx != 0) = true := by rw [bne, hk1]; rfl
  clear hkx
  go_wp2_with fail
  go_fit (hln.out w2)
  rintro e w3 ⟨lo, lx, rfl, hlx, f3⟩
  have b3c := f3.blk b2c (fun q => q)
  have y0 : w3.cell? ⟨gX, 0, none⟩ = some (.int .i64 M) := b3c.cell 0
  clear y2
  clear hlx
  go_wp2_with fail
  go_ret2
  exact ⟨rfl, ((fX.seqN f1).seqN f2).seqN f3⟩
set_option maxHeartbeats 2000000 in
theorem an_t (id M N T J sd bB bR : Int) (w : World) (hsd : U64 sd) (hm : 1 ≤ M ∧ M ≤ 4) (h0 : 0 ≤ id) (h1 : id < M) (hN : 1 ≤ N ∧ N ≤ 16) (h : T < 1 ∨ 1000 < T) : Calls Tryz.prog 10 #[.int .i64 id, .agg #[.int .i64 M, .int .i64 N, .int .i64 T, .int .i64 J, .int .u64 sd, .int .i64 bB, .int .i64 bR]] w fun e w' => e = .returned (.tuple #[.pointer none, .int .i64 1]) ∧ Fr noB w w' := by
  have fX := (Fr.refl noB w).alloc (.cells #[.int .i64 M, .int .i64 N, .int .i64 T, .int .i64 J, .int .u64 sd, .int .i64 bB, .int .i64 bR] 24)
  have bX := Blk.new w 24 [.int .i64 M, .int .i64 N, .int .i64 T, .int .i64 J, .int .u64 sd, .int .i64 bB, .int .i64 bR]
  have hcr := fun w' => cr_all M w' hm
  have hkn := fun w' => kn_all N sd w' hsd
  have hln := fun w' => ln_all T w'
  have x0 : (w.alloc (.cells #[.int .i64 M, .int .i64 N, .int .i64 T, .int .i64 J, .int .u64 sd, .int .i64 bB, .int .i64 bR] 24)).cell? ⟨w.heap.size, 0, none⟩ = some (.int .i64 M) := bX.cell 0
  have g1 : decide (id < 0) = false := by simp; omega
  have g2 : decide (M ≤ id) = false := by simp; omega
  replace hcr := Lib.hid hcr
  replace hkn := Lib.hid hkn
  replace hln := Lib.hid hln
  go_enter Tryz.func10, Tryz.ntmps10
  go_wp2_with fail
  generalize (w.alloc (.cells #[.int .i64 M, .int .i64 N, .int .i64 T, .int .i64 J, .int .u64 sd, .int .i64 bB, .int .i64 bR] 24)) = wX at *
  obtain ⟨gX, hgX⟩ : ∃ g, w.heap.size = g := ⟨_, rfl⟩
  rw [hgX] at bX x0 ⊢
  replace hgX := Lib.hid hgX
  go_fit (hcr.out wX)
  rintro e w1 ⟨ca, rfl, f1⟩
  have b1c := f1.blk bX (fun q => q)
  have x1 : w1.cell? ⟨gX, 1, none⟩ = some (.int .i64 N) := b1c.cell 1
  have x4 : w1.cell? ⟨gX, 4, none⟩ = some (.int .u64 sd) := b1c.cell 4
  clear x0
  go_wp2_with fail
  go_fit (hkn.out w1)
  rintro e w2 ⟨ko, kx, rfl, hkx, f2⟩
  have b2c := f2.blk b1c (fun q => q)
  have y2 : w2.cell? ⟨gX, 2, none⟩ = some (.int .i64 T) := b2c.cell 2
  clear x1 x4
  have hk1 : (kx == 0) = true := by rw [hkx]; simp; omega
  obtain rfl : kx = 0 := by simpa using hk1
  clear hkx hk1
  go_wp2_with fail
  go_fit (hln.out w2)
  rintro e w3 ⟨lo, lx, rfl, hlx, f3⟩
  have b3c := f3.blk b2c (fun q => q)
  have y0 : w3.cell? ⟨gX, 0, none⟩ = some (.int .i64 M) := b3c.cell 0
  clear y2
  have hl1 : (lx == 0) = false := by rw [hlx]; simp; omega
  have hl2 : (lx != 0) = true := by rw [bne, hl1]; rfl
  clear hlx
  go_wp2_with fail
  go_ret2
  exact ⟨rfl, ((fX.seqN f1).seqN f2).seqN f3⟩
set_option maxHeartbeats 2000000 in
theorem an_b (id M N T J sd bB bR : Int) (w : World) (hsd : U64 sd) (hm : 1 ≤ M ∧ M ≤ 4) (h0 : 0 ≤ id) (h1 : id < M) (hN : 1 ≤ N ∧ N ≤ 16) (hT : 1 ≤ T ∧ T ≤ 1000) (h : bB < 0 ∨ 1000 < bB ∨ bR < 0 ∨ 1000 < bR) : Calls Tryz.prog 10 #[.int .i64 id, .agg #[.int .i64 M, .int .i64 N, .int .i64 T, .int .i64 J, .int .u64 sd, .int .i64 bB, .int .i64 bR]] w fun e w' => e = .returned (.tuple #[.pointer none, .int .i64 1]) ∧ Fr noB w w' := by
  have fX := (Fr.refl noB w).alloc (.cells #[.int .i64 M, .int .i64 N, .int .i64 T, .int .i64 J, .int .u64 sd, .int .i64 bB, .int .i64 bR] 24)
  have bX := Blk.new w 24 [.int .i64 M, .int .i64 N, .int .i64 T, .int .i64 J, .int .u64 sd, .int .i64 bB, .int .i64 bR]
  have hcr := fun w' => cr_all M w' hm
  have hkn := fun w' => kn_all N sd w' hsd
  have hln := fun w' => ln_all T w'
  have x0 : (w.alloc (.cells #[.int .i64 M, .int .i64 N, .int .i64 T, .int .i64 J, .int .u64 sd, .int .i64 bB, .int .i64 bR] 24)).cell? ⟨w.heap.size, 0, none⟩ = some (.int .i64 M) := bX.cell 0
  have g1 : decide (id < 0) = false := by simp; omega
  have g2 : decide (M ≤ id) = false := by simp; omega
  have hmm := @run_makeMap Tryz.prog
  have hbn := fun w' => new_no bB bR w' h
  replace hbn := Lib.hid hbn
  replace hcr := Lib.hid hcr
  replace hkn := Lib.hid hkn
  replace hln := Lib.hid hln
  go_enter Tryz.func10, Tryz.ntmps10
  go_wp2_with fail
  generalize (w.alloc (.cells #[.int .i64 M, .int .i64 N, .int .i64 T, .int .i64 J, .int .u64 sd, .int .i64 bB, .int .i64 bR] 24)) = wX at *
  obtain ⟨gX, hgX⟩ : ∃ g, w.heap.size = g := ⟨_, rfl⟩
  rw [hgX] at bX x0 ⊢
  replace hgX := Lib.hid hgX
  go_fit (hcr.out wX)
  rintro e w1 ⟨ca, rfl, f1⟩
  have b1c := f1.blk bX (fun q => q)
  have x1 : w1.cell? ⟨gX, 1, none⟩ = some (.int .i64 N) := b1c.cell 1
  have x4 : w1.cell? ⟨gX, 4, none⟩ = some (.int .u64 sd) := b1c.cell 4
  clear x0
  go_wp2_with fail
  go_fit (hkn.out w1)
  rintro e w2 ⟨ko, kx, rfl, hkx, f2⟩
  have b2c := f2.blk b1c (fun q => q)
  have y2 : w2.cell? ⟨gX, 2, none⟩ = some (.int .i64 T) := b2c.cell 2
  clear x1 x4
  have hk1 : (kx == 0) = true := by rw [hkx]; simp; omega
  obtain rfl : kx = 0 := by simpa using hk1
  clear hkx hk1
  go_wp2_with fail
  go_fit (hln.out w2)
  rintro e w3 ⟨lo, lx, rfl, hlx, f3⟩
  have b3c := f3.blk b2c (fun q => q)
  have y0 : w3.cell? ⟨gX, 0, none⟩ = some (.int .i64 M) := b3c.cell 0
  clear y2
  have hl1 : (lx == 0) = true := by rw [hlx]; simp; omega
  obtain rfl : lx = 0 := by simpa using hl1
  clear hlx hl1
  have fr5 := ((Fr.refl noB w3).alloc (.map #[] 0)).seqN ((Fr.refl noB (w3.alloc (.map #[] 0))).alloc (.cells #[.int .i64 id, .pointer ko, .pointer (some ca), .pointer lo, .pointer none, .pointer none, .pointer none, .pointer none, .map (some w3.heap.size)] 112))
  have b5c := fr5.blk b3c (fun q => q)
  go_wp2_with fail
  generalize ((w3.alloc (.map #[] 0)).alloc (.cells #[.int .i64 id, .pointer ko, .pointer (some ca), .pointer lo, .pointer none, .pointer none, .pointer none, .pointer none, .map (some w3.heap.size)] 112)) = w5 at *
  go_loopw [59] (fun vi wr => vi = .int .i64 0 ∧ wr = w5) (fun vi _ => 4 - (RowKit.intOf vi).toNat)
  case atStart => exact ⟨rfl, rfl⟩
  case round =>
    obtain ⟨rfl, hwr⟩ := hrel
    obtain rfl := hwr.symm
    have x5 : w5.cell? ⟨gX, 5, none⟩ = some (.int .i64 bB) := b5c.cell 5
    have x6 : w5.cell? ⟨gX, 6, none⟩ = some (.int .i64 bR) := b5c.cell 6
    go_wp2_with fail
    go_fit (hbn.out w5)
    rintro e w7 ⟨rfl, hw7⟩
    obtain rfl := hw7.symm
    go_wp2_with fail
    go_ret2
    exact ⟨rfl, (((fX.seqN f1).seqN f2).seqN f3).seqN fr5⟩
/-- an agent that may not be made is not made -/
theorem ag_new_no (id : Int) (c : Cf) (w : World) (hsd : U64 c.sd) (h : ¬ c.may id) : Calls Tryz.prog 10 #[.int .i64 id, .agg c.cs.toArray] w fun e w' => e = .returned (.tuple #[.pointer none, .int .i64 1]) ∧ Fr noB w w' := by
  unfold Cf.may at h
  obtain ⟨M, N, T, J, sd, bB, bR⟩ := c
  simp only at h hsd
  unfold Cf.cs
  by_cases c1 : 1 ≤ M ∧ M ≤ 4
  · by_cases c2 : 0 ≤ id
    · by_cases c3 : id < M
      · by_cases c4 : 1 ≤ N ∧ N ≤ 16
        · by_cases c5 : 1 ≤ T ∧ T ≤ 1000
          · exact an_b id M N T J sd bB bR w hsd c1 c2 c3 c4 c5 (by omega)
          · exact an_t id M N T J sd bB bR w hsd c1 c2 c3 c4 (by omega)
        · exact an_n id M N T J sd bB bR w hsd c1 c2 c3 (by omega)
      · exact an_hi id M N T J sd bB bR w hsd c1 c2 (by omega)
    · exact an_lo id M N T J sd bB bR w hsd c1 (by omega)
  · exact an_m id M N T J sd bB bR w hsd (by omega)
theorem rn_all (b r : Int) (w : World) : Calls Tryz.prog 44 #[.int .i64 b, .int .i64 r] w fun e w' => ∃ o x, e = .returned (.tuple #[.pointer o, .bool x]) ∧ (x = true ↔ (0 ≤ b ∧ b ≤ 1000 ∧ 0 ≤ r ∧ r ≤ 1000)) ∧ Fr noB w w' := by
  by_cases h : 0 ≤ b ∧ b ≤ 1000 ∧ 0 ≤ r ∧ r ≤ 1000
  · exact (rnew_any b r w h).mono fun e w' ⟨h1, h2⟩ => ⟨_, _, h1, ⟨fun _ => h, fun _ => rfl⟩, by rw [h2]; exact (Fr.refl _ _).alloc _⟩
  · exact (rnew_no b r w (by omega)).mono fun e w' ⟨h1, h2⟩ => ⟨_, _, h1, ⟨fun q => (by cases q), fun q => absurd q h⟩, by rw [h2]; exact Fr.refl _ _⟩
set_option maxHeartbeats 2000000 in
theorem my_0 (id M N T J sd bB bR : Int) (w : World)  (c0 : ¬ 1 ≤ M) : Calls Tryz.prog 11 #[.int .i64 id, .agg #[.int .i64 M, .int .i64 N, .int .i64 T, .int .i64 J, .int .u64 sd, .int .i64 bB, .int .i64 bR]] w fun e w' => (e = .returned (.bool false)) ∧ Fr noB w w' := by
  have fX := (Fr.refl noB w).alloc (.cells #[.int .i64 M, .int .i64 N, .int .i64 T, .int .i64 J, .int .u64 sd, .int .i64 bB, .int .i64 bR] 24)
  have bX := Blk.new w 24 [.int .i64 M, .int .i64 N, .int .i64 T, .int .i64 J, .int .u64 sd, .int .i64 bB, .int .i64 bR]
  have hbn := fun w' => rn_all bB bR w'
  replace hbn := Lib.hid hbn
  have d0 : decide (1 ≤ M) = false := by simp; omega
  have x5 : (w.alloc (.cells #[.int .i64 M, .int .i64 N, .int .i64 T, .int .i64 J, .int .u64 sd, .int .i64 bB, .int .i64 bR] 24)).cell? ⟨w.heap.size, 5, none⟩ = some (.int .i64 bB) := bX.cell 5
  have x6 : (w.alloc (.cells #[.int .i64 M, .int .i64 N, .int .i64 T, .int .i64 J, .int .u64 sd, .int .i64 bB, .int .i64 bR] 24)).cell? ⟨w.heap.size, 6, none⟩ = some (.int .i64 bR) := bX.cell 6
  clear c0
  go_enter Tryz.func11, Tryz.ntmps11
  go_wp2_with fail
  generalize (w.alloc (.cells #[.int .i64 M, .int .i64 N, .int .i64 T, .int .i64 J, .int .u64 sd, .int .i64 bB, .int .i64 bR] 24)) = wX at *
  obtain ⟨gX, hgX⟩ : ∃ g, w.heap.size = g := ⟨_, rfl⟩
  rw [hgX] at bX x5 x6 ⊢
  replace hgX := Lib.hid hgX
  go_fit (hbn.out wX)
  rintro e w1 ⟨o, x, rfl, hx, f1⟩
  have b1 := f1.blk bX (fun q => q)
  have y0 : w1.cell? ⟨gX, 0, none⟩ = some (.int .i64 M) := b1.cell 0
  have y1 : w1.cell? ⟨gX, 1, none⟩ = some (.int .i64 N) := b1.cell 1
  have y2 : w1.cell? ⟨gX, 2, none⟩ = some (.int .i64 T) := b1.cell 2
  replace hx := Lib.hid hx
  clear x5 x6
  go_wp2_with fail
  go_ret
  exact ⟨rfl, fX.seqN f1⟩
set_option maxHeartbeats 2000000 in
theorem my_1 (id M N T J sd bB bR : Int) (w : World) (c0 : 1 ≤ M) (c1 : ¬ M ≤ 4) : Calls Tryz.prog 11 #[.int .i64 id, .agg #[.int .i64 M, .int .i64 N, .int .i64 T, .int .i64 J, .int .u64 sd, .int .i64 bB, .int .i64 bR]] w fun e w' => (e = .returned (.bool false)) ∧ Fr noB w w' := by
  have fX := (Fr.refl noB w).alloc (.cells #[.int .i64 M, .int .i64 N, .int .i64 T, .int .i64 J, .int .u64 sd, .int .i64 bB, .int .i64 bR] 24)
  have bX := Blk.new w 24 [.int .i64 M, .int .i64 N, .int .i64 T, .int .i64 J, .int .u64 sd, .int .i64 bB, .int .i64 bR]
  have hbn := fun w' => rn_all bB bR w'
  replace hbn := Lib.hid hbn
  have d0 : decide (1 ≤ M) = true := by simp; omega
  have d1 : decide (M ≤ 4) = false := by simp; omega
  have x5 : (w.alloc (.cells #[.int .i64 M, .int .i64 N, .int .i64 T, .int .i64 J, .int .u64 sd, .int .i64 bB, .int .i64 bR] 24)).cell? ⟨w.heap.size, 5, none⟩ = some (.int .i64 bB) := bX.cell 5
  have x6 : (w.alloc (.cells #[.int .i64 M, .int .i64 N, .int .i64 T, .int .i64 J, .int .u64 sd, .int .i64 bB, .int .i64 bR] 24)).cell? ⟨w.heap.size, 6, none⟩ = some (.int .i64 bR) := bX.cell 6
  clear c0 c1
  go_enter Tryz.func11, Tryz.ntmps11
  go_wp2_with fail
  generalize (w.alloc (.cells #[.int .i64 M, .int .i64 N, .int .i64 T, .int .i64 J, .int .u64 sd, .int .i64 bB, .int .i64 bR] 24)) = wX at *
  obtain ⟨gX, hgX⟩ : ∃ g, w.heap.size = g := ⟨_, rfl⟩
  rw [hgX] at bX x5 x6 ⊢
  replace hgX := Lib.hid hgX
  go_fit (hbn.out wX)
  rintro e w1 ⟨o, x, rfl, hx, f1⟩
  have b1 := f1.blk bX (fun q => q)
  have y0 : w1.cell? ⟨gX, 0, none⟩ = some (.int .i64 M) := b1.cell 0
  have y1 : w1.cell? ⟨gX, 1, none⟩ = some (.int .i64 N) := b1.cell 1
  have y2 : w1.cell? ⟨gX, 2, none⟩ = some (.int .i64 T) := b1.cell 2
  replace hx := Lib.hid hx
  clear x5 x6
  go_wp2_with fail
  go_ret
  exact ⟨rfl, fX.seqN f1⟩
set_option maxHeartbeats 2000000 in
theorem my_2 (id M N T J sd bB bR : Int) (w : World) (c0 : 1 ≤ M) (c1 : M ≤ 4) (c2 : ¬ 0 ≤ id) : Calls Tryz.prog 11 #[.int .i64 id, .agg #[.int .i64 M, .int .i64 N, .int .i64 T, .int .i64 J, .int .u64 sd, .int .i64 bB, .int .i64 bR]] w fun e w' => (e = .returned (.bool false)) ∧ Fr noB w w' := by
  have fX := (Fr.refl noB w).alloc (.cells #[.int .i64 M, .int .i64 N, .int .i64 T, .int .i64 J, .int .u64 sd, .int .i64 bB, .int .i64 bR] 24)
  have bX := Blk.new w 24 [.int .i64 M, .int .i64 N, .int .i64 T, .int .i64 J, .int .u64 sd, .int .i64 bB, .int .i64 bR]
  have hbn := fun w' => rn_all bB bR w'
  replace hbn := Lib.hid hbn
  have d0 : decide (1 ≤ M) = true := by simp; omega
  have d1 : decide (M ≤ 4) = true := by simp; omega
  have d2 : decide (0 ≤ id) = false := by simp; omega
  have x5 : (w.alloc (.cells #[.int .i64 M, .int .i64 N, .int .i64 T, .int .i64 J, .int .u64 sd, .int .i64 bB, .int .i64 bR] 24)).cell? ⟨w.heap.size, 5, none⟩ = some (.int .i64 bB) := bX.cell 5
  have x6 : (w.alloc (.cells #[.int .i64 M, .int .i64 N, .int .i64 T, .int .i64 J, .int .u64 sd, .int .i64 bB, .int .i64 bR] 24)).cell? ⟨w.heap.size, 6, none⟩ = some (.int .i64 bR) := bX.cell 6
  clear c0 c1 c2
  go_enter Tryz.func11, Tryz.ntmps11
  go_wp2_with fail
  generalize (w.alloc (.cells #[.int .i64 M, .int .i64 N, .int .i64 T, .int .i64 J, .int .u64 sd, .int .i64 bB, .int .i64 bR] 24)) = wX at *
  obtain ⟨gX, hgX⟩ : ∃ g, w.heap.size = g := ⟨_, rfl⟩
  rw [hgX] at bX x5 x6 ⊢
  replace hgX := Lib.hid hgX
  go_fit (hbn.out wX)
  rintro e w1 ⟨o, x, rfl, hx, f1⟩
  have b1 := f1.blk bX (fun q => q)
  have y0 : w1.cell? ⟨gX, 0, none⟩ = some (.int .i64 M) := b1.cell 0
  have y1 : w1.cell? ⟨gX, 1, none⟩ = some (.int .i64 N) := b1.cell 1
  have y2 : w1.cell? ⟨gX, 2, none⟩ = some (.int .i64 T) := b1.cell 2
  replace hx := Lib.hid hx
  clear x5 x6
  go_wp2_with fail
  go_ret
  exact ⟨rfl, fX.seqN f1⟩
set_option maxHeartbeats 2000000 in
theorem my_3 (id M N T J sd bB bR : Int) (w : World) (c0 : 1 ≤ M) (c1 : M ≤ 4) (c2 : 0 ≤ id) (c3 : ¬ id < M) : Calls Tryz.prog 11 #[.int .i64 id, .agg #[.int .i64 M, .int .i64 N, .int .i64 T, .int .i64 J, .int .u64 sd, .int .i64 bB, .int .i64 bR]] w fun e w' => (e = .returned (.bool false)) ∧ Fr noB w w' := by
  have fX := (Fr.refl noB w).alloc (.cells #[.int .i64 M, .int .i64 N, .int .i64 T, .int .i64 J, .int .u64 sd, .int .i64 bB, .int .i64 bR] 24)
  have bX := Blk.new w 24 [.int .i64 M, .int .i64 N, .int .i64 T, .int .i64 J, .int .u64 sd, .int .i64 bB, .int .i64 bR]
  have hbn := fun w' => rn_all bB bR w'
  replace hbn := Lib.hid hbn
  have d0 : decide (1 ≤ M) = true := by simp; omega
  have d1 : decide (M ≤ 4) = true := by simp; omega
  have d2 : decide (0 ≤ id) = true := by simp; omega
  have d3 : decide (id < M) = false := by simp; omega
  have x5 : (w.alloc (.cells #[.int .i64 M, .int .i64 N, .int .i64 T, .int .i64 J, .int .u64 sd, .int .i64 bB, .int .i64 bR] 24)).cell? ⟨w.heap.size, 5, none⟩ = some (.int .i64 bB) := bX.cell 5
  have x6 : (w.alloc (.cells #[.int .i64 M, .int .i64 N, .int .i64 T, .int .i64 J, .int .u64 sd, .int .i64 bB, .int .i64 bR] 24)).cell? ⟨w.heap.size, 6, none⟩ = some (.int .i64 bR) := bX.cell 6
  clear c0 c1 c2 c3
  go_enter Tryz.func11, Tryz.ntmps11
  go_wp2_with fail
  generalize (w.alloc (.cells #[.int .i64 M, .int .i64 N, .int .i64 T, .int .i64 J, .int .u64 sd, .int .i64 bB, .int .i64 bR] 24)) = wX at *
  obtain ⟨gX, hgX⟩ : ∃ g, w.heap.size = g := ⟨_, rfl⟩
  rw [hgX] at bX x5 x6 ⊢
  replace hgX := Lib.hid hgX
  go_fit (hbn.out wX)
  rintro e w1 ⟨o, x, rfl, hx, f1⟩
  have b1 := f1.blk bX (fun q => q)
  have y0 : w1.cell? ⟨gX, 0, none⟩ = some (.int .i64 M) := b1.cell 0
  have y1 : w1.cell? ⟨gX, 1, none⟩ = some (.int .i64 N) := b1.cell 1
  have y2 : w1.cell? ⟨gX, 2, none⟩ = some (.int .i64 T) := b1.cell 2
  replace hx := Lib.hid hx
  clear x5 x6
  go_wp2_with fail
  go_ret
  exact ⟨rfl, fX.seqN f1⟩
set_option maxHeartbeats 2000000 in
theorem my_4 (id M N T J sd bB bR : Int) (w : World) (c0 : 1 ≤ M) (c1 : M ≤ 4) (c2 : 0 ≤ id) (c3 : id < M) (c4 : ¬ 1 ≤ N) : Calls Tryz.prog 11 #[.int .i64 id, .agg #[.int .i64 M, .int .i64 N, .int .i64 T, .int .i64 J, .int .u64 sd, .int .i64 bB, .int .i64 bR]] w fun e w' => (e = .returned (.bool false)) ∧ Fr noB w w' := by
  have fX := (Fr.refl noB w).alloc (.cells #[.int .i64 M, .int .i64 N, .int .i64 T, .int .i64 J, .int .u64 sd, .int .i64 bB, .int .i64 bR] 24)
  have bX := Blk.new w 24 [.int .i64 M, .int .i64 N, .int .i64 T, .int .i64 J, .int .u64 sd, .int .i64 bB, .int .i64 bR]
  have hbn := fun w' => rn_all bB bR w'
  replace hbn := Lib.hid hbn
  have d0 : decide (1 ≤ M) = true := by simp; omega
  have d1 : decide (M ≤ 4) = true := by simp; omega
  have d2 : decide (0 ≤ id) = true := by simp; omega
  have d3 : decide (id < M) = true := by simp; omega
  have d4 : decide (1 ≤ N) = false := by simp; omega
  have x5 : (w.alloc (.cells #[.int .i64 M, .int .i64 N, .int .i64 T, .int .i64 J, .int .u64 sd, .int .i64 bB, .int .i64 bR] 24)).cell? ⟨w.heap.size, 5, none⟩ = some (.int .i64 bB) := bX.cell 5
  have x6 : (w.alloc (.cells #[.int .i64 M, .int .i64 N, .int .i64 T, .int .i64 J, .int .u64 sd, .int .i64 bB, .int .i64 bR] 24)).cell? ⟨w.heap.size, 6, none⟩ = some (.int .i64 bR) := bX.cell 6
  clear c0 c1 c2 c3 c4
  go_enter Tryz.func11, Tryz.ntmps11
  go_wp2_with fail
  generalize (w.alloc (.cells #[.int .i64 M, .int .i64 N, .int .i64 T, .int .i64 J, .int .u64 sd, .int .i64 bB, .int .i64 bR] 24)) = wX at *
  obtain ⟨gX, hgX⟩ : ∃ g, w.heap.size = g := ⟨_, rfl⟩
  rw [hgX] at bX x5 x6 ⊢
  replace hgX := Lib.hid hgX
  go_fit (hbn.out wX)
  rintro e w1 ⟨o, x, rfl, hx, f1⟩
  have b1 := f1.blk bX (fun q => q)
  have y0 : w1.cell? ⟨gX, 0, none⟩ = some (.int .i64 M) := b1.cell 0
  have y1 : w1.cell? ⟨gX, 1, none⟩ = some (.int .i64 N) := b1.cell 1
  have y2 : w1.cell? ⟨gX, 2, none⟩ = some (.int .i64 T) := b1.cell 2
  replace hx := Lib.hid hx
  clear x5 x6
  go_wp2_with fail
  go_ret
  exact ⟨rfl, fX.seqN f1⟩
set_option maxHeartbeats 2000000 in
theorem my_5 (id M N T J sd bB bR : Int) (w : World) (c0 : 1 ≤ M) (c1 : M ≤ 4) (c2 : 0 ≤ id) (c3 : id < M) (c4 : 1 ≤ N) (c5 : ¬ N ≤ 16) : Calls Tryz.prog 11 #[.int .i64 id, .agg #[.int .i64 M, .int .i64 N, .int .i64 T, .int .i64 J, .int .u64 sd, .int .i64 bB, .int .i64 bR]] w fun e w' => (e = .returned (.bool false)) ∧ Fr noB w w' := by
  have fX := (Fr.refl noB w).alloc (.cells #[.int .i64 M, .int .i64 N, .int .i64 T, .int .i64 J, .int .u64 sd, .int .i64 bB, .int .i64 bR] 24)
  have bX := Blk.new w 24 [.int .i64 M, .int .i64 N, .int .i64 T, .int .i64 J, .int .u64 sd, .int .i64 bB, .int .i64 bR]
  have hbn := fun w' => rn_all bB bR w'
  replace hbn := Lib.hid hbn
  have d0 : decide (1 ≤ M) = true := by simp; omega
  have d1 : decide (M ≤ 4) = true := by simp; omega
  have d2 : decide (0 ≤ id) = true := by simp; omega
  have d3 : decide (id < M) = true := by simp; omega
  have d4 : decide (1 ≤ N) = true := by simp; omega
  have d5 : decide (N ≤ 16) = false := by simp; omega
  have x5 : (w.alloc (.cells #[.int .i64 M, .int .i64 N, .int .i64 T, .int .i64 J, .int .u64 sd, .int .i64 bB, .int .i64 bR] 24)).cell? ⟨w.heap.size, 5, none⟩ = some (.int .i64 bB) := bX.cell 5
  have x6 : (w.alloc (.cells #[.int .i64 M, .int .i64 N, .int .i64 T, .int .i64 J, .int .u64 sd, .int .i64 bB, .int .i64 bR] 24)).cell? ⟨w.heap.size, 6, none⟩ = some (.int .i64 bR) := bX.cell 6
  clear c0 c1 c2 c3 c4 c5
  go_enter Tryz.func11, Tryz.ntmps11
  go_wp2_with fail
  generalize (w.alloc (.cells #[.int .i64 M, .int .i64 N, .int .i64 T, .int .i64 J, .int .u64 sd, .int .i64 bB, .int .i64 bR] 24)) = wX at *
  obtain ⟨gX, hgX⟩ : ∃ g, w.heap.size = g := ⟨_, rfl⟩
  rw [hgX] at bX x5 x6 ⊢
  replace hgX := Lib.hid hgX
  go_fit (hbn.out wX)
  rintro e w1 ⟨o, x, rfl, hx, f1⟩
  have b1 := f1.blk bX (fun q => q)
  have y0 : w1.cell? ⟨gX, 0, none⟩ = some (.int .i64 M) := b1.cell 0
  have y1 : w1.cell? ⟨gX, 1, none⟩ = some (.int .i64 N) := b1.cell 1
  have y2 : w1.cell? ⟨gX, 2, none⟩ = some (.int .i64 T) := b1.cell 2
  replace hx := Lib.hid hx
  clear x5 x6
  go_wp2_with fail
  go_ret
  exact ⟨rfl, fX.seqN f1⟩
set_option maxHeartbeats 2000000 in
theorem my_6 (id M N T J sd bB bR : Int) (w : World) (c0 : 1 ≤ M) (c1 : M ≤ 4) (c2 : 0 ≤ id) (c3 : id < M) (c4 : 1 ≤ N) (c5 : N ≤ 16) (c6 : ¬ 1 ≤ T) : Calls Tryz.prog 11 #[.int .i64 id, .agg #[.int .i64 M, .int .i64 N, .int .i64 T, .int .i64 J, .int .u64 sd, .int .i64 bB, .int .i64 bR]] w fun e w' => (e = .returned (.bool false)) ∧ Fr noB w w' := by
  have fX := (Fr.refl noB w).alloc (.cells #[.int .i64 M, .int .i64 N, .int .i64 T, .int .i64 J, .int .u64 sd, .int .i64 bB, .int .i64 bR] 24)
  have bX := Blk.new w 24 [.int .i64 M, .int .i64 N, .int .i64 T, .int .i64 J, .int .u64 sd, .int .i64 bB, .int .i64 bR]
  have hbn := fun w' => rn_all bB bR w'
  replace hbn := Lib.hid hbn
  have d0 : decide (1 ≤ M) = true := by simp; omega
  have d1 : decide (M ≤ 4) = true := by simp; omega
  have d2 : decide (0 ≤ id) = true := by simp; omega
  have d3 : decide (id < M) = true := by simp; omega
  have d4 : decide (1 ≤ N) = true := by simp; omega
  have d5 : decide (N ≤ 16) = true := by simp; omega
  have d6 : decide (1 ≤ T) = false := by simp; omega
  have x5 : (w.alloc (.cells #[.int .i64 M, .int .i64 N, .int .i64 T, .int .i64 J, .int .u64 sd, .int .i64 bB, .int .i64 bR] 24)).cell? ⟨w.heap.size, 5, none⟩ = some (.int .i64 bB) := bX.cell 5
  have x6 : (w.alloc (.cells #[.int .i64 M, .int .i64 N, .int .i64 T, .int .i64 J, .int .u64 sd, .int .i64 bB, .int .i64 bR] 24)).cell? ⟨w.heap.size, 6, none⟩ = some (.int .i64 bR) := bX.cell 6
  clear c0 c1 c2 c3 c4 c5 c6
  go_enter Tryz.func11, Tryz.ntmps11
  go_wp2_with fail
  generalize (w.alloc (.cells #[.int .i64 M, .int .i64 N, .int .i64 T, .int .i64 J, .int .u64 sd, .int .i64 bB, .int .i64 bR] 24)) = wX at *
  obtain ⟨gX, hgX⟩ : ∃ g, w.heap.size = g := ⟨_, rfl⟩
  rw [hgX] at bX x5 x6 ⊢
  replace hgX := Lib.hid hgX
  go_fit (hbn.out wX)
  rintro e w1 ⟨o, x, rfl, hx, f1⟩
  have b1 := f1.blk bX (fun q => q)
  have y0 : w1.cell? ⟨gX, 0, none⟩ = some (.int .i64 M) := b1.cell 0
  have y1 : w1.cell? ⟨gX, 1, none⟩ = some (.int .i64 N) := b1.cell 1
  have y2 : w1.cell? ⟨gX, 2, none⟩ = some (.int .i64 T) := b1.cell 2
  replace hx := Lib.hid hx
  clear x5 x6
  go_wp2_with fail
  go_ret
  exact ⟨rfl, fX.seqN f1⟩
set_option maxHeartbeats 2000000 in
theorem my_7 (id M N T J sd bB bR : Int) (w : World) (c0 : 1 ≤ M) (c1 : M ≤ 4) (c2 : 0 ≤ id) (c3 : id < M) (c4 : 1 ≤ N) (c5 : N ≤ 16) (c6 : 1 ≤ T) (c7 : ¬ T ≤ 1000) : Calls Tryz.prog 11 #[.int .i64 id, .agg #[.int .i64 M, .int .i64 N, .int .i64 T, .int .i64 J, .int .u64 sd, .int .i64 bB, .int .i64 bR]] w fun e w' => (e = .returned (.bool false)) ∧ Fr noB w w' := by
  have fX := (Fr.refl noB w).alloc (.cells #[.int .i64 M, .int .i64 N, .int .i64 T, .int .i64 J, .int .u64 sd, .int .i64 bB, .int .i64 bR] 24)
  have bX := Blk.new w 24 [.int .i64 M, .int .i64 N, .int .i64 T, .int .i64 J, .int .u64 sd, .int .i64 bB, .int .i64 bR]
  have hbn := fun w' => rn_all bB bR w'
  replace hbn := Lib.hid hbn
  have d0 : decide (1 ≤ M) = true := by simp; omega
  have d1 : decide (M ≤ 4) = true := by simp; omega
  have d2 : decide (0 ≤ id) = true := by simp; omega
  have d3 : decide (id < M) = true := by simp; omega
  have d4 : decide (1 ≤ N) = true := by simp; omega
  have d5 : decide (N ≤ 16) = true := by simp; omega
  have d6 : decide (1 ≤ T) = true := by simp; omega
  have d7 : decide (T ≤ 1000) = false := by simp; omega
  have x5 : (w.alloc (.cells #[.int .i64 M, .int .i64 N, .int .i64 T, .int .i64 J, .int .u64 sd, .int .i64 bB, .int .i64 bR] 24)).cell? ⟨w.heap.size, 5, none⟩ = some (.int .i64 bB) := bX.cell 5
  have x6 : (w.alloc (.cells #[.int .i64 M, .int .i64 N, .int .i64 T, .int .i64 J, .int .u64 sd, .int .i64 bB, .int .i64 bR] 24)).cell? ⟨w.heap.size, 6, none⟩ = some (.int .i64 bR) := bX.cell 6
  clear c0 c1 c2 c3 c4 c5 c6 c7
  go_enter Tryz.func11, Tryz.ntmps11
  go_wp2_with fail
  generalize (w.alloc (.cells #[.int .i64 M, .int .i64 N, .int .i64 T, .int .i64 J, .int .u64 sd, .int .i64 bB, .int .i64 bR] 24)) = wX at *
  obtain ⟨gX, hgX⟩ : ∃ g, w.heap.size = g := ⟨_, rfl⟩
  rw [hgX] at bX x5 x6 ⊢
  replace hgX := Lib.hid hgX
  go_fit (hbn.out wX)
  rintro e w1 ⟨o, x, rfl, hx, f1⟩
  have b1 := f1.blk bX (fun q => q)
  have y0 : w1.cell? ⟨gX, 0, none⟩ = some (.int .i64 M) := b1.cell 0
  have y1 : w1.cell? ⟨gX, 1, none⟩ = some (.int .i64 N) := b1.cell 1
  have y2 : w1.cell? ⟨gX, 2, none⟩ = some (.int .i64 T) := b1.cell 2
  replace hx := Lib.hid hx
  clear x5 x6
  go_wp2_with fail
  go_ret
  exact ⟨rfl, fX.seqN f1⟩
set_option maxHeartbeats 2000000 in
theorem my_8 (id M N T J sd bB bR : Int) (w : World) (c0 : 1 ≤ M) (c1 : M ≤ 4) (c2 : 0 ≤ id) (c3 : id < M) (c4 : 1 ≤ N) (c5 : N ≤ 16) (c6 : 1 ≤ T) (c7 : T ≤ 1000) : Calls Tryz.prog 11 #[.int .i64 id, .agg #[.int .i64 M, .int .i64 N, .int .i64 T, .int .i64 J, .int .u64 sd, .int .i64 bB, .int .i64 bR]] w fun e w' => (∃ x, e = .returned (.bool x) ∧ (x = true ↔ (0 ≤ bB ∧ bB ≤ 1000 ∧ 0 ≤ bR ∧ bR ≤ 1000))) ∧ Fr noB w w' := by
  have fX := (Fr.refl noB w).alloc (.cells #[.int .i64 M, .int .i64 N, .int .i64 T, .int .i64 J, .int .u64 sd, .int .i64 bB, .int .i64 bR] 24)
  have bX := Blk.new w 24 [.int .i64 M, .int .i64 N, .int .i64 T, .int .i64 J, .int .u64 sd, .int .i64 bB, .int .i64 bR]
  have hbn := fun w' => rn_all bB bR w'
  replace hbn := Lib.hid hbn
  have d0 : decide (1 ≤ M) = true := by simp; omega
  have d1 : decide (M ≤ 4) = true := by simp; omega
  have d2 : decide (0 ≤ id) = true := by simp; omega
  have d3 : decide (id < M) = true := by simp; omega
  have d4 : decide (1 ≤ N) = true := by simp; omega
  have d5 : decide (N ≤ 16) = true := by simp; omega
  have d6 : decide (1 ≤ T) = true := by simp; omega
  have d7 : decide (T ≤ 1000) = true := by simp; omega
  have x5 : (w.alloc (.cells #[.int .i64 M, .int .i64 N, .int .i64 T, .int .i64 J, .int .u64 sd, .int .i64 bB, .int .i64 bR] 24)).cell? ⟨w.heap.size, 5, none⟩ = some (.int .i64 bB) := bX.cell 5
  have x6 : (w.alloc (.cells #[.int .i64 M, .int .i64 N, .int .i64 T, .int .i64 J, .int .u64 sd, .int .i64 bB, .int .i64 bR] 24)).cell? ⟨w.heap.size, 6, none⟩ = some (.int .i64 bR) := bX.cell 6
  clear c0 c1 c2 c3 c4 c5 c6 c7
  go_enter Tryz.func11, Tryz.ntmps11
  go_wp2_with fail
  generalize (w.alloc (.cells #[.int .i64 M, .int .i64 N, .int .i64 T, .int .i64 J, .int .u64 sd, .int .i64 bB, .int .i64 bR] 24)) = wX at *
  obtain ⟨gX, hgX⟩ : ∃ g, w.heap.size = g := ⟨_, rfl⟩
  rw [hgX] at bX x5 x6 ⊢
  replace hgX := Lib.hid hgX
  go_fit (hbn.out wX)
  rintro e w1 ⟨o, x, rfl, hx, f1⟩
  have b1 := f1.blk bX (fun q => q)
  have y0 : w1.cell? ⟨gX, 0, none⟩ = some (.int .i64 M) := b1.cell 0
  have y1 : w1.cell? ⟨gX, 1, none⟩ = some (.int .i64 N) := b1.cell 1
  have y2 : w1.cell? ⟨gX, 2, none⟩ = some (.int .i64 T) := b1.cell 2
  replace hx := Lib.hid hx
  clear x5 x6
  go_wp2_with fail
  go_ret
  exact ⟨⟨_, rfl, hx.out⟩, fX.seqN f1⟩
theorem rmay_any (id : Int) (c : Cf) (w : World) : Calls Tryz.prog 11 #[.int .i64 id, .agg c.cs.toArray] w fun e w' => ∃ x, e = .returned (.bool x) ∧ (x = true ↔ c.may id) ∧ Fr noB w w' := by
  obtain ⟨M, N, T, J, sd, bB, bR⟩ := c
  unfold Cf.cs
  simp only
  have no : ∀ {v : Value}, ¬ (Cf.mk M N T J sd bB bR).may id → Calls Tryz.prog 11 #[.int .i64 id, v] w (fun e w' => e = .returned (.bool false) ∧ Fr noB w w') → Calls Tryz.prog 11 #[.int .i64 id, v] w (fun e w' => ∃ x, e = .returned (.bool x) ∧ (x = true ↔ (Cf.mk M N T J sd bB bR).may id) ∧ Fr noB w w') := fun hn h => h.mono fun e w' ⟨h1, f⟩ => ⟨false, h1, ⟨fun q => (by cases q), fun q => absurd q hn⟩, f⟩
  unfold Cf.may at no ⊢
  simp only at no ⊢
  by_cases c0 : 1 ≤ M
  case neg => exact no (by omega) (my_0 id M N T J sd bB bR w c0)
  by_cases c1 : M ≤ 4
  case neg => exact no (by omega) (my_1 id M N T J sd bB bR w c0 c1)
  by_cases c2 : 0 ≤ id
  case neg => exact no (by omega) (my_2 id M N T J sd bB bR w c0 c1 c2)
  by_cases c3 : id < M
  case neg => exact no (by omega) (my_3 id M N T J sd bB bR w c0 c1 c2 c3)
  by_cases c4 : 1 ≤ N
  case neg => exact no (by omega) (my_4 id M N T J sd bB bR w c0 c1 c2 c3 c4)
  by_cases c5 : N ≤ 16
  case neg => exact no (by omega) (my_5 id M N T J sd bB bR w c0 c1 c2 c3 c4 c5)
  by_cases c6 : 1 ≤ T
  case neg => exact no (by omega) (my_6 id M N T J sd bB bR w c0 c1 c2 c3 c4 c5 c6)
  by_cases c7 : T ≤ 1000
  case neg => exact no (by omega) (my_7 id M N T J sd bB bR w c0 c1 c2 c3 c4 c5 c6 c7)
  exact (my_8 id M N T J sd bB bR w c0 c1 c2 c3 c4 c5 c6 c7).mono fun e w' ⟨⟨x, h1, h2⟩, f⟩ => ⟨x, h1, ⟨fun q => (by have := h2.1 q; omega), fun q => h2.2 (by omega)⟩, f⟩
end Go.Proofs.YtppmednmcbjafaaGreat
end

section
set_option linter.unusedVariables false
set_option linter.unusedSimpArgs false
set_option maxRecDepth 100000
namespace Go.Proofs.YtppmednmcbjafaaGreat
open Go.RowKit Go Go.Maps Go.Lib

theorem Tryz.infoPBk : (Tryz.prog.info? 115).map (fun i => (i.zero, i.size, i.bytes)) = some (some (.pointer none), 1, 8) := by kernel_rfl
theorem infoPB : ∃ i0, Tryz.prog.info? 115 = some i0 ∧ i0.zero = some (.pointer none) ∧ i0.size = 1 ∧ i0.bytes = 8 := by
  have hI := Tryz.infoPBk
  cases hq : Tryz.prog.info? 115 with
  | none => rw [hq] at hI; cases hI
  | some k => rw [hq] at hI; simp at hI; exact ⟨k, rfl, hI⟩
/-- its parts, each in blocks of its own -/
structure Nw (H : Nat) (w : World) (s0 s1 k g B c l N : Nat) (M T sd : Int) : Prop where
  kx : KR.Rx w k g B N ⟨sd, [], [], [], []⟩ (fun q => s0 ≤ q ∧ q < s1)
  cb : Blk w c 121 [.int .i64 M, .slice none 0 0, .slice none 0 0]
  lb : Blk w l 123 [.int .i64 T, .slice none 0 0, .slice none 0 0]
  ap : (c < s0 ∨ s1 ≤ c) ∧ (l < s0 ∨ s1 ≤ l) ∧ c ≠ l
  lo : H ≤ s0 ∧ H ≤ c ∧ H ≤ l
def NwE (w0 w : World) (id : Int) (N : Nat) (M T sd : Int) (p : Value) : Prop := ∃ s0 s1 k g B c l z, p = .pointer (some ⟨z, 0, none⟩) ∧ Nw w0.heap.size w s0 s1 k g B c l N M T sd ∧ Blk w z 48 [.int .i64 id, .pointer (some ⟨k, 0, none⟩), .pointer (some ⟨c, 0, none⟩), .pointer (some ⟨l, 0, none⟩), .slice none 0 0, .slice none 0 0] ∧ (c < z ∧ l < z ∧ s1 ≤ z) ∧ Fr noB w0 w
theorem Nw.fr {H : Nat} {w w' : World} {s0 s1 k g B c l N : Nat} {M T sd : Int} {S : Nat → Prop} {z : Nat} (h : Nw H w s0 s1 k g B c l N M T sd) (hz : c < z ∧ l < z ∧ s1 ≤ z) (f : Fr S w w') (hS : ∀ q, q < z → ¬ S q) : Nw H w' s0 s1 k g B c l N M T sd :=
  ⟨h.kx.fr f (fun q hq => hS q (by omega)), f.blk h.cb (hS _ hz.1), f.blk h.lb (hS _ hz.2.1), h.ap, h.lo⟩
theorem nwKCL {w0 wK : World} {k g B N : Nat} {id M T sd : Int} (kx : KR.Rx wK k g B N ⟨sd, [], [], [], []⟩ (fun q => w0.heap.size ≤ q ∧ q < wK.heap.size)) (fK : Fr noB w0 wK) : NwE w0 (((wK.alloc (.cells #[.int .i64 M, .slice none 0 0, .slice none 0 0] 121)).alloc (.cells #[.int .i64 T, .slice none 0 0, .slice none 0 0] 123)).alloc (.cells #[.int .i64 id, .pointer (some ⟨k, 0, none⟩), .pointer (some ⟨wK.heap.size, 0, none⟩), .pointer (some ⟨wK.heap.size + 1, 0, none⟩), .slice none 0 0, .slice none 0 0] 48)) id N M T sd (.pointer (some ⟨wK.heap.size + 1 + 1, 0, none⟩)) := by
  have z0 : w0.heap.size + 0 ≤ wK.heap.size := by have := fK.size; simpa using this
  have fr0 : Fr noB w0 wK := fK
  have fr1 : Fr noB wK (wK.alloc (.cells #[.int .i64 M, .slice none 0 0, .slice none 0 0] 121)) := (Fr.refl noB _).alloc _
  have bC : Blk (wK.alloc (.cells #[.int .i64 M, .slice none 0 0, .slice none 0 0] 121)) (wK.heap.size) 121 [.int .i64 M, .slice none 0 0, .slice none 0 0] := by have := Blk.new wK 121 [.int .i64 M, .slice none 0 0, .slice none 0 0]; simpa using this
  have fr2 : Fr noB (wK.alloc (.cells #[.int .i64 M, .slice none 0 0, .slice none 0 0] 121)) ((wK.alloc (.cells #[.int .i64 M, .slice none 0 0, .slice none 0 0] 121)).alloc (.cells #[.int .i64 T, .slice none 0 0, .slice none 0 0] 123)) := (Fr.refl noB _).alloc _
  have bL : Blk ((wK.alloc (.cells #[.int .i64 M, .slice none 0 0, .slice none 0 0] 121)).alloc (.cells #[.int .i64 T, .slice none 0 0, .slice none 0 0] 123)) (wK.heap.size + 1) 123 [.int .i64 T, .slice none 0 0, .slice none 0 0] := by have := Blk.new (wK.alloc (.cells #[.int .i64 M, .slice none 0 0, .slice none 0 0] 121)) 123 [.int .i64 T, .slice none 0 0, .slice none 0 0]; simpa using this
  have fr3 : Fr noB ((wK.alloc (.cells #[.int .i64 M, .slice none 0 0, .slice none 0 0] 121)).alloc (.cells #[.int .i64 T, .slice none 0 0, .slice none 0 0] 123)) (((wK.alloc (.cells #[.int .i64 M, .slice none 0 0, .slice none 0 0] 121)).alloc (.cells #[.int .i64 T, .slice none 0 0, .slice none 0 0] 123)).alloc (.cells #[.int .i64 id, .pointer (some ⟨k, 0, none⟩), .pointer (some ⟨wK.heap.size, 0, none⟩), .pointer (some ⟨wK.heap.size + 1, 0, none⟩), .slice none 0 0, .slice none 0 0] 48)) := (Fr.refl noB _).alloc _
  have bA : Blk (((wK.alloc (.cells #[.int .i64 M, .slice none 0 0, .slice none 0 0] 121)).alloc (.cells #[.int .i64 T, .slice none 0 0, .slice none 0 0] 123)).alloc (.cells #[.int .i64 id, .pointer (some ⟨k, 0, none⟩), .pointer (some ⟨wK.heap.size, 0, none⟩), .pointer (some ⟨wK.heap.size + 1, 0, none⟩), .slice none 0 0, .slice none 0 0] 48)) (wK.heap.size + 1 + 1) 48 [.int .i64 id, .pointer (some ⟨k, 0, none⟩), .pointer (some ⟨wK.heap.size, 0, none⟩), .pointer (some ⟨wK.heap.size + 1, 0, none⟩), .slice none 0 0, .slice none 0 0] := by have := Blk.new ((wK.alloc (.cells #[.int .i64 M, .slice none 0 0, .slice none 0 0] 121)).alloc (.cells #[.int .i64 T, .slice none 0 0, .slice none 0 0] 123)) 48 [.int .i64 id, .pointer (some ⟨k, 0, none⟩), .pointer (some ⟨wK.heap.size, 0, none⟩), .pointer (some ⟨wK.heap.size + 1, 0, none⟩), .slice none 0 0, .slice none 0 0]; simpa using this
  replace kx := kx.frN fr1
  replace kx := kx.frN fr2
  replace kx := kx.frN fr3
  replace bC := fr2.blk bC (fun q => q)
  replace bC := fr3.blk bC (fun q => q)
  replace bL := fr3.blk bL (fun q => q)
  have hs : w0.heap.size = w0.heap.size := by simp
  rw [hs] at kx
  exact ⟨w0.heap.size, wK.heap.size, k, g, B, wK.heap.size, wK.heap.size + 1, wK.heap.size + 1 + 1, rfl, ⟨kx, bC, bL, ⟨by omega, by omega, by omega⟩, by omega, by omega, by omega⟩, bA, ⟨by omega, by omega, by omega⟩, (((fr0.seqN fr1).seqN fr2).seqN fr3)⟩
theorem nwKLC {w0 wK : World} {k g B N : Nat} {id M T sd : Int} (kx : KR.Rx wK k g B N ⟨sd, [], [], [], []⟩ (fun q => w0.heap.size ≤ q ∧ q < wK.heap.size)) (fK : Fr noB w0 wK) : NwE w0 (((wK.alloc (.cells #[.int .i64 T, .slice none 0 0, .slice none 0 0] 123)).alloc (.cells #[.int .i64 M, .slice none 0 0, .slice none 0 0] 121)).alloc (.cells #[.int .i64 id, .pointer (some ⟨k, 0, none⟩), .pointer (some ⟨wK.heap.size + 1, 0, none⟩), .pointer (some ⟨wK.heap.size, 0, none⟩), .slice none 0 0, .slice none 0 0] 48)) id N M T sd (.pointer (some ⟨wK.heap.size + 1 + 1, 0, none⟩)) := by
  have z0 : w0.heap.size + 0 ≤ wK.heap.size := by have := fK.size; simpa using this
  have fr0 : Fr noB w0 wK := fK
  have fr1 : Fr noB wK (wK.alloc (.cells #[.int .i64 T, .slice none 0 0, .slice none 0 0] 123)) := (Fr.refl noB _).alloc _
  have bL : Blk (wK.alloc (.cells #[.int .i64 T, .slice none 0 0, .slice none 0 0] 123)) (wK.heap.size) 123 [.int .i64 T, .slice none 0 0, .slice none 0 0] := by have := Blk.new wK 123 [.int .i64 T, .slice none 0 0, .slice none 0 0]; simpa using this
  have fr2 : Fr noB (wK.alloc (.cells #[.int .i64 T, .slice none 0 0, .slice none 0 0] 123)) ((wK.alloc (.cells #[.int .i64 T, .slice none 0 0, .slice none 0 0] 123)).alloc (.cells #[.int .i64 M, .slice none 0 0, .slice none 0 0] 121)) := (Fr.refl noB _).alloc _
  have bC : Blk ((wK.alloc (.cells #[.int .i64 T, .slice none 0 0, .slice none 0 0] 123)).alloc (.cells #[.int .i64 M, .slice none 0 0, .slice none 0 0] 121)) (wK.heap.size + 1) 121 [.int .i64 M, .slice none 0 0, .slice none 0 0] := by have := Blk.new (wK.alloc (.cells #[.int .i64 T, .slice none 0 0, .slice none 0 0] 123)) 121 [.int .i64 M, .slice none 0 0, .slice none 0 0]; simpa using this
  have fr3 : Fr noB ((wK.alloc (.cells #[.int .i64 T, .slice none 0 0, .slice none 0 0] 123)).alloc (.cells #[.int .i64 M, .slice none 0 0, .slice none 0 0] 121)) (((wK.alloc (.cells #[.int .i64 T, .slice none 0 0, .slice none 0 0] 123)).alloc (.cells #[.int .i64 M, .slice none 0 0, .slice none 0 0] 121)).alloc (.cells #[.int .i64 id, .pointer (some ⟨k, 0, none⟩), .pointer (some ⟨wK.heap.size + 1, 0, none⟩), .pointer (some ⟨wK.heap.size, 0, none⟩), .slice none 0 0, .slice none 0 0] 48)) := (Fr.refl noB _).alloc _
  have bA : Blk (((wK.alloc (.cells #[.int .i64 T, .slice none 0 0, .slice none 0 0] 123)).alloc (.cells #[.int .i64 M, .slice none 0 0, .slice none 0 0] 121)).alloc (.cells #[.int .i64 id, .pointer (some ⟨k, 0, none⟩), .pointer (some ⟨wK.heap.size + 1, 0, none⟩), .pointer (some ⟨wK.heap.size, 0, none⟩), .slice none 0 0, .slice none 0 0] 48)) (wK.heap.size + 1 + 1) 48 [.int .i64 id, .pointer (some ⟨k, 0, none⟩), .pointer (some ⟨wK.heap.size + 1, 0, none⟩), .pointer (some ⟨wK.heap.size, 0, none⟩), .slice none 0 0, .slice none 0 0] := by have := Blk.new ((wK.alloc (.cells #[.int .i64 T, .slice none 0 0, .slice none 0 0] 123)).alloc (.cells #[.int .i64 M, .slice none 0 0, .slice none 0 0] 121)) 48 [.int .i64 id, .pointer (some ⟨k, 0, none⟩), .pointer (some ⟨wK.heap.size + 1, 0, none⟩), .pointer (some ⟨wK.heap.size, 0, none⟩), .slice none 0 0, .slice none 0 0]; simpa using this
  replace kx := kx.frN fr1
  replace kx := kx.frN fr2
  replace kx := kx.frN fr3
  replace bL := fr2.blk bL (fun q => q)
  replace bL := fr3.blk bL (fun q => q)
  replace bC := fr3.blk bC (fun q => q)
  have hs : w0.heap.size = w0.heap.size := by simp
  rw [hs] at kx
  exact ⟨w0.heap.size, wK.heap.size, k, g, B, wK.heap.size + 1, wK.heap.size, wK.heap.size + 1 + 1, rfl, ⟨kx, bC, bL, ⟨by omega, by omega, by omega⟩, by omega, by omega, by omega⟩, bA, ⟨by omega, by omega, by omega⟩, (((fr0.seqN fr1).seqN fr2).seqN fr3)⟩
theorem nwCKL {w0 wK : World} {k g B N : Nat} {id M T sd : Int} (kx : KR.Rx wK k g B N ⟨sd, [], [], [], []⟩ (fun q => (w0.alloc (.cells #[.int .i64 M, .slice none 0 0, .slice none 0 0] 121)).heap.size ≤ q ∧ q < wK.heap.size)) (fK : Fr noB (w0.alloc (.cells #[.int .i64 M, .slice none 0 0, .slice none 0 0] 121)) wK) : NwE w0 ((wK.alloc (.cells #[.int .i64 T, .slice none 0 0, .slice none 0 0] 123)).alloc (.cells #[.int .i64 id, .pointer (some ⟨k, 0, none⟩), .pointer (some ⟨w0.heap.size, 0, none⟩), .pointer (some ⟨wK.heap.size, 0, none⟩), .slice none 0 0, .slice none 0 0] 48)) id N M T sd (.pointer (some ⟨wK.heap.size + 1, 0, none⟩)) := by
  have z0 : w0.heap.size + 1 ≤ wK.heap.size := by have := fK.size; simpa using this
  have fr0 : Fr noB w0 (w0.alloc (.cells #[.int .i64 M, .slice none 0 0, .slice none 0 0] 121)) := (Fr.refl noB _).alloc _
  have bC : Blk (w0.alloc (.cells #[.int .i64 M, .slice none 0 0, .slice none 0 0] 121)) (w0.heap.size) 121 [.int .i64 M, .slice none 0 0, .slice none 0 0] := by have := Blk.new w0 121 [.int .i64 M, .slice none 0 0, .slice none 0 0]; simpa using this
  have fr1 : Fr noB (w0.alloc (.cells #[.int .i64 M, .slice none 0 0, .slice none 0 0] 121)) wK := fK
  have fr2 : Fr noB wK (wK.alloc (.cells #[.int .i64 T, .slice none 0 0, .slice none 0 0] 123)) := (Fr.refl noB _).alloc _
  have bL : Blk (wK.alloc (.cells #[.int .i64 T, .slice none 0 0, .slice none 0 0] 123)) (wK.heap.size) 123 [.int .i64 T, .slice none 0 0, .slice none 0 0] := by have := Blk.new wK 123 [.int .i64 T, .slice none 0 0, .slice none 0 0]; simpa using this
  have fr3 : Fr noB (wK.alloc (.cells #[.int .i64 T, .slice none 0 0, .slice none 0 0] 123)) ((wK.alloc (.cells #[.int .i64 T, .slice none 0 0, .slice none 0 0] 123)).alloc (.cells #[.int .i64 id, .pointer (some ⟨k, 0, none⟩), .pointer (some ⟨w0.heap.size, 0, none⟩), .pointer (some ⟨wK.heap.size, 0, none⟩), .slice none 0 0, .slice none 0 0] 48)) := (Fr.refl noB _).alloc _
  have bA : Blk ((wK.alloc (.cells #[.int .i64 T, .slice none 0 0, .slice none 0 0] 123)).alloc (.cells #[.int .i64 id, .pointer (some ⟨k, 0, none⟩), .pointer (some ⟨w0.heap.size, 0, none⟩), .pointer (some ⟨wK.heap.size, 0, none⟩), .slice none 0 0, .slice none 0 0] 48)) (wK.heap.size + 1) 48 [.int .i64 id, .pointer (some ⟨k, 0, none⟩), .pointer (some ⟨w0.heap.size, 0, none⟩), .pointer (some ⟨wK.heap.size, 0, none⟩), .slice none 0 0, .slice none 0 0] := by have := Blk.new (wK.alloc (.cells #[.int .i64 T, .slice none 0 0, .slice none 0 0] 123)) 48 [.int .i64 id, .pointer (some ⟨k, 0, none⟩), .pointer (some ⟨w0.heap.size, 0, none⟩), .pointer (some ⟨wK.heap.size, 0, none⟩), .slice none 0 0, .slice none 0 0]; simpa using this
  replace bC := fr1.blk bC (fun q => q)
  replace bC := fr2.blk bC (fun q => q)
  replace bC := fr3.blk bC (fun q => q)
  replace kx := kx.frN fr2
  replace kx := kx.frN fr3
  replace bL := fr3.blk bL (fun q => q)
  have hs : (w0.alloc (.cells #[.int .i64 M, .slice none 0 0, .slice none 0 0] 121)).heap.size = w0.heap.size + 1 := by simp
  rw [hs] at kx
  exact ⟨w0.heap.size + 1, wK.heap.size, k, g, B, w0.heap.size, wK.heap.size, wK.heap.size + 1, rfl, ⟨kx, bC, bL, ⟨by omega, by omega, by omega⟩, by omega, by omega, by omega⟩, bA, ⟨by omega, by omega, by omega⟩, (((fr0.seqN fr1).seqN fr2).seqN fr3)⟩
theorem nwLKC {w0 wK : World} {k g B N : Nat} {id M T sd : Int} (kx : KR.Rx wK k g B N ⟨sd, [], [], [], []⟩ (fun q => (w0.alloc (.cells #[.int .i64 T, .slice none 0 0, .slice none 0 0] 123)).heap.size ≤ q ∧ q < wK.heap.size)) (fK : Fr noB (w0.alloc (.cells #[.int .i64 T, .slice none 0 0, .slice none 0 0] 123)) wK) : NwE w0 ((wK.alloc (.cells #[.int .i64 M, .slice none 0 0, .slice none 0 0] 121)).alloc (.cells #[.int .i64 id, .pointer (some ⟨k, 0, none⟩), .pointer (some ⟨wK.heap.size, 0, none⟩), .pointer (some ⟨w0.heap.size, 0, none⟩), .slice none 0 0, .slice none 0 0] 48)) id N M T sd (.pointer (some ⟨wK.heap.size + 1, 0, none⟩)) := by
  have z0 : w0.heap.size + 1 ≤ wK.heap.size := by have := fK.size; simpa using this
  have fr0 : Fr noB w0 (w0.alloc (.cells #[.int .i64 T, .slice none 0 0, .slice none 0 0] 123)) := (Fr.refl noB _).alloc _
  have bL : Blk (w0.alloc (.cells #[.int .i64 T, .slice none 0 0, .slice none 0 0] 123)) (w0.heap.size) 123 [.int .i64 T, .slice none 0 0, .slice none 0 0] := by have := Blk.new w0 123 [.int .i64 T, .slice none 0 0, .slice none 0 0]; simpa using this
  have fr1 : Fr noB (w0.alloc (.cells #[.int .i64 T, .slice none 0 0, .slice none 0 0] 123)) wK := fK
  have fr2 : Fr noB wK (wK.alloc (.cells #[.int .i64 M, .slice none 0 0, .slice none 0 0] 121)) := (Fr.refl noB _).alloc _
  have bC : Blk (wK.alloc (.cells #[.int .i64 M, .slice none 0 0, .slice none 0 0] 121)) (wK.heap.size) 121 [.int .i64 M, .slice none 0 0, .slice none 0 0] := by have := Blk.new wK 121 [.int .i64 M, .slice none 0 0, .slice none 0 0]; simpa using this
  have fr3 : Fr noB (wK.alloc (.cells #[.int .i64 M, .slice none 0 0, .slice none 0 0] 121)) ((wK.alloc (.cells #[.int .i64 M, .slice none 0 0, .slice none 0 0] 121)).alloc (.cells #[.int .i64 id, .pointer (some ⟨k, 0, none⟩), .pointer (some ⟨wK.heap.size, 0, none⟩), .pointer (some ⟨w0.heap.size, 0, none⟩), .slice none 0 0, .slice none 0 0] 48)) := (Fr.refl noB _).alloc _
  have bA : Blk ((wK.alloc (.cells #[.int .i64 M, .slice none 0 0, .slice none 0 0] 121)).alloc (.cells #[.int .i64 id, .pointer (some ⟨k, 0, none⟩), .pointer (some ⟨wK.heap.size, 0, none⟩), .pointer (some ⟨w0.heap.size, 0, none⟩), .slice none 0 0, .slice none 0 0] 48)) (wK.heap.size + 1) 48 [.int .i64 id, .pointer (some ⟨k, 0, none⟩), .pointer (some ⟨wK.heap.size, 0, none⟩), .pointer (some ⟨w0.heap.size, 0, none⟩), .slice none 0 0, .slice none 0 0] := by have := Blk.new (wK.alloc (.cells #[.int .i64 M, .slice none 0 0, .slice none 0 0] 121)) 48 [.int .i64 id, .pointer (some ⟨k, 0, none⟩), .pointer (some ⟨wK.heap.size, 0, none⟩), .pointer (some ⟨w0.heap.size, 0, none⟩), .slice none 0 0, .slice none 0 0]; simpa using this
  replace bL := fr1.blk bL (fun q => q)
  replace bL := fr2.blk bL (fun q => q)
  replace bL := fr3.blk bL (fun q => q)
  replace kx := kx.frN fr2
  replace kx := kx.frN fr3
  replace bC := fr3.blk bC (fun q => q)
  have hs : (w0.alloc (.cells #[.int .i64 T, .slice none 0 0, .slice none 0 0] 123)).heap.size = w0.heap.size + 1 := by simp
  rw [hs] at kx
  exact ⟨w0.heap.size + 1, wK.heap.size, k, g, B, wK.heap.size, w0.heap.size, wK.heap.size + 1, rfl, ⟨kx, bC, bL, ⟨by omega, by omega, by omega⟩, by omega, by omega, by omega⟩, bA, ⟨by omega, by omega, by omega⟩, (((fr0.seqN fr1).seqN fr2).seqN fr3)⟩
theorem nwCLK {w0 wK : World} {k g B N : Nat} {id M T sd : Int} (kx : KR.Rx wK k g B N ⟨sd, [], [], [], []⟩ (fun q => ((w0.alloc (.cells #[.int .i64 M, .slice none 0 0, .slice none 0 0] 121)).alloc (.cells #[.int .i64 T, .slice none 0 0, .slice none 0 0] 123)).heap.size ≤ q ∧ q < wK.heap.size)) (fK : Fr noB ((w0.alloc (.cells #[.int .i64 M, .slice none 0 0, .slice none 0 0] 121)).alloc (.cells #[.int .i64 T, .slice none 0 0, .slice none 0 0] 123)) wK) : NwE w0 (wK.alloc (.cells #[.int .i64 id, .pointer (some ⟨k, 0, none⟩), .pointer (some ⟨w0.heap.size, 0, none⟩), .pointer (some ⟨w0.heap.size + 1, 0, none⟩), .slice none 0 0, .slice none 0 0] 48)) id N M T sd (.pointer (some ⟨wK.heap.size, 0, none⟩)) := by
  have z0 : w0.heap.size + 2 ≤ wK.heap.size := by have := fK.size; simpa using this
  have fr0 : Fr noB w0 (w0.alloc (.cells #[.int .i64 M, .slice none 0 0, .slice none 0 0] 121)) := (Fr.refl noB _).alloc _
  have bC : Blk (w0.alloc (.cells #[.int .i64 M, .slice none 0 0, .slice none 0 0] 121)) (w0.heap.size) 121 [.int .i64 M, .slice none 0 0, .slice none 0 0] := by have := Blk.new w0 121 [.int .i64 M, .slice none 0 0, .slice none 0 0]; simpa using this
  have fr1 : Fr noB (w0.alloc (.cells #[.int .i64 M, .slice none 0 0, .slice none 0 0] 121)) ((w0.alloc (.cells #[.int .i64 M, .slice none 0 0, .slice none 0 0] 121)).alloc (.cells #[.int .i64 T, .slice none 0 0, .slice none 0 0] 123)) := (Fr.refl noB _).alloc _
  have bL : Blk ((w0.alloc (.cells #[.int .i64 M, .slice none 0 0, .slice none 0 0] 121)).alloc (.cells #[.int .i64 T, .slice none 0 0, .slice none 0 0] 123)) (w0.heap.size + 1) 123 [.int .i64 T, .slice none 0 0, .slice none 0 0] := by have := Blk.new (w0.alloc (.cells #[.int .i64 M, .slice none 0 0, .slice none 0 0] 121)) 123 [.int .i64 T, .slice none 0 0, .slice none 0 0]; simpa using this
  have fr2 : Fr noB ((w0.alloc (.cells #[.int .i64 M, .slice none 0 0, .slice none 0 0] 121)).alloc (.cells #[.int .i64 T, .slice none 0 0, .slice none 0 0] 123)) wK := fK
  have fr3 : Fr noB wK (wK.alloc (.cells #[.int .i64 id, .pointer (some ⟨k, 0, none⟩), .pointer (some ⟨w0.heap.size, 0, none⟩), .pointer (some ⟨w0.heap.size + 1, 0, none⟩), .slice none 0 0, .slice none 0 0] 48)) := (Fr.refl noB _).alloc _
  have bA : Blk (wK.alloc (.cells #[.int .i64 id, .pointer (some ⟨k, 0, none⟩), .pointer (some ⟨w0.heap.size, 0, none⟩), .pointer (some ⟨w0.heap.size + 1, 0, none⟩), .slice none 0 0, .slice none 0 0] 48)) (wK.heap.size) 48 [.int .i64 id, .pointer (some ⟨k, 0, none⟩), .pointer (some ⟨w0.heap.size, 0, none⟩), .pointer (some ⟨w0.heap.size + 1, 0, none⟩), .slice none 0 0, .slice none 0 0] := by have := Blk.new wK 48 [.int .i64 id, .pointer (some ⟨k, 0, none⟩), .pointer (some ⟨w0.heap.size, 0, none⟩), .pointer (some ⟨w0.heap.size + 1, 0, none⟩), .slice none 0 0, .slice none 0 0]; simpa using this
  replace bC := fr1.blk bC (fun q => q)
  replace bC := fr2.blk bC (fun q => q)
  replace bC := fr3.blk bC (fun q => q)
  replace bL := fr2.blk bL (fun q => q)
  replace bL := fr3.blk bL (fun q => q)
  replace kx := kx.frN fr3
  have hs : ((w0.alloc (.cells #[.int .i64 M, .slice none 0 0, .slice none 0 0] 121)).alloc (.cells #[.int .i64 T, .slice none 0 0, .slice none 0 0] 123)).heap.size = w0.heap.size + 1 + 1 := by simp
  rw [hs] at kx
  exact ⟨w0.heap.size + 1 + 1, wK.heap.size, k, g, B, w0.heap.size, w0.heap.size + 1, wK.heap.size, rfl, ⟨kx, bC, bL, ⟨by omega, by omega, by omega⟩, by omega, by omega, by omega⟩, bA, ⟨by omega, by omega, by omega⟩, (((fr0.seqN fr1).seqN fr2).seqN fr3)⟩
theorem nwLCK {w0 wK : World} {k g B N : Nat} {id M T sd : Int} (kx : KR.Rx wK k g B N ⟨sd, [], [], [], []⟩ (fun q => ((w0.alloc (.cells #[.int .i64 T, .slice none 0 0, .slice none 0 0] 123)).alloc (.cells #[.int .i64 M, .slice none 0 0, .slice none 0 0] 121)).heap.size ≤ q ∧ q < wK.heap.size)) (fK : Fr noB ((w0.alloc (.cells #[.int .i64 T, .slice none 0 0, .slice none 0 0] 123)).alloc (.cells #[.int .i64 M, .slice none 0 0, .slice none 0 0] 121)) wK) : NwE w0 (wK.alloc (.cells #[.int .i64 id, .pointer (some ⟨k, 0, none⟩), .pointer (some ⟨w0.heap.size + 1, 0, none⟩), .pointer (some ⟨w0.heap.size, 0, none⟩), .slice none 0 0, .slice none 0 0] 48)) id N M T sd (.pointer (some ⟨wK.heap.size, 0, none⟩)) := by
  have z0 : w0.heap.size + 2 ≤ wK.heap.size := by have := fK.size; simpa using this
  have fr0 : Fr noB w0 (w0.alloc (.cells #[.int .i64 T, .slice none 0 0, .slice none 0 0] 123)) := (Fr.refl noB _).alloc _
  have bL : Blk (w0.alloc (.cells #[.int .i64 T, .slice none 0 0, .slice none 0 0] 123)) (w0.heap.size) 123 [.int .i64 T, .slice none 0 0, .slice none 0 0] := by have := Blk.new w0 123 [.int .i64 T, .slice none 0 0, .slice none 0 0]; simpa using this
  have fr1 : Fr noB (w0.alloc (.cells #[.int .i64 T, .slice none 0 0, .slice none 0 0] 123)) ((w0.alloc (.cells #[.int .i64 T, .slice none 0 0, .slice none 0 0] 123)).alloc (.cells #[.int .i64 M, .slice none 0 0, .slice none 0 0] 121)) := (Fr.refl noB _).alloc _
  have bC : Blk ((w0.alloc (.cells #[.int .i64 T, .slice none 0 0, .slice none 0 0] 123)).alloc (.cells #[.int .i64 M, .slice none 0 0, .slice none 0 0] 121)) (w0.heap.size + 1) 121 [.int .i64 M, .slice none 0 0, .slice none 0 0] := by have := Blk.new (w0.alloc (.cells #[.int .i64 T, .slice none 0 0, .slice none 0 0] 123)) 121 [.int .i64 M, .slice none 0 0, .slice none 0 0]; simpa using this
  have fr2 : Fr noB ((w0.alloc (.cells #[.int .i64 T, .slice none 0 0, .slice none 0 0] 123)).alloc (.cells #[.int .i64 M, .slice none 0 0, .slice none 0 0] 121)) wK := fK
  have fr3 : Fr noB wK (wK.alloc (.cells #[.int .i64 id, .pointer (some ⟨k, 0, none⟩), .pointer (some ⟨w0.heap.size + 1, 0, none⟩), .pointer (some ⟨w0.heap.size, 0, none⟩), .slice none 0 0, .slice none 0 0] 48)) := (Fr.refl noB _).alloc _
  have bA : Blk (wK.alloc (.cells #[.int .i64 id, .pointer (some ⟨k, 0, none⟩), .pointer (some ⟨w0.heap.size + 1, 0, none⟩), .pointer (some ⟨w0.heap.size, 0, none⟩), .slice none 0 0, .slice none 0 0] 48)) (wK.heap.size) 48 [.int .i64 id, .pointer (some ⟨k, 0, none⟩), .pointer (some ⟨w0.heap.size + 1, 0, none⟩), .pointer (some ⟨w0.heap.size, 0, none⟩), .slice none 0 0, .slice none 0 0] := by have := Blk.new wK 48 [.int .i64 id, .pointer (some ⟨k, 0, none⟩), .pointer (some ⟨w0.heap.size + 1, 0, none⟩), .pointer (some ⟨w0.heap.size, 0, none⟩), .slice none 0 0, .slice none 0 0]; simpa using this
  replace bL := fr1.blk bL (fun q => q)
  replace bL := fr2.blk bL (fun q => q)
  replace bL := fr3.blk bL (fun q => q)
  replace bC := fr2.blk bC (fun q => q)
  replace bC := fr3.blk bC (fun q => q)
  replace kx := kx.frN fr3
  have hs : ((w0.alloc (.cells #[.int .i64 T, .slice none 0 0, .slice none 0 0] 123)).alloc (.cells #[.int .i64 M, .slice none 0 0, .slice none 0 0] 121)).heap.size = w0.heap.size + 1 + 1 := by simp
  rw [hs] at kx
  exact ⟨w0.heap.size + 1 + 1, wK.heap.size, k, g, B, w0.heap.size + 1, w0.heap.size, wK.heap.size, rfl, ⟨kx, bC, bL, ⟨by omega, by omega, by omega⟩, by omega, by omega, by omega⟩, bA, ⟨by omega, by omega, by omega⟩, (((fr0.seqN fr1).seqN fr2).seqN fr3)⟩
def nwcol (s0 s1 c l z bs : Nat) (b : Nat → Nat) : Nat → Nat := fun q => if q = c then 2 else if q = l then 3 else if q = z then 10 else if q = bs then 8 else if q = b 0 then 4 else if q = b 1 then 5 else if q = b 2 then 6 else if q = b 3 then 7 else if s0 ≤ q ∧ q < s1 then 1 else 0
section
variable {s0 s1 c l z bs : Nat} {b : Nat → Nat}
theorem nwcol_b (hz : c < z ∧ l < z) (hb : ∀ i, i < 4 → z < b i) (hne : ∀ i j, i < 4 → j < 4 → i ≠ j → b i ≠ b j) (hbs : ∀ i, i < 4 → bs ≠ b i) (i : Nat) (hi : i < 4) : nwcol s0 s1 c l z bs b (b i) = 4 + i := by
  have u := hb i hi
  have v := hbs i hi
  have x0 := hne i 0 hi (by omega)
  have x1 := hne i 1 hi (by omega)
  have x2 := hne i 2 hi (by omega)
  unfold nwcol
  rw [if_neg (by omega), if_neg (by omega), if_neg (by omega), if_neg (fun e => v e.symm)]
  rcases (by omega : i = 0 ∨ i = 1 ∨ i = 2 ∨ i = 3) with rfl | rfl | rfl | rfl
  · rw [if_pos rfl]
  · rw [if_neg (x0 (by omega)), if_pos rfl]
  · rw [if_neg (x0 (by omega)), if_neg (x1 (by omega)), if_pos rfl]
  · rw [if_neg (x0 (by omega)), if_neg (x1 (by omega)), if_neg (x2 (by omega)), if_pos rfl]
theorem nwcol_bs (hz : c < z ∧ l < z) (h : z < bs) : nwcol s0 s1 c l z bs b bs = 8 := by
  unfold nwcol
  rw [if_neg (by omega), if_neg (by omega), if_neg (by omega), if_pos rfl]
theorem nwcol_z (hz : c < z ∧ l < z) : nwcol s0 s1 c l z bs b z = 10 := by
  unfold nwcol
  rw [if_neg (by omega), if_neg (by omega), if_pos rfl]
theorem nwcol_k (hz : s1 ≤ z) (hb : ∀ i, i < 4 → z < b i) (h : z < bs) (ha : (c < s0 ∨ s1 ≤ c) ∧ (l < s0 ∨ s1 ≤ l)) (q : Nat) (hq : s0 ≤ q ∧ q < s1) : nwcol s0 s1 c l z bs b q = 1 := by
  have u0 := hb 0 (by omega)
  have u1 := hb 1 (by omega)
  have u2 := hb 2 (by omega)
  have u3 := hb 3 (by omega)
  clear hb
  unfold nwcol
  rw [if_neg (by omega), if_neg (by omega), if_neg (by omega), if_neg (by omega), if_neg (by omega), if_neg (by omega), if_neg (by omega), if_neg (by omega), if_pos hq]
theorem nwcol_lo {H : Nat} (hb : ∀ i, i < 4 → z < b i) (h : z < bs) (hz : c < z ∧ l < z) (hl : H ≤ s0 ∧ H ≤ c ∧ H ≤ l) (q : Nat) (hq : q < H) : nwcol s0 s1 c l z bs b q = 0 := by
  have u0 := hb 0 (by omega)
  have u1 := hb 1 (by omega)
  have u2 := hb 2 (by omega)
  have u3 := hb 3 (by omega)
  clear hb
  unfold nwcol
  rw [if_neg (by omega), if_neg (by omega), if_neg (by omega), if_neg (by omega), if_neg (by omega), if_neg (by omega), if_neg (by omega), if_neg (by omega), if_neg (by omega)]
theorem nwcol_top {X : Nat} (hb : ∀ i, i < 4 → b i < X) (h : z < X ∧ bs < X ∧ c < X ∧ l < X ∧ s1 ≤ X) (q : Nat) (hq : nwcol s0 s1 c l z bs b q ≠ 0) : q < X := by
  have u0 := hb 0 (by omega)
  have u1 := hb 1 (by omega)
  have u2 := hb 2 (by omega)
  have u3 := hb 3 (by omega)
  clear hb
  by_cases e : q < X
  · exact e
  · exfalso
    apply hq
    unfold nwcol
    rw [if_neg (by omega), if_neg (by omega), if_neg (by omega), if_neg (by omega), if_neg (by omega), if_neg (by omega), if_neg (by omega), if_neg (by omega), if_neg (by omega)]
end
theorem ra_new {H : Nat} {w : World} {s0 s1 k g B c l z bs bc : Nat} {b : Nat → Nat} {id : Int} {cf : Cf} (hm : cf.may id) (h : Nw H w s0 s1 k g B c l cf.N.toNat cf.M cf.T cf.sd) (hb : Blk w z 48 [.int .i64 id, .pointer (some ⟨k, 0, none⟩), .pointer (some ⟨c, 0, none⟩), .pointer (some ⟨l, 0, none⟩), .slice (some ⟨bs, 0, none⟩) 4 bc, .slice none 0 0]) (hz : c < z ∧ l < z ∧ s1 ≤ z)
    (hbk : ∀ i, i < 4 → Blk w (b i) 160 (bk cf.bB cf.bR cf.bB 0) ∧ z < b i) (hne : ∀ i j, i < 4 → j < 4 → i ≠ j → b i ≠ b j) (hbs : z < bs ∧ ∀ i, i < 4 → bs ≠ b i) (hp : ∀ i, i < 4 → w.cell? ⟨bs, i, none⟩ = some (.pointer (some ⟨b i, 0, none⟩))) (hbl : bs < w.heap.size) :
    (∃ d, RA w z (nwcol s0 s1 c l z bs b) 0 (AG.new id cf) d) ∧ ∀ q, q < H → nwcol s0 s1 c l z bs b q = 0 := by
  obtain ⟨⟨m0, m1⟩, ⟨n0, n1⟩, ⟨t0, t1⟩, ⟨b0, b1⟩, ⟨r0, r1⟩, i0, i1⟩ := hm
  obtain ⟨a1, a2, a3⟩ := h.ap
  obtain ⟨l1, l2, l3⟩ := h.lo
  obtain ⟨z1, z2, z3⟩ := hz
  obtain ⟨y1, y2⟩ := hbs
  have hzb := fun i hi => (hbk i hi).2
  have wz := hb.lt
  have wc := h.cb.lt
  have wl := h.lb.lt
  refine ⟨⟨⟨k, g, B, c, c + 1, [], none, 0, none, 0, [], l, l + 1, [], [], b, bs, bc, [], z + 1, none, 0⟩, ?_⟩, fun q hq => ?_⟩
  · refine ⟨hb, ?_, ?_, List.Pairwise.nil, fun t => rfl, ?_, ?_, fun i hi => (hbk i hi).1, hp, ?_, World.ownsRow_nil _ _ _ _, fun t => rfl, ?_, ?_, ?_, ?_, ?_, ?_, ?_, ?_, ?_, by omega, ?_⟩
    · exact rx_mono h.kx (fun q _ hq => nwcol_k z3 hzb y1 ⟨a1, a2⟩ q hq)
    · exact ⟨h.cb, World.ownsRow_nil _ _ _ _, World.ownsRow_nil _ _ _ _, fun i hi => absurd hi (Nat.not_lt_zero _), fun u hu => (by cases hu), Nat.lt_succ_self _, wc⟩
    · exact ⟨⟨none, 0, none, 0, h.lb, World.ownsRow_nil _ _ _ _, World.ownsRow_nil _ _ _ _, fun g hg => (by cases hg)⟩, Nat.lt_succ_self _, wl, Nat.zero_le _, Nat.zero_le _⟩
    · exact ⟨[], [], ⟨List.Pairwise.nil, List.Perm.nil, fun m hm => (by cases hm), fun t => rfl⟩, fun t => rfl, fun t => rfl⟩
    · exact ⟨⟨b0, b1⟩, ⟨r0, r1⟩, fun i hi => ⟨⟨b0, b1⟩, Int.le_refl _, Int.le_refl _⟩⟩
    · rintro q (rfl | ⟨o, e⟩ | ⟨o, e⟩ | ⟨u, hu, _⟩)
      · unfold nwcol; rw [if_pos rfl]
      · cases e
      · cases e
      · cases hu
    · rintro q (rfl | ⟨i, v, hc, hv⟩)
      · unfold nwcol; rw [if_neg (fun e => a3 e.symm), if_pos rfl]
      · have hc2 := h.lb.cell i
        simp only at hc
        rw [hc] at hc2
        match i, hc2 with
        | 0, hc2 => injection hc2 with hc2; subst hc2; cases hv
        | 1, hc2 => injection hc2 with hc2; subst hc2; cases hv
        | 2, hc2 => injection hc2 with hc2; subst hc2; cases hv
        | i + 3, hc2 => simp at hc2
    · exact fun i hi => nwcol_b ⟨z1, z2⟩ hzb hne y2 i hi
    · exact nwcol_bs ⟨z1, z2⟩ y1
    · intro q hq; cases hq
    · exact nwcol_z ⟨z1, z2⟩
    · exact fun q hq => nwcol_top (fun i hi => (hbk i hi).1.lt) ⟨wz, hbl, wc, wl, by omega⟩ q hq
    · exact ⟨Nat.le_refl _, Nat.le_refl _, Nat.zero_le _, Nat.le_refl _, Int.le_refl _⟩
    · exact ⟨Nat.le_refl _, Nat.le_refl _, Nat.le_refl _⟩
    · exact wz
  · exact nwcol_lo hzb y1 ⟨z1, z2⟩ ⟨l1, l2, l3⟩ q hq
/-- the row of buckets, q of them made -/
structure Bj (H : Nat) (w : World) (z q : Nat) (id : Int) (k c l : Nat) (bB bR : Int) (b : Nat → Nat) (ba : Option Addr) (bc : Nat) : Prop where
  ag : Blk w z 48 [.int .i64 id, .pointer (some ⟨k, 0, none⟩), .pointer (some ⟨c, 0, none⟩), .pointer (some ⟨l, 0, none⟩), .slice ba q bc, .slice none 0 0]
  own : w.ownsRow H 115 1 (.slice ba q bc) q ((List.range q).map fun i => .pointer (some ⟨b i, 0, none⟩))
  bks : ∀ i, i < q → Blk w (b i) 160 (bk bB bR bB 0) ∧ H ≤ b i
  ne : ∀ i j, i < q → j < q → i ≠ j → b i ≠ b j
  rn : ∀ i g, i < q → (Value.slice ba q bc).ownBlock = some g → g ≠ b i
theorem Bj.next {H z q : Nat} {wr w9 : World} {id : Int} {k c l : Nat} {bB bR : Int} {b : Nat → Nat} {ba a9 : Option Addr} {bc c9 : Nat} (h : Bj H wr z q id k c l bB bR b ba bc) (hz : z < H) (hH : H ≤ wr.heap.size)
    (o9 : w9.ownsRow H 115 1 (.slice a9 (q + 1) c9) (q + 1) (((List.range q).map fun i => .pointer (some ⟨b i, 0, none⟩)) ++ [.pointer (some ⟨wr.heap.size, 0, none⟩)])) (gr : ((wr.alloc (.cells (bk bB bR bB 0).toArray 160)).alloc (.cells #[.pointer (some ⟨wr.heap.size, 0, none⟩)] 115)).grownBy w9 (Value.slice ba q bc).ownBlock) (mv : Moved ((wr.alloc (.cells (bk bB bR bB 0).toArray 160)).alloc (.cells #[.pointer (some ⟨wr.heap.size, 0, none⟩)] 115)) (.slice ba q bc) (.slice a9 (q + 1) c9)) :
    Bj H (w9.setCell ⟨z, 4, none⟩ (.slice a9 (q + 1) c9)) z (q + 1) id k c l bB bR (fun i => if i = q then wr.heap.size else b i) a9 c9 ∧ Fr (fun x => x = z ∨ H ≤ x) wr (w9.setCell ⟨z, 4, none⟩ (.slice a9 (q + 1) c9)) := by
  have f1 : Fr noB wr ((wr.alloc (.cells (bk bB bR bB 0).toArray 160)).alloc (.cells #[.pointer (some ⟨wr.heap.size, 0, none⟩)] 115)) := ((Fr.refl noB wr).alloc _).alloc _
  have fN : Fr noB (wr.alloc (.cells (bk bB bR bB 0).toArray 160)) ((wr.alloc (.cells (bk bB bR bB 0).toArray 160)).alloc (.cells #[.pointer (some ⟨wr.heap.size, 0, none⟩)] 115)) := (Fr.refl noB _).alloc _
  have hsz : ((wr.alloc (.cells (bk bB bR bB 0).toArray 160)).alloc (.cells #[.pointer (some ⟨wr.heap.size, 0, none⟩)] 115)).heap.size = wr.heap.size + 2 := by simp
  have bn := fN.blk (Blk.new wr 160 (bk bB bR bB 0)) (fun q => q)
  have f9 : Fr (fun x => (Value.slice ba q bc).ownBlock = some x) ((wr.alloc (.cells (bk bB bR bB 0).toArray 160)).alloc (.cells #[.pointer (some ⟨wr.heap.size, 0, none⟩)] 115)) w9 := (Fr.refl _ _).grown gr (fun k hk _ => hk)
  have fs : Fr (onlyB z) w9 (w9.setCell ⟨z, 4, none⟩ (.slice a9 (q + 1) c9)) := (Fr.refl _ _).store rfl
  have rl : ∀ x, (Value.slice ba q bc).ownBlock = some x → H ≤ x ∧ x < wr.heap.size := fun x hx => h.own.lt x hx
  have nl : ∀ x, (Value.slice a9 (q + 1) c9).ownBlock = some x → H ≤ x ∧ ((Value.slice ba q bc).ownBlock = some x ∨ x = wr.heap.size + 2) := fun x hx => by
    rcases mv with e | e
    · rw [e] at hx; exact ⟨(rl x hx).1, Or.inl hx⟩
    · rw [e, hsz] at hx
      injection hx with hx
      exact ⟨by omega, Or.inr hx.symm⟩
  have bA := f9.blk (f1.blk h.ag (fun q => q)) (fun e => by have := (rl z e).1; omega)
  have bS := bA.set 4 (.slice a9 (q + 1) c9)
  refine ⟨⟨bS, ?_, fun i hi => ?_, fun i j hi hj hij => ?_, fun i x hi hx => ?_⟩, ?_⟩
  · have := ownsRow_fr o9 fs (fun x hx e => by unfold onlyB at e; have := (nl x hx).1; omega)
    rw [List.range_succ, List.map_append]
    have e1 : (List.range q).map (fun i => Value.pointer (some ⟨if i = q then wr.heap.size else b i, 0, none⟩)) = (List.range q).map (fun i => Value.pointer (some ⟨b i, 0, none⟩)) := List.map_congr_left (fun i hi => by rw [if_neg (by have := List.mem_range.1 hi; omega)])
    rw [e1]
    simpa using this
  · by_cases e : i = q
    · simp only [e, if_true]
      exact ⟨fs.blk (f9.blk bn (fun e => by have := (rl _ e).2; omega)) (fun e => by unfold onlyB at e; omega), hH⟩
    · simp only [e, if_false]
      obtain ⟨h1, h2⟩ := h.bks i (by omega)
      exact ⟨fs.blk (f9.blk (f1.blk h1 (fun q => q)) (fun e => h.rn i _ (by omega) e rfl)) (fun e => by unfold onlyB at e; omega), h2⟩
  · have lt : ∀ i, i < q → b i < wr.heap.size := fun i hi => (h.bks i hi).1.lt
    by_cases e1 : i = q <;> by_cases e2 : j = q
    · omega
    · simp only [e1, e2, if_true, if_false]; have := lt j (by omega); omega
    · simp only [e1, e2, if_true, if_false]; have := lt i (by omega); omega
    · simp only [e1, e2, if_false]; exact h.ne i j (by omega) (by omega) hij
  · by_cases e : i = q
    · simp only [e, if_true]
      rcases (nl x hx).2 with h1 | h1
      · have := (rl x h1).2; omega
      · omega
    · simp only [e, if_false]
      rcases (nl x hx).2 with h1 | h1
      · exact h.rn i x (by omega) h1
      · have := (h.bks i (by omega)).1.lt; omega
  · exact (f1.trans f9 (fun _ _ q => False.elim q) (fun i hi e => Or.inr (rl i e).1)).trans fs (fun _ _ q => q) (fun i hi e => Or.inl e)
end Go.Proofs.YtppmednmcbjafaaGreat
end

section
set_option linter.unusedVariables false
set_option linter.unusedSimpArgs false
set_option maxRecDepth 100000
namespace Go.Proofs.YtppmednmcbjafaaGreat
open Go.RowKit Go Go.Maps Go.Lib

theorem NwE.drew {w1 w : World} {id : Int} {N : Nat} {M T sd : Int} {p : Value} (h : NwE w1.drew w id N M T sd p) : NwE w1 w id N M T sd p := by
  obtain ⟨s0, s1, k, g, B, c, l, z, h1, h2, h3, h4, h5⟩ := h
  exact ⟨s0, s1, k, g, B, c, l, z, h1, h2, h3, h4, ((Fr.refl noB w1).drewN 1).seqN h5⟩
set_option maxHeartbeats 8000000 in
theorem rag_new (id : Int) (cf : Cf) (w : World) (hm : cf.may id) : Calls Tryz.prog 12 #[.int .i64 id, .agg cf.cs.toArray] w fun e w' => ∃ z col, e = .returned (.pointer (some ⟨z, 0, none⟩)) ∧ (∃ d, RA w' z col 0 (AG.new id cf) d) ∧ Fr noB w w' ∧ ∀ q, q < w.heap.size → col q = 0 := by
  have hfin := fun (H : Nat) (w : World) (s0 s1 k g B c l z bs bc : Nat) (b : Nat → Nat) h h2 h3 h4 h5 h6 h7 h8 => ra_new (H := H) (w := w) (s0 := s0) (s1 := s1) (k := k) (g := g) (B := B) (c := c) (l := l) (z := z) (bs := bs) (bc := bc) (b := b) hm h h2 h3 h4 h5 h6 h7 h8
  obtain ⟨⟨m0, m1⟩, ⟨n0, n1⟩, ⟨t0, t1⟩, ⟨b0, b1⟩, ⟨r0, r1⟩, i0', i1'⟩ := hm
  obtain ⟨M, N0, T, J, sd, bB, bR⟩ := cf
  simp only at m0 m1 n0 n1 t0 t1 b0 b1 r0 r1 i1'
  obtain ⟨N, rfl⟩ : ∃ N : Nat, N0 = (N : Int) := ⟨N0.toNat, by omega⟩
  unfold Cf.cs
  simp only [Int.toNat_natCast] at hfin ⊢
  have fX := (Fr.refl noB w).alloc (.cells #[.int .i64 M, .int .i64 N, .int .i64 T, .int .i64 J, .int .u64 sd, .int .i64 bB, .int .i64 bR] 24)
  have bX := Blk.new w 24 [.int .i64 M, .int .i64 N, .int .i64 T, .int .i64 J, .int .u64 sd, .int .i64 bB, .int .i64 bR]
  have hkn := fun w' => KR.rknew_any N sd w' (by omega)
  have hbn := fun w' => rnew_any bB bR w' ⟨b0, b1, r0, r1⟩
  obtain ⟨i0, hi0, hz0, hz1, hz2⟩ := infoPB
  replace hkn := Lib.hid hkn
  replace hbn := Lib.hid hbn
  replace hfin := Lib.hid hfin
  clear m0 m1 n0 n1 t0 t1 b0 b1 r0 r1 i0' i1'
  go_enter Tryz.func12, Tryz.ntmps12
  go_upto_region 1 with fail
  generalize (w.alloc (.cells #[.int .i64 M, .int .i64 N, .int .i64 T, .int .i64 J, .int .u64 sd, .int .i64 bB, .int .i64 bR] 24)) = w1 at *
  obtain ⟨gX, hgX⟩ : ∃ g, w.heap.size = g := ⟨_, rfl⟩
  rw [hgX] at bX
  try rw [hgX]
  have hgw : gX < w1.heap.size := bX.lt
  have hS : ∀ w', Fr noB w1 w' → (w'.cell? ⟨gX, 0, none⟩ = some (.int .i64 M) ∧ w'.cell? ⟨gX, 1, none⟩ = some (.int .i64 N) ∧ w'.cell? ⟨gX, 2, none⟩ = some (.int .i64 T) ∧ w'.cell? ⟨gX, 4, none⟩ = some (.int .u64 sd)) := fun w' f => ⟨f.cell (bX.cell 0) (fun q => q), f.cell (bX.cell 1) (fun q => q), f.cell (bX.cell 2) (fun q => q), f.cell (bX.cell 4) (fun q => q)⟩
  replace hgX := Lib.hid hgX
  replace hS := Lib.hid hS
  replace bX := Lib.hid bX
  go_cut [5] from 9 to 24 (fun p wx => NwE w1 wx id N M T sd p)
  case first =>
    go_region_held3 (fun w' => w'.cell? ⟨gX, 0, none⟩ = some (.int .i64 M) ∧ w'.cell? ⟨gX, 1, none⟩ = some (.int .i64 N) ∧ w'.cell? ⟨gX, 2, none⟩ = some (.int .i64 T) ∧ w'.cell? ⟨gX, 4, none⟩ = some (.int .u64 sd))
      (first
        | exact hS.out _ ((Fr.refl noB _).drewN 1)
        | exact hS.out _ (((Fr.refl noB _).drewN 1).alloc _)
        | exact hS.out _ ((((Fr.refl noB _).drewN 1).alloc _).alloc _)
        | exact hS.out _ (((((Fr.refl noB _).drewN 1).alloc _).alloc _).alloc _)
        | exact hS.out _ fKK
        | exact hS.out _ (fKK.alloc _)
        | exact hS.out _ ((fKK.alloc _).alloc _)
        | exact hS.out _ (((fKK.alloc _).alloc _).alloc _)
        | fail)
      (first
        | (go_at_call 45; refine (hkn.out _).mono ?_; rintro e wK ⟨k, g, B, rfl, kx, fK⟩; have fKK : Fr noB w1 wK := by first | exact ((Fr.refl noB w1).drewN 1).seqN fK | exact (((Fr.refl noB w1).drewN 1).alloc _).seqN fK | exact ((((Fr.refl noB w1).drewN 1).alloc _).alloc _).seqN fK)
        | fail)
    all_goals (go_wp2_with fail; go_meet)
    all_goals (first
      | exact NwE.drew (nwKCL kx fK)
      | exact NwE.drew (nwKLC kx fK)
      | exact NwE.drew (nwCKL kx fK)
      | exact NwE.drew (nwLKC kx fK)
      | exact NwE.drew (nwCLK kx fK)
      | exact NwE.drew (nwLCK kx fK)
      | fail)
  case rest =>
    obtain ⟨s0, s1, k, g, B, c, l, z, rfl, hN, hA, hz, fx⟩ := hcut
    have hB := fx.blk bX.out (fun q => q)
    have hzl : z < wc.heap.size := hA.lt
    have hz0' : w1.heap.size ≤ z := by have := hN.lo; omega
    have h0 : Bj wc.heap.size wc z 0 id k c l bB bR (fun _ => 0) none 0 := ⟨hA, by simpa using World.ownsRow_nil wc wc.heap.size 115 1, fun i hi => absurd hi (Nat.not_lt_zero _), fun i j hi => absurd hi (Nat.not_lt_zero _), fun i g hi => absurd hi (Nat.not_lt_zero _)⟩
    replace h0 := Lib.hid h0
    replace hN := Lib.hid hN
    replace hz := Lib.hid hz
    replace hB := Lib.hid hB
    clear hA
    go_wp2_with fail
    go_loopw [6] (fun vi wr => ∃ (q : Nat) (b : Nat → Nat) (ba : Option Addr) (bc : Nat), q ≤ 4 ∧ vi = .int .i64 q ∧ Hid (Bj wc.heap.size wr z q id k c l bB bR b ba bc) ∧ Hid (Fr (fun x => z ≤ x) wc wr)) (fun vi _ => 4 - (RowKit.intOf vi).toNat)
    case atStart => exact ⟨0, fun _ => 0, none, 0, by omega, rfl, h0, Lib.hid (Fr.refl _ _)⟩
    case round =>
      clear h0
      obtain ⟨q, b, ba, bc, hq, rfl, hJ, hf⟩ := hrel
      by_cases hlt : q < 4
      · have bc' := hf.out.blk hB.out (fun e => by omega)
        have x5 : wr.cell? ⟨gX, 5, none⟩ = some (.int .i64 bB) := bc'.cell 5
        have x6 : wr.cell? ⟨gX, 6, none⟩ = some (.int .i64 bR) := bc'.cell 6
        have hsz : wc.heap.size ≤ wr.heap.size := hf.out.size
        clear bc'
        go_wp2_with fail
        go_fit (hbn.out wr)
        rintro e w3 ⟨rfl, hw3⟩
        have f3 : Fr noB wr w3 := by rw [hw3]; exact (Fr.refl noB wr).alloc _
        have z4 : w3.cell? ⟨z, 4, none⟩ = some (.slice ba q bc) := f3.cell (hJ.out.ag.cell 4) (fun q => q)
        have fP : Fr noB w3 (w3.alloc (.cells #[.pointer (some ⟨wr.heap.size, 0, none⟩)] 115)) := (Fr.refl noB w3).alloc _
        have oP := ownsRow_fr (ownsRow_fr hJ.out.own f3 (fun _ _ q => q)) fP (fun _ _ q => q)
        have cP := cell_new w3 (.pointer (some ⟨wr.heap.size, 0, none⟩)) 115
        have hs3 : wc.heap.size ≤ (w3.alloc (.cells #[.pointer (some ⟨wr.heap.size, 0, none⟩)] 115)).heap.size := Nat.le_trans hsz (f3.seqN fP).size
        have zP : (w3.alloc (.cells #[.pointer (some ⟨wr.heap.size, 0, none⟩)] 115)).cell? ⟨z, 4, none⟩ = some (.slice ba q bc) := fP.cell z4 (fun q => q)
        replace hw3 := Lib.hid hw3
        replace hs3 := Lib.hid hs3
        have hz4 : z < wc.heap.size := hzl
        clear x5 x6 fP f3
        go_wp2_with (first
          | (at_builtin; go_must (refine wpList_append_at _ rfl (.tmp 41) (.tmp 43) 45 rfl wc.heap.size 115 i0 _ 1 8 Tryz.underlying45 hi0 hz0 hz1 hz2 rfl (by decide) _ q _ rfl oP ⟨w3.heap.size, 0, none⟩ 1 1 [.pointer (some ⟨wr.heap.size, 0, none⟩)] rfl rfl cP (by intro u hu; obtain rfl := List.mem_singleton.1 hu; rfl) ?_ ?_ hs3.out ?_))
          | fail)
        · unfold maxLen; omega
        · omega
        intro v9 w9 o9 gr9 mv9
        obtain ⟨a9, c9, rfl⟩ := ownsRow_slice o9
        obtain rfl := hw3.out.symm
        obtain ⟨hJ9, f9⟩ := Bj.next hJ.out hz4 hsz o9 gr9 mv9
        have hf9 : Fr (fun x => z ≤ x) wc (w9.setCell ⟨z, 4, none⟩ (.slice a9 (q + 1) c9)) := hf.out.trans f9 (fun _ _ q => q) (fun i hi e => by rcases e with e | e <;> omega)
        have fz : w9.frozen? ⟨z, 4, none⟩ = false := by
          have h1 : Fr (fun x => (Value.slice ba q bc).ownBlock = some x) _ w9 := (Fr.refl _ _).grown gr9 (fun k hk _ => hk)
          have h2 := h1.blk ((((Fr.refl noB wr).alloc _).alloc _).blk hJ.out.ag (fun q => q)) (fun e => by have := (hJ.out.own.lt z e).1; omega)
          exact h2.frozen 4
        have k9 : w9.cell? ⟨z, 4, none⟩ = some (.slice ba q bc) := by
          have h1 : Fr (fun x => (Value.slice ba q bc).ownBlock = some x) _ w9 := (Fr.refl _ _).grown gr9 (fun k hk _ => hk)
          have h2 := h1.blk ((((Fr.refl noB wr).alloc _).alloc _).blk hJ.out.ag (fun q => q)) (fun e => by have := (hJ.out.own.lt z e).1; omega)
          exact h2.cell 4
        replace hJ9 := Lib.hid hJ9
        replace hf9 := Lib.hid hf9
        clear oP cP zP z4 o9 gr9 mv9 hs3
        go_wp2_with fail
        go_roundw
        case rel => exact ⟨q + 1, _, a9, c9, by omega, by go_num, hJ9, hf9⟩
        case measure => simp [RowKit.intOf]; omega
      · obtain rfl : q = 4 := by omega
        obtain ⟨bs, bcc, hbs, hbH⟩ := ownsRow_some hJ.out.own (by omega)
        injection hbs with e1 _ e3
        subst e1 e3
        have hA := hJ.out.ag
        have hbsl := (hJ.out.own.lt bs rfl).2
        have hp : ∀ i, i < 4 → wr.cell? ⟨bs, i, none⟩ = some (.pointer (some ⟨b i, 0, none⟩)) := fun i hi => by
          have h1 := hJ.out.own.cells (g := bs) rfl i (.pointer (some ⟨b i, 0, none⟩)) (by rw [List.getElem?_map, List.getElem?_range hi]; rfl)
          rw [Addr.add_lit, Nat.zero_add] at h1
          exact h1
        have hN2 := hN.out.fr hz.out hf.out (fun q hq => by omega)
        obtain ⟨hR, hlo⟩ := hfin.out _ _ _ _ _ _ _ _ _ _ bs bc b hN2 hA hz.out (fun i hi => ⟨(hJ.out.bks i hi).1, by have := (hJ.out.bks i hi).2; omega⟩) (fun i j hi hj hij => hJ.out.ne i j hi hj hij) ⟨by omega, fun i hi => hJ.out.rn i bs hi rfl⟩ hp hbsl
        have ff : Fr noB w wr := (fX.seqN fx).trans hf.out (fun _ _ q => q) (fun i hi q => by have := fX.size; omega)
        replace hR := Lib.hid hR
        replace hlo := Lib.hid hlo
        clear hp hN2 hA hJ
        go_wp2_with fail
        go_ret
        exact ⟨z, rfl, _, hR.out, ff, fun q hq => hlo.out q (by have := fX.size; omega)⟩
end Go.Proofs.YtppmednmcbjafaaGreat
end
