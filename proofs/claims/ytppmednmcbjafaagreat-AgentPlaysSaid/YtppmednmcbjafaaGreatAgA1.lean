/-
  An agent by its numbers, and where it lies; what its parts' calls make of it.
  An agent's calls: what is asked, spans, crumbs, triggers.
  An agent's calls: triggers, ticks.
  An agent's time goes on.
-/
import Derived.Test.YtppmednmcbjafaaGreatKeepOp
import Derived.Test.YtppmednmcbjafaaGreatCrumbAddA
import Derived.Test.YtppmednmcbjafaaGreatTickA
import Derived.Test.YtppmednmcbjafaaGreatBucketWalks
import Derived.Test.YtppmednmcbjafaaGreatMsMayA
section
set_option linter.unusedVariables false
set_option linter.unusedSimpArgs false
set_option maxRecDepth 100000
set_option maxRecDepth 100000
set_option maxRecDepth 10000
namespace Go.Proofs.YtppmednmcbjafaaGreat
open Go.RowKit Go Go.Maps Go.Lib

/-- an agent: its number, buffers, agents; its keeper, crumbs, leases, buckets (levels, taken), the greatest job let go -/
structure AG where
  id : Int
  N : Nat
  M : Int
  K : KS
  X : Int → List Int
  T : Int
  now : Int
  hold : Int → Option (Int × Int)
  over : Int → Int
  bB : Int
  bR : Int
  bc : Nat → Int
  bd : Nat → Int
  done : Int → Int
def AG.job (A : AG) (t : Int) : Int := ((A.hold t).getD (0, 0)).1
/-- what is always so: who is held is pinned, for a job, of a trace that there may be -/
structure AG.Inv (A : AG) : Prop where
  rng : ∀ t x, A.hold t = some x → (1 ≤ t ∧ t ≤ 65535) ∧ 1 ≤ x.1
  pin : ∀ t, t ∈ A.K.pins ↔ (A.hold t).isSome
  over : ∀ t, 0 ≤ A.over t
  done : ∀ t, 0 ≤ A.done t
/-- where it lies -/
structure Ad where
  k : Nat
  g : Nat
  bp : Nat
  bl : Nat
  B : Nat
  wa : Option Addr
  wc : Nat
  cg : Nat
  cm : Nat
  cB : Nat
  cn : Nat
  CM : List (Int × SV)
  lg : Nat
  lh : Nat
  lo : Nat
  G : List Int
  H : List (Int × (Int × Int))
  O : List (Int × Int)
  b : Nat → Nat
  dm : Nat
  D : List (Int × Int)
def ptr (g : Nat) : Value := .pointer (some ⟨g, 0, none⟩)
def agC (A : AG) (a : Ad) : List Value := [.int .i64 A.id, .pointer (some ⟨a.k, 0, none⟩), .pointer (some ⟨a.cg, 0, none⟩), .pointer (some ⟨a.lg, 0, none⟩), .pointer (some ⟨a.b 0, 0, none⟩), .pointer (some ⟨a.b 1, 0, none⟩), .pointer (some ⟨a.b 2, 0, none⟩), .pointer (some ⟨a.b 3, 0, none⟩), .map (some a.dm)]
def Bkt (w : World) (g : Nat) (A : AG) (i : Nat) : Prop := Blk w g 158 (bk A.bB A.bR (A.bc i) (A.bd i))
/-- it lies so, and is coloured so: what is not coloured is none of its -/
structure AgA (w : World) (p : Nat) (col : Nat → Nat) (n : Nat) (A : AG) (a : Ad) : Prop where
  blk : Blk w p 112 (agC A a)
  kp : Kp w a.k a.g a.bp a.bl a.B A.N a.wa a.wc A.K
  cm : Cm w a.cg a.cm a.cB a.cn A.M A.X a.CM
  ls : Ls w a.lg a.lh a.lo a.G A.T A.now a.H a.O
  hH : ∀ t, look a.H t = A.hold t
  hO : ∀ t, (look a.O t).getD 0 = A.over t
  k : ∀ i, i < 4 → Bkt w (a.b i) A i
  kb : (0 ≤ A.bB ∧ A.bB ≤ 1000) ∧ (0 ≤ A.bR ∧ A.bR ≤ 1000) ∧ ∀ i, i < 4 → (0 ≤ A.bc i ∧ A.bc i ≤ 1000) ∧ 0 ≤ A.bd i ∧ A.bd i ≤ n
  dm : Mp Tryz.prog 3 klI mkI w a.dm a.D.length a.D
  hD : ∀ t, (look a.D t).getD 0 = A.done t
  c1 : ∀ q, kpS a.k a.g a.bp a.bl a.wa q → col q = 1
  c2 : ∀ q, cmB w a.cg a.cm a.cB a.CM q → col q = 2
  c3 : ∀ q, lsB a.lg a.lh a.lo q → col q = 3
  c4 : ∀ i, i < 4 → col (a.b i) = 4 + i
  c8 : col a.dm = 8
  c9 : col p = 9
  low : ∀ q, col q ≠ 0 → q < w.heap.size
  z1 : A.now ≤ n ∧ a.G.length ≤ n ∧ a.cn ≤ n ∧ a.D.length ≤ n
  z2 : A.K.pins.length ≤ n ∧ A.K.loss.length ≤ n ∧ A.K.gone.length ≤ n
  zn : n ≤ 100000
  zi : 0 ≤ A.id ∧ A.id < A.M
theorem cmB_w {w w' : World} {g bm B : Nat} {M : List (Int × SV)} {q : Nat} (h : cmB w' g bm B M q) : cmB w g bm B M q := h
theorem AgA.fr {w w' : World} {p : Nat} {col : Nat → Nat} {n : Nat} {A : AG} {a : Ad} {S : Nat → Prop} (h : AgA w p col n A a) (hf : Fr S w w') (hS : ∀ q, col q ≠ 0 → ¬ S q) : AgA w' p col n A a := by
  have e : ∀ q c, col q = c → c ≠ 0 → ¬ S q := fun q c h1 h2 => hS q (by rw [h1]; exact h2)
  exact ⟨hf.blk h.blk (e _ _ h.c9 (by decide)), h.kp.fr hf (fun q hq => e _ _ (h.c1 q hq) (by decide)), h.cm.fr hf (fun q hq => e _ _ (h.c2 q hq) (by decide)), h.ls.fr hf (fun q hq => e _ _ (h.c3 q hq) (by decide)), h.hH, h.hO,
    fun i hi => hf.blk (h.k i hi) (e _ _ (h.c4 i hi) (by omega)), h.kb, h.dm.fr hf (e _ _ h.c8 (by decide)), h.hD,
    h.c1, fun q hq => h.c2 q (cmB_w hq), h.c3, h.c4, h.c8, h.c9, fun q hq => Nat.lt_of_lt_of_le (h.low q hq) hf.size, h.z1, h.z2, h.zn, h.zi⟩
theorem AgA.frN {w w' : World} {p : Nat} {col : Nat → Nat} {n : Nat} {A : AG} {a : Ad} (h : AgA w p col n A a) (hf : Fr noB w w') : AgA w' p col n A a := h.fr hf (fun _ _ q => q)
theorem AgA.up {w : World} {p : Nat} {col : Nat → Nat} {n m : Nat} {A : AG} {a : Ad} (h : AgA w p col n A a) (hm : n ≤ m) (h1 : m ≤ 100000) : AgA w p col m A a := by
  obtain ⟨x1, x2, x3, x4⟩ := h.z1
  obtain ⟨y1, y2, y3⟩ := h.z2
  obtain ⟨u1, u2, u3⟩ := h.kb
  exact { h with kb := ⟨u1, u2, fun i hi => ⟨(u3 i hi).1, (u3 i hi).2.1, by have := (u3 i hi).2.2; omega⟩⟩, z1 := ⟨by omega, by omega, by omega, by omega⟩, z2 := ⟨by omega, by omega, by omega⟩, zn := h1 }

/-- new blocks' colour -/
noncomputable def recol (n0 : Nat) (col : Nat → Nat) (S : Nat → Prop) (c : Nat) : Nat → Nat := fun q => open Classical in if q < n0 then col q else if S q then c else 0
theorem recol_lt {n0 : Nat} {col : Nat → Nat} {S : Nat → Prop} {c q : Nat} (h : q < n0) : recol n0 col S c q = col q := by unfold recol; rw [if_pos h]
theorem recol_in {n0 : Nat} {col : Nat → Nat} {S : Nat → Prop} {c q : Nat} (h : S q) (h2 : q < n0 → col q = c) : recol n0 col S c q = c := by
  unfold recol
  by_cases h1 : q < n0
  · rw [if_pos h1]; exact h2 h1
  · rw [if_neg h1, if_pos h]
theorem recol_low {n0 : Nat} {col : Nat → Nat} {S : Nat → Prop} {c q : Nat} (h : recol n0 col S c q ≠ 0) : q < n0 ∨ S q := by
  unfold recol at h
  by_cases h1 : q < n0
  · exact Or.inl h1
  · rw [if_neg h1] at h
    by_cases h2 : S q
    · exact Or.inr h2
    · rw [if_neg h2] at h; exact absurd rfl h

/-- what a call makes of an agent -/
def ATo (w w' : World) (p : Nat) (col : Nat → Nat) (n : Nat) (A : AG) (col' : Nat → Nat) : Prop := (∃ a, AgA w' p col' n A a) ∧ Fr (fun q => col q ≠ 0) w w' ∧ ∀ q, q < w.heap.size → col' q = col q
theorem ATo.same {w w' : World} {p : Nat} {col : Nat → Nat} {n : Nat} {A : AG} {a : Ad} (h : AgA w p col n A a) (hf : Fr noB w w') : ATo w w' p col n A col := ⟨⟨a, h.frN hf⟩, hf.mono (fun _ _ q => False.elim q), fun _ _ => rfl⟩
theorem ATo.trans {w w1 w2 : World} {p : Nat} {col c1 c2 : Nat → Nat} {n m : Nat} {A B : AG} (h : ATo w w1 p col n A c1) (k : ATo w1 w2 p c1 m B c2) : ATo w w2 p col m B c2 := by
  obtain ⟨⟨a, ha⟩, f, hc⟩ := h
  obtain ⟨hb, f2, hc2⟩ := k
  exact ⟨hb, f.trans f2 (fun _ _ q => q) (fun i hi q => by rw [hc i hi] at q; exact q), fun q hq => (hc2 q (Nat.lt_of_lt_of_le hq f.size)).trans (hc q hq)⟩
/-- a call amid new memory of the caller's -/
theorem ATo.wrap {w wA w2 w9 : World} {p : Nat} {col c2 : Nat → Nat} {n : Nat} {A' : AG} {S : Nat → Prop} (hlow : ∀ q, col q ≠ 0 → q < w.heap.size) (f : Fr noB w wA) (h : ATo wA w2 p col n A' c2) (f9 : Fr S w2 w9) (hS : ∀ q, S q → w.heap.size ≤ q ∧ q < wA.heap.size) : ATo w w9 p col n A' c2 := by
  obtain ⟨⟨a, ha⟩, f2, hc⟩ := h
  have h0 : ∀ q, S q → c2 q = 0 := fun q hq => by
    obtain ⟨h1, h2⟩ := hS q hq
    rw [hc q h2]
    rcases Nat.eq_zero_or_pos (col q) with e | e
    · exact e
    · have := hlow q (by omega); omega
  refine ⟨⟨a, ha.fr f9 (fun q hq hs => hq (h0 q hs))⟩, ?_, fun q hq => hc q (Nat.lt_of_lt_of_le hq f.size)⟩
  have g1 : Fr (fun q => col q ≠ 0) w w2 := f.trans f2 (fun _ _ q => False.elim q) (fun _ _ q => q)
  exact g1.trans f9 (fun _ _ q => q) (fun i hi q => by have := (hS i q).1; omega)
theorem ATo.wrapN {w wA w2 w9 : World} {p : Nat} {col c2 : Nat → Nat} {n : Nat} {A' : AG} (f : Fr noB w wA) (h : ATo wA w2 p col n A' c2) (f9 : Fr noB w2 w9) : ATo w w9 p col n A' c2 := by
  obtain ⟨⟨a, ha⟩, f2, hc⟩ := h
  exact ⟨⟨a, ha.frN f9⟩, (f.trans f2 (fun _ _ q => False.elim q) (fun _ _ q => q)).seqN f9, fun q hq => hc q (Nat.lt_of_lt_of_le hq f.size)⟩

/-! ### its parts' calls -/
theorem AgA.keeper {w w' : World} {p : Nat} {col : Nat → Nat} {n m : Nat} {A : AG} {a : Ad} {K' : KS} (h : AgA w p col n A a) (kt : KTo w w' a.k a.g a.bp a.bl a.B A.N a.wa K') (hm : n ≤ m) (hn : m ≤ 100000) (hz : K'.pins.length ≤ m ∧ K'.loss.length ≤ m ∧ K'.gone.length ≤ m) : ∃ c2, ATo w w' p col m { A with K := K' } c2 := by
  obtain ⟨wa', wc', kp, f, hb⟩ := kt
  have hu := h.up hm hn
  have e : ∀ q c, col q = c → c ≠ 1 → ¬ kpS a.k a.g a.bp a.bl a.wa q := fun q c h1 h2 h3 => h2 (by rw [← h1]; exact h.c1 q h3)
  have lo : ∀ q c, col q = c → c ≠ 0 → recol w.heap.size col (kpS a.k a.g a.bp a.bl wa') 1 q = c := fun q c h1 h2 => by
    rw [recol_lt (h.low q (by rw [h1]; exact h2)), h1]
  refine ⟨recol w.heap.size col (kpS a.k a.g a.bp a.bl wa') 1, ⟨{ a with wa := wa', wc := wc' }, ?_⟩, f.mono (fun q _ hq => by rw [h.c1 q hq]; decide), fun q hq => recol_lt hq⟩
  exact ⟨f.blk h.blk (e _ _ h.c9 (by decide)), kp, h.cm.fr f (fun q hq => e _ _ (h.c2 q hq) (by decide)), h.ls.fr f (fun q hq => e _ _ (h.c3 q hq) (by decide)), h.hH, h.hO,
    fun i hi => f.blk (h.k i hi) (e _ _ (h.c4 i hi) (by omega)), hu.kb, h.dm.fr f (e _ _ h.c8 (by decide)), h.hD,
    fun q hq => recol_in hq (fun hl => h.c1 q (hb q hl hq)), fun q hq => lo _ _ (h.c2 q (cmB_w hq)) (by decide), fun q hq => lo _ _ (h.c3 q hq) (by decide), fun i hi => lo _ _ (h.c4 i hi) (by omega), lo _ _ h.c8 (by decide), lo _ _ h.c9 (by decide),
    fun q hq => by
      rcases recol_low hq with h1 | h1
      · exact Nat.lt_of_lt_of_le h1 f.size
      · exact kp.low h1, hu.z1, hz, hn, h.zi⟩
theorem AgA.lease {w w' : World} {p : Nat} {col : Nat → Nat} {n m : Nat} {A : AG} {a : Ad} {G : List Int} {now : Int} {H : List (Int × (Int × Int))} {O : List (Int × Int)} {hold : Int → Option (Int × Int)} {over : Int → Int} (h : AgA w p col n A a) (ls : Ls w' a.lg a.lh a.lo G A.T now H O) (f : Fr (lsB a.lg a.lh a.lo) w w') (hm : n ≤ m) (hn : m ≤ 100000)
    (hH : ∀ t, look H t = hold t) (hO : ∀ t, (look O t).getD 0 = over t) (hz : now ≤ m ∧ G.length ≤ m) : ATo w w' p col m { A with now := now, hold := hold, over := over } col := by
  have hu := h.up hm hn
  have e : ∀ q c, col q = c → c ≠ 3 → ¬ lsB a.lg a.lh a.lo q := fun q c h1 h2 h3 => h2 (by rw [← h1]; exact h.c3 q h3)
  refine ⟨⟨{ a with G := G, H := H, O := O }, ?_⟩, f.mono (fun q _ hq => by rw [h.c3 q hq]; decide), fun q hq => rfl⟩
  exact ⟨f.blk h.blk (e _ _ h.c9 (by decide)), h.kp.fr f (fun q hq => e _ _ (h.c1 q hq) (by decide)), h.cm.fr f (fun q hq => e _ _ (h.c2 q hq) (by decide)), ls, hH, hO,
    fun i hi => f.blk (h.k i hi) (e _ _ (h.c4 i hi) (by omega)), hu.kb, h.dm.fr f (e _ _ h.c8 (by decide)), h.hD,
    h.c1, fun q hq => h.c2 q (cmB_w hq), h.c3, h.c4, h.c8, h.c9, fun q hq => Nat.lt_of_lt_of_le (h.low q hq) f.size, ⟨hz.1, hz.2, hu.z1.2.2.1, hu.z1.2.2.2⟩, hu.z2, hn, h.zi⟩
theorem AgA.letgo {w w' : World} {p : Nat} {col : Nat → Nat} {n m : Nat} {A : AG} {a : Ad} {D : List (Int × Int)} {done : Int → Int} (h : AgA w p col n A a) (dm : Mp Tryz.prog 3 klI mkI w' a.dm D.length D) (f : Fr (onlyB a.dm) w w') (hm : n ≤ m) (hn : m ≤ 100000)
    (hD : ∀ t, (look D t).getD 0 = done t) (hz : D.length ≤ m) : ATo w w' p col m { A with done := done } col := by
  have hu := h.up hm hn
  have e : ∀ q c, col q = c → c ≠ 8 → ¬ onlyB a.dm q := fun q c h1 h2 h3 => h2 (by unfold onlyB at h3; rw [← h1, h3]; exact h.c8)
  refine ⟨⟨{ a with D := D }, ?_⟩, f.mono (fun q _ hq => by unfold onlyB at hq; rw [hq, h.c8]; decide), fun q hq => rfl⟩
  exact ⟨f.blk h.blk (e _ _ h.c9 (by decide)), h.kp.fr f (fun q hq => e _ _ (h.c1 q hq) (by decide)), h.cm.fr f (fun q hq => e _ _ (h.c2 q hq) (by decide)), h.ls.fr f (fun q hq => e _ _ (h.c3 q hq) (by decide)), h.hH, h.hO,
    fun i hi => f.blk (h.k i hi) (e _ _ (h.c4 i hi) (by omega)), hu.kb, dm, hD,
    h.c1, fun q hq => h.c2 q (cmB_w hq), h.c3, h.c4, h.c8, h.c9, fun q hq => Nat.lt_of_lt_of_le (h.low q hq) f.size, ⟨hu.z1.1, hu.z1.2.1, hu.z1.2.2.1, hz⟩, hu.z2, hn, h.zi⟩
theorem AgA.crumb {w w' : World} {p : Nat} {col : Nat → Nat} {n m cn : Nat} {A : AG} {a : Ad} {X : Int → List Int} {CM : List (Int × SV)} {S : Nat → Prop} (h : AgA w p col n A a) (cm : Cm w' a.cg a.cm a.cB cn A.M X CM) (f : Fr S w w') (hS : ∀ q, S q → cmB w a.cg a.cm a.cB a.CM q) (hm : n ≤ m) (hn : m ≤ 100000)
    (hb : ∀ q, q < w.heap.size → cmB w' a.cg a.cm a.cB CM q → cmB w a.cg a.cm a.cB a.CM q) (hz : cn ≤ m) : ∃ c2, ATo w w' p col m { A with X := X } c2 := by
  have hu := h.up hm hn
  have e : ∀ q c, col q = c → c ≠ 2 → ¬ S q := fun q c h1 h2 h3 => h2 (by rw [← h1]; exact h.c2 q (hS q h3))
  have lo : ∀ q c, col q = c → c ≠ 0 → recol w.heap.size col (cmB w' a.cg a.cm a.cB CM) 2 q = c := fun q c h1 h2 => by
    rw [recol_lt (h.low q (by rw [h1]; exact h2)), h1]
  refine ⟨recol w.heap.size col (cmB w' a.cg a.cm a.cB CM) 2, ⟨{ a with cn := cn, CM := CM }, ?_⟩, f.mono (fun q _ hq => by rw [h.c2 q (hS q hq)]; decide), fun q hq => recol_lt hq⟩
  exact ⟨f.blk h.blk (e _ _ h.c9 (by decide)), h.kp.fr f (fun q hq => e _ _ (h.c1 q hq) (by decide)), cm, h.ls.fr f (fun q hq => e _ _ (h.c3 q hq) (by decide)), h.hH, h.hO,
    fun i hi => f.blk (h.k i hi) (e _ _ (h.c4 i hi) (by omega)), hu.kb, h.dm.fr f (e _ _ h.c8 (by decide)), h.hD,
    fun q hq => lo _ _ (h.c1 q hq) (by decide), fun q hq => recol_in hq (fun hl => h.c2 q (hb q hl hq)), fun q hq => lo _ _ (h.c3 q hq) (by decide), fun i hi => lo _ _ (h.c4 i hi) (by omega), lo _ _ h.c8 (by decide), lo _ _ h.c9 (by decide),
    fun q hq => by
      rcases recol_low hq with h1 | h1
      · exact Nat.lt_of_lt_of_le h1 f.size
      · rcases h1 with e1 | e1 | ⟨x, hx, e1⟩
        · rw [e1]; exact cm.blk.lt
        · rw [e1]; exact cm.mp.lt
        · exact ((cm.row x hx).1.lt q e1).2, ⟨hu.z1.1, hu.z1.2.1, hz, hu.z1.2.2.2⟩, hu.z2, hn, h.zi⟩
theorem AgA.bucketA {w w' : World} {p : Nat} {col : Nat → Nat} {n m i : Nat} {A : AG} {a : Ad} {c d : Int} (h : AgA w p col n A a) (hi : i < 4) (hk : Blk w' (a.b i) 158 (bk A.bB A.bR c d)) (f : Fr (onlyB (a.b i)) w w') (hm : n ≤ m) (hn : m ≤ 100000)
    (hz : (0 ≤ c ∧ c ≤ 1000) ∧ 0 ≤ d ∧ d ≤ m) : AgA w' p col m { A with bc := fun q => if q = i then c else A.bc q, bd := fun q => if q = i then d else A.bd q } a := by
  have hu := h.up hm hn
  have e : ∀ q c, col q = c → c ≠ 4 + i → ¬ onlyB (a.b i) q := fun q c h1 h2 h3 => h2 (by unfold onlyB at h3; rw [← h1, h3]; exact h.c4 i hi)
  exact ⟨f.blk h.blk (e _ _ h.c9 (by omega)), h.kp.fr f (fun q hq => e _ _ (h.c1 q hq) (by omega)), h.cm.fr f (fun q hq => e _ _ (h.c2 q hq) (by omega)), h.ls.fr f (fun q hq => e _ _ (h.c3 q hq) (by omega)), h.hH, h.hO,
    fun j hj => by
      by_cases hji : j = i
      · subst hji
        unfold Bkt
        simp only [if_true]
        exact hk
      · unfold Bkt
        simp only [if_neg hji]
        exact f.blk (h.k j hj) (e _ _ (h.c4 j hj) (by omega)), ⟨hu.kb.1, hu.kb.2.1, fun j hj => by
      by_cases hji : j = i
      · simp only [if_pos hji]; exact hz
      · simp only [if_neg hji]; exact hu.kb.2.2 j hj⟩, h.dm.fr f (e _ _ h.c8 (by omega)), h.hD,
    h.c1, fun q hq => h.c2 q (cmB_w hq), h.c3, h.c4, h.c8, h.c9, fun q hq => Nat.lt_of_lt_of_le (h.low q hq) f.size, hu.z1, hu.z2, hn, h.zi⟩
theorem AgA.bucket {w w' : World} {p : Nat} {col : Nat → Nat} {n m i : Nat} {A : AG} {a : Ad} {c d : Int} (h : AgA w p col n A a) (hi : i < 4) (hk : Blk w' (a.b i) 158 (bk A.bB A.bR c d)) (f : Fr (onlyB (a.b i)) w w') (hm : n ≤ m) (hn : m ≤ 100000)
    (hz : (0 ≤ c ∧ c ≤ 1000) ∧ 0 ≤ d ∧ d ≤ m) : ATo w w' p col m { A with bc := fun q => if q = i then c else A.bc q, bd := fun q => if q = i then d else A.bd q } col :=
  ⟨⟨a, h.bucketA hi hk f hm hn hz⟩, f.mono (fun q _ hq => by unfold onlyB at hq; rw [hq, h.c4 i hi]; omega), fun q hq => rfl⟩
/-- the keeper's calls that turn one old block -/
theorem AgA.keepA {w w' : World} {p : Nat} {col : Nat → Nat} {n m g : Nat} {A : AG} {a : Ad} {K' : KS} (h : AgA w p col n A a) (kp : Kp w' a.k a.g a.bp a.bl a.B A.N a.wa a.wc K') (f : Fr (onlyB g) w w') (hg : kpS a.k a.g a.bp a.bl a.wa g) (hm : n ≤ m) (hn : m ≤ 100000) (hz : K'.pins.length ≤ m ∧ K'.loss.length ≤ m ∧ K'.gone.length ≤ m) : AgA w' p col m { A with K := K' } a := by
  have hu := h.up hm hn
  have e : ∀ q c, col q = c → c ≠ 1 → ¬ onlyB g q := fun q c h1 h2 h3 => h2 (by unfold onlyB at h3; rw [← h1, h3]; exact h.c1 g hg)
  exact ⟨f.blk h.blk (e _ _ h.c9 (by decide)), kp, h.cm.fr f (fun q hq => e _ _ (h.c2 q hq) (by decide)), h.ls.fr f (fun q hq => e _ _ (h.c3 q hq) (by decide)), h.hH, h.hO,
    fun i hi => f.blk (h.k i hi) (e _ _ (h.c4 i hi) (by omega)), hu.kb, h.dm.fr f (e _ _ h.c8 (by decide)), h.hD,
    h.c1, fun q hq => h.c2 q (cmB_w hq), h.c3, h.c4, h.c8, h.c9, fun q hq => Nat.lt_of_lt_of_le (h.low q hq) f.size, hu.z1, hz, hn, h.zi⟩
/-- what a set of blocks keeps -/
def Kept (N : Nat → Prop) (w : World) (R : World → Prop) : Prop := ∀ w', Fr (fun q => ¬ N q) w w' → R w'
theorem Kept.now {N : Nat → Prop} {w : World} {R : World → Prop} (h : Kept N w R) : R w := h w (Fr.refl _ _)
theorem Kept.step {N S : Nat → Prop} {w w' : World} {R : World → Prop} (h : Kept N w R) (f : Fr S w w') (hS : ∀ q, S q → ¬ N q) : Kept N w' R := fun w2 f2 => h w2 (f.trans f2 (fun q _ hq => hS q hq) (fun _ _ q => q))
theorem Kept.stepN {N : Nat → Prop} {w w' : World} {R : World → Prop} (h : Kept N w R) (f : Fr noB w w') : Kept N w' R := h.step f (fun _ q => False.elim q)
theorem Kept.any {N : Nat → Prop} {w : World} {R : World → Prop} (h : ∀ u, R u) : Kept N w R := fun w' _ => h w'
theorem Kept.ints {N : Nat → Prop} {w : World} {B n : Nat} {e : TypeId} {v : Value} {xs : List Int} (o : w.ownsRow B e 1 v n (xs.map (Value.int .i64))) (hN : ∀ q, v.ownBlock = some q → N q) : Kept N w (fun u => RdI u v xs) := fun w' f => RdI.of_own (ownsRow_fr o f (fun g hg q => q (hN g hg)))
/-- the new blocks that are none of the agent's -/
def freeB (n0 : Nat) (col : Nat → Nat) : Nat → Prop := fun q => n0 ≤ q ∧ col q = 0
end Go.Proofs.YtppmednmcbjafaaGreat
end

section
set_option linter.unusedVariables false
set_option linter.unusedSimpArgs false
set_option maxRecDepth 100000
set_option maxRecDepth 10000
namespace Go.Proofs.YtppmednmcbjafaaGreat
open Go.RowKit Go Go.Maps Go.Lib

theorem inB_lim {lo hi n : Int} (h : inB lo hi n = true) : lo ≤ n ∧ n ≤ hi := by
  unfold inB at h
  simpa using h
theorem nx (n : Nat) (h : n < 100000) : n ≤ n + 1 ∧ n + 1 ≤ 100000 := by omega
section
variable (p : Nat) (col : Nat → Nat) (n : Nat) (A : AG) (a : Ad) (t : Int) (w : World)
theorem ag_job (h : AgA w p col n A a) (ht : okI t) : Calls Tryz.prog 32 #[.pointer (some ⟨p, 0, none⟩), .int .i64 t] w fun e w' => e = .returned (.int .i64 (A.job t)) ∧ w' = w := by
  have d3 : w.cell? ⟨p, 3, none⟩ = some (.pointer (some ⟨a.lg, 0, none⟩)) := h.blk.cell 3
  have hc := ljob_any _ _ _ _ _ _ t _ _ w h.ls ht
  rw [h.hH t] at hc
  clear h
  replace hc := Lib.hid hc
  go_enter Tryz.func32, Tryz.ntmps32
  go_wp2_with fail
  go_fit hc.out
  rintro e w1 ⟨rfl, hw⟩
  obtain rfl := hw.symm
  go_wp2_with fail
  go_ret
  exact ⟨rfl, rfl⟩
theorem ag_lost (h : AgA w p col n A a) (ht : okI t) : Calls Tryz.prog 34 #[.pointer (some ⟨p, 0, none⟩), .int .i64 t] w fun e w' => e = .returned (.bool (decide (t ∈ A.K.loss))) ∧ Fr noB w w' := by
  have d1 : w.cell? ⟨p, 1, none⟩ = some (.pointer (some ⟨a.k, 0, none⟩)) := h.blk.cell 1
  have hc := klost_any _ _ _ _ _ _ _ _ _ t w h.kp ht
  clear h
  generalize decide (t ∈ A.K.loss) = b at *
  replace hc := Lib.hid hc
  go_enter Tryz.func34, Tryz.ntmps34
  go_wp2_with fail
  go_fit hc.out
  rintro e w1 ⟨rfl, f⟩
  go_wp2_with fail
  go_ret
  exact ⟨rfl, f⟩
theorem ag_used (h : AgA w p col n A a) : Calls Tryz.prog 36 #[.pointer (some ⟨p, 0, none⟩)] w fun e w' => e = .returned (.int .i64 (used A.K.P)) ∧ Fr noB w w' := by
  have d1 : w.cell? ⟨p, 1, none⟩ = some (.pointer (some ⟨a.k, 0, none⟩)) := h.blk.cell 1
  have hc := kused_any _ _ _ _ _ _ _ _ _ w h.kp
  clear h
  generalize used A.K.P = b at *
  replace hc := Lib.hid hc
  go_enter Tryz.func36, Tryz.ntmps36
  go_wp2_with fail
  go_fit hc.out
  rintro e w1 ⟨rfl, f⟩
  go_wp2_with fail
  go_ret
  exact ⟨rfl, f⟩
theorem ag_spans (h : AgA w p col n A a) : Calls Tryz.prog 28 #[.pointer (some ⟨p, 0, none⟩), .int .i64 t] w fun e w' => ∃ u, e = .returned u ∧ w'.ownsRow w.heap.size 38 3 u (txt A.K.P t).length ((spansOf t (txt A.K.P t)).flatMap spC) ∧ Fr noB w w' := by
  have d1 : w.cell? ⟨p, 1, none⟩ = some (.pointer (some ⟨a.k, 0, none⟩)) := h.blk.cell 1
  have hc := kspans_any _ _ _ _ _ _ _ _ _ t w h.kp
  clear h
  generalize w.heap.size = B at *
  generalize (spansOf t (txt A.K.P t)).flatMap spC = cs at *
  generalize (txt A.K.P t).length = L at *
  replace hc := Lib.hid hc
  go_enter Tryz.func28, Tryz.ntmps28
  go_wp2_with fail
  go_fit hc.out
  rintro e w1 ⟨u, rfl, o, f⟩
  obtain ⟨ua, uc, rfl⟩ := ownsRow_slice o
  replace o := Lib.hid o
  go_wp2_with fail
  go_ret
  exact ⟨_, rfl, o.out, f⟩
theorem ag_crumbs (h : AgA w p col n A a) (ht : okI t) : Calls Tryz.prog 30 #[.pointer (some ⟨p, 0, none⟩), .int .i64 t] w fun e w' => ∃ u, e = .returned u ∧ w'.ownsRow w.heap.size 3 1 u (A.X t).length (rowV (A.X t)) ∧ Fr noB w w' := by
  have d1 : w.cell? ⟨p, 2, none⟩ = some (.pointer (some ⟨a.cg, 0, none⟩)) := h.blk.cell 2
  have hc := cof_any _ _ _ _ _ t _ _ w h.cm ht
  clear h
  generalize w.heap.size = B at *
  generalize rowV (A.X t) = cs at *
  generalize (A.X t).length = L at *
  replace hc := Lib.hid hc
  go_enter Tryz.func30, Tryz.ntmps30
  go_wp2_with fail
  go_fit hc.out
  rintro e w1 ⟨u, rfl, o, f⟩
  obtain ⟨ua, uc, rfl⟩ := ownsRow_slice o
  replace o := Lib.hid o
  go_wp2_with fail
  go_ret
  exact ⟨_, rfl, o.out, f⟩
theorem ag_evicted (h : AgA w p col n A a) : Calls Tryz.prog 38 #[.pointer (some ⟨p, 0, none⟩)] w fun e w' => ∃ u, e = .returned u ∧ w'.ownsRow w.heap.size 3 1 u A.K.gone.length (rowV A.K.gone) ∧ Fr noB w w' := by
  have d1 : w.cell? ⟨p, 1, none⟩ = some (.pointer (some ⟨a.k, 0, none⟩)) := h.blk.cell 1
  have hc := kevicted_any _ _ _ _ _ _ _ _ _ w h.kp (by have := h.z2.2.2; have := h.zn; omega)
  clear h
  generalize w.heap.size = B at *
  generalize rowV A.K.gone = cs at *
  generalize A.K.gone.length = L at *
  replace hc := Lib.hid hc
  go_enter Tryz.func38, Tryz.ntmps38
  go_wp2_with fail
  go_fit hc.out
  rintro e w1 ⟨u, rfl, o, f⟩
  obtain ⟨ua, uc, rfl⟩ := ownsRow_slice o
  replace o := Lib.hid o
  go_wp2_with fail
  go_ret
  exact ⟨_, rfl, o.out, f⟩
theorem agTrace_any : Calls Tryz.prog 50 #[.int .i64 t] w fun e w' => e = .returned (.bool (inB 1 65535 t)) ∧ w' = w := by
  unfold inB
  by_cases h1 : 1 ≤ t
  · have d1 : decide (1 ≤ t) = true := by simpa using h1
    by_cases h2 : t ≤ 65535
    · have d2 : decide (t ≤ 65535) = true := by simpa using h2
      rw [d1, d2]
      go_enter Tryz.func50, Tryz.ntmps50
      go_wp2_with fail
      go_ret
      exact ⟨rfl, rfl⟩
    · have d2 : decide (t ≤ 65535) = false := by simpa using h2
      rw [d1, d2]
      go_enter Tryz.func50, Tryz.ntmps50
      go_wp2_with fail
      go_ret
      exact ⟨rfl, rfl⟩
  · have d1 : decide (1 ≤ t) = false := by simpa using h1
    rw [d1]
    go_enter Tryz.func50, Tryz.ntmps50
    go_wp2_with fail
    go_ret
    exact ⟨rfl, rfl⟩
end

/-! ### spans -/
theorem wr_len (K : KS) (N : Nat) (t : Int) (x : ByteArray) : (K.wr N t x).pins.length ≤ K.pins.length + 1 ∧ (K.wr N t x).loss.length ≤ K.loss.length + 1 ∧ (K.wr N t x).gone.length ≤ K.gone.length + 1 := by
  unfold KS.wr
  repeat' split
  all_goals simp
set_option maxHeartbeats 2000000 in
theorem ag_span (p : Nat) (col : Nat → Nat) (n : Nat) (A : AG) (a : Ad) (t : Int) (x : ByteArray) (w : World) (h : AgA w p col n A a) (hn : n < 100000) : Calls Tryz.prog 13 #[.pointer (some ⟨p, 0, none⟩), .int .i64 t, .string x] w fun e w' => e = .returned (.tuple #[spV (A.K.ws A.N t x), .int .i64 (A.K.we A.N t x)]) ∧ ∃ c2, ATo w w' p col (n + 1) { A with K := A.K.wr A.N t x } c2 := by
  have fX := (Fr.refl noB w).alloc (.cells #[.int .i64 0, .int .i64 0, .string (ByteArray.mk #[])] 38)
  have bX := Blk.new w 38 [.int .i64 0, .int .i64 0, .string (ByteArray.mk #[])]
  have hX := h.frN fX
  have d1 : (w.alloc (.cells #[.int .i64 0, .int .i64 0, .string (ByteArray.mk #[])] 38)).cell? ⟨p, 1, none⟩ = some (.pointer (some ⟨a.k, 0, none⟩)) := hX.blk.cell 1
  have hlow := Lib.hid h.low
  obtain ⟨zp, zl, zg⟩ := h.z2
  have hc := kwrite_any _ _ _ _ _ _ _ _ _ t x _ hX.kp (by omega) (by omega)
  have hwl := wr_len A.K A.N t x
  have hst : ∀ w2, KTo (w.alloc (.cells #[.int .i64 0, .int .i64 0, .string (ByteArray.mk #[])] 38)) w2 a.k a.g a.bp a.bl a.B A.N a.wa (A.K.wr A.N t x) → ∃ c2, ATo (w.alloc (.cells #[.int .i64 0, .int .i64 0, .string (ByteArray.mk #[])] 38)) w2 p col (n + 1) { A with K := A.K.wr A.N t x } c2 :=
    fun w2 kt => hX.keeper kt (by omega) (by omega) ⟨by omega, by omega, by omega⟩
  have hkl := Lib.hid (fun q => hX.kp.low (q := q))
  have hlt : w.heap.size < (w.alloc (.cells #[.int .i64 0, .int .i64 0, .string (ByteArray.mk #[])] 38)).heap.size := bX.lt
  have hoff : ¬ kpS a.k a.g a.bp a.bl a.wa w.heap.size := fun q => by
    have := h.kp.low q
    omega
  unfold spV at *
  clear h hX hwl
  generalize A.K.ws A.N t x = sp at *
  generalize A.K.we A.N t x = er at *
  generalize A.K.wr A.N t x = K2 at *
  replace hst := Lib.hid hst
  replace hoff := Lib.hid hoff
  replace hc := Lib.hid hc
  go_enter Tryz.func13, Tryz.ntmps13
  go_wp2_with fail
  go_fit hc.out
  rintro e w2 ⟨rfl, kt⟩
  have bR := Lib.hid (by obtain ⟨_, _, _, F, _⟩ := kt; exact F.blk bX hoff.out)
  have tR := Lib.hid (thereN (i := 0) (n := 3) bR.out (by simp))
  obtain ⟨c2, hto⟩ := hst.out _ kt
  replace hto := Lib.hid hto
  clear hc kt hst
  go_wp2_with (first
    | (refine wpList_store_mid rfl 38 (.tmp 6) (.tmp 18) rfl w.heap.size 0 #[.int .i64 sp.t, .int .i64 sp.q, .string sp.x] rfl rfl tR.out size_span (one_span _ _ _) ?_; obtain ⟨w9, hw9, f9, h9⟩ := store3 w2 w.heap.size 0 (.int .i64 sp.t) (.int .i64 sp.q) (.string sp.x); rw [← hw9]; clear hw9; have h9 := h9 _ _ bR.out; have r0 : w9.cell? ⟨w.heap.size, 0, none⟩ = some (.int .i64 sp.t) := h9.cell 0; have r1 : w9.cell? ⟨w.heap.size, 1, none⟩ = some (.int .i64 sp.q) := h9.cell 1; have r2 : w9.cell? ⟨w.heap.size, 2, none⟩ = some (.string sp.x) := h9.cell 2; clear h9)
    | fail)
  try simp only [Exit.inBlock, Exit.then]
  refine bodyPost_ret (by simp [results, Tryz.results13, go_sem, r0, r1, r2]; try rfl) rfl ?_
  exact ⟨rfl, c2, ATo.wrap hlow.out fX hto.out f9 (fun q hq => by unfold onlyB at hq; subst hq; exact ⟨Nat.le_refl _, hlt⟩)⟩

/-! ### crumbs -/
def AG.crE (A : AG) (t o : Int) : Int := if inB 1 65535 t = false then 1 else if A.job t ≠ 0 then 12 else if o < 0 ∨ A.M ≤ o then 2 else if o ∈ A.X t then 8 else 0
def AG.cr (A : AG) (t o : Int) : AG := if A.crE t o = 0 then { A with X := addX A.X t o } else A
set_option maxHeartbeats 2000000 in
theorem ag_crumb (p : Nat) (col : Nat → Nat) (n : Nat) (A : AG) (a : Ad) (t o : Int) (w : World) (h : AgA w p col n A a) (ht : okI t) (hn : n < 100000) : Calls Tryz.prog 15 #[.pointer (some ⟨p, 0, none⟩), .int .i64 t, .int .i64 o] w fun e w' => e = .returned (.int .i64 (A.crE t o)) ∧ ∃ c2, ATo w w' p col (n + 1) (A.cr t o) c2 := by
  have d1 : w.cell? ⟨p, 2, none⟩ = some (.pointer (some ⟨a.cg, 0, none⟩)) := h.blk.cell 2
  have hu := h.up (Nat.le_succ n) (by omega)
  have hit := agTrace_any t w
  unfold AG.cr
  by_cases h1 : inB 1 65535 t = false
  · have e : A.crE t o = 1 := by unfold AG.crE; rw [if_pos h1]
    rw [e, if_neg (by decide)]
    rw [h1] at hit
    replace hit := Lib.hid hit
    go_enter Tryz.func15, Tryz.ntmps15
    go_wp2_with fail
    go_fit hit.out
    rintro e w1 ⟨rfl, hw⟩
    obtain rfl := hw.symm
    go_wp2_with fail
    go_ret
    exact ⟨rfl, _, ATo.same hu (Fr.refl _ _)⟩
  have h1b : inB 1 65535 t = true := by simpa using h1
  rw [h1b] at hit
  have hjb := ag_job p col n A a t w h ht
  by_cases h2 : A.job t ≠ 0
  · have e : A.crE t o = 12 := by unfold AG.crE; rw [if_neg h1, if_pos h2]
    rw [e, if_neg (by decide)]
    have hd : (A.job t != 0) = true := by simpa using h2
    generalize A.job t = jj at *
    replace hit := Lib.hid hit
    replace hjb := Lib.hid hjb
    replace h2 := Lib.hid h2
    go_enter Tryz.func15, Tryz.ntmps15
    go_wp2_with fail
    go_fit hit.out
    rintro e w1 ⟨rfl, hw⟩
    obtain rfl := hw.symm
    go_wp2_with fail
    go_fit hjb.out
    rintro e w1 ⟨rfl, hw⟩
    obtain rfl := hw.symm
    go_wp2_with fail
    go_ret
    exact ⟨rfl, _, ATo.same hu (Fr.refl _ _)⟩
  have h2b : A.job t = 0 := by simpa using h2
  rw [h2b] at hjb
  have hr := inB_lim h1b
  have hadd : Calls Tryz.prog 51 #[.pointer (some ⟨a.cg, 0, none⟩), .int .i64 t, .int .i64 o] w fun e w' => e = .returned (.int .i64 (A.crE t o)) ∧ ∃ c2, ATo w w' p col (n + 1) (if A.crE t o = 0 then { A with X := addX A.X t o } else A) c2 := by
    by_cases h3 : o < 0 ∨ A.M ≤ o
    · have e : A.crE t o = 2 := by unfold AG.crE; rw [if_neg h1, if_neg h2, if_pos h3]
      rw [e, if_neg (by decide)]
      exact (cadd_range _ _ _ _ _ t o _ _ w h.cm hr.1 hr.2 h3).mono fun e w' ⟨he, hw⟩ => ⟨he, _, ATo.same hu (by rw [hw]; exact Fr.refl _ _)⟩
    by_cases h4 : o ∈ A.X t
    · have e : A.crE t o = 8 := by unfold AG.crE; rw [if_neg h1, if_neg h2, if_neg h3, if_pos h4]
      rw [e, if_neg (by decide)]
      exact (cadd_once _ _ _ _ _ t o _ _ w h.cm hr.1 hr.2 (by omega) (by omega) h4).mono fun e w' ⟨he, hw⟩ => ⟨he, _, ATo.same hu hw⟩
    · have e : A.crE t o = 0 := by unfold AG.crE; rw [if_neg h1, if_neg h2, if_neg h3, if_neg h4]
      rw [e, if_pos rfl]
      refine (cadd_ok _ _ _ _ _ t o _ _ w h.cm hr.1 hr.2 (by omega) (by omega) h4 (by have := h.z1.2.2.1; omega)).mono ?_
      rintro e w' ⟨he, ⟨s, cm, hs⟩, f⟩
      refine ⟨he, h.crumb cm f (fun _ q => q) (Nat.le_succ n) (by omega) (fun q hq hb => ?_) (by have := h.z1.2.2.1; omega)⟩
      rcases hb with e1 | e1 | ⟨y, hy, e1⟩
      · exact Or.inl e1
      · exact Or.inr (Or.inl e1)
      · rcases List.mem_cons.1 hy with rfl | hy
        · rcases hs q e1 with h5 | h5
          · exact h5
          · omega
        · exact Or.inr (Or.inr ⟨y, (mem_without.1 hy).1, e1⟩)
  clear h2b h2
  generalize A.crE t o = er at *
  generalize (if er = 0 then { A with X := addX A.X t o } else A) = A2 at *
  replace hit := Lib.hid hit
  replace hjb := Lib.hid hjb
  replace hadd := Lib.hid hadd
  clear hu h hr h1 h1b
  go_enter Tryz.func15, Tryz.ntmps15
  go_wp2_with fail
  go_fit hit.out
  rintro e w1 ⟨rfl, hw⟩
  obtain rfl := hw.symm
  go_wp2_with fail
  go_fit hjb.out
  rintro e w1 ⟨rfl, hw⟩
  obtain rfl := hw.symm
  go_wp2_with fail
  go_fit hadd.out
  rintro e w1 ⟨rfl, hto⟩
  replace hto := Lib.hid hto
  go_wp2_with fail
  go_ret
  exact ⟨rfl, hto.out⟩
end Go.Proofs.YtppmednmcbjafaaGreat
end

section
set_option linter.unusedVariables false
set_option linter.unusedSimpArgs false
set_option maxRecDepth 100000
set_option maxRecDepth 10000
namespace Go.Proofs.YtppmednmcbjafaaGreat
open Go.RowKit Go Go.Maps Go.Lib

/-- a trigger's error; the agent behind it -/
def AG.trE (A : AG) (t c : Int) : Int := if inB 1 65535 t = false then 1 else if inB 0 3 c = false then 1 else if A.bc c.toNat = 0 then 11 else 0
def AG.tr (A : AG) (t c : Int) : AG := if A.trE t c = 0 then { A with bc := fun q => if q = c.toNat then A.bc c.toNat - 1 else A.bc q, bd := fun q => if q = c.toNat then A.bd c.toNat + 1 else A.bd q } else A
def AG.trV (A : AG) (t c : Int) : Value := if A.trE t c = 0 then .agg #[.int .i64 A.id, .int .i64 t, .int .i64 c] else .agg #[.int .i64 0, .int .i64 0, .int .i64 0]
theorem store3t (w : World) (g : Nat) (a b c : Int) (hb : Blk w g 53 [.int .i64 0, .int .i64 0, .int .i64 0]) : True := trivial
/-- the bucket of a class -/
theorem ag_take (p : Nat) (col : Nat → Nat) (n : Nat) (A : AG) (a : Ad) (i : Nat) (w : World) (h : AgA w p col n A a) (hi : i < 4) (hn : n < 100000) : Calls Tryz.prog 53 #[.pointer (some ⟨a.b i, 0, none⟩)] w fun e w' => e = .returned (.bool (decide (A.bc i ≠ 0))) ∧ ATo w w' p col (n + 1) (if A.bc i = 0 then A else { A with bc := fun q => if q = i then A.bc i - 1 else A.bc q, bd := fun q => if q = i then A.bd i + 1 else A.bd q }) col := by
  have hb := h.k i hi
  obtain ⟨hk1, hk2, hk3⟩ := h.kb
  obtain ⟨⟨hc0, hc1⟩, hd0, hd1⟩ := hk3 i hi
  have hz := h.zn
  unfold Bkt at hb
  by_cases h0 : A.bc i = 0
  · rw [if_pos h0]
    rw [h0] at hb
    refine (take_no _ _ _ _ w hb).mono fun e w' ⟨he, hw⟩ => ⟨?_, ?_⟩
    · rw [he, h0]; rfl
    · rw [hw]; exact ATo.same (h.up (Nat.le_succ n) (by omega)) (Fr.refl _ _)
  · rw [if_neg h0]
    refine (take_yes _ _ _ _ _ w hb ⟨by omega, hc1⟩ ⟨hd0, by omega⟩).mono fun e w' ⟨he, hb2, f⟩ => ⟨?_, ?_⟩
    · rw [he, show decide (A.bc i ≠ 0) = true by simpa using h0]
    · exact h.bucket hi hb2 f (Nat.le_succ n) (by omega) ⟨⟨by omega, by omega⟩, by omega, by omega⟩
theorem one_trig (t q c : Int) : (#[.int .i64 t, .int .i64 q, .int .i64 c] : Array Value).all (·.oneCell') = true := all_oneCell_toArray (cs := [.int .i64 t, .int .i64 q, .int .i64 c]) (fun v hv => by
  simp only [List.mem_cons, List.not_mem_nil, or_false] at hv
  rcases hv with rfl | rfl | rfl <;> rfl)
theorem size_trig : (Tryz.prog.info? 53).map (·.size) = some 3 := by kernel_rfl
set_option maxHeartbeats 4000000 in
theorem ag_trigger (p : Nat) (col : Nat → Nat) (n : Nat) (A : AG) (a : Ad) (t c : Int) (w : World) (h : AgA w p col n A a) (hn : n < 100000) : Calls Tryz.prog 17 #[.pointer (some ⟨p, 0, none⟩), .int .i64 t, .int .i64 c] w fun e w' => e = .returned (.tuple #[A.trV t c, .int .i64 (A.trE t c)]) ∧ ATo w w' p col (n + 1) (A.tr t c) col := by
  have fX := (Fr.refl noB w).alloc (.cells #[.int .i64 0, .int .i64 0, .int .i64 0] 53)
  have bX := Blk.new w 53 [.int .i64 0, .int .i64 0, .int .i64 0]
  have hX := h.frN fX
  have hlow := Lib.hid h.low
  have hlt : w.heap.size < (w.alloc (.cells #[.int .i64 0, .int .i64 0, .int .i64 0] 53)).heap.size := bX.lt
  have hu := h.up (Nat.le_succ n) (by omega)
  have hit := agTrace_any t (w.alloc (.cells #[.int .i64 0, .int .i64 0, .int .i64 0] 53))
  have tX := Lib.hid (thereN (i := 0) (n := 3) bX (by simp))
  have e0 : (w.alloc (.cells #[.int .i64 0, .int .i64 0, .int .i64 0] 53)).cell? ⟨w.heap.size, 0, none⟩ = some (.int .i64 0) := bX.cell 0
  have e1 : (w.alloc (.cells #[.int .i64 0, .int .i64 0, .int .i64 0] 53)).cell? ⟨w.heap.size, 1, none⟩ = some (.int .i64 0) := bX.cell 1
  have e2 : (w.alloc (.cells #[.int .i64 0, .int .i64 0, .int .i64 0] 53)).cell? ⟨w.heap.size, 2, none⟩ = some (.int .i64 0) := bX.cell 2
  have hfin : ∀ w9, Fr (onlyB w.heap.size) (w.alloc (.cells #[.int .i64 0, .int .i64 0, .int .i64 0] 53)) w9 → ATo w w9 p col (n + 1) A col := fun w9 f9 =>
    ATo.wrap h.low fX (ATo.same (hX.up (Nat.le_succ n) (by omega)) (Fr.refl _ _)) f9 (fun q hq => by unfold onlyB at hq; subst hq; exact ⟨Nat.le_refl _, hlt⟩)
  replace hfin := Lib.hid hfin
  unfold AG.trV AG.tr
  by_cases h1 : inB 1 65535 t = false
  · have e : A.trE t c = 1 := by unfold AG.trE; rw [if_pos h1]
    rw [e, if_neg (by decide), if_neg (by decide)]
    rw [h1] at hit
    clear h hX hu h1 e
    replace hit := Lib.hid hit
    replace bX := Lib.hid bX
    go_enter Tryz.func17, Tryz.ntmps17
    go_wp2_with fail
    generalize (w.alloc (.cells #[.int .i64 0, .int .i64 0, .int .i64 0] 53)) = wX at *
    go_fit hit.out
    rintro e w1 ⟨rfl, hw⟩
    obtain rfl := hw.symm
    go_wp2_with (first
      | (refine wpList_store_mid rfl 53 (.tmp 6) (.tmp 24) rfl w.heap.size 0 #[.int .i64 0, .int .i64 0, .int .i64 0] rfl rfl tX.out size_trig (one_trig _ _ _) ?_; obtain ⟨w9, hw9, f9, h9⟩ := store3 wX w.heap.size 0 (.int .i64 0) (.int .i64 0) (.int .i64 0); rw [← hw9]; clear hw9; have h9 := h9 _ _ bX.out; have r0 : w9.cell? ⟨w.heap.size, 0, none⟩ = some (.int .i64 0) := h9.cell 0; have r1 : w9.cell? ⟨w.heap.size, 1, none⟩ = some (.int .i64 0) := h9.cell 1; have r2 : w9.cell? ⟨w.heap.size, 2, none⟩ = some (.int .i64 0) := h9.cell 2; clear h9)
      | fail)
    try simp only [Exit.inBlock, Exit.then]
    refine bodyPost_ret (by simp [results, Tryz.results17, go_sem, r0, r1, r2]; try rfl) rfl ?_
    exact ⟨rfl, hfin.out _ f9⟩
  have h1b : inB 1 65535 t = true := by simpa using h1
  rw [h1b] at hit
  by_cases h2 : inB 0 3 c = false
  · have e : A.trE t c = 1 := by unfold AG.trE; rw [if_neg h1, if_pos h2]
    rw [e, if_neg (by decide), if_neg (by decide)]
    have hcc : c < 0 ∨ 3 < c := by
      unfold inB at h2
      rw [Bool.and_eq_false_iff] at h2
      simp only [decide_eq_false_iff_not] at h2
      omega
    clear h hX hu h1 e h2
    replace hit := Lib.hid hit
    replace bX := Lib.hid bX
    have hcase : (c < 0) ∨ (¬ c < 0 ∧ 4 ≤ c) := by omega
    clear hcc
    rcases hcase with hcc | ⟨hcd, hcc⟩
    all_goals (
      go_enter Tryz.func17, Tryz.ntmps17
      go_wp2_with fail
      generalize (w.alloc (.cells #[.int .i64 0, .int .i64 0, .int .i64 0] 53)) = wX at *
      go_fit hit.out
      rintro e w1 ⟨rfl, hw⟩
      obtain rfl := hw.symm
      go_wp2_with (first
        | (refine wpList_store_mid rfl 53 (.tmp 6) (.tmp 24) rfl w.heap.size 0 #[.int .i64 0, .int .i64 0, .int .i64 0] rfl rfl tX.out size_trig (one_trig _ _ _) ?_; obtain ⟨w9, hw9, f9, h9⟩ := store3 wX w.heap.size 0 (.int .i64 0) (.int .i64 0) (.int .i64 0); rw [← hw9]; clear hw9; have h9 := h9 _ _ bX.out; have r0 : w9.cell? ⟨w.heap.size, 0, none⟩ = some (.int .i64 0) := h9.cell 0; have r1 : w9.cell? ⟨w.heap.size, 1, none⟩ = some (.int .i64 0) := h9.cell 1; have r2 : w9.cell? ⟨w.heap.size, 2, none⟩ = some (.int .i64 0) := h9.cell 2; clear h9)
        | fail)
      try simp only [Exit.inBlock, Exit.then]
      refine bodyPost_ret (by simp [results, Tryz.results17, go_sem, r0, r1, r2]; try rfl) rfl ?_
      exact ⟨rfl, hfin.out _ f9⟩)
  have h2b : inB 0 3 c = true := by simpa using h2
  have hc3 := inB_lim h2b
  obtain ⟨i, rfl⟩ : ∃ i : Nat, c = (i : Int) := ⟨c.toNat, by omega⟩
  have hi : i < 4 := by omega
  have htk := ag_take p col n A a i _ hX hi hn
  have d0 : ∀ w', Fr (fun q => col q ≠ 0) (w.alloc (.cells #[.int .i64 0, .int .i64 0, .int .i64 0] 53)) w' → Blk w' w.heap.size 53 [.int .i64 0, .int .i64 0, .int .i64 0] := fun w' f => f.blk bX (fun q => by have := h.low _ q; omega)
  have dpt : ∀ k, k < 4 → (w.alloc (.cells #[.int .i64 0, .int .i64 0, .int .i64 0] 53)).cell? ⟨p, 4 + k, none⟩ = some (.pointer (some ⟨a.b k, 0, none⟩)) := fun k hk => by
    rw [hX.blk.cell]
    rcases (by omega : k = 0 ∨ k = 1 ∨ k = 2 ∨ k = 3) with rfl | rfl | rfl | rfl <;> rfl
  have dp := dpt i hi
  have hid : ∀ w' c2 A', ATo (w.alloc (.cells #[.int .i64 0, .int .i64 0, .int .i64 0] 53)) w' p col (n + 1) A' c2 → w'.cell? ⟨p, 0, none⟩ = some (.int .i64 A'.id) := fun w' c2 A' hto => by
    obtain ⟨⟨a', ha'⟩, _⟩ := hto
    exact ha'.blk.cell 0
  have htn : A.trE t (i : Int) = (if A.bc i = 0 then 11 else 0) := by unfold AG.trE; rw [if_neg h1, if_neg h2, Int.toNat_natCast]
  rw [htn, Int.toNat_natCast]
  have hb1 : ¬ ((i : Int) < 0) := by omega
  have hb2 : (i : Int) < 4 := by omega
  have hwrap : ∀ w2 w9 A', ATo (w.alloc (.cells #[.int .i64 0, .int .i64 0, .int .i64 0] 53)) w2 p col (n + 1) A' col → Fr (onlyB w.heap.size) w2 w9 → ATo w w9 p col (n + 1) A' col := fun w2 w9 A' hto f9 =>
    ATo.wrap h.low fX hto f9 (fun q hq => by unfold onlyB at hq; subst hq; exact ⟨Nat.le_refl _, hlt⟩)
  replace hwrap := Lib.hid hwrap
  replace hid := Lib.hid hid
  replace d0 := Lib.hid d0
  replace dpt := Lib.hid dpt
  clear h1 h1b h2 h2b hc3 h hX hu htn
  by_cases h0 : A.bc i = 0
  · rw [if_pos h0, if_neg (by decide), if_neg (by decide)]
    rw [if_pos h0, h0] at htk
    rw [show decide ((0 : Int) ≠ 0) = false from rfl] at htk
    replace htk := Lib.hid htk
    replace hit := Lib.hid hit
    replace h0 := Lib.hid h0
    replace bX := Lib.hid bX
    go_enter Tryz.func17, Tryz.ntmps17
    go_wp2_with fail
    generalize (w.alloc (.cells #[.int .i64 0, .int .i64 0, .int .i64 0] 53)) = wX at *
    go_fit hit.out
    rintro e w1 ⟨rfl, hw⟩
    obtain rfl := hw.symm
    go_wp2_with fail
    go_fit htk.out
    rintro e w2 ⟨rfl, hto⟩
    have b2 := Lib.hid (d0.out w2 hto.2.1)
    have t2 := Lib.hid (thereN (i := 0) (n := 3) b2.out (by simp))
    replace hto := Lib.hid hto
    go_wp2_with (first
      | (refine wpList_store_mid rfl 53 (.tmp 6) (.tmp 34) rfl w.heap.size 0 #[.int .i64 0, .int .i64 0, .int .i64 0] rfl rfl t2.out size_trig (one_trig _ _ _) ?_; obtain ⟨w9, hw9, f9, h9⟩ := store3 w2 w.heap.size 0 (.int .i64 0) (.int .i64 0) (.int .i64 0); rw [← hw9]; clear hw9; have h9 := h9 _ _ b2.out; have r0 : w9.cell? ⟨w.heap.size, 0, none⟩ = some (.int .i64 0) := h9.cell 0; have r1 : w9.cell? ⟨w.heap.size, 1, none⟩ = some (.int .i64 0) := h9.cell 1; have r2 : w9.cell? ⟨w.heap.size, 2, none⟩ = some (.int .i64 0) := h9.cell 2; clear h9)
      | fail)
    try simp only [Exit.inBlock, Exit.then]
    refine bodyPost_ret (by simp [results, Tryz.results17, go_sem, r0, r1, r2]; try rfl) rfl ?_
    exact ⟨rfl, hwrap.out _ _ _ hto.out f9⟩
  · rw [if_neg h0, if_pos rfl, if_pos rfl]
    rw [if_neg h0, show decide (A.bc i ≠ 0) = true by simpa using h0] at htk
    obtain ⟨id0, hid0⟩ : ∃ z, A.id = z := ⟨_, rfl⟩
    generalize hA2 : ({ A with bc := fun q => if q = i then A.bc i - 1 else A.bc q, bd := fun q => if q = i then A.bd i + 1 else A.bd q } : AG) = A2 at *
    have hid2 : A2.id = id0 := by rw [← hA2]; exact hid0
    rw [hid0]
    replace htk := Lib.hid htk
    replace hit := Lib.hid hit
    replace h0 := Lib.hid h0
    replace bX := Lib.hid bX
    replace hid0 := Lib.hid hid0
    replace hid2 := Lib.hid hid2
    replace hA2 := Lib.hid hA2
    go_enter Tryz.func17, Tryz.ntmps17
    go_wp2_with fail
    generalize (w.alloc (.cells #[.int .i64 0, .int .i64 0, .int .i64 0] 53)) = wX at *
    go_fit hit.out
    rintro e w1 ⟨rfl, hw⟩
    obtain rfl := hw.symm
    go_wp2_with fail
    go_fit htk.out
    rintro e w2 ⟨rfl, hto⟩
    have b2 := Lib.hid (d0.out w2 hto.2.1)
    have t2 := Lib.hid (thereN (i := 0) (n := 3) b2.out (by simp))
    have dq : w2.cell? ⟨p, 0, none⟩ = some (.int .i64 id0) := by rw [hid.out _ _ _ hto, hid2.out]
    replace hto := Lib.hid hto
    go_wp2_with (first
      | (refine wpList_store_mid rfl 53 (.tmp 6) (.tmp 41) rfl w.heap.size 0 #[.int .i64 id0, .int .i64 t, .int .i64 i] rfl rfl t2.out size_trig (one_trig _ _ _) ?_; obtain ⟨w9, hw9, f9, h9⟩ := store3 w2 w.heap.size 0 (.int .i64 id0) (.int .i64 t) (.int .i64 i); rw [← hw9]; clear hw9; have h9 := h9 _ _ b2.out; have r0 : w9.cell? ⟨w.heap.size, 0, none⟩ = some (.int .i64 id0) := h9.cell 0; have r1 : w9.cell? ⟨w.heap.size, 1, none⟩ = some (.int .i64 t) := h9.cell 1; have r2 : w9.cell? ⟨w.heap.size, 2, none⟩ = some (.int .i64 i) := h9.cell 2; clear h9)
      | fail)
    try simp only [Exit.inBlock, Exit.then]
    refine bodyPost_ret (by simp [results, Tryz.results17, go_sem, r0, r1, r2]; try rfl) rfl ?_
    exact ⟨rfl, hwrap.out _ _ _ hto.out f9⟩
end Go.Proofs.YtppmednmcbjafaaGreat
end

section
set_option linter.unusedVariables false
set_option linter.unusedSimpArgs false
set_option maxRecDepth 100000
set_option maxRecDepth 10000
namespace Go.Proofs.YtppmednmcbjafaaGreat
open Go.RowKit Go Go.Maps Go.Lib

/-- the buckets below k have ticked -/
def AG.bt (A : AG) (k : Nat) : AG := { A with bc := fun q => if q < k then min (A.bc q + A.bR) A.bB else A.bc q }
/-- whose lease runs out with the next tick -/
structure AG.Ended (A : AG) (E : List Int) : Prop where
  es : E.Pairwise (· ≤ ·)
  en : E.Nodup
  e : ∀ k, k ∈ E ↔ ∃ x, A.hold k = some x ∧ x.2 ≤ A.now + 1
theorem AG.Ended.uniq {A : AG} {E F : List Int} (h : A.Ended E) (k : A.Ended F) : E = F := by
  have hp : E.Perm F := (List.perm_ext_iff_of_nodup h.en k.en).2 fun x => by rw [h.e, k.e]
  exact hp.eq_of_pairwise (le := fun a b : Int => a ≤ b) (fun a b _ _ h1 h2 => Int.le_antisymm h1 h2) h.es k.es
def AG.tick (A : AG) (E : List Int) : AG := { A with
  bc := fun q => if q < 4 then min (A.bc q + A.bR) A.bB else A.bc q
  now := A.now + 1
  hold := fun t => match A.hold t with | some x => if A.now + 1 < x.2 then some x else none | none => none
  over := fun t => if t ∈ E then max (A.job t) (A.over t) else A.over t
  K := { A.K with pins := E.foldl outL A.K.pins } }
theorem bt_succ (A : AG) (k : Nat) : ({ A.bt k with bc := fun q => if q = k then min ((A.bt k).bc k + (A.bt k).bR) (A.bt k).bB else (A.bt k).bc q, bd := fun q => if q = k then (A.bt k).bd k else (A.bt k).bd q } : AG) = A.bt (k + 1) := by
  have h1 : (fun q => if q = k then min ((A.bt k).bc k + (A.bt k).bR) (A.bt k).bB else (A.bt k).bc q) = (A.bt (k + 1)).bc := by
    funext q
    unfold AG.bt
    by_cases h : q = k
    · subst h; simp
    · by_cases h2 : q < k
      · simp [h, h2, show q < k + 1 by omega]
      · simp [h, h2, show ¬ q < k + 1 by omega]
  have h2 : (fun q => if q = k then (A.bt k).bd k else (A.bt k).bd q) = A.bd := by
    funext q
    by_cases h : q = k
    · subst h; simp [AG.bt]
    · simp [h, AG.bt]
  rw [h1, h2]
  rfl
theorem bt_zero (A : AG) : A.bt 0 = A := by unfold AG.bt; simp
theorem foldl_len : ∀ (E P : List Int), (E.foldl outL P).length ≤ P.length
  | [], P => Nat.le_refl _
  | x :: r, P => by rw [List.foldl_cons]; exact Nat.le_trans (foldl_len r _) (outL_len P x)
theorem foldl_take (E P : List Int) (k : Nat) (x : Int) (h : E[k]? = some x) : (E.take (k + 1)).foldl outL P = outL ((E.take k).foldl outL P) x := by
  obtain ⟨hk, rfl⟩ := List.getElem?_eq_some_iff.1 h
  rw [List.take_succ_eq_append_getElem hk, List.foldl_append]
  rfl

theorem idx_0 (x0 x1 x2 x3 : Value) (w : World) : (Instr.index 110 (.agg #[x0, x1, x2, x3]) (.int .i64 0)).run Tryz.prog w = .ok x0 w := by kernel_rfl
theorem idx_1 (x0 x1 x2 x3 : Value) (w : World) : (Instr.index 110 (.agg #[x0, x1, x2, x3]) (.int .i64 1)).run Tryz.prog w = .ok x1 w := by kernel_rfl
theorem idx_2 (x0 x1 x2 x3 : Value) (w : World) : (Instr.index 110 (.agg #[x0, x1, x2, x3]) (.int .i64 2)).run Tryz.prog w = .ok x2 w := by kernel_rfl
theorem idx_3 (x0 x1 x2 x3 : Value) (w : World) : (Instr.index 110 (.agg #[x0, x1, x2, x3]) (.int .i64 3)).run Tryz.prog w = .ok x3 w := by kernel_rfl

set_option maxHeartbeats 4000000 in
theorem ag_tick (p : Nat) (col : Nat → Nat) (n : Nat) (A : AG) (a : Ad) (w : World) (h : AgA w p col n A a) (hi : A.Inv) (hn : n < 100000) : Calls Tryz.prog 20 #[.pointer (some ⟨p, 0, none⟩)] w fun e w' => ∃ v E, e = .returned v ∧ A.Ended E ∧ ATo w w' p col (n + 1) (A.tick E) col ∧ Kept (freeB w.heap.size col) w' (fun u => RdI u v E) := by
  have c4 : w.cell? ⟨p, 4, none⟩ = some (.pointer (some ⟨a.b 0, 0, none⟩)) := h.blk.cell 4
  have c5 : w.cell? ⟨p, 5, none⟩ = some (.pointer (some ⟨a.b 1, 0, none⟩)) := h.blk.cell 5
  have c6 : w.cell? ⟨p, 6, none⟩ = some (.pointer (some ⟨a.b 2, 0, none⟩)) := h.blk.cell 6
  have c7 : w.cell? ⟨p, 7, none⟩ = some (.pointer (some ⟨a.b 3, 0, none⟩)) := h.blk.cell 7
  have hlow := h.low
  have h0 : AgA w p col n (A.bt 0) a := by rw [bt_zero]; exact h
  have hokE : ∀ k x, A.hold k = some x → okI k := fun k x hk => by
    have := (hi.rng k x hk).1
    exact okI_of (by omega) (by omega)
  clear hi
  replace h := Lib.hid h
  replace h0 := Lib.hid h0
  replace hlow := Lib.hid hlow
  replace hokE := Lib.hid hokE
  go_enter Tryz.func20, Tryz.ntmps20
  go_wp2_with fail
  clear c4 c5 c6 c7
  go_loopw [14] (fun vi wr => ∃ k : Nat, k ≤ 4 ∧ vi = .int .i64 k ∧ Hid (AgA wr p col n (A.bt k) a) ∧ Fr (fun q => col q ≠ 0) w wr) (fun vi _ => 4 - (RowKit.intOf vi).toNat)
  case atStart => exact ⟨0, by omega, rfl, h0, Fr.refl _ _⟩
  case round =>
    obtain ⟨k, hk, rfl, hA, fr⟩ := hrel
    clear h0
    by_cases hlt : k < 4
    · have hbk := hA.out.k k hlt
      obtain ⟨q1, q2, q3⟩ := hA.out.kb
      obtain ⟨⟨u0, u1⟩, u2, u3⟩ := q3 k hlt
      unfold Bkt at hbk
      have htk := tick_any _ _ _ _ _ wr hbk ⟨u0, u1⟩ q2 q1
      have hnext : ∀ w2, Blk w2 (a.b k) 158 (bk (A.bt k).bB (A.bt k).bR (min ((A.bt k).bc k + (A.bt k).bR) (A.bt k).bB) ((A.bt k).bd k)) → Fr (onlyB (a.b k)) wr w2 → AgA w2 p col n (A.bt (k + 1)) a ∧ Fr (fun q => col q ≠ 0) w w2 := fun w2 b2 f2 => by
        have h9 := hA.out.bucketA hlt b2 f2 (Nat.le_refl _) (by omega) ⟨⟨by omega, by omega⟩, u2, u3⟩
        rw [bt_succ] at h9
        exact ⟨h9, fr.trans f2 (fun _ _ q => q) (fun q _ hq => by unfold onlyB at hq; rw [hq, hA.out.c4 k hlt]; omega)⟩
      generalize (min ((A.bt k).bc k + (A.bt k).bR) (A.bt k).bB) = lv at *
      clear q1 q2 q3 u0 u1 u2 u3 hbk
      replace hnext := Lib.hid hnext
      replace htk := Lib.hid htk
      rcases (by omega : k = 0 ∨ k = 1 ∨ k = 2 ∨ k = 3) with rfl | rfl | rfl | rfl
      all_goals (
        simp only [show ((0 : Nat) : Int) = 0 from rfl, show ((1 : Nat) : Int) = 1 from rfl, show ((2 : Nat) : Int) = 2 from rfl, show ((3 : Nat) : Int) = 3 from rfl]
        have x0 := idx_0 (.pointer (some ⟨a.b 0, 0, none⟩)) (.pointer (some ⟨a.b 1, 0, none⟩)) (.pointer (some ⟨a.b 2, 0, none⟩)) (.pointer (some ⟨a.b 3, 0, none⟩)) wr
        have x1 := idx_1 (.pointer (some ⟨a.b 0, 0, none⟩)) (.pointer (some ⟨a.b 1, 0, none⟩)) (.pointer (some ⟨a.b 2, 0, none⟩)) (.pointer (some ⟨a.b 3, 0, none⟩)) wr
        have x2 := idx_2 (.pointer (some ⟨a.b 0, 0, none⟩)) (.pointer (some ⟨a.b 1, 0, none⟩)) (.pointer (some ⟨a.b 2, 0, none⟩)) (.pointer (some ⟨a.b 3, 0, none⟩)) wr
        have x3 := idx_3 (.pointer (some ⟨a.b 0, 0, none⟩)) (.pointer (some ⟨a.b 1, 0, none⟩)) (.pointer (some ⟨a.b 2, 0, none⟩)) (.pointer (some ⟨a.b 3, 0, none⟩)) wr
        go_wp2_with fail
        clear x0 x1 x2 x3
        go_fit htk.out
        rintro e w2 ⟨rfl, b2, f2⟩
        obtain ⟨h9, f9⟩ := hnext.out w2 b2 f2
        replace h9 := Lib.hid h9
        clear htk hnext b2 f2
        go_wp2_with fail
        go_roundw
        case rel => first | exact ⟨1, by omega, rfl, h9, f9⟩ | exact ⟨2, by omega, rfl, h9, f9⟩ | exact ⟨3, by omega, rfl, h9, f9⟩ | exact ⟨4, by omega, rfl, h9, f9⟩
        case measure => simp [RowKit.intOf])
    · obtain rfl : k = 4 := by omega
      have hB := hA.out
      have d3 : wr.cell? ⟨p, 3, none⟩ = some (.pointer (some ⟨a.lg, 0, none⟩)) := hB.blk.cell 3
      have htk := ltick_any _ _ _ _ _ _ _ _ wr hB.ls (by have := hB.z1.1; omega)
      have hrs := fr.size
      replace htk := Lib.hid htk
      replace hB := Lib.hid hB
      go_wp2_with fail
      go_fit htk.out
      rintro e w2 ⟨v, E, O2, rfl, own, ls, f2, tk⟩
      have hE : A.Ended E := ⟨tk.es, tk.en, fun k => by
        rw [tk.e k, hB.out.hH k]; rfl⟩
      obtain ⟨x1, x2, x3, x4⟩ := hB.out.z1
      have hst := hB.out.lease ls f2 (Nat.le_succ n) (by omega) (hold := fun t => match A.hold t with | some x => if A.now + 1 < x.2 then some x else none | none => none) (over := fun t => if t ∈ E then max (A.job t) (A.over t) else A.over t)
        (fun t => by
          have hnd := hB.out.ls.mh.nodup
          apply Option.ext
          intro x
          rw [look_gone hnd, hB.out.hH t]
          show A.hold t = some x ∧ A.now + 1 < x.2 ↔ _
          cases hh : A.hold t with
          | none => simp
          | some y =>
            by_cases hy : A.now + 1 < y.2
            · simp only [hy, if_true]
              constructor
              · rintro ⟨q, _⟩; exact q
              · intro q; exact ⟨q, by cases q; exact hy⟩
            · simp only [hy, if_false]
              constructor
              · rintro ⟨q, r⟩; cases q; exact absurd r hy
              · intro q; cases q)
        (fun t => by
          rw [tk.o t]
          unfold jobOf
          rw [hB.out.hH t, hB.out.hO t]; rfl) ⟨by have : (A.bt 4).now = A.now := rfl; omega, by omega⟩
      obtain ⟨⟨a2, ha2⟩, f3, _⟩ := hst
      have fr2 : Fr (fun q => col q ≠ 0) w w2 := fr.trans f3 (fun _ _ q => q) (fun _ _ q => q)
      have hrd : ∀ w', Fr (fun q => col q ≠ 0) w2 w' → RdI w' v E := fun w' f => RdI.of_own (ownsRow_fr own f (fun g hg q => by have := hlow.out g q; have := (own.lt g hg).1; omega))
      have hkp : ∀ w', Fr (fun q => col q ≠ 0) w2 w' → Kept (freeB w.heap.size col) w' (fun u => RdI u v E) := fun w' f =>
        Kept.ints (ownsRow_fr own f (fun g hg q => by have := hlow.out g q; have := (own.lt g hg).1; omega)) (fun q hq => by
          have h1 := (own.lt q hq).1
          refine ⟨by omega, ?_⟩
          rcases Nat.eq_zero_or_pos (col q) with e | e
          · exact e
          · have := hlow.out q (by omega); omega)
      have hget : ∀ k, k < E.length → ∃ m, E[k]? = some m := fun k hk => ⟨E[k], List.getElem?_eq_getElem hk⟩
      have hok : ∀ k x, E[k]? = some x → okI x := fun k x hk => by
        obtain ⟨y, hy, _⟩ := (hE.e x).1 (List.mem_of_getElem? hk)
        exact hokE.out x y hy
      have hft := foldl_take E A.K.pins
      have hfl := foldl_len
      obtain ⟨ua, uc, ev, hl1, hl2, hr3⟩ := hrd w2 (Fr.refl _ _)
      subst ev
      clear hr3
      have hend : ∀ w9, AgA w9 p col (n + 1) { A.tick E with K := { A.K with pins := (E.take E.length).foldl outL A.K.pins } } a2 → Fr (fun q => col q ≠ 0) w2 w9 → ATo w w9 p col (n + 1) (A.tick E) col := fun w9 h9 f9 => by
        rw [List.take_length] at h9
        exact ⟨⟨a2, h9⟩, fr2.trans f9 (fun _ _ q => q) (fun _ _ q => q), fun _ _ => rfl⟩
      have hA0 : AgA w2 p col (n + 1) { A.tick E with K := { A.K with pins := (E.take 0).foldl outL A.K.pins } } a2 := ha2
      obtain ⟨N, hN⟩ : ∃ N, E.length = N := ⟨_, rfl⟩
      rw [hN] at hget hend hl1 hl2 hkp ⊢
      have hNb : (N : Int) ≤ 9223372036854775807 := by omega
      replace hN := Lib.hid hN
      replace hrd := Lib.hid hrd
      replace hkp := Lib.hid hkp
      replace hget := Lib.hid hget
      replace hok := Lib.hid hok
      replace hft := Lib.hid hft
      replace hfl := Lib.hid hfl
      replace hend := Lib.hid hend
      replace hA0 := Lib.hid hA0
      replace hE := Lib.hid hE
      clear own ls tk f2 f3 ha2 htk hB hA x1 x2 x3 x4 hrs d3 fr2 fr hft
      have hft := Lib.hid (foldl_take E A.K.pins)
      obtain ⟨wa, rfl⟩ : ∃ wa : World, wa = wr := ⟨_, rfl⟩
      go_wp2_with fail
      go_loopw [27] (fun vi wq => ∃ k : Nat, k ≤ N ∧ vi = .int .i64 k ∧ Hid (AgA wq p col (n + 1) { A.tick E with K := { A.K with pins := (E.take k).foldl outL A.K.pins } } a2) ∧ Fr (fun q => col q ≠ 0) w2 wq) (fun vi _ => N - (RowKit.intOf vi).toNat)
      case atStart => exact ⟨0, by omega, rfl, hA0, Fr.refl _ _⟩
      case round =>
        obtain ⟨k, hk, rfl, hA, fq⟩ := hrel
        clear hA0
        by_cases hlt : k < N
        · obtain ⟨x, hx⟩ := hget.out k hlt
          obtain ⟨_, _, e9, _, _, hc9⟩ := hrd.out wr fq
          cases e9
          obtain ⟨g9, o9, rfl, c9⟩ := hc9 k (by rw [hN.out]; exact hlt)
          have hx9 : E.getD k 0 = x := by rw [List.getD, hx]; rfl
          rw [hx9] at c9
          have d1 : wr.cell? ⟨p, 1, none⟩ = some (.pointer (some ⟨a2.k, 0, none⟩)) := hA.out.blk.cell 1
          have hun := kunpin_any _ _ _ _ _ _ _ _ _ x wr hA.out.kp (hok.out k x hx)
          have hb1 : (k : Int) < N := by omega
          have hnext : ∀ w3, Kp w3 a2.k a2.g a2.bp a2.bl a2.B (A.tick E).N a2.wa a2.wc { ({ A.K with pins := (E.take k).foldl outL A.K.pins } : KS) with pins := outL ((E.take k).foldl outL A.K.pins) x } → Fr (onlyB a2.bp) wr w3 → AgA w3 p col (n + 1) { A.tick E with K := { A.K with pins := (E.take (k + 1)).foldl outL A.K.pins } } a2 ∧ Fr (fun q => col q ≠ 0) w2 w3 := fun w3 kp f => by
            obtain ⟨z1, z2, z3⟩ := hA.out.z2
            have h9 := hA.out.keepA kp f (Or.inr (Or.inr (Or.inl rfl))) (Nat.le_refl _) (by omega) ⟨Nat.le_trans (outL_len _ _) z1, z2, z3⟩
            rw [hft.out k x hx]
            exact ⟨h9, fq.trans f (fun _ _ q => q) (fun q _ hq => by unfold onlyB at hq; rw [hq, hA.out.c1 _ (Or.inr (Or.inr (Or.inl rfl)))]; decide)⟩
          replace hun := Lib.hid hun
          replace hnext := Lib.hid hnext
          replace hx := Lib.hid hx
          clear hc9 hx9 hA
          go_wp2_with fail
          go_fit hun.out
          rintro e w3 ⟨rfl, kp3, f3⟩
          obtain ⟨h9, f9⟩ := hnext.out w3 kp3 f3
          replace h9 := Lib.hid h9
          clear kp3 f3 hnext hun
          go_wp2_with fail
          go_roundw
          case rel => exact ⟨k + 1, by omega, by go_num, h9, f9⟩
          case measure => simp [RowKit.intOf]; omega
        · obtain rfl : k = N := by omega
          have hto := hend.out wr hA.out fq
          have hkk := hkp.out wr fq
          replace hto := Lib.hid hto
          replace hkk := Lib.hid hkk
          clear hA
          go_wp2_with fail
          go_ret
          exact ⟨_, E, rfl, hE.out, hto.out, hkk.out⟩
end Go.Proofs.YtppmednmcbjafaaGreat
end
