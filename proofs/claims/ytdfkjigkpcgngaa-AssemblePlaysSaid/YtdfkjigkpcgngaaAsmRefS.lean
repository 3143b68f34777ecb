/-
  The reference's state: what it keeps, and where it lies.
-/
import Derived.Test.YtdfkjigkpcgngaaAsmMs2
import Derived.Deep.LoopGhost
import Derived.Deep.DeepCutAuto
import Derived.Deep.QuietTactic
import Derived.BigQuiet
set_option linter.unusedVariables false
set_option linter.unusedSimpArgs false
set_option maxRecDepth 100000
namespace Go.Proofs.Ytdfkjigkpcgngaa
open Go.RowKit Go Go.Maps Go.Lib

theorem flat_getN {α : Type} (f : α → List Value) (z : Nat) (hz : ∀ x, (f x).length = z) : ∀ (L : List α) (i q : Nat) (m : α), L[i]? = some m → q < z → (L.flatMap f)[i * z + q]? = (f m)[q]?
  | [], i, q, m, h, _ => by simp at h
  | x :: r, i, q, m, h, hq => by
    rw [List.flatMap_cons]
    cases i with
    | zero =>
      simp at h; subst h
      rw [Nat.zero_mul, Nat.zero_add, List.getElem?_append_left (by rw [hz]; exact hq)]
    | succ i =>
      have h' : r[i]? = some m := by simpa using h
      have := flat_getN f z hz r i q m h' hq
      rw [List.getElem?_append_right (by rw [hz, Nat.add_mul]; omega), hz, Nat.add_mul]
      rw [show i * z + 1 * z + q - z = i * z + q by omega]
      exact this
theorem flat_lenN {α : Type} (f : α → List Value) (z : Nat) (hz : ∀ x, (f x).length = z) (L : List α) : (L.flatMap f).length = L.length * z := by
  induction L with
  | nil => simp
  | cons x r ih => rw [List.flatMap_cons, List.length_append, ih, hz, List.length_cons, Nat.add_mul]; omega
/-- a chunk that the reference keeps, where it lies -/
structure Kq where
  a : Int
  i : Int
  n : Int
  sp : List Sp
  sa : Option Addr
  sc : Nat
def Kq.kp (k : Kq) : Kp := ⟨k.a, k.i, k.n, k.sp⟩
def Kq.mr (t j : Int) (k : Kq) : MR := { k := 6, a := k.a, t := t, j := j, i := k.i, n := k.n, sa := k.sa, sn := k.sp.length, sc := k.sc }
/-- what the reference keeps, plainly -/
structure RS where
  tr : Int
  jb : Int
  man : Option (Int × List Pn)
  K : List Kq
def RS.KC (r : RS) : List Value := r.K.flatMap fun k => mrC (k.mr r.tr r.jb)
def arC (r : RS) (M : MR) (ca : Option Addr) (cc : Nat) : List Value := [.int .i64 r.tr, .int .i64 r.jb, .int .i64 M.k, .int .i64 M.a, .int .i64 M.t, .int .i64 M.j, .int .i64 M.c, .int .i64 M.i, .int .i64 M.n, .int .i64 M.pa, .int .i64 M.pt, .int .i64 M.pj, .int .i64 M.pc, .slice M.ua M.un M.uc, .bool M.lo, .slice M.qa M.qn M.qc, .slice M.sa M.sn M.sc, .bool r.man.isSome, .slice ca r.K.length cc]
structure AR (w : World) (q : Nat) (E : Nat → Prop) (M0 : Nat) (r : RS) (M : MR) (ca : Option Addr) (cc : Nat) : Prop where
  blk : Blk w q 37 (arC r M ca cc)
  man : ∀ c ps, r.man = some (c, ps) → M.c = c ∧ M.qn = ps.length ∧ ps.length ≤ 100 ∧ ∃ G : Nat → Prop, RdPsD w G (.slice M.qa M.qn M.qc) ps ∧ (∀ g, G g → E g) ∧ ∀ g, G g → g ≠ q ∧ (Value.slice ca r.K.length cc).ownBlock ≠ some g
  row : w.ownsRow M0 34 15 (.slice ca r.K.length cc) r.K.length r.KC
  sps : ∀ k ∈ r.K, RdSp w (.slice k.sa k.sp.length k.sc) k.sp ∧ (k.sp ≠ [] → ∀ g o, k.sa = some ⟨g, o, none⟩ → g < M0)
  eq : E q
  er : ∀ g, (Value.slice ca r.K.length cc).ownBlock = some g → E g
  lo : ∀ g, E g → M0 ≤ g ∧ g < w.heap.size
  len : r.K.length ≤ 1000
theorem AR.fr {w w' : World} {q : Nat} {E S : Nat → Prop} {M0 : Nat} {r : RS} {M : MR} {ca : Option Addr} {cc : Nat} (h : AR w q E M0 r M ca cc) (f : Fr S w w') (hS : ∀ g, E g ∨ g < M0 → ¬ S g) : AR w' q E M0 r M ca cc :=
  ⟨f.blk h.blk (hS _ (Or.inl h.eq)), fun c ps e => by
    obtain ⟨m1, m2, m3, G, m4, m5, m6⟩ := h.man c ps e
    exact ⟨m1, m2, m3, G, m4.fr f (fun g hg => hS g (Or.inl (m5 g hg))), m5, m6⟩, ownsRow_fr h.row f (fun g hg => hS g (Or.inl (h.er g hg))), fun k hk => ⟨(h.sps k hk).1.fr1 f (fun hne g o n c e => hS g (Or.inr ((h.sps k hk).2 hne g o (by injection e)))), (h.sps k hk).2⟩, h.eq, h.er, fun g hg => ⟨(h.lo g hg).1, Nat.lt_of_lt_of_le (h.lo g hg).2 f.size⟩, h.len⟩
theorem AR.frN {w w' : World} {q : Nat} {E : Nat → Prop} {M0 : Nat} {r : RS} {M : MR} {ca : Option Addr} {cc : Nat} (h : AR w q E M0 r M ca cc) (f : Fr noB w w') : AR w' q E M0 r M ca cc := h.fr f (fun _ _ q => q)
theorem mrC_len (m : MR) : (mrC m).length = 15 := rfl
/-- the cells of the k-th chunk -/
theorem AR.get {w : World} {q : Nat} {E : Nat → Prop} {M0 : Nat} {r : RS} {M : MR} {ca : Option Addr} {cc : Nat} (h : AR w q E M0 r M ca cc) {k : Nat} {x : Kq} (hk : r.K[k]? = some x) :
    ∃ g, ca = some ⟨g, 0, none⟩ ∧ ∀ i v, (mrC (x.mr r.tr r.jb))[i]? = some v → w.cell? ⟨g, k * 15 + i, none⟩ = some v := by
  have hl : 0 < r.K.length := by have := (List.getElem?_eq_some_iff.1 hk).1; omega
  obtain ⟨g, cap, e, _⟩ := ownsRow_some h.row hl
  injection e with e1 e2 e3
  subst e1
  refine ⟨g, rfl, fun i v hi => ?_⟩
  have hi15 : i < 15 := by have := (List.getElem?_eq_some_iff.1 hi).1; exact this
  have h2 := flat_getN (fun k : Kq => mrC (k.mr r.tr r.jb)) 15 (fun _ => rfl) r.K k i x hk hi15
  have h3 := h.row.cells (g := g) rfl (k * 15 + i) v (by unfold RS.KC; rw [h2]; exact hi)
  rw [add_none, Nat.zero_add] at h3
  exact h3
end Go.Proofs.Ytdfkjigkpcgngaa
