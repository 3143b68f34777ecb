/-
  Stage 2's awake: answers that the document fixes; WireNil.
-/
import Derived.Test.YtnfjnlaalfcabaaDoorWire4
set_option linter.unusedVariables false
set_option linter.unusedSimpArgs false
set_option maxRecDepth 100000
namespace Go.Proofs.YtnfjnlaalfcabaaDoor
open Go.RowKit Go Go.Lib

/-- the blocks from B on -/
def hiB (B : Nat) : Nat → Prop := fun k => B ≤ k
theorem Fr.hi {B : Nat} {S : Nat → Prop} {a b c : World} (h : Fr (hiB B) a b) (k : Fr S b c) (hS : ∀ i, i < B → ¬ S i) : Fr (hiB B) a c :=
  h.trans k (fun _ _ q => q) (fun i _ q => Nat.le_of_not_lt (fun hlt => hS i hlt q))
theorem Fr.hiN {a b : World} (h : Fr (hiB a.heap.size) a b) : Fr noB a b := ⟨h.os, h.tape, h.output, h.size, fun k hk _ => h.block k hk (by unfold hiB; omega)⟩
theorem Fr.hi0 {B : Nat} {a b c : World} (h : Fr (hiB B) a b) (k : Fr noB b c) : Fr (hiB B) a c := h.hi k (fun _ _ q => q)
theorem Fr.hiO {B p : Nat} {a b c : World} (h : Fr (hiB B) a b) (k : Fr (onlyB p) b c) (hp : B ≤ p) : Fr (hiB B) a c := h.hi k (fun i hi q => by unfold onlyB at q; omega)
theorem Fr.hiW {B p : Nat} {a b c : World} (h : Fr (hiB B) a b) (k : Fr (wU p B b) b c) (hp : B ≤ p) : Fr (hiB B) a c := h.hi k (fun i hi q => by
  rcases q with q | ⟨q, _⟩ <;> omega)
theorem GlB.hi {B : Nat} {w w' : World} (h : GlB B w) (f : Fr (hiB B) w w') : GlB B w' := h.fr f (fun k hk q => by unfold hiB at q; omega)
theorem GlB.ne {B p : Nat} {w : World} (h : GlB B w) (hp : B ≤ p) : p ≠ 1 ∧ p ≠ 2 ∧ p ≠ 5 := by
  have h1 := h.b1
  have h2 := h.b2
  have h3 := h.b3
  refine ⟨?_, ?_, ?_⟩ <;> omega
theorem wr_new {w : World} {p B : Nat} (h : Blk w p 27 [.slice none 0 0]) (hB : B ≤ w.heap.size) : Wr w p (.slice none 0 0) B [] := ⟨h, World.ownsRow_nil _ _ _ _, hB⟩
theorem int_back (n : Nat) (lo hi : Int) (t : List UInt8) (h : n ≤ 9007199254740992) (h1 : lo ≤ (n : Int)) (h2 : (n : Int) ≤ hi) : intS lo hi (numL n ++ t) = some (n, t) := by
  unfold intS
  rw [num_back n h]
  simp only
  rw [if_neg (by omega), if_neg (by omega)]

/-- Int of a slice that is made for it -/
theorem wint_new (p B g : Nat) (v : Value) (T : List UInt8) (xs : List Int) (w : World) (h : Wr w p v B T) (hgz : w.heap.size = g) (hx : ∀ x ∈ xs, -9223372036854775808 ≤ x ∧ x ≤ 9223372036854775807) (hT : T.length + 28 * xs.length ≤ 100000000) :
    Calls Tryd.prog 9 #[.pointer (some ⟨p, 0, none⟩), .slice (some ⟨g, 0, none⟩) xs.length xs.length] (w.alloc (.cells (xs.map (Value.int .i64)).toArray 3)) fun e w' => e = .returned (.tuple #[]) ∧ ∃ v', Wr w' p v' B (T ++ numsL xs) ∧ Fr (wU p B w) w w' := by
  subst hgz
  have f0 : Fr noB w (w.alloc (.cells (xs.map (Value.int .i64)).toArray 3)) := (Fr.refl _ w).alloc _
  have hb : Blk (w.alloc (.cells (xs.map (Value.int .i64)).toArray 3)) w.heap.size 3 (xs.map (Value.int .i64)) := Blk.new _ _ _
  have hp := h.1.lt
  refine (wint_any p B v _ T xs _ (h.frN f0) (RdN.of_blk xs hb (by omega)) hx hT).mono ?_
  rintro e w' ⟨rfl, v', hw, f⟩
  exact ⟨rfl, v', hw, (f0.toN (S := wU p B w)).seqW f⟩
/-- Text of one that is made for it -/
theorem wtext_new (p B0 B g : Nat) (v : Value) (T : List UInt8) (s : ByteArray) (w : World) (h : Wr w p v B T) (hgz : w.heap.size = g) (hg : GlB B0 w) (hp : B0 ≤ p) (h0 : B0 ≤ B) (hs : s.size ≤ 100000) (hT : T.length ≤ 10000000) :
    Calls Tryd.prog 11 #[.pointer (some ⟨p, 0, none⟩), .slice (some ⟨g, 0, none⟩) 1 1] (w.alloc (.cells #[.string s] 9)) fun e w' => e = .returned (.tuple #[]) ∧ ∃ v', Wr w' p v' B (T ++ textL s.data.toList) ∧ Fr (wU p B w) w w' := by
  subst hgz
  have f0 : Fr noB w (w.alloc (.cells #[.string s] 9)) := (Fr.refl _ w).alloc _
  have hb : Blk (w.alloc (.cells #[.string s] 9)) w.heap.size 9 [.string s] := Blk.new _ _ [.string s]
  have hpl := h.1.lt
  refine (wtext_any p B0 B w.heap.size v T s _ (h.frN f0) (hg.frN f0) hp h0 hb (by omega) hs hT).mono ?_
  rintro e w' ⟨rfl, ⟨v', hw, f⟩⟩
  exact ⟨rfl, v', hw, (f0.toN (S := wU p B w)).seqW f⟩

theorem size_alloc (w : World) (o : Obj) : (w.alloc o).heap.size = w.heap.size + 1 := by simp

def awT : List UInt8 := numL 0 ++ (numL 4096 ++ (textL [97, 10] ++ []))
theorem awT_eq : ([] ++ numsL [0, 4096]) ++ textL [97, 10] = awT := by
  unfold awT numsL
  simp [List.flatMap_cons]
theorem awT_len : awT.length ≤ 1000 := by
  unfold awT
  have := num_len 0
  have := num_len 4096
  have h1 := text_len [97, 10]
  have h2 := quote_len [97, 10]
  simp only [List.length_append, List.length_cons, List.length_nil] at *
  omega
theorem aw1 : intS 0 9 awT = some (0, numL 4096 ++ (textL [97, 10] ++ [])) := int_back 0 0 9 _ (by omega) (by omega) (by omega)
theorem aw2 : intS 0 9999 (numL 4096 ++ (textL [97, 10] ++ [])) = some (4096, textL [97, 10] ++ []) := int_back 4096 0 9999 _ (by omega) (by omega) (by omega)
theorem aw3 : textS 2 (textL [97, 10] ++ []) = some ([97, 10], []) := text_back _ 2 (by simp) (by have h2 := quote_len [97, 10]; simp only [List.length_cons, List.length_nil] at h2; omega) _
theorem aw4 : intS 0 9 [97] = none := by decide +kernel

set_option maxHeartbeats 2000000 in
theorem awake_any (w : World) (hg : Gl w) : Calls Tryd.prog 7 #[] w fun e w' => e = .returned (.bool true) ∧ Fr noB w w' := by
  have gb := hg.low
  have key : ∀ w', Fr (hiB w.heap.size) w w' → Fr noB w w' := fun w' f => f.hiN
  obtain ⟨B, hB⟩ : ∃ B, w.heap.size = B := ⟨_, rfl⟩
  rw [hB] at gb key
  have bp := Blk.new w 27 [.slice none 0 0]
  rw [hB] at bp
  have f0 : Fr (hiB B) w (w.alloc (.cells #[Value.slice none 0 0] 27)) := (Fr.refl _ w).alloc _
  have sz : (w.alloc (.cells #[Value.slice none 0 0] 27)).heap.size = B + 1 := by rw [size_alloc, hB]
  replace key := Lib.hid key
  go_enter Tryd.func7, Tryd.ntmps7
  go_wp2_with fail
  generalize (w.alloc (.cells #[Value.slice none 0 0] 27)) = w1 at *
  refine (wint_new B B (B + 1) _ [] [0, 4096] w1 (wr_new bp (by omega)) sz (by intro x hx; simp at hx; omega) (by simp)).mono ?_
  rintro e w2 ⟨rfl, v2, hw2, f2⟩
  have fr2 := f0.hi (f2 : Fr (wU B B w1) w1 w2) (by rintro i hi (q | ⟨q, _⟩) <;> omega)
  have gb2 := gb.hi fr2
  clear f0 f2 bp sz
  obtain ⟨z2, hz2⟩ : ∃ z, w2.heap.size = z := ⟨_, rfl⟩
  go_wp2_with fail
  refine (wtext_new B B B z2 _ _ ⟨#[97, 10]⟩ w2 hw2 hz2 gb2 (Nat.le_refl _) (Nat.le_refl _) (by decide) (by have := nums_len [0, 4096]; simp only [List.nil_append, List.length_cons, List.length_nil] at *; omega)).mono ?_
  rintro e w3 ⟨rfl, v3, hw3, f3⟩
  have fr3 := fr2.hi f3 (by rintro i hi (q | ⟨q, _⟩) <;> omega)
  have gb3 := gb.hi fr3
  clear f3 fr2 gb2 hz2 hw2
  rw [show (ByteArray.mk #[97, 10]).data.toList = [97, 10] from rfl, awT_eq] at hw3
  have hst := wstr_any B B v3 awT w3 hw3
  go_wp2_with fail
  refine hst.mono ?_
  rintro e w4 ⟨rfl, hw⟩
  obtain rfl := hw.symm
  go_wp2_with fail
  refine (newr_any (strB awT) w3).mono ?_
  rintro e w4 ⟨rfl, hw4⟩
  have hl := awT_len
  have rd := rd_new (strB awT) w3 (by rw [strB_size]; omega)
  rw [← hw4, strB_list] at rd
  have fr4 : Fr (hiB B) w w4 := by rw [hw4]; exact fr3.alloc _
  have hq : B ≤ w3.heap.size := by have := fr3.size; omega
  clear hw4 hst
  generalize w3.heap.size = q at *
  have gb4 := gb.hi fr4
  go_wp2_with fail
  refine (rint_any q (some awT) 0 9 w4 rd).mono ?_
  rw [show (some awT).bind (intS 0 9) = some (0, numL 4096 ++ (textL [97, 10] ++ [])) from aw1, show vI (some (0, numL 4096 ++ (textL [97, 10] ++ []))) = 0 from rfl]
  rintro e w5 ⟨rfl, rd5, f5⟩
  have fr5 := fr4.hiO f5 hq
  go_wp2_with fail
  refine (rint_any q _ 0 9999 w5 rd5).mono ?_
  rw [show (sI (some (0, numL 4096 ++ (textL [97, 10] ++ [])))).bind (intS 0 9999) = some (4096, textL [97, 10] ++ []) from aw2, show vI (some (4096, textL [97, 10] ++ [])) = 4096 from rfl]
  rintro e w6 ⟨rfl, rd6, f6⟩
  have fr6 := fr5.hiO f6 hq
  have gb6 := gb.hi fr6
  go_wp2_with fail
  refine (rtext_any q _ 2 w6 gb6.gl (gb6.ne hq) rd6).mono ?_
  rw [show (sI (some (4096, textL [97, 10] ++ []))).bind (textS 2) = some ([97, 10], []) from aw3, show strB (vT (some (([97, 10] : List UInt8), ([] : List UInt8)))) = ⟨#[97, 10]⟩ from rfl]
  rintro e w7 ⟨rfl, rd7, f7⟩
  have fr7 := fr6.hiO f7 hq
  go_wp2_with fail
  refine (newr_any ⟨#[97]⟩ w7).mono ?_
  rintro e w8 ⟨rfl, hw8⟩
  have rdx := rd_new ⟨#[97]⟩ w7 (by decide)
  rw [← hw8] at rdx
  have fn8 : Fr noB w7 w8 := by rw [hw8]; exact (Fr.refl _ _).alloc _
  have fr8 := fr7.hi0 fn8
  have hq2 : B ≤ w7.heap.size := by have := fr7.size; omega
  have hne : q ≠ w7.heap.size := by
    obtain ⟨_, _, h1, _⟩ := rd7
    have := h1.lt
    omega
  have rd8 := rd7.fr fn8 (fun q => q)
  clear hw8 fn8
  generalize w7.heap.size = q2 at *
  go_wp2_with fail
  refine (rint_any q2 _ 0 9 w8 rdx).mono ?_
  rw [show (some (ByteArray.mk #[97]).data.toList).bind (intS 0 9) = none from aw4]
  rintro e w9 ⟨rfl, rd9, f9⟩
  have fr9 := fr8.hiO f9 hq2
  have rda := rd8.fr f9 hne
  have hdn := rdone_any q _ w9 rda
  have hok := rok_any q2 _ w9 rd9
  rw [show sT (some (([97, 10] : List UInt8), ([] : List UInt8))) = some [] from rfl] at hdn
  rw [show sI (none : Option (Nat × List UInt8)) = none from rfl] at hok
  clear rd rd5 rd6 rd7 rd8 f5 f6 f7 f9 fr4 fr5 fr6 fr7 fr8 gb3 gb4 gb6 hw3 fr3
  replace hdn := Lib.hid hdn
  replace hok := Lib.hid hok
  go_wp2_with fail
  refine hdn.out.mono ?_
  rintro e wa ⟨rfl, hw⟩
  obtain rfl := hw.symm
  go_wp2_with fail
  refine hok.out.mono ?_
  rintro e wa ⟨rfl, hw⟩
  obtain rfl := hw.symm
  go_wp2_with fail
  go_ret
  exact ⟨rfl, key.out _ fr9⟩
end Go.Proofs.YtnfjnlaalfcabaaDoor
