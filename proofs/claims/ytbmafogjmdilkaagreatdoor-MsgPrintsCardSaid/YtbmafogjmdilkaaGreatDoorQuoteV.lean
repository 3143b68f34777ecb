/-
  Plain mathematics: what is quoted is UTF-8, and no shorter; quoted texts joined.
-/
import Derived.Test.YtbmafogjmdilkaaGreatDoorUnquoteL
set_option linter.unusedVariables false
set_option linter.unusedSimpArgs false
set_option maxRecDepth 100000
namespace Go.Proofs.YtbmafogjmdilkaaGreatDoor
open Go Go.Lib

theorem dec_asc (x : UInt8) (t : List UInt8) (h : x.toNat < 128) : dec (x :: t) = (x.toNat, 1) := by
  unfold dec decodeN
  simp only [List.getD_cons_zero, h, if_true]
theorem okD_asc (x : UInt8) (t : List UInt8) (h : x.toNat < 128) : okD (x :: t) = true := by
  rw [okD_iff, dec_asc x t h]
  simp
  omega
theorem valid_asc : ∀ (l : List UInt8), (∀ x ∈ l, x.toNat < 128) → validL l = true ∧ (chunks l).length = l.length
  | [], _ => ⟨rfl, rfl⟩
  | x :: t, h => by
    have hx := h x (by simp)
    obtain ⟨i1, i2⟩ := valid_asc t (fun y hy => h y (by simp [hy]))
    have hd := dec_asc x t hx
    have hc : chunks (x :: t) = [x] :: chunks t := by rw [chunks_cons _ (by simp), hd]; rfl
    refine ⟨?_, by rw [hc]; simp [i2]⟩
    unfold validL at *
    rw [hc, List.all_cons, i1, okD_asc x [] hx]
    rfl
theorem hex_asc (n : Nat) : ∀ x ∈ hexL n, x.toNat < 128 := by
  intro x hx
  obtain ⟨k, hk, rfl⟩ := hexF_mem 8 n x hx
  rw [hexD_nat k hk]
  split <;> omega
theorem hexD_asc (k : Nat) (hk : k < 16) : (hexD k).toNat < 128 := by
  rw [hexD_nat k hk]
  split <;> omega
theorem chunks_one (c : List UInt8) (h : Pc c) : chunks c = [c] := by
  rw [chunks_cons c h.1, h.2, List.take_of_length_le (Nat.le_refl _), List.drop_of_length_le (Nat.le_refl _), chunks_nil]
theorem qC_valid (c : List UInt8) (h : Pc c) : validL (qC c) = true ∧ c.length ≤ (qC c).length := by
  cases hok : okD c with
  | false =>
    obtain ⟨b, rfl, hb⟩ := bad_one c h hok
    have hl := b.toNat_lt
    rw [qC_bad b hok]
    refine ⟨(valid_asc _ ?_).1, by simp⟩
    intro x hx
    simp only [List.mem_cons, List.not_mem_nil, or_false] at hx
    rcases hx with rfl | rfl | rfl | rfl
    · decide
    · decide
    · exact hexD_asc _ (by omega)
    · exact hexD_asc _ (by omega)
  | true =>
    have he := enc_dec c h.1 h.2 hok
    have h4 := dec_w4 c
    rw [h.2] at h4
    by_cases h92 : (dec c).1 = 92
    · have hc : c = [92] := by rw [← he, h92]; rfl
      rw [qC_slash c hok h92]
      exact ⟨by decide +kernel, by rw [hc]; simp⟩
    · by_cases hp : printR (dec c).1 = true
      · rw [qC_plain c hok h92 hp]
        refine ⟨?_, Nat.le_refl _⟩
        unfold validL
        rw [chunks_one c h]
        simp [hok]
      · rw [qC_num c hok h92 hp]
        have hl := hexL_len (dec c).1
        refine ⟨(valid_asc _ ?_).1, by simp; omega⟩
        intro x hx
        simp only [List.mem_append, List.mem_cons, List.not_mem_nil, or_false] at hx
        rcases hx with ((rfl | rfl) | hx) | rfl
        · decide
        · decide
        · exact hex_asc _ x hx
        · decide
theorem quote_valid (l : List UInt8) : validL (quoteL l) = true ∧ l.length ≤ (quoteL l).length := by
  have key : ∀ cs : List (List UInt8), (∀ c ∈ cs, Pc c) → validL (cs.flatMap qC) = true ∧ cs.flatten.length ≤ (cs.flatMap qC).length := by
    intro cs
    induction cs with
    | nil => intro _; exact ⟨rfl, by simp⟩
    | cons c cs ih =>
      intro h
      obtain ⟨a1, a2⟩ := qC_valid c (h c (by simp))
      obtain ⟨b1, b2⟩ := ih (fun d hd => h d (by simp [hd]))
      rw [List.flatMap_cons]
      refine ⟨by rw [valid_app _ _ a1]; exact b1, by rw [List.flatten_cons, List.length_append, List.length_append]; omega⟩
  have := key (chunks l) (chunks_pc l)
  rw [chunks_flat] at this
  exact this
/-- quoted texts, joined -/
theorem quote_app (a b : List UInt8) (h : validL a = true) : quoteL (a ++ b) = quoteL a ++ quoteL b := by
  unfold quoteL
  rw [chunks_app a b h, List.flatMap_append]
theorem unqL_quote (l : List UInt8) : unqP unq1 (quoteL l) = some l := unqP_quote good_unq1 l
end Go.Proofs.YtbmafogjmdilkaaGreatDoor
