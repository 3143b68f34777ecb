/-
  A row of bytes of the call's own, and 'string(b)' of it.
-/
import Derived.Test.YtppmednmcbjafaaGreatAppend
import Derived.Laws.BytesArg
set_option linter.unusedVariables false
set_option linter.unusedSimpArgs false
set_option maxRecDepth 100000
namespace Go.Proofs.YtppmednmcbjafaaGreat
open Go.RowKit Go

/-- a byte's cell -/
def cellB (b : UInt8) : Value := .int .u8 (b.toNat : Int)
/-- a text of these bytes -/
def strB (l : List UInt8) : ByteArray := ⟨l.toArray⟩

theorem strB_size (l : List UInt8) : (strB l).size = l.length := rfl
theorem strB_list (l : List UInt8) : (strB l).data.toList = l := rfl
theorem strB_append (a b : List UInt8) : strB a ++ strB b = strB (a ++ b) := by
  apply ByteArray.ext
  simp [strB]
theorem strB_of (s : ByteArray) : strB s.data.toList = s := by cases s; rfl

theorem string_of_row {P : Program} {w : World} (src dst e : TypeId) (hs : P.underlying src = some (.slice e)) (he : P.underlying e = some (.int .u8)) (hd : P.underlying dst = some .string)
    {base n : Nat} {v : Value} {l : List UInt8} (h : w.ownsRow base e 1 v n (l.map cellB)) :
    (convert src dst v).run P w = .ok (.string (strB l)) w := by
  have hlen : l.length = n := by have := h.1; simpa using this
  rcases h.2 with ⟨rfl, rfl⟩ | ⟨g, cap, cur, rfl, h2, h3, h4⟩
  · have : l = [] := List.eq_nil_of_length_eq_zero hlen
    subst this
    rw [run_convert_bytes_nil w src e hs he 0 0 dst hd]
    rfl
  · have hcell : ∀ i, i < n → w.cell? ⟨g, 0 + i, none⟩ = some (.int .u8 ((l.map fun b => (b.toNat : Int)).getD i 0)) := fun i hi => by
      have := h.cells (g := g) rfl i (.int .u8 ((l.map fun b => (b.toNat : Int)).getD i 0)) (by
        simp [List.getElem?_map, List.getD, List.getElem?_eq_getElem (show i < l.length by omega), cellB])
      rw [show (⟨g, 0, none⟩ : Addr).add i = ⟨g, 0 + i, none⟩ by unfold Addr.add; split <;> simp_all] at this
      exact this
    rw [run_convert_bytes_arg w src e hs he g 0 n cap (l.map fun b => (b.toNat : Int)) (by simpa using hlen) hcell dst hd]
    congr 2
    unfold strOfNums strB
    simp [List.map_map, Function.comp_def]

theorem one_byte (b : UInt8) : ∀ u ∈ [cellB b], u.oneCell' = true := by intro u hu; simp at hu; subst hu; rfl
theorem Tryz.infoByte : (Tryz.prog.info? 5).map (fun i => (i.zero, i.size, i.bytes)) = some (some (.int .u8 0), 1, 1) := by kernel_rfl

/-- a number, modulo 256, as a byte -/
def byteU (x : Int) : UInt8 := UInt8.ofNat (x % 256).toNat
theorem byteU_val (x : Int) : ((byteU x).toNat : Int) = x % 256 := by
  unfold byteU
  have h0 := Int.emod_nonneg x (show (256 : Int) ≠ 0 by omega)
  have h1 := Int.emod_lt_of_pos x (show (0 : Int) < 256 by omega)
  simp only [UInt8.toNat_ofNat']
  omega
theorem cellB_byteU (x : Int) : cellB (byteU x) = .int .u8 (x % 256) := by unfold cellB; rw [byteU_val]
end Go.Proofs.YtppmednmcbjafaaGreat
