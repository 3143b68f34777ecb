/-
  What the layer's laws ask first: answers that are fixed.
-/
import Derived.Test.YtidcoddefebdpaaGreatJobAwake
set_option linter.unusedVariables false
set_option linter.unusedSimpArgs false
set_option maxRecDepth 100000
namespace Go.Proofs.YtidcoddefebdpaaGreat
open Go.RowKit Go Go.Lib

def JA (a b : Vis) (ph : Int) (st : Bool) : JS := ⟨5, 7, 2, 3, a, b, vis0, vis0, ph, st⟩
def vA : Vis := ⟨true, false, false, told0⟩
def vP (t : Told) : Vis := ⟨true, true, false, t⟩
def vF (t : Told) : Vis := ⟨true, true, true, t⟩
theorem s0 : JS.new 5 7 2 3 0 = JA vA vis0 1 false := rfl
theorem s1 (T : Told) : (JA vA vis0 1 false).pin 0 T [1] = JA (vP T) vA 1 false := rfl
theorem s2 (T U : Told) : (JA (vP T) vA 1 false).pin 1 U [] = JA (vP T) (vP U) 2 false := rfl
theorem s3 (T U : Told) : (JA (vP T) (vP U) 2 false).sto = JA (vP T) (vP U) 3 true := rfl
theorem s4 (T U : Told) : (JA (vP T) (vP U) 3 true).unp 0 = JA (vF T) (vP U) 3 true := rfl
theorem s5 (T U : Told) : (JA (vF T) (vP U) 3 true).unp 1 = JA (vF T) (vF U) 4 true := rfl

end Go.Proofs.YtidcoddefebdpaaGreat
