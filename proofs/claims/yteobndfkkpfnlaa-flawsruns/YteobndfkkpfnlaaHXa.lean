/-
  HistParts' walk; a transaction that came in by value.
-/
import Derived.Test.YteobndfkkpfnlaaHWf
import Derived.Test.YteobndfkkpfnlaaHT
import Derived.Deep.RegionHeld3
namespace Go.Proofs.Yteobndfkkpfnlaa
open Go.ChangeShapes Go.WideShapes Go.ChangeAt Go.RowKit

section

variable {H : Type} {enc : TypeId × Value → H} {w : World} {base : Nat} {spare : Nat → Bool} {held : Bool}

end

/-- an operation of a history, as the law asks -/
def LOp (t : O3) : Prop := (t.k = 1 ∨ t.k = 2) ∧ 0 ≤ t.key ∧ t.key ≤ 15

end Go.Proofs.Yteobndfkkpfnlaa
