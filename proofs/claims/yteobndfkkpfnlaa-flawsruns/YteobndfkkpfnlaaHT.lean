/-
  For HistOne: Same of the same; one event more.
-/
import Derived.Test.YteobndfkkpfnlaaHS
import Derived.Test.YteobndfkkpfnlaaHM
namespace Go.Proofs.Yteobndfkkpfnlaa
open Go.ChangeShapes Go.WideShapes Go.ChangeAt Go.RowKit

set_option maxRecDepth 100000 in
theorem OpS.drewN {w : World} {sp : Option Addr} {n : Nat} {o : Nat → O3} (h : OpS w sp n o) (q : Nat) : OpS (w.drewN q) sp n o := h

section

variable {H : Type} {enc : TypeId × Value → H} {w : World} {base : Nat} {spare : Nat → Bool} {held : Bool}

end

end Go.Proofs.Yteobndfkkpfnlaa
