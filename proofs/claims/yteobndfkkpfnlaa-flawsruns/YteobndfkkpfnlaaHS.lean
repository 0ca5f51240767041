/-
  The reference's Copy.
-/
import Derived.Test.YteobndfkkpfnlaaHR
import Derived.Deep.RegionHeld3
namespace Go.Proofs.Yteobndfkkpfnlaa
open Go.ChangeShapes Go.WideShapes Go.ChangeAt Go.RowKit

set_option maxRecDepth 100000 in
theorem own_nil' {w : World} {base e size n cap : Nat} {sp : Option Addr} {xs : List Value} (h : w.ownsRow base e size (.slice sp n cap) n xs) : sp = none → n = 0 ∧ cap = 0 := by
  intro hs
  rcases h.2 with ⟨e, _⟩ | ⟨g, cp, cur, e, _⟩
  · injection e with e1 e2 e3; exact ⟨e2, e3⟩
  · injection e with e1 e2 e3; rw [hs] at e1; cases e1

end Go.Proofs.Yteobndfkkpfnlaa
