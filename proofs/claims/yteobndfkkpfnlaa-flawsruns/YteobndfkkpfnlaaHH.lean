/-
  Contract of end.
-/
import Derived.Test.YteobndfkkpfnlaaHG
namespace Go.Proofs.Yteobndfkkpfnlaa
open Go.ChangeShapes Go.WideShapes Go.ChangeAt Go.RowKit Go.Maps

/-- what becomes of a transaction -/
def endT (t : Tx) (k : Int) (n : Nat) (o : Nat → O3) : Tx := if k = 2 then ⟨t.c, 1, n, o⟩ else if k = 3 then ⟨t.c, 2, t.n, t.o⟩ else t

/-- an end that may be -/
def FinP (k : Int) (n : Nat) (p : Prop) : Prop := (k = 2 ∧ p) ∨ (¬ k = 2 ∧ n = 0)

end Go.Proofs.Yteobndfkkpfnlaa
