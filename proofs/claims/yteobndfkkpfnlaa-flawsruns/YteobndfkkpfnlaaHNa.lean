/-
  What Of answers, whatever it is; two answers that differ in names alone.
-/
import Derived.Test.YteobndfkkpfnlaaHV
namespace Go.Proofs.Yteobndfkkpfnlaa
open Go.ChangeShapes Go.WideShapes Go.ChangeAt Go.RowKit

/-- what Of answers -/
def Fact (E : Nat → Ev) (len m : Nat) (T : Nat → Tx) (i : Nat) (er : Int) : Prop :=
  (400 < len ∧ m = 0 ∧ i = 400 ∧ er = 4) ∨ (len ≤ 400 ∧ ((i < len ∧ Good E i ∧ ErrOf (stateAt E i) (E i) er ∧ ¬ er = 0 ∧ m = 0) ∨ (Good E len ∧ i = 0 ∧ er = 0 ∧ m = (stateAt E len).m ∧ T = (stateAt E len).T)))

def OfQ (E : Nat → Ev) (len : Nat) (w : World) (e : Ending) (w' : World) : Prop :=
  ∃ (m : Nat) (sp : Option Addr) (cp i : Nat) (er : Int) (T : Nat → Tx) (V : Nat → Value), e = .returned (.tuple #[.slice sp m cp, .int .i64 (i : Int), .int .i64 er]) ∧ m ≤ 400 ∧ i ≤ 400 ∧ w'.ownsRow w.heap.size 47 3 (.slice sp m cp) m (rowT T V m) ∧
    (∀ j, j < m → ∃ sp cap, V j = .slice sp (T j).n cap ∧ OpS w' sp (T j).n (T j).o ∧ (T j).n ≤ 1000) ∧ Below w.heap.size w w' ∧ Fact E len m T i er

end Go.Proofs.Yteobndfkkpfnlaa
