/-
  Clients are nothing but names (mathematics); a client's name written anew.
-/
import Derived.Test.YteobndfkkpfnlaaHU
namespace Go.Proofs.Yteobndfkkpfnlaa
open Go.ChangeShapes Go.WideShapes Go.ChangeAt Go.RowKit

set_option maxRecDepth 100000 in
theorem EvO.congr {w : World} {B len : Nat} {v : Value} {E E' : Nat → Ev} {V : Nat → Value} (h : EvO w B v len E V) (he : ∀ j, j < len → E j = E' j) : EvO w B v len E' V := by
  refine ⟨?_, fun i hi => by rw [← he i hi]; exact h.ops i hi⟩
  rw [rowT_congr (fun i => asT (E' i)) (fun i => asT (E i)) V V len fun i hi => by rw [he i hi]; exact ⟨rfl, rfl, rfl⟩]
  exact h.row

end Go.Proofs.Yteobndfkkpfnlaa
