/-
  For HistOne: what one event more makes; an event of another's behind a copy.
-/
import Derived.Test.YteobndfkkpfnlaaHT
namespace Go.Proofs.Yteobndfkkpfnlaa
open Go.ChangeShapes Go.WideShapes Go.ChangeAt Go.RowKit

end Go.Proofs.Yteobndfkkpfnlaa
