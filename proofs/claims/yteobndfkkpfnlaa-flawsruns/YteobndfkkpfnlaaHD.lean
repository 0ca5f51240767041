/-
  Contract of answers.
-/
import Derived.Test.YteobndfkkpfnlaaHC
namespace Go.Proofs.Yteobndfkkpfnlaa
open Go.ChangeShapes Go.WideShapes Go.ChangeAt Go.RowKit Go.Maps

set_option maxRecDepth 100000 in
theorem MapS.drewN {w : World} {b n : Nat} {m : Int → Option Int} (h : MapS w b n m) (q : Nat) : MapS (w.drewN q) b n m := h.kept rfl

set_option maxRecDepth 100000 in
theorem below_drewN {B : Nat} {a w : World} (h : Below B a w) (n : Nat) : Below B a (w.drewN n) := ⟨h.os, h.tape, h.output, h.size, h.block⟩

set_option maxRecDepth 100000 in
theorem wpList_update_S {w : World} {ops : Array Oper} {rest : List Oper} {o : Oper} {a : Act} {Q : Exit → Act → World → Prop}
    (hg : o.guard = none) (m x v : Operand) (hop : o.op = Op.mapUpdate 120 m x v) (b n : Nat) (M : Int → Option Int)
    (hm : a.eval m = .map (some b)) (hown : MapS w b n M) (hn : n < 1000000) (key val : Int) (hx : a.eval x = .int .i64 key) (hv : a.eval v = .int .i64 val)
    (hkr : -9223372036854775808 ≤ key ∧ key ≤ 9223372036854775807) (hvr : -9223372036854775808 ≤ val ∧ val ≤ 9223372036854775807)
    (hK : ∀ w', MapS w' b (n + 1) (fun y => if y = key then some val else M y) → w.grownBy w' (some b) → wpList Try.prog ops Q rest (a.put o.dst undef) w') :
    wpList Try.prog ops Q (o :: rest) a w := by
  refine wpList_plain hg fun K' hK' => ?_
  obtain ⟨w', hrun, h1, h2⟩ := hown.update key val hn hkr hvr
  unfold Oper.wp
  simp [execOp, hop, hm, hx, hv, hrun, Result.andThen]
  exact hK' _ _ (hK w' h1 h2)

end Go.Proofs.Yteobndfkkpfnlaa
