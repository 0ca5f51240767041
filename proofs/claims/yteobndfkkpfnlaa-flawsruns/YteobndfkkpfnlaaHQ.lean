/-
  Contract of the reference's Same.
-/
import Derived.Test.YteobndfkkpfnlaaHL
import Derived.Laws.StructEq
namespace Go.Proofs.Yteobndfkkpfnlaa
open Go.ChangeShapes Go.WideShapes Go.ChangeAt Go.RowKit

set_option maxRecDepth 100000 in
theorem str38 : Try.prog.underlying 44 = some (.struct (Try.prog.fieldsOf 44)) := by kernel_rfl

set_option maxRecDepth 100000 in
theorem held38 : Try.prog.stoodInHeld 44 = false := by kernel_rfl

set_option maxRecDepth 100000 in
theorem eqO (k key v k' key' v' : Int) (w : World) : (Op.equalIn 10000 44 (.agg #[.int .i64 k, .int .i64 key, .int .i64 v]) (.agg #[.int .i64 k', .int .i64 key', .int .i64 v'])).run Try.prog w = .ok (k == k' && (key == key' && v == v')) w := by
  refine (run_equalIn_struct (P := Try.prog) w 9999 44 _ _ str38 held38).trans ?_
  have hfs := TypeDesc.struct.inj (Option.some.inj (str38.symm.trans Try.underlying44))
  rw [hfs]
  have e : ∀ (a b : Int) (w : World), (Op.equalIn 9999 3 (.int .i64 a) (.int .i64 b)).run Try.prog w = .ok (a == b) w := fun a b w => run_equalIn_int w 9998 3 .i64 .i64 _ _ Try.underlying3
  have q0 : ∀ (a b c : Int) (w : World), (part 3 #[.int .i64 a, .int .i64 b, .int .i64 c] 0).run Try.prog w = .ok (.int .i64 a) w := fun a b c w => by simp [part, go_sem]
  have q1 : ∀ (a b c : Int) (w : World), (part 3 #[.int .i64 a, .int .i64 b, .int .i64 c] 1).run Try.prog w = .ok (.int .i64 b) w := fun a b c w => by simp [part, go_sem]
  have q2 : ∀ (a b c : Int) (w : World), (part 3 #[.int .i64 a, .int .i64 b, .int .i64 c] 2).run Try.prog w = .ok (.int .i64 c) w := fun a b c w => by simp [part, go_sem]
  by_cases h0 : k = k' <;> by_cases h1 : key = key' <;> by_cases h2 : v = v' <;> simp [Op.eqFields, q0, q1, q2, e, h0, h1, h2]

end Go.Proofs.Yteobndfkkpfnlaa
