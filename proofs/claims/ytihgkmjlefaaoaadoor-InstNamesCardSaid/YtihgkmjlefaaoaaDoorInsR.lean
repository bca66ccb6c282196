/- '==' of two instructions. -/
import Derived.Test.YtihgkmjlefaaoaaDoorRet
import Derived.ChangeKeysEq
set_option linter.unusedVariables false
namespace Go.Proofs.YtihgkmjlefaaoaaDoor
open Go.RowKit
theorem prI0 (w : World) (x0 x1 x2 x3 : Value) : (part 3 #[x0, x1, x2, x3] 0).run Tryd.prog w = .ok x0 w := by kernel_rfl
theorem prI1 (w : World) (x0 x1 x2 x3 : Value) : (part 3 #[x0, x1, x2, x3] 1).run Tryd.prog w = .ok x1 w := by kernel_rfl
theorem prI2 (w : World) (x0 x1 x2 x3 : Value) : (part 3 #[x0, x1, x2, x3] 2).run Tryd.prog w = .ok x2 w := by kernel_rfl
theorem prI3 (w : World) (x0 x1 x2 x3 : Value) : (part 3 #[x0, x1, x2, x3] 3).run Tryd.prog w = .ok x3 w := by kernel_rfl
set_option maxRecDepth 100000 in
theorem eqIns (w : World) (a0 a1 a2 a3 b0 b1 b2 b3 : Int) : (Op.equalIn 10000 23 (.agg #[.int .i64 a0, .int .i64 a1, .int .i64 a2, .int .i64 a3]) (.agg #[.int .i64 b0, .int .i64 b1, .int .i64 b2, .int .i64 b3])).run Tryd.prog w = .ok (decide (a0 = b0 ∧ a1 = b1 ∧ a2 = b2 ∧ a3 = b3)) w := by
  have hS : Tryd.prog.underlying 23 = some (.struct (Tryd.prog.fieldsOf 23)) := by kernel_rfl
  have hp : Tryd.prog.stoodInHeld 23 = false := by kernel_rfl
  have i : ∀ (w : World) (x y : Int), (Op.equalIn 9999 3 (.int .i64 x) (.int .i64 y)).run Tryd.prog w = .ok (x == y) w := fun w x y => by
    have := run_equalIn_int w 9998 3 .i64 .i64 x y Tryd.underlying3
    simpa using this
  rw [show (10000 : Nat) = 9999 + 1 from rfl, run_equalIn_agg w 9999 23 _ _ hS hp]
  simp only [Program.fieldsOf, Tryd.underlying23]
  by_cases h0 : a0 = b0
  · by_cases h1 : a1 = b1
    · by_cases h2 : a2 = b2
      · by_cases h3 : a3 = b3
        · simp [Op.eqFields, Sem.run_bind, prI0, prI1, prI2, prI3, Result.andThen_ok, i, h0, h1, h2, h3]
        · simp [Op.eqFields, Sem.run_bind, prI0, prI1, prI2, prI3, Result.andThen_ok, i, h0, h1, h2, h3]
      · simp [Op.eqFields, Sem.run_bind, prI0, prI1, prI2, prI3, Result.andThen_ok, i, h0, h1, h2]
    · simp [Op.eqFields, Sem.run_bind, prI0, prI1, prI2, prI3, Result.andThen_ok, i, h0, h1]
  · simp [Op.eqFields, Sem.run_bind, prI0, prI1, prI2, prI3, Result.andThen_ok, i, h0]
end Go.Proofs.YtihgkmjlefaaoaaDoor
