/- '==' of two signers that are alike. -/
import Derived.Test.YtfbefenagnlnfaaDoorKeyQ
set_option linter.unusedVariables false
namespace Go.Proofs.YtfbefenagnlnfaaDoor
open Go.RowKit
theorem prS0 (w : World) (x0 x1 x2 x3 x4 x5 : Value) : (part 24 #[x0, x1, x2, x3, x4, x5] 0).run Tryd.prog w = .ok (.agg #[x0, x1, x2, x3]) w := by kernel_rfl
theorem prS4 (w : World) (x0 x1 x2 x3 x4 x5 : Value) : (part 3 #[x0, x1, x2, x3, x4, x5] 4).run Tryd.prog w = .ok x4 w := by kernel_rfl
theorem prS5 (w : World) (x0 x1 x2 x3 x4 x5 : Value) : (part 3 #[x0, x1, x2, x3, x4, x5] 5).run Tryd.prog w = .ok x5 w := by kernel_rfl
set_option maxRecDepth 100000 in
theorem eqSg (w : World) (a0 a1 a2 a3 h n : Int) : (Op.equalIn 10000 30 (.agg #[.int .u32 a0, .int .u32 a1, .int .u32 a2, .int .u32 a3, .int .i64 h, .int .i64 n]) (.agg #[.int .u32 a0, .int .u32 a1, .int .u32 a2, .int .u32 a3, .int .i64 h, .int .i64 n])).run Tryd.prog w = .ok true w := by
  have hS : Tryd.prog.underlying 30 = some (.struct (Tryd.prog.fieldsOf 30)) := by kernel_rfl
  have hp : Tryd.prog.stoodInHeld 30 = false := by kernel_rfl
  have e : ∀ (w : World), (Op.equalIn 9999 24 (.agg #[.int .u32 a0, .int .u32 a1, .int .u32 a2, .int .u32 a3]) (.agg #[.int .u32 a0, .int .u32 a1, .int .u32 a2, .int .u32 a3])).run Tryd.prog w = .ok true w := fun w => by
    have := eq4d w 9997 a0 a1 a2 a3 a0 a1 a2 a3
    rw [same_self] at this
    exact this
  have i : ∀ (w : World) (x : Int), (Op.equalIn 9999 3 (.int .i64 x) (.int .i64 x)).run Tryd.prog w = .ok true w := fun w x => by
    have := run_equalIn_int w 9998 3 .i64 .i64 x x Tryd.underlying3
    simpa using this
  rw [show (10000 : Nat) = 9999 + 1 from rfl, run_equalIn_agg w 9999 30 _ _ hS hp]
  simp only [Program.fieldsOf, Tryd.underlying30]
  simp [Op.eqFields, Sem.run_bind, prS0, prS4, prS5, Result.andThen_ok, e, i]
end Go.Proofs.YtfbefenagnlnfaaDoor
