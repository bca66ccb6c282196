/- Four words of a row of the call's own; texts' lengths. -/
import Derived.Test.YtfbefenagnlnfaaDoorPackC
import Derived.Test.YtfbefenagnlnfaaDoorDigM
import Derived.Test.YtfbefenagnlnfaaDoorGet4
import Derived.Laws.OwnMore
set_option linter.unusedVariables false
namespace Go.Proofs.YtfbefenagnlnfaaDoor
open Go.RowKit

theorem cells_own4 {w : World} {B g : Nat} {v0 v1 v2 v3 : Int} (h : w.ownsRow B 22 1 (.slice (some ⟨g, 0, none⟩) 4 4) 4 ([v0, v1, v2, v3].map (Value.int .u32))) : ∀ j, j < 4 → w.cell? ⟨g, 0 + j, none⟩ = some (.int .u32 ([v0, v1, v2, v3].getD j 0)) := by
  intro j hj
  rw [Nat.zero_add, h.cellAt j (by omega)]
  match j, hj with
  | 0, _ => rfl
  | 1, _ => rfl
  | 2, _ => rfl
  | 3, _ => rfl
end Go.Proofs.YtfbefenagnlnfaaDoor
