/- Four words of a row of the call's own; texts' lengths. -/
import Derived.Test.YtioiaifmcemjlaaDoorPackC
import Derived.Test.YtioiaifmcemjlaaDoorDigM
import Derived.Laws.OwnMore
set_option linter.unusedVariables false
namespace Go.Proofs.YtioiaifmcemjlaaDoor
open Go.RowKit

theorem getD4 {v0 v1 v2 v3 : Int} (h : Ok4 [v0, v1, v2, v3]) (j : Nat) : 0 ≤ [v0, v1, v2, v3].getD j 0 ∧ [v0, v1, v2, v3].getD j 0 < 4294967296 := by
  by_cases hj : j < 4
  · have e : [v0, v1, v2, v3].getD j 0 = [v0, v1, v2, v3][j] := by rw [List.getD, List.getElem?_eq_getElem (by simpa using hj)]; rfl
    rw [e]
    have := h.2 _ (List.getElem_mem (show j < [v0, v1, v2, v3].length by simpa using hj))
    exact ⟨this.1, by have := this.2; omega⟩
  · have e : [v0, v1, v2, v3].getD j 0 = 0 := by rw [List.getD, List.getElem?_eq_none (by simp; omega)]; rfl
    rw [e]; omega
theorem cells_own4 {w : World} {B g : Nat} {v0 v1 v2 v3 : Int} (h : w.ownsRow B 25 1 (.slice (some ⟨g, 0, none⟩) 4 4) 4 ([v0, v1, v2, v3].map (Value.int .u32))) : ∀ j, j < 4 → w.cell? ⟨g, 0 + j, none⟩ = some (.int .u32 ([v0, v1, v2, v3].getD j 0)) := by
  intro j hj
  rw [Nat.zero_add, h.cellAt j (by omega)]
  match j, hj with
  | 0, _ => rfl
  | 1, _ => rfl
  | 2, _ => rfl
  | 3, _ => rfl
theorem size_mk (l : List UInt8) : (⟨l.toArray⟩ : ByteArray).size = l.length := by simp [ByteArray.size]
end Go.Proofs.YtioiaifmcemjlaaDoor
