/- Four words; texts' lengths. -/
import Derived.Test.YtfbefenagnlnfaaDoorDigM
set_option linter.unusedVariables false
namespace Go.Proofs.YtfbefenagnlnfaaDoor
open Go.RowKit

theorem getD4 {v0 v1 v2 v3 : Int} (h : Ok4 [v0, v1, v2, v3]) (j : Nat) : 0 ≤ [v0, v1, v2, v3].getD j 0 ∧ [v0, v1, v2, v3].getD j 0 < 4294967296 := by
  by_cases hj : j < 4
  · have e : [v0, v1, v2, v3].getD j 0 = [v0, v1, v2, v3][j] := by rw [List.getD, List.getElem?_eq_getElem (by simpa using hj)]; rfl
    rw [e]
    have := h.2 _ (List.getElem_mem (show j < [v0, v1, v2, v3].length by simpa using hj))
    exact ⟨this.1, by have := this.2; omega⟩
  · have e : [v0, v1, v2, v3].getD j 0 = 0 := by rw [List.getD, List.getElem?_eq_none (by simp; omega)]; rfl
    rw [e]; omega
theorem size_mk (l : List UInt8) : (⟨l.toArray⟩ : ByteArray).size = l.length := by simp [ByteArray.size]
end Go.Proofs.YtfbefenagnlnfaaDoor
