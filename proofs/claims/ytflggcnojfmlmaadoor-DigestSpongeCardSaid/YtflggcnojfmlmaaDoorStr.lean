/- Texts as lists of bytes. -/
import Derived.Test.YtflggcnojfmlmaaDoorHexM
set_option linter.unusedVariables false
namespace Go.Proofs.YtflggcnojfmlmaaDoor
open Go.RowKit

theorem drop_cons (s : ByteArray) (k : Nat) (h : k < s.size) : s.data.toList.drop k = s[k] :: s.data.toList.drop (k + 1) := by
  have hl : k < s.data.toList.length := by simpa using h
  rw [List.drop_eq_getElem_cons hl]
  congr 1
theorem drop_all (s : ByteArray) : s.data.toList.drop s.size = [] := List.drop_of_length_le (by simp)
theorem list_size (s : ByteArray) : s.data.toList.length = s.size := by simp

end Go.Proofs.YtflggcnojfmlmaaDoor
