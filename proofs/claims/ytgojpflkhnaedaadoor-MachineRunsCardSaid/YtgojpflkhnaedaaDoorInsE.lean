/- The reference of layer 7: the contract of Op. -/
import Derived.Test.YtgojpflkhnaedaaDoorInsA
import Derived.Laws.IdiomStrings
set_option linter.unusedVariables false
namespace Go.Proofs.YtgojpflkhnaedaaDoor
open Go.RowKit

theorem str_yes {l : List UInt8} {s : ByteArray} (h : l = s.data.toList) : ((⟨l.toArray⟩ : ByteArray).toList == s.toList) = true := by
  rw [ByteArray.toList_eq, ByteArray.toList_eq, beq_iff_eq]; exact h
theorem str_no {l : List UInt8} {s : ByteArray} (h : ¬ l = s.data.toList) : ((⟨l.toArray⟩ : ByteArray).toList == s.toList) = false := by
  rw [ByteArray.toList_eq, ByteArray.toList_eq, beq_eq_false_iff_ne]; exact h
end Go.Proofs.YtgojpflkhnaedaaDoor
