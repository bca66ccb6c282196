/- Layer 7's own functions: their contracts, as the laws ask for them. -/
import Derived.Test.YtihgkmjlefaaoaaDoorInsT
set_option linter.unusedVariables false
namespace Go.Proofs.YtihgkmjlefaaoaaDoor
open Go.RowKit
theorem right7 (op a b c : Int) (w : World) (ht : Tabs w) :
    Calls Tryd.prog 12 #[.agg #[.int .i64 op, .int .i64 a, .int .i64 b, .int .i64 c]] w fun e w' => e = .returned (.bool (rgt op a b c)) ∧ Below w.heap.size w w' := right_code op a b c w ht
theorem name7 (op : Int) (w : World) (ht : Tabs w) :
    Calls Tryd.prog 18 #[.int .i64 op] w fun e w' => e = .returned (.string ⟨(nam op).toArray⟩) ∧ Below w.heap.size w w' :=
  (name_code op w ht).mono fun e w' ⟨he, hw⟩ => ⟨he, hw ▸ Below.refl _ _⟩
theorem op7 (s : ByteArray) (w : World) (hs : s.size ≤ 100) (ht : Tabs w) :
    Calls Tryd.prog 19 #[.string s] w fun e w' => e = .returned (.int .i64 (opo s.data.toList)) ∧ Below w.heap.size w w' :=
  (op_code s w ht).mono fun e w' ⟨he, hw⟩ => ⟨he, hw ▸ Below.refl _ _⟩
end Go.Proofs.YtihgkmjlefaaoaaDoor
