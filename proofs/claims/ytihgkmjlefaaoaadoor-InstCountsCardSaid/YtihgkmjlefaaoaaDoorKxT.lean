/- Tables are as they were behind what keeps all old memory. -/
import Derived.Test.YtihgkmjlefaaoaaDoorKx
import Derived.Test.YtihgkmjlefaaoaaDoorTab
set_option linter.unusedVariables false
namespace Go.Proofs.YtihgkmjlefaaoaaDoor
open Go.RowKit
theorem Tabs.oldn {w W : World} {bs : List (Nat × Obj)} (h : Tabs w) (hk : Kx none w W bs) : Tabs W := h.below hk.be.plain
end Go.Proofs.YtihgkmjlefaaoaaDoor
