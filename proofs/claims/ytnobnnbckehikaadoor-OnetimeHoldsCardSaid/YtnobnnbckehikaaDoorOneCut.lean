/- The words that join the ways of a region whose allocations stand in free order. -/
import Derived.Deep.DeepCutAuto
import Derived.Deep.RegionLaw
import Derived.Deep.RegionHeld3
import Derived.Test.YtnobnnbckehikaaDoorRet
namespace Go.Proofs.YtnobnnbckehikaaDoor
end Go.Proofs.YtnobnnbckehikaaDoor
