/- Package digest: the contract of Unmix. -/
import Derived.Test.YtfbefenagnlnfaaDoorDigB
set_option linter.unusedVariables false
namespace Go.Proofs.YtfbefenagnlnfaaDoor
open Go.RowKit

theorem sub_df (a b : Int) : (a - b) % 4294967296 = df a b := by unfold df; omega
theorem gr_df (x k : Int) : (x - 2654435769 * (k + 1)) % 4294967296 = df x (gr k) := by unfold df gr; omega
theorem unr_eq {k d0 d1 d2 d3 f0 f1 f2 f3 x0 x1 x2 x3 y0 y1 y2 y3 : Int} (g0 : bits .xor .u32 (tn x1 (-7)) y1 = f0) (g1 : bits .xor .u32 (tn x2 (-9)) y2 = f1) (g2 : bits .xor .u32 (tn x3 (-13)) y3 = f2) (g3 : bits .xor .u32 (tn y0 (-18)) x0 = f3)
    (h0 : (y1 - f0) % 4294967296 = d0) (h1 : (y2 - f1) % 4294967296 = d1) (h2 : (y3 - f2) % 4294967296 = d2) (h3 : (x0 - f3) % 4294967296 = d3) :
    unr k [x0, x1, x2, x3, y0, y1, y2, y3] = [(d0 - 2654435769 * (k + 1)) % 4294967296, d1, d2, d3, f0, f1, f2, f3] := by
  rw [sub_df] at h0 h1 h2 h3
  rw [gr_df]
  subst g0 g1 g2 g3 h0 h1 h2 h3
  rfl

end Go.Proofs.YtfbefenagnlnfaaDoor
