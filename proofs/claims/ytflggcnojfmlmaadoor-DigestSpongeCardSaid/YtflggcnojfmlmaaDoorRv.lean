/- Words the other way round; a digest's bytes and text. -/
import Derived.Test.YtflggcnojfmlmaaDoorPackM
import Derived.Test.YtflggcnojfmlmaaDoorDigM
import Derived.Test.YtflggcnojfmlmaaDoorHexM
set_option linter.unusedVariables false
namespace Go.Proofs.YtflggcnojfmlmaaDoor
open Go.RowKit

def rv (x : Int) : Int := x % 256 * 16777216 + x / 256 % 256 * 65536 + x / 65536 % 256 * 256 + x / 16777216
theorem rv_W {x : Int} (h : W32 x) : W32 (rv x) := by
  have h1 := h.1
  have h2 := h.2
  unfold W32 rv; omega
theorem rv_digs {b0 b1 b2 b3 : Int} (h0 : 0 ≤ b0 ∧ b0 < 256) (h1 : 0 ≤ b1 ∧ b1 < 256) (h2 : 0 ≤ b2 ∧ b2 < 256) (h3 : 0 ≤ b3 ∧ b3 < 256) : rv (b0 + b1 * 256 + b2 * 65536 + b3 * 16777216) = b3 + b2 * 256 + b1 * 65536 + b0 * 16777216 := by
  unfold rv
  rw [show (b0 + b1 * 256 + b2 * 65536 + b3 * 16777216) % 256 = b0 by omega, show (b0 + b1 * 256 + b2 * 65536 + b3 * 16777216) / 256 % 256 = b1 by omega, show (b0 + b1 * 256 + b2 * 65536 + b3 * 16777216) / 65536 % 256 = b2 by omega, show (b0 + b1 * 256 + b2 * 65536 + b3 * 16777216) / 16777216 = b3 by omega]
  omega
theorem digs {x : Int} (h : W32 x) : ∃ b0 b1 b2 b3 : Int, (0 ≤ b0 ∧ b0 < 256) ∧ (0 ≤ b1 ∧ b1 < 256) ∧ (0 ≤ b2 ∧ b2 < 256) ∧ (0 ≤ b3 ∧ b3 < 256) ∧ x = b0 + b1 * 256 + b2 * 65536 + b3 * 16777216 := by
  have h1 := h.1
  have h2 := h.2
  exact ⟨x % 256, x / 256 % 256, x / 65536 % 256, x / 16777216, by omega, by omega, by omega, by omega, by omega⟩
theorem rv_rv {x : Int} (h : W32 x) : rv (rv x) = x := by
  obtain ⟨b0, b1, b2, b3, h0, h1, h2, h3, rfl⟩ := digs h
  rw [rv_digs h0 h1 h2 h3, rv_digs h3 h2 h1 h0]

theorem take_snoc_map (zs : List Int) (k : Nat) (h : k < zs.length) : (zs.map rv).take (k + 1) = (zs.map rv).take k ++ [rv (zs.getD k 0)] := by
  rw [take_snoc_getD _ k (by simpa using h)]
  simp [List.getD, h]

def big (l : Ws) : ByteArray := strOfNums (bytsAll (l.map rv))
/-- The text of a digest. -/
def dtx (l : Ws) : ByteArray := ⟨(txt (big l).data.toList).toArray⟩
theorem size_big (l : Ws) : (big l).size = 4 * l.length := by
  unfold big
  rw [strOfNums_size, length_bytsAll, List.length_map]
theorem rv_ok4 {l : Ws} (h : Ok4 l) : Ok4 (l.map rv) := by
  obtain ⟨a0, a1, a2, a3, rfl, h0, h1, h2, h3⟩ := ok4 h
  exact mk4 (rv_W h0) (rv_W h1) (rv_W h2) (rv_W h3)
end Go.Proofs.YtflggcnojfmlmaaDoor
