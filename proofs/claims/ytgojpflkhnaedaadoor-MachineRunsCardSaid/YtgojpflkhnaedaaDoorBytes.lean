/- The contract of package word's Bytes. -/
import Derived.Test.YtgojpflkhnaedaaDoorRet
import Derived.Test.YtgojpflkhnaedaaDoorMath
set_option linter.unusedVariables false
namespace Go.Proofs.YtgojpflkhnaedaaDoor
open Go.RowKit


/-- A word's bytes, the lowest first. -/
def byts (n : Int) : List Int := [n % 256, n / 256 % 256, n / 65536 % 256, n / 16777216]
def bytsAll : List Int → List Int
  | [] => []
  | n :: r => byts n ++ bytsAll r

theorem bytsAll_append (a b : List Int) : bytsAll (a ++ b) = bytsAll a ++ bytsAll b := by
  induction a with
  | nil => rfl
  | cons n r ih => simp [bytsAll, ih]
theorem length_bytsAll (a : List Int) : (bytsAll a).length = 4 * a.length := by
  induction a with
  | nil => rfl
  | cons n r ih => simp [bytsAll, ih, byts]; omega
theorem take_snoc_getD (zs : List Int) (k : Nat) (h : k < zs.length) : zs.take (k + 1) = zs.take k ++ [zs.getD k 0] := by
  rw [List.take_succ_eq_append_getElem h]
  simp [List.getD, h]
theorem bytsAll_snoc (zs : List Int) (k : Nat) (h : k < zs.length) : bytsAll (zs.take (k + 1)) = bytsAll (zs.take k) ++ byts (zs.getD k 0) := by
  rw [take_snoc_getD zs k h, bytsAll_append]
  simp [bytsAll]

theorem four_new (w : World) (a b c d : Value) (t : TypeId) :
    ∀ (j : Nat) (u : Value), [a, b, c, d][j]? = some u → (w.alloc (.cells #[a, b, c, d] t)).cell? ((⟨w.heap.size, 0, none⟩ : Addr).add j) = some u := by
  intro j u hj
  match j, hj with
  | 0, hj => simp at hj; subst hj; simp [Addr.add]
  | 1, hj => simp at hj; subst hj; simp [Addr.add]
  | 2, hj => simp at hj; subst hj; simp [Addr.add]
  | 3, hj => simp at hj; subst hj; simp [Addr.add]
  | n + 4, hj => simp at hj

end Go.Proofs.YtgojpflkhnaedaaDoor
