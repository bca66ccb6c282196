/- The digest of a pair: the contract of the reference's Pair. -/
import Derived.Test.YtflggcnojfmlmaaDoorDigP
set_option linter.unusedVariables false
namespace Go.Proofs.YtflggcnojfmlmaaDoor
open Go.RowKit

theorem fourth (w : World) (a b c d : Obj) : ((((w.alloc a).alloc b).alloc c).alloc d).drew.heap[w.heap.size + 1 + 1 + 1]? = some d := by
  have := heap_alloc_new (((w.alloc a).alloc b).alloc c) d
  rw [heap_drew]
  simpa using this
theorem P3.set {w W : World} {x0 x1 x2 x3 y0 y1 y2 y3 : Int} (h : P3 w W x0 x1 x2 x3 y0 y1 y2 y3) {n : Nat} (hn : w.heap.size + 3 ≤ n) (i : Nat) (v : Value) : P3 w (W.setCell ⟨n, i, none⟩ v) x0 x1 x2 x3 y0 y1 y2 y3 :=
  ⟨by rw [heap_setCell_other _ _ _ _ (by simp; omega)]; exact h.ha, by rw [heap_setCell_other _ _ _ _ (by simp; omega)]; exact h.hb, by rw [heap_setCell_other _ _ _ _ (by simp; omega)]; exact h.hz, h.be.setCell (by simp; omega) _, by simp; exact h.sz⟩
theorem P3.set8 {w W : World} {x0 x1 x2 x3 y0 y1 y2 y3 : Int} (h : P3 w W x0 x1 x2 x3 y0 y1 y2 y3) {n : Nat} (hn : w.heap.size + 3 ≤ n) (v0 v1 v2 v3 v4 v5 v6 v7 : Value) :
    P3 w ((((((((W.setCell ⟨n, 0, none⟩ v0).setCell ⟨n, 1, none⟩ v1).setCell ⟨n, 2, none⟩ v2).setCell ⟨n, 3, none⟩ v3).setCell ⟨n, 4, none⟩ v4).setCell ⟨n, 5, none⟩ v5).setCell ⟨n, 6, none⟩ v6).setCell ⟨n, 7, none⟩ v7) x0 x1 x2 x3 y0 y1 y2 y3 :=
  (((((((h.set hn 0 v0).set hn 1 v1).set hn 2 v2).set hn 3 v3).set hn 4 v4).set hn 5 v5).set hn 6 v6).set hn 7 v7

/-- What holds behind a region that ends normally. -/
def AtEnd (p : Act → World → Prop) : Exit → Act → World → Prop
  | .normal, a, w => p a w
  | _, _, _ => False
theorem AtEnd.imp {p : Act → World → Prop} {Q : Exit → Act → World → Prop} (h : ∀ a w, p a w → Q .normal a w) : ∀ e a w, AtEnd p e a w → Q e a w := fun e a w k => by
  cases e <;> first | exact h a w k | exact (k : False).elim

end Go.Proofs.YtflggcnojfmlmaaDoor
