/- What the laws' calls keep: two blocks as they were. -/
import Derived.Test.YtflggcnojfmlmaaDoorDigW
import Derived.Test.YtflggcnojfmlmaaDoorEq
set_option linter.unusedVariables false
namespace Go.Proofs.YtflggcnojfmlmaaDoor
open Go.RowKit

structure Kq (w W : World) (n m : Nat) (A B : Obj) : Prop where
  hd : W.heap[n]? = some A
  hs : W.heap[m]? = some B
  be : Below w.heap.size w W
  hn : n < W.heap.size
  hm : m < W.heap.size
theorem Kq.after {w W W' : World} {n m : Nat} {A B : Obj} (h : Kq w W n m A B) (hb : Below W.heap.size W W') : Kq w W' n m A B :=
  ⟨by rw [hb.block _ h.hn]; exact h.hd, by rw [hb.block _ h.hm]; exact h.hs, h.be.trans (hb.mono h.be.size), Nat.lt_of_lt_of_le h.hn hb.size, Nat.lt_of_lt_of_le h.hm hb.size⟩
theorem Kq.on {w W W' : World} {n m : Nat} {A B : Obj} (hb : Below W.heap.size W W') (h : Kq w W n m A B) : Kq w W' n m A B := h.after hb
theorem Kq.drew {w W : World} {n m : Nat} {A B : Obj} (h : Kq w W n m A B) : Kq w W.drew n m A B := ⟨h.hd, h.hs, h.be.drew, h.hn, h.hm⟩
theorem Kq.one (w : World) (A : Obj) : Kq w (w.alloc A) w.heap.size w.heap.size A A :=
  ⟨heap_alloc_new _ _, heap_alloc_new _ _, (Below.refl _ w).alloc (Nat.le_refl _) _, by simp, by simp⟩
theorem Kq.two (w : World) (A B : Obj) : Kq w ((w.alloc A).alloc B) w.heap.size (w.heap.size + 1) A B := by
  refine ⟨?_, ?_, below2 _ _ _, by simp; omega, by simp⟩
  · rw [Below.heap_alloc _ _ _ (by simp), heap_alloc_new]
  · have := heap_alloc_new (w.alloc A) B
    simpa using this
end Go.Proofs.YtflggcnojfmlmaaDoor
