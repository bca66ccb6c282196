/- What the laws' calls keep: two blocks as they were. -/
import Derived.Test.YtaogndcaabnboaaDoorDigW
set_option linter.unusedVariables false
namespace Go.Proofs.YtaogndcaabnboaaDoor
open Go.RowKit

structure Kq (w W : World) (n m : Nat) (A B : Obj) : Prop where
  hd : W.heap[n]? = some A
  hs : W.heap[m]? = some B
  be : Below w.heap.size w W
  hn : n < W.heap.size
  hm : m < W.heap.size
theorem Kq.after {w W W' : World} {n m : Nat} {A B : Obj} (h : Kq w W n m A B) (hb : Below W.heap.size W W') : Kq w W' n m A B :=
  ⟨by rw [hb.block _ h.hn]; exact h.hd, by rw [hb.block _ h.hm]; exact h.hs, h.be.trans (hb.mono h.be.size), Nat.lt_of_lt_of_le h.hn hb.size, Nat.lt_of_lt_of_le h.hm hb.size⟩
theorem Kq.on {w W W' : World} {n m : Nat} {A B : Obj} (hb : Below W.heap.size W W') (h : Kq w W n m A B) : Kq w W' n m A B := h.after hb
theorem Kq.drew {w W : World} {n m : Nat} {A B : Obj} (h : Kq w W n m A B) : Kq w W.drew n m A B := ⟨h.hd, h.hs, h.be.drew, h.hn, h.hm⟩
theorem Kq.one (w : World) (A : Obj) : Kq w (w.alloc A) w.heap.size w.heap.size A A :=
  ⟨heap_alloc_new _ _, heap_alloc_new _ _, (Below.refl _ w).alloc (Nat.le_refl _) _, by simp, by simp⟩
theorem Kq.two (w : World) (A B : Obj) : Kq w ((w.alloc A).alloc B) w.heap.size (w.heap.size + 1) A B := by
  refine ⟨?_, ?_, below2 _ _ _, by simp; omega, by simp⟩
  · rw [Below.heap_alloc _ _ _ (by simp), heap_alloc_new]
  · have := heap_alloc_new (w.alloc A) B
    simpa using this
/-- Whether two lists of words are the same. -/
def same (l m : Ws) : Bool := decide (l = m)
theorem same_self : ∀ l : Ws, same l l = true := fun l => by simp [same]
theorem same_no {l m : Ws} (h : ¬ l = m) : same l m = false := by simp [same, h]
theorem eq8s (w : World) (a0 a1 a2 a3 a4 a5 a6 a7 b0 b1 b2 b3 b4 b5 b6 b7 : Int) : (Op.equalIn 10000 23 (.agg #[.int .u32 a0, .int .u32 a1, .int .u32 a2, .int .u32 a3, .int .u32 a4, .int .u32 a5, .int .u32 a6, .int .u32 a7]) (.agg #[.int .u32 b0, .int .u32 b1, .int .u32 b2, .int .u32 b3, .int .u32 b4, .int .u32 b5, .int .u32 b6, .int .u32 b7])).run Tryd.prog w = .ok (same [a0, a1, a2, a3, a4, a5, a6, a7] [b0, b1, b2, b3, b4, b5, b6, b7]) w := eq8 w _ _ _ _ _ _ _ _ _ _ _ _ _ _ _ _
theorem eq4s (w : World) (a0 a1 a2 a3 b0 b1 b2 b3 : Int) : (Op.equalIn 10000 29 (.agg #[.int .u32 a0, .int .u32 a1, .int .u32 a2, .int .u32 a3]) (.agg #[.int .u32 b0, .int .u32 b1, .int .u32 b2, .int .u32 b3])).run Tryd.prog w = .ok (same [a0, a1, a2, a3] [b0, b1, b2, b3]) w := eq4 w _ _ _ _ _ _ _ _
theorem pair_ok {a b : Ws} (ha : Ok4 a) (hb : Ok4 b) : Ok4 (pair a b) :=
  take4_ok (taken_ok (taken_ok (mk8 ⟨by omega, by omega⟩ ⟨by omega, by omega⟩ ⟨by omega, by omega⟩ ⟨by omega, by omega⟩ ⟨by omega, by omega⟩ ⟨by omega, by omega⟩ ⟨by omega, by omega⟩ ⟨by omega, by omega⟩) ha) hb)
end Go.Proofs.YtaogndcaabnboaaDoor
