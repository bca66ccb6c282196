/- What calls keep: any number of blocks. -/
import Derived.Test.YtfbefenagnlnfaaDoorRet
import Derived.Below
import Derived.Laws.Rows
set_option linter.unusedVariables false
namespace Go.Proofs.YtfbefenagnlnfaaDoor
open Go.RowKit

/-- Blocks that a call keeps. -/
structure Kl (w W : World) (bs : List (Nat × Obj)) : Prop where
  all : ∀ x ∈ bs, W.heap[x.1]? = some x.2 ∧ x.1 < W.heap.size
  be : Below w.heap.size w W
theorem Kl.after {w W W' : World} {bs : List (Nat × Obj)} (h : Kl w W bs) (hb : Below W.heap.size W W') : Kl w W' bs :=
  ⟨fun x hx => ⟨by rw [hb.block _ (h.all x hx).2]; exact (h.all x hx).1, Nat.lt_of_lt_of_le (h.all x hx).2 hb.size⟩, h.be.trans (hb.mono h.be.size)⟩
theorem Kl.drew {w W : World} {bs : List (Nat × Obj)} (h : Kl w W bs) : Kl w W.drew bs := ⟨h.all, h.be.drew⟩
theorem Kl.nil (w : World) : Kl w w [] := ⟨fun x hx => by simp at hx, Below.refl _ _⟩
theorem Kl.more {w W : World} {bs : List (Nat × Obj)} (h : Kl w W bs) (B : Obj) : Kl w (W.alloc B) (bs ++ [(W.heap.size, B)]) := by
  refine ⟨fun x hx => ?_, h.be.alloc h.be.size _⟩
  rcases List.mem_append.1 hx with hx | hx
  · obtain ⟨h1, h2⟩ := h.all x hx
    exact ⟨by rw [Below.heap_alloc _ _ _ h2]; exact h1, by simp; omega⟩
  · simp only [List.mem_cons, List.not_mem_nil, or_false] at hx
    subst hx
    exact ⟨heap_alloc_new _ _, by simp⟩
theorem Kl.at {w W : World} {bs : List (Nat × Obj)} (h : Kl w W bs) (i : Nat) {x : Nat × Obj} (hx : bs[i]? = some x) : W.heap[x.1]? = some x.2 := (h.all x (List.mem_of_getElem? hx)).1
theorem Kl.lt {w W : World} {bs : List (Nat × Obj)} (h : Kl w W bs) (i : Nat) {x : Nat × Obj} (hx : bs[i]? = some x) : x.1 < W.heap.size := (h.all x (List.mem_of_getElem? hx)).2
end Go.Proofs.YtfbefenagnlnfaaDoor
