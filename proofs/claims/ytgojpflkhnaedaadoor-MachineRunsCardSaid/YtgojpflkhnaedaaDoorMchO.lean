/- Where a slice of words lies: apart from a block; a slice that is the one that came in, or lies in memory made since. -/
import Derived.Test.YtgojpflkhnaedaaDoorG9b
import Derived.Laws.Tables
set_option linter.unusedVariables false
namespace Go.Proofs.YtgojpflkhnaedaaDoor
open Go.RowKit

/-- The slice does not lie in block q. -/
def Off (A : Option Addr) (q : Nat) : Prop := ∀ b off sp, A = some ⟨b, off, sp⟩ → b ≠ q
/-- The slice A' is A, or lies in blocks made since w. -/
def Frs (w : World) (A A' : Option Addr) : Prop := A' = A ∨ ∀ b off sp, A' = some ⟨b, off, sp⟩ → w.heap.size ≤ b
theorem Frs.off {w : World} {A A' : Option Addr} {q : Nat} (h : Frs w A A') (ho : Off A q) (hq : q < w.heap.size) : Off A' q := by
  rcases h with rfl | h
  · exact ho
  · intro b off sp e
    have := h b off sp e
    omega
theorem off_none (q : Nat) : Off none q := fun b off sp e => by cases e
theorem off_some {b off : Nat} {q : Nat} (h : b ≠ q) : Off (some ⟨b, off, none⟩) q := fun b2 off2 sp e => by
  injection e with e
  injection e with e1
  omega
theorem frs_none (w : World) (A : Option Addr) : Frs w A none := .inr fun b off sp e => by cases e
theorem frs_new {w : World} {A : Option Addr} {q : Nat} (h : w.heap.size ≤ q) : Frs w A (some ⟨q, 0, none⟩) := .inr fun b off sp e => by
  injection e with e
  injection e with e1
  omega
theorem Frs.mono {w w' : World} {A A' : Option Addr} (h : Frs w' A A') (hs : w.heap.size ≤ w'.heap.size) : Frs w A A' := by
  rcases h with h | h
  · exact .inl h
  · exact .inr fun b off sp e => Nat.le_trans hs (h b off sp e)
/-- A row stored elsewhere is nothing to it. -/
theorem Rd.setRow {W : World} {A : Option Addr} {n q : Nat} {l : List Int} (h : Rd W A n l) (ho : Off A q) (cs : Array Value) : Rd (W.setRow q cs) A n l := by
  refine ⟨h.1, ?_, h.2.2⟩
  rcases h.2.1 with h0 | ⟨b, off, e, hlt, hc⟩
  · exact .inl h0
  · refine .inr ⟨b, off, e, by rw [setRow_size]; exact hlt, fun j hj => ?_⟩
    rw [cell_setRow_other _ _ _ _ (ho b off none e)]
    exact hc j hj
/-- A block made later is not its own (of a slice with words). -/
theorem Rd.off {W : World} {A : Option Addr} {n q : Nat} {l : List Int} (h : Rd W A n l) (hq : W.heap.size ≤ q) : n = 0 ∨ Off A q := by
  rcases h.2.1 with h0 | ⟨b, off, e, hlt, _⟩
  · exact .inl h0
  · subst e
    exact .inr (off_some (by omega))
theorem Rd.setNew {W W' : World} {A : Option Addr} {n q : Nat} {l : List Int} (h : Rd W A n l) (hq : W.heap.size ≤ q) (h' : Rd W' A n l) (cs : Array Value) : Rd (W'.setRow q cs) A n l := by
  rcases h.off hq with h0 | ho
  · exact ⟨h.1, .inl h0, h.2.2⟩
  · exact h'.setRow ho cs
end Go.Proofs.YtgojpflkhnaedaaDoor
