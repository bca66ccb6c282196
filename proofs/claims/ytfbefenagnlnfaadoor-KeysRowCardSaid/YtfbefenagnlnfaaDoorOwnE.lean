/- What a call gives that makes a list of digests of its own. -/
import Derived.Test.YtfbefenagnlnfaaDoorMerK
import Derived.Deep.AppendLies
import Derived.Deep.RegionLaw
set_option linter.unusedVariables false
namespace Go.Proofs.YtfbefenagnlnfaaDoor
open Go.RowKit

theorem infoDg : (Tryd.prog.info? 24).map (fun i => (i.zero, i.size, i.bytes)) = some (some (.agg #[.int .u32 0, .int .u32 0, .int .u32 0, .int .u32 0]), 4, 16) := by kernel_rfl
theorem own_keep {w w' : World} {B e s n : Nat} {v : Value} {xs : List Value} (h : w.ownsRow B e s v n xs) (hb : Below w.heap.size w w') : w'.ownsRow B e s v n xs := by
  refine h.kept (row := none) ⟨hb.os, hb.tape, hb.output, hb.size, fun k hk _ => hb.block k hk⟩ ?_
  cases v.ownBlock with
  | none => exact .inl rfl
  | some k => exact .inr (by simp)
theorem own_base {w : World} {B B' e s n : Nat} {v : Value} {xs : List Value} (h : w.ownsRow B e s v n xs) (hb : B' ≤ B) : w.ownsRow B' e s v n xs := by
  obtain ⟨h1, h2⟩ := h
  refine ⟨h1, ?_⟩
  rcases h2 with h2 | ⟨g, cap, cur, hv, hg, r⟩
  · exact .inl h2
  · exact .inr ⟨g, cap, cur, hv, Nat.le_trans hb hg, r⟩
theorem Kx.grown {w W W' : World} {bs : List (Nat × Obj)} (h : Kx none w W bs) {row : Option Nat} (hg : W.grownBy W' row) (hr : ∀ g, row = some g → w.heap.size ≤ g) : Below w.heap.size w W' :=
  h.be.plain.grown hg h.be.size hr
/-- What a call that makes a proof gives. -/
def OwnE (w : World) (p : Dl) (e : Ending) (w' : World) : Prop := ∃ v, e = .returned v ∧ w'.ownsRow w.heap.size 24 4 v p.length (mcs p) ∧ Below w.heap.size w w'
theorem mcs_snoc (p : Dl) (x0 x1 x2 x3 : Int) : mcs (p ++ [[x0, x1, x2, x3]]) = mcs p ++ [.int .u32 x0, .int .u32 x1, .int .u32 x2, .int .u32 x3] := by rw [cs_append, cs_one]; rfl
theorem own_shape4 {w : World} {B e n : Nat} {v : Value} {xs : List Value} (h : w.ownsRow B e 4 v n xs) (hn : 0 < n) :
    ∃ g cap, v = .slice (some ⟨g, 0, none⟩) n cap ∧ B ≤ g ∧ n ≤ cap ∧ cap ≤ maxLen := by
  obtain ⟨_, h | ⟨g, cap, cur, hv, hg, _, h3, h4, _⟩⟩ := h
  · omega
  · exact ⟨g, cap, hv, hg, by omega, by omega⟩
theorem Kx.grow {w W W' : World} {bs : List (Nat × Obj)} (h : Kx none w W bs) {row : Option Nat} (hg : W.grownBy W' row) (hr : ∀ g, row = some g → w.heap.size ≤ g ∧ ∀ x ∈ bs, x.1 ≠ g) : Kx none w W' bs := by
  refine ⟨fun x hx => ?_, h.nd, Bx.of (h.be.plain.grown hg h.be.size fun g hk => (hr g hk).1)⟩
  obtain ⟨h1, h2⟩ := h.all x hx
  have e : W'.heap[x.1]? = W.heap[x.1]? := hg.block _ h2 (fun e => (hr x.1 e.symm).2 x hx rfl)
  exact ⟨by rw [e]; exact h1, by have := hg.size; omega⟩
end Go.Proofs.YtfbefenagnlnfaaDoor
