/- Lists of digests. -/
import Derived.Test.YtfbefenagnlnfaaDoorDigM
set_option linter.unusedVariables false
namespace Go.Proofs.YtfbefenagnlnfaaDoor

abbrev Dl := List Ws
def Oks (l : Dl) : Prop := ∀ d ∈ l, Ok4 d
theorem Oks.take {l : Dl} (h : Oks l) (k : Nat) : Oks (l.take k) := fun d hd => h d (List.mem_of_mem_take hd)
theorem Oks.drop {l : Dl} (h : Oks l) (k : Nat) : Oks (l.drop k) := fun d hd => h d (List.mem_of_mem_drop hd)
theorem Oks.dropLast {l : Dl} (h : Oks l) : Oks l.dropLast := fun d hd => by
  rw [List.dropLast_eq_take] at hd
  exact h d (List.mem_of_mem_take hd)
theorem Oks.last {l : Dl} (h : Oks l) (hp : l ≠ []) : Ok4 (l.getLastD []) := by
  obtain ⟨x, hx⟩ : ∃ x, l.getLast? = some x := by
    cases hl : l.getLast? with
    | none => rw [List.getLast?_eq_none_iff] at hl; exact absurd hl hp
    | some x => exact ⟨x, rfl⟩
  rw [List.getLastD_eq_getLast?, hx]
  exact h x (List.mem_of_getLast? hx)
theorem pair_ok0 {a b : Ws} (ha : Ok4 a) (hb : Ok4 b) : Ok4 (pair a b) :=
  take4_ok (taken_ok (taken_ok (mk8 ⟨by omega, by omega⟩ ⟨by omega, by omega⟩ ⟨by omega, by omega⟩ ⟨by omega, by omega⟩ ⟨by omega, by omega⟩ ⟨by omega, by omega⟩ ⟨by omega, by omega⟩ ⟨by omega, by omega⟩) ha) hb)
theorem zero4_ok : Ok4 [0, 0, 0, 0] := mk4 ⟨by omega, by omega⟩ ⟨by omega, by omega⟩ ⟨by omega, by omega⟩ ⟨by omega, by omega⟩
end Go.Proofs.YtfbefenagnlnfaaDoor
