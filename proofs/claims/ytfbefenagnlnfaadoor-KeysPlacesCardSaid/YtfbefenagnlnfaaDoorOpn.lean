/- Words among the arguments: what is known of an array of words that can be read. -/
import Derived.Test.YtfbefenagnlnfaaDoorCards
import Derived.Test.YtfbefenagnlnfaaDoorTie
import Derived.WalkKit
import Derived.ProofKit
import Derived.OpenShut
import Derived.ShutString
import Derived.Test.YtfbefenagnlnfaaDoorEq
namespace Go.Proofs.YtfbefenagnlnfaaDoor
open Go.ChangeShapes Go.WideShapes Go.ChangeAt Go.RowKit
set_option linter.unusedVariables false
section
variable {H : Type} {enc : TypeId × Value → H} {W : World} {base : Nat} {sp : Nat → Bool} {held : Bool}
theorem mapM_words {m : Nat} {cs : List Value} {c : Nat} : ∀ (L : List Nat) (ys : List (DataW H × List MemPlace)),
    L.mapM (fun i => DataW.trod enc Tryd.prog W base sp held m 22 ((cs.drop (i * c)).take c)) = some ys →
    ∃ zs : Ws, ys = zs.map (fun z => (.lit (.int .u32 z), [])) ∧ L.map (fun i => (cs.drop (i * c)).take c) = zs.map (fun z => [.int .u32 z]) ∧ ∀ z ∈ zs, (Lit.int .u32 z).wf = true
  | [], ys, h => by
    simp at h
    subst h
    exact ⟨[], rfl, rfl, by simp⟩
  | i :: L, ys, h => by
    rw [List.mapM_cons] at h
    simp only [bind, Option.bind_eq_some_iff, pure, Option.some.injEq] at h
    obtain ⟨y, hy, ys', hys, rfl⟩ := h
    obtain ⟨zs, rfl, hm, hw⟩ := mapM_words L ys' hys
    obtain ⟨a, ea, rfl, wa⟩ := DataW.trod_int Tryd.underlying22 hy
    refine ⟨a :: zs, rfl, by rw [List.map_cons, List.map_cons, hm, ea], ?_⟩
    intro z hz
    rcases List.mem_cons.1 hz with rfl | hz
    · exact wa
    · exact hw z hz
set_option maxRecDepth 100000 in
theorem words_of {T n : Nat} (hu : Tryd.prog.underlying T = some (.array n 22)) (hc : Tryd.prog.cellsOf T = n) {cs : Array Value} (hn : cs.size = n) {d : DataW H} {p : List MemPlace} (h : DataW.Trod enc Tryd.prog W base sp held T (.agg cs) d p) :
    ∃ zs : Ws, d = .agg (zs.map fun z => .lit (.int .u32 z)) ∧ p = [] ∧ (List.range n).map (fun i => (cs.toList.drop (i * 1)).take 1) = zs.map (fun z => [.int .u32 z]) ∧ ∀ z ∈ zs, (Lit.int .u32 z).wf = true := by
  obtain ⟨fuel, hf⟩ := h
  cases fuel with
  | zero => simp [DataW.trod] at hf
  | succ m =>
    rw [DataW.trod_step] at hf
    unfold DataW.trodStep at hf
    simp only [hu, Value.cells] at hf
    rw [if_pos (by rw [hc]; simpa using hn)] at hf
    simp only [Option.map_eq_some_iff] at hf
    obtain ⟨ys, hy, e1⟩ := hf
    obtain ⟨zs, rfl, hm, hw⟩ := mapM_words _ ys hy
    simp only [Prod.mk.injEq] at e1
    rw [cellsU] at hm
    refine ⟨zs, by rw [← e1.1]; simp [Function.comp_def], by rw [← e1.2]; simp [List.flatMap_eq_nil_iff], hm, hw⟩
theorem w32_wf {z : Int} (h : (Lit.int .u32 z).wf = true) : W32 z := by
  have := bounds_u32 h
  unfold W32; omega
end
end Go.Proofs.YtfbefenagnlnfaaDoor
