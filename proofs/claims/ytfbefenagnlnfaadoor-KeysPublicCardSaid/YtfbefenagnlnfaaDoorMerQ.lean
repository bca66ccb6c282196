/- '==' of two pairs of digests: as an array of two, as a struct of two. -/
import Derived.Test.YtfbefenagnlnfaaDoorEq
import Derived.Below
import Derived.Laws.StructEq
set_option linter.unusedVariables false
namespace Go.Proofs.YtfbefenagnlnfaaDoor
open Go.RowKit

set_option maxRecDepth 100000 in
theorem eq4d (w : World) (d : Nat) (a0 a1 a2 a3 b0 b1 b2 b3 : Int) : (Op.equalIn (d + 2) 24 (.agg #[.int .u32 a0, .int .u32 a1, .int .u32 a2, .int .u32 a3]) (.agg #[.int .u32 b0, .int .u32 b1, .int .u32 b2, .int .u32 b3])).run Tryd.prog w = .ok (same [a0, a1, a2, a3] [b0, b1, b2, b3]) w := by
  obtain ⟨i, hi⟩ := infoU
  have h := run_equalIn_array (P := Tryd.prog) (w := w) (d + 1) #[.int .u32 a0, .int .u32 a1, .int .u32 a2, .int .u32 a3] #[.int .u32 b0, .int .u32 b1, .int .u32 b2, .int .u32 b3] Tryd.underlying24 hi
  rw [h]
  have k := eqItems_words w d [a0, a1, a2, a3] [b0, b1, b2, b3] (List.range 4) (by intro i hi; simpa using hi)
  refine k.trans ?_
  congr 1
  show (a0 == b0 && (a1 == b1 && (a2 == b2 && (a3 == b3 && true)))) = decide _
  rw [Bool.eq_iff_iff]
  simp
theorem cDig4 : Tryd.prog.cellsOf 24 = 4 := by kernel_rfl
theorem infoDig : ∃ i, Tryd.prog.info? 24 = some i ∧ i.size = 4 := by
  have h : (Tryd.prog.info? 24).map (fun i => (i.zero, i.size, i.bytes)) = some (some (.agg #[.int .u32 0, .int .u32 0, .int .u32 0, .int .u32 0]), 4, 16) := by kernel_rfl
  obtain ⟨i, hi, _, h2, _⟩ := info_parts h
  exact ⟨i, hi, h2⟩
theorem prt0 (w : World) (x0 x1 x2 x3 x4 x5 x6 x7 : Value) : (part 24 #[x0, x1, x2, x3, x4, x5, x6, x7] 0).run Tryd.prog w = .ok (.agg #[x0, x1, x2, x3]) w := by kernel_rfl
theorem prt4 (w : World) (x0 x1 x2 x3 x4 x5 x6 x7 : Value) : (part 24 #[x0, x1, x2, x3, x4, x5, x6, x7] 4).run Tryd.prog w = .ok (.agg #[x4, x5, x6, x7]) w := by kernel_rfl
/-- Whether two pairs are the same. -/
def sameP (a b c d : Ws) : Bool := same a c && same b d
set_option maxRecDepth 100000 in
theorem eq47 (w : World) (a0 a1 a2 a3 b0 b1 b2 b3 c0 c1 c2 c3 d0 d1 d2 d3 : Int) : (Op.equalIn 10000 72 (.agg #[.int .u32 a0, .int .u32 a1, .int .u32 a2, .int .u32 a3, .int .u32 b0, .int .u32 b1, .int .u32 b2, .int .u32 b3]) (.agg #[.int .u32 c0, .int .u32 c1, .int .u32 c2, .int .u32 c3, .int .u32 d0, .int .u32 d1, .int .u32 d2, .int .u32 d3])).run Tryd.prog w = .ok (sameP [a0, a1, a2, a3] [b0, b1, b2, b3] [c0, c1, c2, c3] [d0, d1, d2, d3]) w := by
  obtain ⟨i, hi, _⟩ := infoDig
  have h := run_equalIn_array (P := Tryd.prog) (w := w) 9999 #[.int .u32 a0, .int .u32 a1, .int .u32 a2, .int .u32 a3, .int .u32 b0, .int .u32 b1, .int .u32 b2, .int .u32 b3] #[.int .u32 c0, .int .u32 c1, .int .u32 c2, .int .u32 c3, .int .u32 d0, .int .u32 d1, .int .u32 d2, .int .u32 d3] Tryd.underlying72 hi
  rw [h, cDig4, show List.range 2 = [0, 1] from rfl]
  have e : ∀ (w : World) (a0 a1 a2 a3 b0 b1 b2 b3 : Int), (Op.equalIn 9999 24 (.agg #[.int .u32 a0, .int .u32 a1, .int .u32 a2, .int .u32 a3]) (.agg #[.int .u32 b0, .int .u32 b1, .int .u32 b2, .int .u32 b3])).run Tryd.prog w = .ok (same [a0, a1, a2, a3] [b0, b1, b2, b3]) w := fun w a0 a1 a2 a3 b0 b1 b2 b3 => eq4d w 9997 a0 a1 a2 a3 b0 b1 b2 b3
  simp only [Op.eqItems, Sem.run_bind, Nat.zero_mul, Nat.one_mul, prt0, Result.andThen_ok, e]
  unfold sameP
  cases h1 : same [a0, a1, a2, a3] [c0, c1, c2, c3] <;> cases h2 : same [b0, b1, b2, b3] [d0, d1, d2, d3] <;> simp [prt4, Sem.run_bind, Result.andThen_ok, e, h2]
end Go.Proofs.YtfbefenagnlnfaaDoor
