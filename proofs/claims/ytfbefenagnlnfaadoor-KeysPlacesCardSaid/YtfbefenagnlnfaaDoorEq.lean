/- '==' of two arrays of words. -/
import Derived.Test.YtfbefenagnlnfaaDoorDigM
import Derived.ChangeKeysEq
set_option linter.unusedVariables false
namespace Go.Proofs.YtfbefenagnlnfaaDoor
open Go.RowKit

theorem plainU : Tryd.prog.plainKey 22 = true := by kernel_rfl
theorem cellsU : Tryd.prog.cellsOf 22 = 1 := by kernel_rfl
theorem part_word (w : World) (xs : Ws) (i : Nat) (h : i < xs.length) : (part 22 (xs.map (Value.int .u32)).toArray i).run Tryd.prog w = .ok (.int .u32 (xs.getD i 0)) w := by
  refine run_part_plain w plainU ?_
  simp [List.getD, h]
theorem eqItems_words (w : World) (d : Nat) (xs ys : Ws) : ∀ (is : List Nat), (∀ i ∈ is, i < xs.length ∧ i < ys.length) →
    (Op.eqItems (d + 1) 22 (Tryd.prog.cellsOf 22) (xs.map (Value.int .u32)).toArray (ys.map (Value.int .u32)).toArray is).run Tryd.prog w = .ok (is.all fun i => xs.getD i 0 == ys.getD i 0) w
  | [], _ => by simp [Op.eqItems]
  | i :: is, h => by
    obtain ⟨h1, h2⟩ := h i (by simp)
    have ih := eqItems_words w d xs ys is (fun j hj => h j (by simp [hj]))
    rw [Op.eqItems, cellsU, Nat.mul_one]
    simp only [Sem.run_bind, part_word w xs i h1, part_word w ys i h2, Result.andThen_ok, run_equalIn_int w d 22 .u32 .u32 _ _ Tryd.underlying22]
    rw [cellsU] at ih
    cases hc : (xs.getD i 0 == ys.getD i 0) with
    | true => simp only [Bool.not_true, Bool.false_eq_true, if_false, List.all_cons, hc, Bool.true_and]; exact ih
    | false => simp only [Bool.not_false, if_true, List.all_cons, hc, Bool.false_and]; rfl
theorem infoU : ∃ i, Tryd.prog.info? 22 = some i := by
  obtain ⟨i, hi, _⟩ := info_parts infoU32
  exact ⟨i, hi⟩
set_option maxRecDepth 100000 in
theorem eq4 (w : World) (a0 a1 a2 a3 b0 b1 b2 b3 : Int) : (Op.equalIn 10000 24 (.agg #[.int .u32 a0, .int .u32 a1, .int .u32 a2, .int .u32 a3]) (.agg #[.int .u32 b0, .int .u32 b1, .int .u32 b2, .int .u32 b3])).run Tryd.prog w = .ok (decide ([a0, a1, a2, a3] = [b0, b1, b2, b3])) w := by
  obtain ⟨i, hi⟩ := infoU
  have h := run_equalIn_array (P := Tryd.prog) (w := w) 9999 #[.int .u32 a0, .int .u32 a1, .int .u32 a2, .int .u32 a3] #[.int .u32 b0, .int .u32 b1, .int .u32 b2, .int .u32 b3] Tryd.underlying24 hi
  rw [h]
  have k := eqItems_words w 9998 [a0, a1, a2, a3] [b0, b1, b2, b3] (List.range 4) (by intro i hi; simpa using hi)
  refine k.trans ?_
  congr 1
  show (a0 == b0 && (a1 == b1 && (a2 == b2 && (a3 == b3 && true)))) = decide _
  rw [Bool.eq_iff_iff]
  simp
set_option maxRecDepth 100000 in
theorem eq8 (w : World) (a0 a1 a2 a3 a4 a5 a6 a7 b0 b1 b2 b3 b4 b5 b6 b7 : Int) : (Op.equalIn 10000 89 (.agg #[.int .u32 a0, .int .u32 a1, .int .u32 a2, .int .u32 a3, .int .u32 a4, .int .u32 a5, .int .u32 a6, .int .u32 a7]) (.agg #[.int .u32 b0, .int .u32 b1, .int .u32 b2, .int .u32 b3, .int .u32 b4, .int .u32 b5, .int .u32 b6, .int .u32 b7])).run Tryd.prog w = .ok (decide ([a0, a1, a2, a3, a4, a5, a6, a7] = [b0, b1, b2, b3, b4, b5, b6, b7])) w := by
  obtain ⟨i, hi⟩ := infoU
  have h := run_equalIn_array (P := Tryd.prog) (w := w) 9999 #[.int .u32 a0, .int .u32 a1, .int .u32 a2, .int .u32 a3, .int .u32 a4, .int .u32 a5, .int .u32 a6, .int .u32 a7] #[.int .u32 b0, .int .u32 b1, .int .u32 b2, .int .u32 b3, .int .u32 b4, .int .u32 b5, .int .u32 b6, .int .u32 b7] Tryd.underlying89 hi
  rw [h]
  have k := eqItems_words w 9998 [a0, a1, a2, a3, a4, a5, a6, a7] [b0, b1, b2, b3, b4, b5, b6, b7] (List.range 8) (by intro i hi; simpa using hi)
  refine k.trans ?_
  congr 1
  show (a0 == b0 && (a1 == b1 && (a2 == b2 && (a3 == b3 && (a4 == b4 && (a5 == b5 && (a6 == b6 && (a7 == b7 && true)))))))) = decide _
  rw [Bool.eq_iff_iff]
  simp

/-- Whether two lists of words are the same. -/
def same (l m : Ws) : Bool := decide (l = m)
theorem same_self : ∀ l : Ws, same l l = true := fun l => by simp [same]
theorem same_no {l m : Ws} (h : ¬ l = m) : same l m = false := by simp [same, h]
theorem eq8s (w : World) (a0 a1 a2 a3 a4 a5 a6 a7 b0 b1 b2 b3 b4 b5 b6 b7 : Int) : (Op.equalIn 10000 89 (.agg #[.int .u32 a0, .int .u32 a1, .int .u32 a2, .int .u32 a3, .int .u32 a4, .int .u32 a5, .int .u32 a6, .int .u32 a7]) (.agg #[.int .u32 b0, .int .u32 b1, .int .u32 b2, .int .u32 b3, .int .u32 b4, .int .u32 b5, .int .u32 b6, .int .u32 b7])).run Tryd.prog w = .ok (same [a0, a1, a2, a3, a4, a5, a6, a7] [b0, b1, b2, b3, b4, b5, b6, b7]) w := eq8 w _ _ _ _ _ _ _ _ _ _ _ _ _ _ _ _
theorem eq4s (w : World) (a0 a1 a2 a3 b0 b1 b2 b3 : Int) : (Op.equalIn 10000 24 (.agg #[.int .u32 a0, .int .u32 a1, .int .u32 a2, .int .u32 a3]) (.agg #[.int .u32 b0, .int .u32 b1, .int .u32 b2, .int .u32 b3])).run Tryd.prog w = .ok (same [a0, a1, a2, a3] [b0, b1, b2, b3]) w := eq4 w _ _ _ _ _ _ _ _
theorem pair_ok {a b : Ws} (ha : Ok4 a) (hb : Ok4 b) : Ok4 (pair a b) :=
  take4_ok (taken_ok (taken_ok (mk8 ⟨by omega, by omega⟩ ⟨by omega, by omega⟩ ⟨by omega, by omega⟩ ⟨by omega, by omega⟩ ⟨by omega, by omega⟩ ⟨by omega, by omega⟩ ⟨by omega, by omega⟩ ⟨by omega, by omega⟩) ha) hb)
end Go.Proofs.YtfbefenagnlnfaaDoor
