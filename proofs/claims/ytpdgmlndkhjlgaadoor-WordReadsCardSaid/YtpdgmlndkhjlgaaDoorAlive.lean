/- The law's 'alive': the document's examples: true. -/
import Derived.Test.YtpdgmlndkhjlgaaDoorBytes
import Derived.Test.YtpdgmlndkhjlgaaDoorTurn
set_option linter.unusedVariables false
namespace Go.Proofs.YtpdgmlndkhjlgaaDoor
open Go.RowKit

theorem str258 : strOfNums (bytsAll [258]) = ⟨#[2, 1, 0, 0]⟩ := by decide

theorem bytes_258 (b : Nat) (w : World) (hb : b < w.heap.size) (hc : w.cell? ⟨b, 0, none⟩ = some (.int .u32 258)) :
    Calls Tryd.prog 11 #[.slice (some ⟨b, 0, none⟩) 1 1] w fun e w' => e = .returned (.string ⟨#[2, 1, 0, 0]⟩) ∧ Below w.heap.size w w' := by
  have h := bytes_row b 0 1 1 [258] w rfl (by omega) (by omega) hb (by
    intro j hj
    obtain rfl : j = 0 := by omega
    exact hc) (by
    intro j
    match j with
    | 0 => simp
    | n + 1 => simp)
  rw [str258] at h
  exact h

set_option maxHeartbeats 400000 in
theorem parse_007 (w : World) :
    Calls Tryd.prog 5 #[.string ⟨#[48, 48, 55]⟩] w fun e w' => e = .returned (.tuple #[.int .u32 0, .int .i64 3]) ∧ w' = w := by
  go_enter Tryd.func5, Tryd.ntmps5
  go_wp2
  go_ret2
  exact ⟨rfl, rfl⟩

theorem rot_3 : tn 2147483649 1 = 3 := by decide
theorem turn_3 (w : World) : Calls Tryd.prog 10 #[.int .u32 2147483649, .int .i64 1] w fun e w' => e = .returned (.int .u32 3) ∧ w' = w := by
  have h := turn_any 2147483649 1 w (by omega) (by omega)
  rw [rot_3] at h
  exact h
theorem sub_01 (w : World) : Calls Tryd.prog 9 #[.int .i64 5, .int .u32 0, .int .u32 1] w fun e w' => e = .returned (.tuple #[.int .u32 4294967295, .int .i64 0]) ∧ w' = w := by
  have h := apply_any 5 0 1 w (by omega) (by omega) (by omega) (by omega)
  have e1 : ap 5 0 1 = 4294967295 := by decide
  have e2 : er 5 1 = 0 := by decide
  rw [e1, e2] at h
  exact h
theorem shl_132 (w : World) : Calls Tryd.prog 9 #[.int .i64 12, .int .u32 1, .int .u32 32] w fun e w' => e = .returned (.tuple #[.int .u32 0, .int .i64 0]) ∧ w' = w := by
  have h := apply_any 12 1 32 w (by omega) (by omega) (by omega) (by omega)
  have e1 : ap 12 1 32 = 0 := by decide
  have e2 : er 12 32 = 0 := by decide
  rw [e1, e2] at h
  exact h

set_option maxHeartbeats 400000 in
theorem alive_any (w : World) :
    Calls Tryd.prog 4 #[] w fun e w' => e = .returned (.bool true) ∧ Below w.heap.size w w' := by
  go_enter Tryd.func4, Tryd.ntmps4
  go_wp2_with fail
  refine (sub_01 _).mono ?_
  rintro e w' ⟨rfl, rfl⟩
  go_wp2_with fail
  refine (shl_132 _).mono ?_
  rintro e w' ⟨rfl, rfl⟩
  go_wp2_with fail
  refine (parse_007 _).mono ?_
  rintro e w' ⟨rfl, rfl⟩
  go_wp2_with fail
  refine (turn_3 _).mono ?_
  rintro e w' ⟨rfl, rfl⟩
  go_wp2_with fail
  refine (bytes_258 w'.heap.size _ (by simp) (by simp)).mono ?_
  rintro e w1 ⟨rfl, hb⟩
  go_wp2
  go_ret
  exact ⟨rfl, ((Below.refl _ _).alloc (Nat.le_refl _) _).trans (hb.mono (by simp))⟩
end Go.Proofs.YtpdgmlndkhjlgaaDoor
