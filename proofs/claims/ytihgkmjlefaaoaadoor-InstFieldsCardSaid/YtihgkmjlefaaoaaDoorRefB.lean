/- The reference's Apply, all but the operations that go bit by bit: what it returns. -/
import Derived.Test.YtihgkmjlefaaoaaDoorRefA
set_option linter.unusedVariables false
namespace Go.Proofs.YtihgkmjlefaaoaaDoor
open Go.RowKit

set_option maxHeartbeats 400000 in
theorem ref_add (a b : Int) (w : World) (a0 : 0 ≤ a) (a1 : a < 4294967296) (b0 : 0 ≤ b) (b1 : b < 4294967296) :
    Calls Tryd.prog 22 #[.int .i64 4, .int .u32 a, .int .u32 b] w fun e w' => e = .returned (.tuple #[.int .u32 (ap 4 a b), .int .i64 0]) ∧ w' = w := by
  have hfin : ap 4 a b = (a + b) % 4294967296 := by simp [ap]
  rw [hfin]
  clear hfin
  go_enter Tryd.func22, Tryd.ntmps22
  go_wp2
  go_ret2
  refine ⟨ret2_eq ?_ rfl, rfl⟩
  rfl
set_option maxHeartbeats 400000 in
theorem ref_sub (a b : Int) (w : World) (a0 : 0 ≤ a) (a1 : a < 4294967296) (b0 : 0 ≤ b) (b1 : b < 4294967296) :
    Calls Tryd.prog 22 #[.int .i64 5, .int .u32 a, .int .u32 b] w fun e w' => e = .returned (.tuple #[.int .u32 (ap 5 a b), .int .i64 0]) ∧ w' = w := by
  go_enter Tryd.func22, Tryd.ntmps22
  go_wp2
  go_ret2
  refine ⟨ret2_eq ?_ rfl, rfl⟩
  have e : ap 5 a b = (a + -b % 4294967296) % 4294967296 := by simp [ap]
  rw [e]
  omega
set_option maxHeartbeats 400000 in
theorem ref_mul (a b : Int) (w : World) (a0 : 0 ≤ a) (a1 : a < 4294967296) (b0 : 0 ≤ b) (b1 : b < 4294967296) :
    Calls Tryd.prog 22 #[.int .i64 6, .int .u32 a, .int .u32 b] w fun e w' => e = .returned (.tuple #[.int .u32 (ap 6 a b), .int .i64 0]) ∧ w' = w := by
  go_enter Tryd.func22, Tryd.ntmps22
  go_wp2
  go_ret2
  refine ⟨ret2_eq ?_ rfl, rfl⟩
  have e : ap 6 a b = a * b % 4294967296 := by simp [ap]
  rw [e, IntKind.wrap_u64, tmod_of_emod, Int.emod_emod_of_dvd _ (Int.dvd_refl _), Int.emod_emod_of_dvd _ (by decide)]
set_option maxHeartbeats 400000 in
theorem ref_zero (op a : Int) (w : World) (ho : op = 7 ∨ op = 8) (a0 : 0 ≤ a) (a1 : a < 4294967296) :
    Calls Tryd.prog 22 #[.int .i64 op, .int .u32 a, .int .u32 0] w fun e w' => e = .returned (.tuple #[.int .u32 0, .int .i64 14]) ∧ w' = w := by
  rcases ho with rfl | rfl
  all_goals
    go_enter Tryd.func22, Tryd.ntmps22
    go_wp2
    go_ret2
    exact ⟨rfl, rfl⟩
set_option maxHeartbeats 400000 in
theorem ref_div (a b : Int) (w : World) (a0 : 0 ≤ a) (a1 : a < 4294967296) (hb : 1 ≤ b) (b1 : b < 4294967296) :
    Calls Tryd.prog 22 #[.int .i64 7, .int .u32 a, .int .u32 b] w fun e w' => e = .returned (.tuple #[.int .u32 (a / b), .int .i64 0]) ∧ w' = w := by
  have hb' : (b == 0) = false := by rw [beq_eq_false_iff_ne]; omega
  go_enter Tryd.func22, Tryd.ntmps22
  go_wp2
  go_ret2
  refine ⟨ret2_eq ?_ rfl, rfl⟩
  exact Int.emod_eq_of_lt (Int.ediv_nonneg a0 (by omega)) (Int.lt_of_le_of_lt (Int.ediv_le_self b a0) a1)
set_option maxHeartbeats 400000 in
theorem ref_mod (a b : Int) (w : World) (a0 : 0 ≤ a) (a1 : a < 4294967296) (hb : 1 ≤ b) (b1 : b < 4294967296) :
    Calls Tryd.prog 22 #[.int .i64 8, .int .u32 a, .int .u32 b] w fun e w' => e = .returned (.tuple #[.int .u32 (a % b), .int .i64 0]) ∧ w' = w := by
  have hb' : (b == 0) = false := by rw [beq_eq_false_iff_ne]; omega
  go_enter Tryd.func22, Tryd.ntmps22
  go_wp2
  go_ret2
  refine ⟨ret2_eq ?_ rfl, rfl⟩
  exact Int.emod_eq_of_lt (Int.emod_nonneg _ (by omega)) (Int.lt_trans (Int.emod_lt_of_pos a (by omega)) b1)
set_option maxHeartbeats 400000 in
theorem ref_sh (op a b : Int) (w : World) (ho : op = 12 ∨ op = 13) (a0 : 0 ≤ a) (a1 : a < 4294967296) (b0 : 0 ≤ b) (b1 : b < 4294967296) :
    Calls Tryd.prog 22 #[.int .i64 op, .int .u32 a, .int .u32 b] w fun e w' => e = .returned (.tuple #[.int .u32 (ap op a b), .int .i64 0]) ∧ w' = w := by
  rcases ho with rfl | rfl
  all_goals
    go_enter Tryd.func22, Tryd.ntmps22
    go_wp2_with (go_at_call 31; refine (ref_shift _ _ _ _ (by omega) a0 a1 b0 b1).mono ?_; rintro e w' ⟨rfl, rfl⟩)
    go_ret2
    exact ⟨rfl, rfl⟩
set_option maxHeartbeats 400000 in
theorem ref_lt (a b : Int) (w : World) (a0 : 0 ≤ a) (a1 : a < 4294967296) (b0 : 0 ≤ b) (b1 : b < 4294967296) :
    Calls Tryd.prog 22 #[.int .i64 14, .int .u32 a, .int .u32 b] w fun e w' => e = .returned (.tuple #[.int .u32 (ap 14 a b), .int .i64 0]) ∧ w' = w := by
  by_cases h : a < b
  all_goals
    go_enter Tryd.func22, Tryd.ntmps22
    go_wp2
    go_ret2
    exact ⟨ret2_eq (by simp [ap, h]) rfl, rfl⟩
set_option maxHeartbeats 400000 in
theorem ref_eq (a b : Int) (w : World) (a0 : 0 ≤ a) (a1 : a < 4294967296) (b0 : 0 ≤ b) (b1 : b < 4294967296) :
    Calls Tryd.prog 22 #[.int .i64 15, .int .u32 a, .int .u32 b] w fun e w' => e = .returned (.tuple #[.int .u32 (ap 15 a b), .int .i64 0]) ∧ w' = w := by
  by_cases h : a = b
  · have hb' : (a == b) = true := by rw [beq_iff_eq]; exact h
    have H := Lib.hid h
    clear h
    go_enter Tryd.func22, Tryd.ntmps22
    go_wp2
    go_ret2
    exact ⟨ret2_eq (by simp [ap, H.out]) rfl, rfl⟩
  · have hb' : (a == b) = false := by rw [beq_eq_false_iff_ne]; exact h
    have H := Lib.hid h
    clear h
    go_enter Tryd.func22, Tryd.ntmps22
    go_wp2
    go_ret2
    exact ⟨ret2_eq (by simp [ap, H.out]) rfl, rfl⟩
set_option maxHeartbeats 400000 in
theorem ref_none (op : Int) (a b : Int) (w : World) (ho : op < 4 ∨ 15 < op) (a0 : 0 ≤ a) (a1 : a < 4294967296) (b0 : 0 ≤ b) (b1 : b < 4294967296) :
    Calls Tryd.prog 22 #[.int .i64 op, .int .u32 a, .int .u32 b] w fun e w' => e = .returned (.tuple #[.int .u32 0, .int .i64 1]) ∧ w' = w := by
  rcases ho with ho | ho
  all_goals
    go_enter Tryd.func22, Tryd.ntmps22
    go_wp2
    go_ret2
    exact ⟨rfl, rfl⟩
end Go.Proofs.YtihgkmjlefaaoaaDoor
