/- Contracts of package word's Apply and Turn, and of the law's 'of': what each call returns, of any arguments. -/
import Derived.Test.YtgojpflkhnaedaaDoorRet
import Derived.Test.YtgojpflkhnaedaaDoorMath
set_option linter.unusedVariables false
namespace Go.Proofs.YtgojpflkhnaedaaDoor
open Go.RowKit


set_option maxHeartbeats 400000 in
theorem truth_yes (w : World) :
    Calls Tryd.prog 55 #[.bool true] w fun e w' => e = .returned (.int .u32 1) ∧ w' = w := by
  go_enter Tryd.func55, Tryd.ntmps55
  go_wp2
  go_ret
  exact ⟨rfl, rfl⟩
set_option maxHeartbeats 400000 in
theorem truth_no (w : World) :
    Calls Tryd.prog 55 #[.bool false] w fun e w' => e = .returned (.int .u32 0) ∧ w' = w := by
  go_enter Tryd.func55, Tryd.ntmps55
  go_wp2
  go_ret
  exact ⟨rfl, rfl⟩

set_option maxHeartbeats 400000 in
theorem app_add (a b : Int) (w : World) (a0 : 0 ≤ a) (a1 : a < 4294967296) (b0 : 0 ≤ b) (b1 : b < 4294967296) :
    Calls Tryd.prog 51 #[.int .i64 4, .int .u32 a, .int .u32 b] w fun e w' => e = .returned (.tuple #[.int .u32 (ap 4 a b), .int .i64 0]) ∧ w' = w := by
  go_enter Tryd.func51, Tryd.ntmps51
  go_wp2
  go_ret2
  exact ⟨ret2_eq rfl rfl, rfl⟩

set_option maxHeartbeats 400000 in
theorem app_sub (a b : Int) (w : World) (a0 : 0 ≤ a) (a1 : a < 4294967296) (b0 : 0 ≤ b) (b1 : b < 4294967296) :
    Calls Tryd.prog 51 #[.int .i64 5, .int .u32 a, .int .u32 b] w fun e w' => e = .returned (.tuple #[.int .u32 (ap 5 a b), .int .i64 0]) ∧ w' = w := by
  go_enter Tryd.func51, Tryd.ntmps51
  go_wp2
  go_ret2
  exact ⟨ret2_eq rfl rfl, rfl⟩

set_option maxHeartbeats 400000 in
theorem app_mul (a b : Int) (w : World) (a0 : 0 ≤ a) (a1 : a < 4294967296) (b0 : 0 ≤ b) (b1 : b < 4294967296) :
    Calls Tryd.prog 51 #[.int .i64 6, .int .u32 a, .int .u32 b] w fun e w' => e = .returned (.tuple #[.int .u32 (ap 6 a b), .int .i64 0]) ∧ w' = w := by
  go_enter Tryd.func51, Tryd.ntmps51
  go_wp2
  go_ret2
  exact ⟨ret2_eq rfl rfl, rfl⟩

set_option maxHeartbeats 400000 in
theorem app_and (a b : Int) (w : World) (a0 : 0 ≤ a) (a1 : a < 4294967296) (b0 : 0 ≤ b) (b1 : b < 4294967296) :
    Calls Tryd.prog 51 #[.int .i64 9, .int .u32 a, .int .u32 b] w fun e w' => e = .returned (.tuple #[.int .u32 (ap 9 a b), .int .i64 0]) ∧ w' = w := by
  go_enter Tryd.func51, Tryd.ntmps51
  go_wp2
  go_ret2
  exact ⟨ret2_eq (and_u32 a b a0 a1 b0 b1) rfl, rfl⟩

set_option maxHeartbeats 400000 in
theorem app_or (a b : Int) (w : World) (a0 : 0 ≤ a) (a1 : a < 4294967296) (b0 : 0 ≤ b) (b1 : b < 4294967296) :
    Calls Tryd.prog 51 #[.int .i64 10, .int .u32 a, .int .u32 b] w fun e w' => e = .returned (.tuple #[.int .u32 (ap 10 a b), .int .i64 0]) ∧ w' = w := by
  go_enter Tryd.func51, Tryd.ntmps51
  go_wp2
  go_ret2
  exact ⟨ret2_eq (or_u32 a b a0 a1 b0 b1) rfl, rfl⟩

set_option maxHeartbeats 400000 in
theorem app_xor (a b : Int) (w : World) (a0 : 0 ≤ a) (a1 : a < 4294967296) (b0 : 0 ≤ b) (b1 : b < 4294967296) :
    Calls Tryd.prog 51 #[.int .i64 11, .int .u32 a, .int .u32 b] w fun e w' => e = .returned (.tuple #[.int .u32 (ap 11 a b), .int .i64 0]) ∧ w' = w := by
  go_enter Tryd.func51, Tryd.ntmps51
  go_wp2
  go_ret2
  exact ⟨ret2_eq (xor_u32 a b a0 a1 b0 b1) rfl, rfl⟩

set_option maxHeartbeats 400000 in
theorem app_shl (a b : Int) (w : World) (a0 : 0 ≤ a) (a1 : a < 4294967296) (b0 : 0 ≤ b) (b1 : b < 4294967296) :
    Calls Tryd.prog 51 #[.int .i64 12, .int .u32 a, .int .u32 b] w fun e w' => e = .returned (.tuple #[.int .u32 (ap 12 a b), .int .i64 0]) ∧ w' = w := by
  go_enter Tryd.func51, Tryd.ntmps51
  go_wp2
  go_ret2
  exact ⟨ret2_eq rfl rfl, rfl⟩

set_option maxHeartbeats 400000 in
theorem app_shr (a b : Int) (w : World) (a0 : 0 ≤ a) (a1 : a < 4294967296) (b0 : 0 ≤ b) (b1 : b < 4294967296) :
    Calls Tryd.prog 51 #[.int .i64 13, .int .u32 a, .int .u32 b] w fun e w' => e = .returned (.tuple #[.int .u32 (ap 13 a b), .int .i64 0]) ∧ w' = w := by
  go_enter Tryd.func51, Tryd.ntmps51
  go_wp2
  go_ret2
  exact ⟨ret2_eq rfl rfl, rfl⟩

set_option maxHeartbeats 400000 in
theorem app_zero (op a : Int) (w : World) (ho : op = 7 ∨ op = 8) :
    Calls Tryd.prog 51 #[.int .i64 op, .int .u32 a, .int .u32 0] w fun e w' => e = .returned (.tuple #[.int .u32 0, .int .i64 14]) ∧ w' = w := by
  rcases ho with rfl | rfl
  all_goals
    go_enter Tryd.func51, Tryd.ntmps51
    go_wp2
    go_ret2
    exact ⟨rfl, rfl⟩

set_option maxHeartbeats 400000 in
theorem app_div (a b : Int) (w : World) (a0 : 0 ≤ a) (a1 : a < 4294967296) (hb : 1 ≤ b) :
    Calls Tryd.prog 51 #[.int .i64 7, .int .u32 a, .int .u32 b] w fun e w' => e = .returned (.tuple #[.int .u32 (a / b), .int .i64 0]) ∧ w' = w := by
  have hb' : (b == 0) = false := by rw [beq_eq_false_iff_ne]; omega
  go_enter Tryd.func51, Tryd.ntmps51
  go_wp2
  go_ret2
  exact ⟨rfl, rfl⟩

set_option maxHeartbeats 400000 in
theorem app_mod (a b : Int) (w : World) (a0 : 0 ≤ a) (hb : 1 ≤ b) :
    Calls Tryd.prog 51 #[.int .i64 8, .int .u32 a, .int .u32 b] w fun e w' => e = .returned (.tuple #[.int .u32 (a % b), .int .i64 0]) ∧ w' = w := by
  have hb' : (b == 0) = false := by rw [beq_eq_false_iff_ne]; omega
  go_enter Tryd.func51, Tryd.ntmps51
  go_wp2
  go_ret2
  exact ⟨rfl, rfl⟩

set_option maxHeartbeats 400000 in
theorem app_lt (a b : Int) (w : World) (a0 : 0 ≤ a) (a1 : a < 4294967296) (b0 : 0 ≤ b) (b1 : b < 4294967296) :
    Calls Tryd.prog 51 #[.int .i64 14, .int .u32 a, .int .u32 b] w fun e w' => e = .returned (.tuple #[.int .u32 (ap 14 a b), .int .i64 0]) ∧ w' = w := by
  by_cases h : a < b
  · go_enter Tryd.func51, Tryd.ntmps51
    go_wp2
    go_ret2
    exact ⟨ret2_eq (by simp [ap, h]) rfl, rfl⟩
  · go_enter Tryd.func51, Tryd.ntmps51
    go_wp2
    go_ret2
    exact ⟨ret2_eq (by simp [ap, h]) rfl, rfl⟩

set_option maxHeartbeats 400000 in
theorem app_eq (a b : Int) (w : World) (a0 : 0 ≤ a) (a1 : a < 4294967296) (b0 : 0 ≤ b) (b1 : b < 4294967296) :
    Calls Tryd.prog 51 #[.int .i64 15, .int .u32 a, .int .u32 b] w fun e w' => e = .returned (.tuple #[.int .u32 (ap 15 a b), .int .i64 0]) ∧ w' = w := by
  have hx := xor_lt_one a b a0 a1 b0 b1
  by_cases h : a = b
  · have g := hx.2 h
    clear hx
    have H := Lib.hid h
    clear h
    go_enter Tryd.func51, Tryd.ntmps51
    go_wp2
    go_ret2
    exact ⟨ret2_eq (by simp [ap, H.out]) rfl, rfl⟩
  · have g : 1 ≤ bits .xor .u32 a b := by have := mt hx.1 h; omega
    clear hx
    have H := Lib.hid h
    clear h
    go_enter Tryd.func51, Tryd.ntmps51
    go_wp2
    go_ret2
    exact ⟨ret2_eq (by simp [ap, H.out]) rfl, rfl⟩

set_option maxHeartbeats 400000 in
theorem app_none (op : Int) (a b : Int) (w : World) (ho : op < 4 ∨ 15 < op) :
    Calls Tryd.prog 51 #[.int .i64 op, .int .u32 a, .int .u32 b] w fun e w' => e = .returned (.tuple #[.int .u32 0, .int .i64 1]) ∧ w' = w := by
  rcases ho with ho | ho
  all_goals
    go_enter Tryd.func51, Tryd.ntmps51
    go_wp2
    go_ret2
    exact ⟨rfl, rfl⟩

/-- Apply, of anything. -/
theorem apply_any (op a b : Int) (w : World) (a0 : 0 ≤ a) (a1 : a < 4294967296) (b0 : 0 ≤ b) (b1 : b < 4294967296) :
    Calls Tryd.prog 51 #[.int .i64 op, .int .u32 a, .int .u32 b] w fun e w' => e = .returned (.tuple #[.int .u32 (ap op a b), .int .i64 (er op b)]) ∧ w' = w := by
  by_cases hlo : op < 4 ∨ 15 < op
  · have e1 : ap op a b = 0 := by
      unfold ap
      rw [if_neg (by omega), if_neg (by omega), if_neg (by omega), if_neg (by omega), if_neg (by omega), if_neg (by omega), if_neg (by omega), if_neg (by omega), if_neg (by omega), if_neg (by omega), if_neg (by omega), if_neg (by omega)]
    have e2 : er op b = 1 := by unfold er; rw [if_neg (by omega), if_neg (by omega)]
    rw [e1, e2]
    exact app_none op a b w hlo
  by_cases h7 : op = 7 ∨ op = 8
  · by_cases hb : b = 0
    · subst hb
      have e1 : ap op a 0 = 0 := by rcases h7 with rfl | rfl <;> simp [ap]
      have e2 : er op 0 = 14 := by unfold er; rw [if_pos h7, if_pos rfl]
      rw [e1, e2]
      exact app_zero op a w h7
    · have e2 : er op b = 0 := by unfold er; rw [if_pos h7, if_neg hb]
      rw [e2]
      rcases h7 with rfl | rfl
      · have e1 : ap 7 a b = a / b := by simp [ap, hb]
        rw [e1]
        exact app_div a b w a0 a1 (by omega)
      · have e1 : ap 8 a b = a % b := by simp [ap, hb]
        rw [e1]
        exact app_mod a b w a0 (by omega)
  have e2 : er op b = 0 := by unfold er; rw [if_neg h7, if_pos (by omega)]
  rw [e2]
  by_cases h : op = 4
  · subst h; exact app_add a b w a0 a1 b0 b1
  by_cases h : op = 5
  · subst h; exact app_sub a b w a0 a1 b0 b1
  by_cases h : op = 6
  · subst h; exact app_mul a b w a0 a1 b0 b1
  by_cases h : op = 9
  · subst h; exact app_and a b w a0 a1 b0 b1
  by_cases h : op = 10
  · subst h; exact app_or a b w a0 a1 b0 b1
  by_cases h : op = 11
  · subst h; exact app_xor a b w a0 a1 b0 b1
  by_cases h : op = 12
  · subst h; exact app_shl a b w a0 a1 b0 b1
  by_cases h : op = 13
  · subst h; exact app_shr a b w a0 a1 b0 b1
  by_cases h : op = 14
  · subst h; exact app_lt a b w a0 a1 b0 b1
  have h : op = 15 := by omega
  subst h; exact app_eq a b w a0 a1 b0 b1


end Go.Proofs.YtgojpflkhnaedaaDoor
