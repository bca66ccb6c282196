/- The reference's Apply, all but the operations that go bit by bit: what it returns. -/
import Derived.Test.YtihgkmjlefaaoaaDoorRet
import Derived.Test.YtihgkmjlefaaoaaDoorMath
set_option linter.unusedVariables false
namespace Go.Proofs.YtihgkmjlefaaoaaDoor
open Go.RowKit

set_option maxHeartbeats 400000 in
theorem flag_yes (w : World) :
    Calls Tryd.prog 32 #[.bool true] w fun e w' => e = .returned (.int .u32 1) ∧ w' = w := by
  go_enter Tryd.func32, Tryd.ntmps32
  go_wp2
  go_ret
  exact ⟨rfl, rfl⟩
set_option maxHeartbeats 400000 in
theorem flag_no (w : World) :
    Calls Tryd.prog 32 #[.bool false] w fun e w' => e = .returned (.int .u32 0) ∧ w' = w := by
  go_enter Tryd.func32, Tryd.ntmps32
  go_wp2
  go_ret
  exact ⟨rfl, rfl⟩

theorem pow_le' (k : Nat) (hk : k ≤ 32) : (1 : Int) ≤ 2 ^ k ∧ (2 : Int) ^ k ≤ 4294967296 := by
  have h1 : (2 : Nat) ^ k ≤ 2 ^ 32 := Nat.pow_le_pow_right (by decide) (by omega)
  have h2 : 0 < 2 ^ k := Nat.two_pow_pos k
  have h3 : ((2 ^ k : Nat) : Int) = 2 ^ k := by push_cast; rfl
  rw [← h3]
  constructor
  · omega
  · have h4 : (2 : Nat) ^ 32 = 4294967296 := by decide
    omega
/-- After j rounds. -/
def shN (op a : Int) (j : Nat) : Int := if op = 12 then a * 2 ^ j % 4294967296 else a / 2 ^ j
theorem shN_zero (op a : Int) (a0 : 0 ≤ a) (a1 : a < 4294967296) : shN op a 0 = a := by
  unfold shN
  simp only [Int.pow_zero, Int.mul_one]
  split <;> omega
theorem shN_left (a : Int) (j : Nat) : 2 * shN 12 a j % 4294967296 = shN 12 a (j + 1) := by
  have e : a * 2 ^ (j + 1) = 2 * (a * 2 ^ j) := by rw [Int.pow_succ, ← Int.mul_assoc, Int.mul_comm]
  simp only [shN, if_pos]
  rw [e]
  omega
theorem shN_right (a : Int) (j : Nat) : shN 13 a j / 2 = shN 13 a (j + 1) := by
  simp only [shN]
  rw [if_neg (by decide), if_neg (by decide), Int.pow_succ, Int.ediv_ediv_of_nonneg (by exact Int.le_of_lt (Int.pow_pos (by decide)))]
theorem shN_W (op a : Int) (j : Nat) (a0 : 0 ≤ a) (a1 : a < 4294967296) : 0 ≤ shN op a j ∧ shN op a j ≤ 4294967295 := by
  unfold shN
  split
  · omega
  · exact ⟨Int.ediv_nonneg a0 (Int.le_of_lt (Int.pow_pos (by decide))), by have := Int.ediv_le_self ((2 : Int) ^ j) a0; omega⟩
theorem shN_ap (op a : Int) (k : Nat) (hop : op = 12 ∨ op = 13) (hk : k < 32) : ap op a (k : Int) = shN op a k := by
  rcases hop with rfl | rfl
  · have e : ap 12 a (k : Int) = a * 2 ^ min k 32 % 4294967296 := by simp [ap]
    rw [e, Nat.min_eq_left (by omega)]; simp [shN]
  · have e : ap 13 a (k : Int) = a / 2 ^ min k 32 := by simp [ap]
    rw [e, Nat.min_eq_left (by omega)]; simp [shN]
theorem far_ap (op a f : Int) (hop : op = 12 ∨ op = 13) (hf : 32 ≤ f) (a0 : 0 ≤ a) (a1 : a < 4294967296) : ap op a f = 0 := by
  rcases hop with rfl | rfl
  · have e1 : ap 12 a f = a * 2 ^ min f.toNat 32 % 4294967296 := by simp [ap]
    rw [e1, Nat.min_eq_right (by omega)]
    omega
  · have e1 : ap 13 a f = a / 2 ^ min f.toNat 32 := by simp [ap]
    rw [e1, Nat.min_eq_right (by omega)]
    omega

set_option maxHeartbeats 800000 in
theorem ref_shift (op a b : Int) (w : World) (hop : op = 12 ∨ op = 13) (a0 : 0 ≤ a) (a1 : a < 4294967296) (b0 : 0 ≤ b) (b1 : b < 4294967296) :
    Calls Tryd.prog 31 #[.int .i64 op, .int .u32 a, .int .u32 b] w fun e w' => e = .returned (.int .u32 (ap op a b)) ∧ w' = w := by
  by_cases hb : 32 ≤ b
  · rw [far_ap op a b hop hb a0 a1]
    go_enter Tryd.func31, Tryd.ntmps31
    go_wp2
    go_ret
    exact ⟨rfl, rfl⟩
  · obtain ⟨k, rfl⟩ := Int.eq_ofNat_of_zero_le b0
    have hk : k < 32 := by omega
    have hg : decide (32 ≤ (k : Int)) = false := by simp; omega
    rw [shN_ap op a k hop hk]
    have z := shN_zero op a a0 a1
    have HZ0 := Lib.hid z
    have HW := Lib.hid (fun j => shN_W op a j a0 a1)
    clear z hb
    rcases hop with rfl | rfl
    all_goals
      go_enter Tryd.func31, Tryd.ntmps31
      go_wp2
    · go_loop [7, 8] (fun x i => ∃ j : Nat, j ≤ k ∧ i = .int .u32 j ∧ x = .int .u64 (shN 12 a j)) (fun _ i => k - (intOf i).toNat)
      case atStart => exact ⟨0, Nat.zero_le _, rfl, by rw [HZ0.out]⟩
      case round =>
        obtain ⟨j, hj, rfl, rfl⟩ := hrel
        obtain ⟨z0, z1⟩ := HW.out j
        have hs := shN_left a j
        have HS := Lib.hid hs
        clear hs
        obtain ⟨z, hz⟩ : ∃ z, shN 12 a j = z := ⟨_, rfl⟩
        rw [hz] at z0 z1 HS ⊢
        have HZ := Lib.hid hz
        clear hz
        by_cases hlt : j < k
        · go_wp2
          go_round
          case rel => exact ⟨j + 1, by omega, by go_num, by rw [← HS.out]⟩
          case measure => simp [intOf]; omega
        · go_wp2
          go_ret
          obtain rfl : j = k := by omega
          exact ⟨ret_int HZ.out.symm, rfl⟩
    · go_loop [7, 8] (fun x i => ∃ j : Nat, j ≤ k ∧ i = .int .u32 j ∧ x = .int .u64 (shN 13 a j)) (fun _ i => k - (intOf i).toNat)
      case atStart => exact ⟨0, Nat.zero_le _, rfl, by rw [HZ0.out]⟩
      case round =>
        obtain ⟨j, hj, rfl, rfl⟩ := hrel
        obtain ⟨z0, z1⟩ := HW.out j
        have hs := shN_right a j
        have HS := Lib.hid hs
        clear hs
        obtain ⟨z, hz⟩ : ∃ z, shN 13 a j = z := ⟨_, rfl⟩
        rw [hz] at z0 z1 HS ⊢
        have HZ := Lib.hid hz
        clear hz
        by_cases hlt : j < k
        · go_wp2
          go_round
          case rel => exact ⟨j + 1, by omega, by go_num, by rw [← HS.out]⟩
          case measure => simp [intOf]; omega
        · go_wp2
          go_ret
          obtain rfl : j = k := by omega
          exact ⟨ret_int HZ.out.symm, rfl⟩
end Go.Proofs.YtihgkmjlefaaoaaDoor
