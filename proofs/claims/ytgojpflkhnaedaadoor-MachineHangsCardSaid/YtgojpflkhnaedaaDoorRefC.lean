/- The reference's Apply, of anything. -/
import Derived.Test.YtgojpflkhnaedaaDoorG9a
import Derived.Test.YtgojpflkhnaedaaDoorBoth
set_option linter.unusedVariables false
namespace Go.Proofs.YtgojpflkhnaedaaDoor
open Go.RowKit

set_option maxHeartbeats 400000 in
theorem ref_bo (op a b : Int) (w : World) (ho : op = 9 ∨ op = 10 ∨ op = 11) (a0 : 0 ≤ a) (a1 : a < 4294967296) (b0 : 0 ≤ b) (b1 : b < 4294967296) :
    Calls Tryd.prog 25 #[.int .i64 op, .int .u32 a, .int .u32 b] w fun e w' => e = .returned (.tuple #[.int .u32 (ap op a b), .int .i64 0]) ∧ Below w.heap.size w w' := by
  rcases ho with rfl | rfl | rfl
  all_goals
    go_enter Tryd.func25, Tryd.ntmps25
    go_wp2_with fail
    refine (both_any _ _ _ _ (by omega) a0 a1 b0 b1).mono ?_
    rintro e w' ⟨rfl, hb⟩
    go_wp2
    go_ret2
    exact ⟨rfl, hb⟩

/-- The same, its world told by 'Below'. -/
theorem down {f : Nat} {args : Array Value} {w : World} {v : Ending} (h : Calls Tryd.prog f args w fun e w' => e = v ∧ w' = w) : Calls Tryd.prog f args w fun e w' => e = v ∧ Below w.heap.size w w' :=
  h.mono fun e w' ⟨h1, h2⟩ => ⟨h1, by rw [h2]; exact Below.refl _ _⟩

theorem ref_any (op a b : Int) (w : World) (a0 : 0 ≤ a) (a1 : a < 4294967296) (b0 : 0 ≤ b) (b1 : b < 4294967296) :
    Calls Tryd.prog 25 #[.int .i64 op, .int .u32 a, .int .u32 b] w fun e w' => e = .returned (.tuple #[.int .u32 (ap op a b), .int .i64 (er op b)]) ∧ Below w.heap.size w w' := by
  by_cases hlo : op < 4 ∨ 15 < op
  · have e1 : ap op a b = 0 := by
      unfold ap
      rw [if_neg (by omega), if_neg (by omega), if_neg (by omega), if_neg (by omega), if_neg (by omega), if_neg (by omega), if_neg (by omega), if_neg (by omega), if_neg (by omega), if_neg (by omega), if_neg (by omega), if_neg (by omega)]
    have e2 : er op b = 1 := by unfold er; rw [if_neg (by omega), if_neg (by omega)]
    rw [e1, e2]
    exact down (ref_none op a b w hlo a0 a1 b0 b1)
  by_cases h7 : op = 7 ∨ op = 8
  · by_cases hb : b = 0
    · subst hb
      have e1 : ap op a 0 = 0 := by rcases h7 with rfl | rfl <;> simp [ap]
      have e2 : er op 0 = 14 := by unfold er; rw [if_pos h7, if_pos rfl]
      rw [e1, e2]
      exact down (ref_zero op a w h7 a0 a1)
    · have e2 : er op b = 0 := by unfold er; rw [if_pos h7, if_neg hb]
      rw [e2]
      rcases h7 with rfl | rfl
      · have e1 : ap 7 a b = a / b := by simp [ap, hb]
        rw [e1]
        exact down (ref_div a b w a0 a1 (by omega) b1)
      · have e1 : ap 8 a b = a % b := by simp [ap, hb]
        rw [e1]
        exact down (ref_mod a b w a0 a1 (by omega) b1)
  have e2 : er op b = 0 := by unfold er; rw [if_neg h7, if_pos (by omega)]
  rw [e2]
  by_cases h : op = 4
  · subst h; exact down (ref_add a b w a0 a1 b0 b1)
  by_cases h : op = 5
  · subst h; exact down (ref_sub a b w a0 a1 b0 b1)
  by_cases h : op = 6
  · subst h; exact down (ref_mul a b w a0 a1 b0 b1)
  by_cases h : op = 9 ∨ op = 10 ∨ op = 11
  · exact ref_bo op a b w h a0 a1 b0 b1
  by_cases h : op = 12 ∨ op = 13
  · exact down (ref_sh op a b w h a0 a1 b0 b1)
  by_cases h : op = 14
  · subst h; exact down (ref_lt a b w a0 a1 b0 b1)
  have h : op = 15 := by omega
  subst h; exact down (ref_eq a b w a0 a1 b0 b1)
end Go.Proofs.YtgojpflkhnaedaaDoor
