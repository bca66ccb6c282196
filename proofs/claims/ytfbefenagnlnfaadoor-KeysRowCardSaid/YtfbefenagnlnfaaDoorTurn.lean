/- Contracts of package word's Turn, and of the reference's. -/
import Derived.Test.YtfbefenagnlnfaaDoorRet
import Derived.Test.YtfbefenagnlnfaaDoorMath
set_option linter.unusedVariables false
namespace Go.Proofs.YtfbefenagnlnfaaDoor
open Go.RowKit

/-- A word turned any number of places. -/
def tn (a n : Int) : Int := rot a (n % 32)

theorem and31 (n : Int) : bits .and .u64 (IntKind.u64.wrap n) 31 = n % 32 := by
  have h0 : 0 ≤ IntKind.u64.wrap n := by rw [IntKind.wrap_u64]; omega
  have h1 : IntKind.u64.wrap n < 2 ^ 64 := by rw [IntKind.wrap_u64]; omega
  have h := bits_mask .u64 64 (by decide) wraps_u64 5 (by decide) _ h0 h1
  have e : (2 : Int) ^ 5 - 1 = 31 := by decide
  rw [e] at h
  rw [h, IntKind.wrap_u64]
  omega

set_option maxHeartbeats 400000 in
theorem rot_any (a n : Int) (w : World) (a0 : 0 ≤ a) (a1 : a < 4294967296) :
    Calls Tryd.prog 96 #[.int .u32 a, .int .i64 n] w fun e w' => e = .returned (.int .u32 (tn a n)) ∧ w' = w := by
  show Calls Tryd.prog 96 #[.int .u32 a, .int .i64 n] w fun e w' => e = .returned (.int .u32 (rot a (n % 32))) ∧ w' = w
  obtain ⟨k, hk⟩ : ∃ k : Nat, n % 32 = (k : Int) := ⟨(n % 32).toNat, by omega⟩
  have k1 : k < 32 := by omega
  have he := and31 n
  rw [hk] at he ⊢
  have ho := rot_or a k a0 a1 k1
  have H := Lib.hid ho
  clear hk ho
  go_enter Tryd.func96, Tryd.ntmps96
  go_wp2
  go_ret
  exact ⟨ret_int (H.out.trans (by simp [rot])), rfl⟩

set_option maxHeartbeats 400000 in
theorem turn_any (a n : Int) (w : World) (a0 : 0 ≤ a) (a1 : a < 4294967296) :
    Calls Tryd.prog 89 #[.int .u32 a, .int .i64 n] w fun e w' => e = .returned (.int .u32 (tn a n)) ∧ w' = w := by
  go_enter Tryd.func89, Tryd.ntmps89
  go_wp2_with (go_at_call 96; refine (rot_any _ _ _ (by omega) (by omega)).mono ?_; rintro e w' ⟨rfl, rfl⟩)
  go_ret
  exact ⟨rfl, rfl⟩
end Go.Proofs.YtfbefenagnlnfaaDoor
