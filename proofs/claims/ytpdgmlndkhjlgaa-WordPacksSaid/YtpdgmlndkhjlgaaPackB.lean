/- The reference's Same, of rows that are the same. -/
import Derived.Test.YtpdgmlndkhjlgaaPackA
import Derived.RegionTactic
set_option linter.unusedVariables false
namespace Go.Proofs.Ytpdgmlndkhjlgaa
open Go.RowKit

set_option maxHeartbeats 400000 in
theorem same_nil (a b : Option Addr) (ca cb : Nat) (w : World) :
    Calls Try.prog 18 #[.slice a 0 ca, .slice b 0 cb] w fun e w' => e = .returned (.bool true) ∧ Below w.heap.size w w' := by
  go_enter Try.func18, Try.ntmps18
  go_wp2
  refine wp_loop_rounds 1 ?_
  rw [rounds_succ]
  go_wp2
  go_ret
  exact ⟨rfl, Below.refl _ _⟩

set_option maxHeartbeats 400000 in
theorem same_row (ba oa ca bb ob cb n : Nat) (zs : List Int) (w : World) (hn : n ≤ 4096) (hba : ba < w.heap.size) (hbb : bb < w.heap.size)
    (ha : ∀ j, j < n → w.cell? ⟨ba, oa + j, none⟩ = some (.int .u32 (zs.getD j 0))) (hb : ∀ j, j < n → w.cell? ⟨bb, ob + j, none⟩ = some (.int .u32 (zs.getD j 0))) :
    Calls Try.prog 18 #[.slice (some ⟨ba, oa, none⟩) n ca, .slice (some ⟨bb, ob, none⟩) n cb] w fun e w' => e = .returned (.bool true) ∧ Below w.heap.size w w' := by
  have HA := Lib.hid ha
  have HB := Lib.hid hb
  clear ha hb
  go_enter Try.func18, Try.ntmps18
  go_wp2
  go_loopw [5] (fun si wr => ∃ k : Nat, k ≤ n ∧ si = .int .i64 k ∧ Below w.heap.size w wr) (fun si _ => n - (intOf si).toNat)
  case atStart => exact ⟨0, Nat.zero_le _, rfl, Below.refl _ _⟩
  case round =>
    obtain ⟨k, hk, rfl, hnx⟩ := hrel
    by_cases hlt : k < n
    · have ka := (hnx.cell (p := ⟨ba, oa + k, none⟩) hba).trans (HA.out k hlt)
      have kb := (hnx.cell (p := ⟨bb, ob + k, none⟩) hbb).trans (HB.out k hlt)
      obtain ⟨z, hz⟩ : ∃ z, zs.getD k 0 = z := ⟨_, rfl⟩
      rw [hz] at ka kb
      clear hz
      go_wp2
      go_region
      all_goals
        go_wp2
        go_roundw
        case rel => exact ⟨k + 1, by omega, by go_num, hnx.drew⟩
        case measure => simp [intOf]; omega
    · go_wp2
      go_ret
      exact ⟨rfl, hnx⟩
end Go.Proofs.Ytpdgmlndkhjlgaa
