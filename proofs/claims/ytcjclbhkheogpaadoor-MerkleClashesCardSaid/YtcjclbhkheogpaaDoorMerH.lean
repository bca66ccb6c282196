/- The greatest power of two below a number: the contracts of merkle.half and of the reference's Half. -/
import Derived.Test.YtcjclbhkheogpaaDoorRet
import Derived.Lib.Strings
import Derived.Lib.BitFns
set_option linter.unusedVariables false
namespace Go.Proofs.YtcjclbhkheogpaaDoor
open Go.RowKit

/-- The greatest power of two below n. -/
def hf (n : Nat) : Nat := 2 ^ (n - 1).log2
theorem hf_pos (n : Nat) : 0 < hf n := Nat.pow_pos (by omega)
theorem hf_lt {n : Nat} (h : 2 ≤ n) : hf n < n := by
  have := Nat.log2_self_le (n := n - 1) (by omega)
  unfold hf
  omega
theorem hf_ge {n : Nat} (h : 2 ≤ n) : n ≤ 2 * hf n := by
  have := Nat.lt_log2_self (n := n - 1)
  unfold hf
  rw [Nat.pow_succ] at this
  omega
theorem hf_eq {n j : Nat} (h : 2 ^ j < n) (h' : n ≤ 2 * 2 ^ j) : hf n = 2 ^ j := by
  have hp : 0 < 2 ^ j := Nat.pow_pos (by omega)
  unfold hf
  congr 1
  rw [Nat.log2_eq_iff (by omega), Nat.pow_succ]
  omega


theorem bit_log : ∀ m : Nat, m < 1024 → 1 ≤ m → Lib.bitLen m = m.log2 + 1 := by decide +kernel
theorem tab8 (k : Nat) (h : k < Lib.len8tab.size) : (Lib.len8tab[k]).toNat = Lib.bitLen k := by
  have : ∀ k : Fin Lib.len8tab.size, (Lib.len8tab[k.val]'k.2).toNat = Lib.bitLen k.val := by decide +kernel
  exact this ⟨k, h⟩
theorem tab8_size : Lib.len8tab.size = 256 := by decide +kernel
set_option maxHeartbeats 800000 in
set_option maxRecDepth 100000 in
theorem len64_code (m : Nat) (w : World) (hm : 1 ≤ m) (h : m < 1024) :
    Calls Tryd.prog 44 #[.int .u64 (m : Int)] w fun e w' => e = .returned (.int .i64 ((m.log2 : Int) + 1)) ∧ w' = w := by
  have hb := bit_log m h hm
  obtain ⟨x, hx⟩ : ∃ x : Int, (m : Int) = x := ⟨_, rfl⟩
  obtain ⟨z, hz⟩ : ∃ z : Int, (m.log2 : Int) + 1 = z := ⟨_, rfl⟩
  have hm' : m = x.toNat := by omega
  have HB : Hid ((Lib.bitLen x.toNat : Int) = z) := Lib.hid (by rw [← hm', hb, ← hz]; push_cast; rfl)
  rw [hx, hz]
  have h0 : 1 ≤ x := by omega
  have h1 : x < 1024 := by omega
  clear hb hz hm' hx hm h
  clear m
  by_cases hs : x < 256
  · have i0 : x < (Lib.len8tab.size : Int) := by rw [tab8_size]; omega
    have T := Lib.hid (tab8 x.toNat (by rw [tab8_size]; omega))
    have hle := Lib.bitLen_le8' x (by omega) (by omega)
    go_enter Tryd.func44, Tryd.ntmps44
    go_wp2
    go_ret
    refine ⟨congrArg Ending.returned (congrArg (Value.int IntKind.i64) ?_), rfl⟩
    rw [← HB.out, T.out]
    simp only [wrap64]
    omega
  · have i0 : x / 256 < (Lib.len8tab.size : Int) := by rw [tab8_size]; omega
    have T := Lib.hid (tab8 (x / 256).toNat (by rw [tab8_size]; omega))
    have hle := Lib.bitLen_le8' (x / 256) (by omega) (by omega)
    have HS := Lib.hid (Lib.bitLen_shift8 x.toNat (by omega) (by omega))
    have HD := Lib.hid (show (x / 256).toNat = x.toNat / 256 by omega)
    go_enter Tryd.func44, Tryd.ntmps44
    go_wp2
    go_ret
    refine ⟨congrArg Ending.returned (congrArg (Value.int IntKind.i64) ?_), rfl⟩
    rw [← HB.out, T.out, HS.out, ← HD.out]
    simp only [wrap64]
    omega
theorem len_code (m : Nat) (w : World) (hm : 1 ≤ m) (h : m < 1024) :
    Calls Tryd.prog 36 #[.int .u64 (m : Int)] w fun e w' => e = .returned (.int .i64 ((m.log2 : Int) + 1)) ∧ w' = w := by
  have C := Lib.hid (len64_code m w hm h)
  go_enter Tryd.func36, Tryd.ntmps36
  go_wp2_with fail
  refine C.out.mono ?_
  rintro e w' ⟨rfl, rfl⟩
  go_wp2_with fail
  go_ret
  exact ⟨rfl, rfl⟩
theorem half_code (n : Nat) (w : World) (h2 : 2 ≤ n) (hn : n ≤ 1024) :
    Calls Tryd.prog 29 #[.int .i64 (n : Int)] w fun e w' => e = .returned (.int .i64 (hf n : Int)) ∧ w' = w := by
  have c := len_code (n - 1) w (by omega) (by omega)
  have hl : (n - 1).log2 < 10 := by rw [Nat.log2_lt (by omega)]; omega
  obtain ⟨q, hq⟩ : ∃ q, (n - 1).log2 = q := ⟨_, rfl⟩
  have hh : (hf n : Int) = 2 ^ q := by unfold hf; rw [hq]; push_cast; rfl
  rw [hq] at c hl
  have e : ((n - 1 : Nat) : Int) = (n : Int) - 1 := by omega
  rw [e] at c
  have i0 : 0 ≤ (n : Int) - 1 := by omega
  have i1 : (n : Int) - 1 < 1024 := by omega
  have C := Lib.hid c
  obtain ⟨z, hz⟩ : ∃ z : Int, (hf n : Int) = z := ⟨_, rfl⟩
  rw [hz] at hh ⊢
  have HH := Lib.hid hh
  clear c e hq hz hh
  go_enter Tryd.func29, Tryd.ntmps29
  go_wp2_with fail
  refine C.out.mono ?_
  rintro e w' ⟨rfl, rfl⟩
  go_wp2_with fail
  go_ret
  refine ⟨ret_int ?_, rfl⟩
  rw [HH.out]
  have hq : q = 0 ∨ q = 1 ∨ q = 2 ∨ q = 3 ∨ q = 4 ∨ q = 5 ∨ q = 6 ∨ q = 7 ∨ q = 8 ∨ q = 9 := by omega
  rcases hq with rfl | rfl | rfl | rfl | rfl | rfl | rfl | rfl | rfl | rfl <;> (unfold wrap64; rfl)
set_option maxHeartbeats 800000 in
theorem half_ref (n : Nat) (w : World) (h2 : 2 ≤ n) (hn : n ≤ 1048576) :
    Calls Tryd.prog 19 #[.int .i64 (n : Int)] w fun e w' => e = .returned (.int .i64 (hf n : Int)) ∧ w' = w := by
  go_enter Tryd.func19, Tryd.ntmps19
  go_wp2_with fail
  go_loop [3] (fun k => ∃ q j : Nat, k = .int .i64 (q : Int) ∧ Hid (q = 2 ^ j) ∧ q < n) (fun k => n - (intOf k).toNat)
  case atStart => exact ⟨1, 0, rfl, rfl, by omega⟩
  case round =>
    obtain ⟨q, j, rfl, HQ, hq⟩ := hrel
    by_cases hlt : 2 * q < n
    · have i0 : 2 * (q : Int) < (n : Int) := by omega
      have hq1 : 0 < q := by rw [HQ.out]; exact Nat.pow_pos (by omega)
      have HQ2 := Lib.hid (show 2 * q = 2 ^ (j + 1) by rw [HQ.out, Nat.pow_succ]; omega)
      go_wp2_with fail
      go_round
      case rel => exact ⟨2 * q, j + 1, by go_num, HQ2, hlt⟩
      case measure => simp [intOf]; omega
    · have i0 : ¬ 2 * (q : Int) < (n : Int) := by omega
      have HE := Lib.hid (hf_eq (n := n) (j := j) (by rw [← HQ.out]; exact hq) (by rw [← HQ.out]; omega))
      go_wp2_with fail
      go_ret
      exact ⟨ret_int (by rw [HE.out, HQ.out]), rfl⟩
end Go.Proofs.YtcjclbhkheogpaaDoor
