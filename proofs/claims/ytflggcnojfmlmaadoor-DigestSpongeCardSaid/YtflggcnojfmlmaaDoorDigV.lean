/- A word's bytes the other way round: the contracts of math/bits.ReverseBytes32 and of digest.reversed. -/
import Derived.Test.YtflggcnojfmlmaaDoorDigQ
import Derived.Test.YtflggcnojfmlmaaDoorRv
import Derived.Test.YtflggcnojfmlmaaDoorPackC
import Derived.OwnWalk
set_option linter.unusedVariables false
namespace Go.Proofs.YtflggcnojfmlmaaDoor
open Go.RowKit

/-- A word with its bytes the other way round. -/
theorem nat_and_m (x : Nat) : x &&& 16711935 = x % 256 + x / 65536 % 256 * 65536 := by
  have h1 : (x &&& 16711935) % 65536 = x % 256 := by
    rw [show (65536 : Nat) = 2 ^ 16 by decide, Nat.and_mod_two_pow, show 16711935 % 2 ^ 16 = 2 ^ 8 - 1 by decide, Nat.and_two_pow_sub_one_eq_mod]
    omega
  have h2 : (x &&& 16711935) / 65536 = x / 65536 % 256 := by
    rw [show (65536 : Nat) = 2 ^ 16 by decide, Nat.and_div_two_pow, show 16711935 / 2 ^ 16 = 2 ^ 8 - 1 by decide, Nat.and_two_pow_sub_one_eq_mod]
  omega
theorem nat_or_256 (x y : Nat) (hx : x < 256) : x ||| y * 256 = x + y * 256 := by
  have h1 : (x ||| y * 256) % 256 = x := by
    rw [show (256 : Nat) = 2 ^ 8 by decide, Nat.or_mod_two_pow, Nat.mul_mod_left, Nat.or_zero]
    exact Nat.mod_eq_of_lt hx
  have h2 : (x ||| y * 256) / 256 = y := by
    rw [show (256 : Nat) = 2 ^ 8 by decide, Nat.or_div_two_pow, Nat.mul_div_cancel _ (by decide), Nat.div_eq_of_lt hx, Nat.zero_or]
  omega
theorem nat_or_mix (b0 b1 b2 b3 : Nat) (h0 : b0 < 256) (h1 : b1 < 256) (h2 : b2 < 256) (h3 : b3 < 256) : (b1 + b3 * 65536) ||| (b0 + b2 * 65536) * 256 = b1 + b0 * 256 + (b3 + b2 * 256) * 65536 := by
  have e1 : ((b1 + b3 * 65536) ||| (b0 + b2 * 65536) * 256) % 65536 = b1 + b0 * 256 := by
    rw [show (65536 : Nat) = 2 ^ 16 by decide, Nat.or_mod_two_pow, show (b1 + b3 * 2 ^ 16) % 2 ^ 16 = b1 by omega, show (b0 + b2 * 2 ^ 16) * 256 % 2 ^ 16 = b0 * 256 by omega]
    exact nat_or_256 b1 b0 h1
  have e2 : ((b1 + b3 * 65536) ||| (b0 + b2 * 65536) * 256) / 65536 = b3 + b2 * 256 := by
    rw [show (65536 : Nat) = 2 ^ 16 by decide, Nat.or_div_two_pow, show (b1 + b3 * 2 ^ 16) / 2 ^ 16 = b3 by omega, show (b0 + b2 * 2 ^ 16) * 256 / 2 ^ 16 = b2 * 256 by omega]
    exact nat_or_256 b3 b2 h3
  omega

theorem rev_eq (a : Int) (h : W32 a) : bits .or .u32 (bits .or .u32 (bits .and .u32 (a / 256) 16711935) (bits .and .u32 a 16711935 * 256 % 4294967296) / 65536) (bits .or .u32 (bits .and .u32 (a / 256) 16711935) (bits .and .u32 a 16711935 * 256 % 4294967296) * 65536 % 4294967296) = rv a := by
  obtain ⟨b0, b1, b2, b3, h0, h1, h2, h3, rfl⟩ := digs h
  obtain ⟨x, hx⟩ : ∃ x : Int, b0 + b1 * 256 + b2 * 65536 + b3 * 16777216 = x := ⟨_, rfl⟩
  have A1 : bits .and .u32 (x / 256) 16711935 = b1 + b3 * 65536 := by
    rw [and_u32 _ _ (by omega) (by omega) (by omega) (by omega), show (16711935 : Int).toNat = 16711935 by decide, nat_and_m]
    omega
  have A2 : bits .and .u32 x 16711935 = b0 + b2 * 65536 := by
    rw [and_u32 _ _ (by omega) (by omega) (by omega) (by omega), show (16711935 : Int).toNat = 16711935 by decide, nat_and_m]
    omega
  have A3 : bits .or .u32 (b1 + b3 * 65536) ((b0 + b2 * 65536) * 256 % 4294967296) = b1 + b0 * 256 + (b3 + b2 * 256) * 65536 := by
    rw [or_u32 _ _ (by omega) (by omega) (by omega) (by omega), show (b1 + b3 * 65536).toNat = b1.toNat + b3.toNat * 65536 by omega, show ((b0 + b2 * 65536) * 256 % 4294967296).toNat = (b0.toNat + b2.toNat * 65536) * 256 by omega,
      nat_or_mix _ _ _ _ (by omega) (by omega) (by omega) (by omega)]
    omega
  rw [hx, A1, A2, A3, show (b1 + b0 * 256 + (b3 + b2 * 256) * 65536) / 65536 = b3 + b2 * 256 by omega, show (b1 + b0 * 256 + (b3 + b2 * 256) * 65536) * 65536 % 4294967296 = (b1 + b0 * 256) * 65536 by omega,
    or_half _ _ (by omega) (by omega) (by omega) (by omega), ← hx, rv_digs h0 h1 h2 h3]
  omega

set_option maxHeartbeats 800000 in
theorem rev_any (a : Int) (w : World) (h : W32 a) :
    Calls Tryd.prog 25 #[.int .u32 a] w fun e w' => e = .returned (.int .u32 (rv a)) ∧ w' = w := by
  have H := Lib.hid (rev_eq a h)
  obtain ⟨a0, a1⟩ := h
  go_enter Tryd.func25, Tryd.ntmps25
  go_wp2
  go_ret
  exact ⟨ret_int H.out, rfl⟩
set_option maxHeartbeats 800000 in
theorem reversed_row (b off n cap : Nat) (zs : List Int) (w : World) (hz : zs.length = n) (hl : n ≤ 4096) (hb : b < w.heap.size)
    (hc : ∀ j, j < n → w.cell? ⟨b, off + j, none⟩ = some (.int .u32 (zs.getD j 0))) (hw : ∀ j, 0 ≤ zs.getD j 0 ∧ zs.getD j 0 < 4294967296) :
    Calls Tryd.prog 16 #[.slice (some ⟨b, off, none⟩) n cap] w fun e w' => e = .returned (.slice (some ⟨w.heap.size, 0, none⟩) n n) ∧
      w'.ownsRow w.heap.size 25 1 (.slice (some ⟨w.heap.size, 0, none⟩) n n) n ((zs.map rv).map (Value.int .u32)) ∧ Below w.heap.size w w' := by
  obtain ⟨i0, hi, hz0, hz1, hz2⟩ := info_parts infoU32
  have HZL := Lib.hid hz
  clear hz
  go_enter Tryd.func16, Tryd.ntmps16
  go_wp2_with (at_make; refine wpList_make_own _ rfl _ _ 42 rfl w.heap.size 25 i0 (.int .u32 0) 1 Tryd.underlying42 hi hz0 hz1 _ _ _ n rfl rfl (by omega) ?b2 ?b3 (Nat.le_refl _) ?_)
  case b2 => rw [hz2]; omega
  case b3 => unfold maxLen; omega
  intro w0 hown0 hgrow0
  go_wp2
  go_loopw [3, 11] (fun out si wr => ∃ k : Nat, k ≤ n ∧ si = .int .i64 (k : Int) ∧ out = .slice (some ⟨w.heap.size, 0, none⟩) k n ∧
      wr.ownsRow w.heap.size 25 1 (.slice (some ⟨w.heap.size, 0, none⟩) k n) k (((zs.map rv).take k).map (Value.int .u32)) ∧ Below w.heap.size w wr)
    (fun _ si _ => n - (intOf si).toNat)
  case atStart => exact ⟨0, Nat.zero_le _, rfl, rfl, hown0, (Below.refl _ _).grown hgrow0 (Nat.le_refl _) (fun k h => by cases h)⟩
  case round =>
    obtain ⟨k, hk, rfl, rfl, hown, hnx⟩ := hrel
    by_cases hlt : k < n
    · have hcx : wr.cell? ⟨b, off + k, none⟩ = some (.int .u32 (zs.getD k 0)) := (hnx.cell (by exact hb)).trans (hc k hlt)
      obtain ⟨z, hzk⟩ : ∃ z, z = zs.getD k 0 := ⟨_, rfl⟩
      have hz0' := hw k
      rw [← hzk] at hcx hz0'
      have HT := Lib.hid (take_snoc_map zs k (by rw [HZL.out]; exact hlt))
      rw [← hzk] at HT
      have hW : W32 z := ⟨hz0'.1, by omega⟩
      clear hzk hw hc hz0'
      go_wp2_with fail
      refine (rev_any _ _ hW).mono ?_
      rintro e w' ⟨rfl, rfl⟩
      go_wp2_with (at_builtin; refine wpList_append_fits _ rfl (.tmp 15) (.tmp 18) 42 rfl w.heap.size 25 i0 1 Tryd.underlying42 hi hz1 w.heap.size k n _ rfl (hown.alloc _) ⟨_, 0, none⟩ 1 1 ([rv z].map (Value.int .u32)) rfl rfl (one_new _ _ _) (ints_oneCell _ _) (by omega) ?_; intro w1 hown1 hgrow1)
      go_roundw
      case rel => exact ⟨k + 1, by omega, by go_num, rfl, by rw [HT.out, List.map_append]; exact hown1, (hnx.alloc hnx.size _).grown hgrow1 (by simp; have := hnx.size; omega) (fun k hk => by cases hk; exact Nat.le_refl _)⟩
      case measure => simp [intOf]; omega
    · obtain rfl : k = n := by omega
      rw [List.take_of_length_le (by rw [List.length_map, HZL.out]; exact Nat.le_refl _)] at hown
      go_wp2
      go_ret
      exact ⟨rfl, hown, hnx⟩
end Go.Proofs.YtflggcnojfmlmaaDoor
