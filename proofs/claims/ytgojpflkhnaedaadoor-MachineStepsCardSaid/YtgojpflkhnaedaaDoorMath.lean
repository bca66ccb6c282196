/- Plain arithmetic of words of 32 bits: what each operation makes of two, as a function on integers; no program in sight. -/
import Derived.WalkKit
import Derived.Laws.BitsLemmas
import Derived.Laws.Bits64
namespace Go.Proofs.YtgojpflkhnaedaaDoor
open Go

/-- What the operation makes of two words. -/
def ap (op a b : Int) : Int :=
  if op = 4 then (a + b) % 4294967296
  else if op = 5 then (a + -b % 4294967296) % 4294967296
  else if op = 6 then a * b % 4294967296
  else if op = 7 then (if b = 0 then 0 else a / b)
  else if op = 8 then (if b = 0 then 0 else a % b)
  else if op = 9 then ((a.toNat &&& b.toNat : Nat) : Int)
  else if op = 10 then ((a.toNat ||| b.toNat : Nat) : Int)
  else if op = 11 then ((a.toNat ^^^ b.toNat : Nat) : Int)
  else if op = 12 then a * 2 ^ min b.toNat 32 % 4294967296
  else if op = 13 then a / 2 ^ min b.toNat 32
  else if op = 14 then (if a < b then 1 else 0)
  else if op = 15 then (if a = b then 1 else 0)
  else 0

/-- The error beside it. -/
def er (op b : Int) : Int :=
  if op = 7 ∨ op = 8 then (if b = 0 then 14 else 0) else if 4 ≤ op ∧ op ≤ 15 then 0 else 1

theorem wraps_u32 (n : Int) (h₀ : 0 ≤ n) (h₁ : n < 2 ^ 32) : IntKind.u32.wrap n = n := by rw [IntKind.wrap_u32]; omega
theorem wraps_u64 (n : Int) (h₀ : 0 ≤ n) (h₁ : n < 2 ^ 64) : IntKind.u64.wrap n = n := by rw [IntKind.wrap_u64]; omega

theorem and_u32 (a b : Int) (a0 : 0 ≤ a) (a1 : a < 4294967296) (b0 : 0 ≤ b) (b1 : b < 4294967296) :
    bits .and .u32 a b = ((a.toNat &&& b.toNat : Nat) : Int) := by
  have h := (bits_nat .u32 32 (by decide) wraps_u32 a.toNat b.toNat (by omega) (by omega)).1
  rw [Int.toNat_of_nonneg a0, Int.toNat_of_nonneg b0] at h
  exact h
theorem or_u32 (a b : Int) (a0 : 0 ≤ a) (a1 : a < 4294967296) (b0 : 0 ≤ b) (b1 : b < 4294967296) :
    bits .or .u32 a b = ((a.toNat ||| b.toNat : Nat) : Int) := by
  have h := (bits_nat .u32 32 (by decide) wraps_u32 a.toNat b.toNat (by omega) (by omega)).2
  rw [Int.toNat_of_nonneg a0, Int.toNat_of_nonneg b0] at h
  exact h
theorem xor_u32 (a b : Int) (a0 : 0 ≤ a) (a1 : a < 4294967296) (b0 : 0 ≤ b) (b1 : b < 4294967296) :
    bits .xor .u32 a b = ((a.toNat ^^^ b.toNat : Nat) : Int) := by
  obtain ⟨x, rfl⟩ := Int.eq_ofNat_of_zero_le a0
  obtain ⟨y, rfl⟩ := Int.eq_ofNat_of_zero_le b0
  have hx : x ^^^ y < 2 ^ 32 := Nat.xor_lt_two_pow (by omega) (by omega)
  have h1 : (BitVec.ofInt 32 (x : Int)).toNat = x := by
    rw [BitVec.ofInt_natCast, BitVec.toNat_ofNat]; exact Nat.mod_eq_of_lt (by omega)
  have h2 : (BitVec.ofInt 32 (y : Int)).toNat = y := by
    rw [BitVec.ofInt_natCast, BitVec.toNat_ofNat]; exact Nat.mod_eq_of_lt (by omega)
  show IntKind.u32.wrap ((BitVec.ofInt 32 (x : Int) ^^^ BitVec.ofInt 32 (y : Int)).toNat : Int) = _
  rw [BitVec.toNat_xor, h1, h2, IntKind.wrap_u32, Int.toNat_natCast, Int.toNat_natCast]
  omega

theorem xor_lt_one (a b : Int) (a0 : 0 ≤ a) (a1 : a < 4294967296) (b0 : 0 ≤ b) (b1 : b < 4294967296) :
    bits .xor .u32 a b < 1 ↔ a = b := by
  rw [xor_u32 a b a0 a1 b0 b1]
  constructor
  · intro h
    have h0 : a.toNat ^^^ b.toNat = 0 := by omega
    have h1 : a.toNat = b.toNat := by
      have : a.toNat ^^^ (b.toNat ^^^ b.toNat) = b.toNat := by rw [← Nat.xor_assoc, h0, Nat.zero_xor]
      rwa [Nat.xor_self, Nat.xor_zero] at this
    omega
  · rintro rfl
    simp

theorem ite_nn {c : Prop} [Decidable c] {x y : Int} (h : c → 0 ≤ x) (k : ¬ c → 0 ≤ y) : 0 ≤ if c then x else y := by
  by_cases hc : c
  · rw [if_pos hc]; exact h hc
  · rw [if_neg hc]; exact k hc
theorem ite_lt' {c : Prop} [Decidable c] {x y m : Int} (h : c → x < m) (k : ¬ c → y < m) : (if c then x else y) < m := by
  by_cases hc : c
  · rw [if_pos hc]; exact h hc
  · rw [if_neg hc]; exact k hc

theorem ap_nonneg (op a b : Int) (a0 : 0 ≤ a) (b0 : 0 ≤ b) : 0 ≤ ap op a b := by
  unfold ap
  refine ite_nn (fun _ => by omega) fun _ => ?_
  refine ite_nn (fun _ => by omega) fun _ => ?_
  refine ite_nn (fun _ => Int.emod_nonneg _ (by decide)) fun _ => ?_
  refine ite_nn (fun _ => ite_nn (fun _ => by omega) fun _ => Int.ediv_nonneg a0 b0) fun _ => ?_
  refine ite_nn (fun _ => ite_nn (fun _ => by omega) fun h => Int.emod_nonneg _ h) fun _ => ?_
  refine ite_nn (fun _ => by omega) fun _ => ?_
  refine ite_nn (fun _ => by omega) fun _ => ?_
  refine ite_nn (fun _ => by omega) fun _ => ?_
  refine ite_nn (fun _ => Int.emod_nonneg _ (by decide)) fun _ => ?_
  refine ite_nn (fun _ => Int.ediv_nonneg a0 (Int.le_of_lt (Int.pow_pos (by decide)))) fun _ => ?_
  refine ite_nn (fun _ => ite_nn (fun _ => by omega) fun _ => by omega) fun _ => ?_
  exact ite_nn (fun _ => ite_nn (fun _ => by omega) fun _ => by omega) fun _ => by omega

theorem ap_lt (op a b : Int) (a0 : 0 ≤ a) (a1 : a < 4294967296) (b0 : 0 ≤ b) (b1 : b < 4294967296) : ap op a b < 4294967296 := by
  have ha : a.toNat < 2 ^ 32 := by omega
  have hb : b.toNat < 2 ^ 32 := by omega
  have k1 := Nat.and_lt_two_pow a.toNat hb
  have k2 := Nat.or_lt_two_pow ha hb
  have k3 := Nat.xor_lt_two_pow ha hb
  unfold ap
  refine ite_lt' (fun _ => by omega) fun _ => ?_
  refine ite_lt' (fun _ => by omega) fun _ => ?_
  refine ite_lt' (fun _ => Int.emod_lt_of_pos _ (by decide)) fun _ => ?_
  refine ite_lt' (fun _ => ite_lt' (fun _ => by omega) fun _ => Int.lt_of_le_of_lt (Int.ediv_le_self b a0) a1) fun _ => ?_
  refine ite_lt' (fun _ => ite_lt' (fun _ => by omega) fun h => Int.lt_of_lt_of_le (Int.emod_lt_of_pos a (show 0 < b by omega)) (by omega)) fun _ => ?_
  refine ite_lt' (fun _ => by omega) fun _ => ?_
  refine ite_lt' (fun _ => by omega) fun _ => ?_
  refine ite_lt' (fun _ => by omega) fun _ => ?_
  refine ite_lt' (fun _ => Int.emod_lt_of_pos _ (by decide)) fun _ => ?_
  refine ite_lt' (fun _ => Int.lt_of_le_of_lt (Int.ediv_le_self _ a0) a1) fun _ => ?_
  refine ite_lt' (fun _ => ite_lt' (fun _ => by omega) fun _ => by omega) fun _ => ?_
  exact ite_lt' (fun _ => ite_lt' (fun _ => by omega) fun _ => by omega) fun _ => by omega

/-! ### turning a word's bits -/
/-- The word, its bits turned k places towards the high end (k from 0 to 31). -/
def rot (a k : Int) : Int := a * 2 ^ k.toNat % 4294967296 + a / 2 ^ (32 - k.toNat)

theorem pow_split (k : Nat) (hk : k ≤ 32) : (2 : Int) ^ k * 2 ^ (32 - k) = 4294967296 := by
  rw [← Int.pow_add]
  rw [show k + (32 - k) = 32 by omega]
  decide

/-- 'x<<s | x>>(32-s)' is the turned word. -/
theorem rot_or (a : Int) (k : Nat) (a0 : 0 ≤ a) (a1 : a < 4294967296) (hk : k < 32) :
    bits .or .u32 (a * 2 ^ k % 4294967296) (a / 2 ^ (32 - k)) = a * 2 ^ k % 4294967296 + a / 2 ^ (32 - k) := by
  have hp := pow_split k (by omega)
  have hq : (0 : Int) < 2 ^ (32 - k) := Int.pow_pos (by decide)
  have hr : (0 : Int) < 2 ^ k := Int.pow_pos (by decide)
  have h1 : a / 2 ^ (32 - k) < 2 ^ k := by
    apply Int.ediv_lt_of_lt_mul hq
    rw [hp]; exact a1
  have h2 : (2 : Int) ^ k ∣ 4294967296 := ⟨_, hp.symm⟩
  have h3 : a * 2 ^ k % 4294967296 % 2 ^ k = 0 := by
    rw [Int.emod_emod_of_dvd _ h2, Int.mul_emod_left]
  have h4 : (2 : Int) ^ k ≤ 2 ^ 32 := by
    have : (2 : Nat) ^ k ≤ 2 ^ 32 := Nat.pow_le_pow_right (by decide) (by omega)
    exact_mod_cast this
  refine bits_join .u32 32 (by decide) wraps_u32 k _ _ (Int.emod_nonneg _ (by decide)) h3 (Int.emod_lt_of_pos _ (by decide)) (Int.ediv_nonneg a0 (Int.le_of_lt hq)) h1 (Int.lt_of_lt_of_le h1 h4)

/-- All of them are words. -/
def W32s (l : List Int) : Prop := ∀ z ∈ l, 0 ≤ z ∧ z < 4294967296
end Go.Proofs.YtgojpflkhnaedaaDoor
