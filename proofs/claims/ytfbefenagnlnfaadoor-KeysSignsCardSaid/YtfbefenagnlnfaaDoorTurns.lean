/- Turning a word's bits one place at a time: the reference's Turn; turns add up. -/
import Derived.Test.YtfbefenagnlnfaaDoorTurn
set_option linter.unusedVariables false
namespace Go.Proofs.YtfbefenagnlnfaaDoor
open Go.RowKit

def W32 (x : Int) : Prop := 0 ≤ x ∧ x ≤ 4294967295
/-- One place. -/
def stp (x : Int) : Int := 2 * x % 4294967296 + x / 2147483648
def stpN : Nat → Int → Int
  | 0, a => a
  | n + 1, a => stp (stpN n a)
theorem stpN_add (i j : Nat) (a : Int) : stpN (i + j) a = stpN i (stpN j a) := by
  induction i with
  | zero => simp [stpN]
  | succ n ih => rw [show n + 1 + j = (n + j) + 1 by omega]; simp only [stpN]; rw [ih]
theorem stp_W {x : Int} (h : W32 x) : W32 (stp x) := by
  unfold W32 stp at *
  omega
theorem stpN_W {x : Int} (h : W32 x) (n : Nat) : W32 (stpN n x) := by
  induction n with
  | zero => exact h
  | succ n ih => exact stp_W ih

def rotF (a : Int) (k : Nat) : Int := a * 2 ^ k % 4294967296 + a / 2 ^ (32 - k)
theorem rot_form (a : Int) (k : Nat) (hk : k ≤ 32) (ha : W32 a) :
    ∃ h l : Int, a = h * 2 ^ (32 - k) + l ∧ 0 ≤ l ∧ l < 2 ^ (32 - k) ∧ 0 ≤ h ∧ h < 2 ^ k ∧ rotF a k = l * 2 ^ k + h := by
  have hp := pow_split k hk
  obtain ⟨a0, a1⟩ := ha
  unfold rotF
  obtain ⟨p, hpp⟩ : ∃ p : Int, (2 : Int) ^ k = p := ⟨_, rfl⟩
  obtain ⟨q, hqq⟩ : ∃ q : Int, (2 : Int) ^ (32 - k) = q := ⟨_, rfl⟩
  have p0 : 0 < p := by rw [← hpp]; exact Int.pow_pos (by decide)
  have q0 : 0 < q := by rw [← hqq]; exact Int.pow_pos (by decide)
  rw [hpp, hqq] at hp ⊢
  have e := Int.mul_ediv_add_emod a q
  have l0 := Int.emod_nonneg a (show q ≠ 0 by omega)
  have l1 := Int.emod_lt_of_pos a q0
  have h0 : 0 ≤ a / q := Int.ediv_nonneg a0 (by omega)
  have h1 : a / q < p := Int.ediv_lt_of_lt_mul q0 (by rw [hp]; omega)
  refine ⟨a / q, a % q, by rw [Int.mul_comm]; exact e.symm, l0, l1, h0, h1, ?_⟩
  congr 1
  generalize a / q = h at *
  generalize a % q = l at *
  have e2 : a * p = l * p + 4294967296 * h := by
    rw [← e, ← hp, Int.add_mul, Int.add_comm, Int.mul_comm q h, Int.mul_assoc, Int.mul_comm q p, Int.mul_comm h]
  rw [e2, Int.add_mul_emod_self_left]
  have b0 : 0 ≤ l * p := Int.mul_nonneg l0 (by omega)
  have b1 : l * p < 4294967296 := by
    rw [← hp, Int.mul_comm p q]
    exact Int.mul_lt_mul_of_pos_right l1 p0
  exact Int.emod_eq_of_lt b0 b1

theorem stp_rotF (a : Int) (k : Nat) (hk : k < 32) (ha : W32 a) : stp (rotF a k) = rotF a (k + 1) := by
  obtain ⟨h, l, e, l0, l1, h0, h1, r⟩ := rot_form a k (by omega) ha
  obtain ⟨h', l', e', l0', l1', h0', h1', r'⟩ := rot_form a (k + 1) (by omega) ha
  rw [r, r']
  have hp := pow_split (k + 1) (by omega)
  obtain ⟨p, hpp⟩ : ∃ p : Int, (2 : Int) ^ k = p := ⟨_, rfl⟩
  obtain ⟨q, hqq⟩ : ∃ q : Int, (2 : Int) ^ (32 - (k + 1)) = q := ⟨_, rfl⟩
  have hq2 : (2 : Int) ^ (32 - k) = 2 * q := by
    rw [← hqq, show 32 - k = (32 - (k + 1)) + 1 by omega, Int.pow_succ, Int.mul_comm]
  have hp2 : (2 : Int) ^ (k + 1) = 2 * p := by rw [Int.pow_succ, hpp, Int.mul_comm]
  rw [hpp] at h1 ⊢
  rw [hq2] at e l1
  rw [hqq] at e' l1' hp
  rw [hp2] at h1' hp ⊢
  have p0 : 0 < p := by rw [← hpp]; exact Int.pow_pos (by decide)
  have q0 : 0 < q := by rw [← hqq]; exact Int.pow_pos (by decide)
  have pq : p * q = 2147483648 := by
    have : 2 * (p * q) = 4294967296 := by rw [← hp, Int.mul_assoc]
    omega
  -- a = h (2 q) + l = h' q + l'
  have eq1 : (2 * h) * q + l = h' * q + l' := by
    rw [← e', e, Int.mul_comm 2 h, Int.mul_assoc]
  obtain ⟨t, ht⟩ : ∃ t : Int, h' = 2 * h + t := ⟨h' - 2 * h, by omega⟩
  subst ht
  rw [Int.add_mul] at eq1
  have eq2 : l = t * q + l' := by omega
  have t0 : 0 ≤ t := by
    rcases Int.lt_or_le t 0 with hn | hn
    · have : t * q ≤ (-1) * q := Int.mul_le_mul_of_nonneg_right (by omega) (by omega)
      omega
    · exact hn
  have t1 : t ≤ 1 := by
    rcases Int.lt_or_le 1 t with hn | hn
    · have : 2 * q ≤ t * q := Int.mul_le_mul_of_nonneg_right (by omega) (by omega)
      omega
    · exact hn
  have b0 : 0 ≤ l' * p := Int.mul_nonneg l0' (by omega)
  have b1 : l' * p ≤ (q - 1) * p := Int.mul_le_mul_of_nonneg_right (by omega) (by omega)
  rw [Int.sub_mul, Int.mul_comm q p, pq] at b1
  have e3 : l * p = t * 2147483648 + l' * p := by
    rw [eq2, Int.add_mul, Int.mul_assoc, Int.mul_comm q p, pq]
  have e4 : l' * (2 * p) = 2 * (l' * p) := by rw [← Int.mul_assoc, Int.mul_comm l' 2, Int.mul_assoc]
  rw [e3, e4]
  unfold stp
  generalize l' * p = z at *
  omega

theorem stpN_rotF (a : Int) (k : Nat) (hk : k ≤ 32) (ha : W32 a) : stpN k a = rotF a k := by
  induction k with
  | zero =>
    unfold stpN rotF
    have h1 := ha.1
    have h2 := ha.2
    simp only [Int.pow_zero, Int.mul_one]
    omega
  | succ n ih =>
    rw [stpN, ih (by omega), stp_rotF a n (by omega) ha]
theorem stpN_32 (a : Int) (ha : W32 a) : stpN 32 a = a := by
  rw [stpN_rotF a 32 (by omega) ha]
  unfold rotF
  have e : (2 : Int) ^ 32 = 4294967296 := by decide
  rw [e, Int.mul_emod_left]
  simp

theorem tn_stpN (a n : Int) (ha : W32 a) : tn a n = stpN (n % 32).toNat a := by
  rw [stpN_rotF a _ (by omega) ha]; rfl
theorem tn_W {a : Int} (n : Int) (ha : W32 a) : W32 (tn a n) := by rw [tn_stpN a n ha]; exact stpN_W ha _
theorem tn_tn (a n m k : Int) (ha : W32 a) (hk : (n + m) % 32 = k % 32) : tn (tn a n) m = tn a k := by
  rw [tn_stpN _ m (tn_W n ha), tn_stpN a n ha, tn_stpN a k ha, ← stpN_add]
  rcases (show (m % 32).toNat + (n % 32).toNat = (k % 32).toNat ∨ (m % 32).toNat + (n % 32).toNat = (k % 32).toNat + 32 by omega) with h | h
  · rw [h]
  · rw [h, stpN_add, stpN_32 a ha]
theorem tn_zero (a k : Int) (ha : W32 a) (hk : k % 32 = 0) : tn a k = a := by
  rw [tn_stpN a k ha, hk]; rfl

theorem tmod32 (n : Int) : n.tmod 32 = n % 32 ∨ n.tmod 32 + 32 = n % 32 ∧ n.tmod 32 < 0 := by
  rw [Int.tmod_eq_emod]
  by_cases h : 0 ≤ n ∨ (32 : Int) ∣ n
  · rw [if_pos h]; omega
  · rw [if_neg h]
    have e : (32 : Int).natAbs = 32 := by decide
    rw [e]; omega

set_option maxHeartbeats 400000 in
theorem ref_turn (a n : Int) (w : World) (ha : W32 a) :
    Calls Tryd.prog 80 #[.int .u32 a, .int .i64 n] w fun e w' => e = .returned (.int .u32 (tn a n)) ∧ w' = w := by
  obtain ⟨K, hK⟩ : ∃ K : Nat, n % 32 = (K : Int) := ⟨(n % 32).toNat, by omega⟩
  have hfin : tn a n = stpN K a := by rw [tn_stpN a n ha, hK]; rfl
  rw [hfin]
  have hw := stpN_W ha
  have k1 : K < 32 := by omega
  have htk := tmod32 n
  rw [hK] at htk
  obtain ⟨t, ht⟩ : ∃ t : Int, n.tmod 32 = t := ⟨_, rfl⟩
  rw [ht] at htk
  have HW := Lib.hid hw
  obtain ⟨a0, a1⟩ := ha
  clear hK hfin hw
  rcases htk with htk | ⟨htk, tneg⟩
  · subst htk
    have t0 : decide ((K : Int) < 0) = false := by simp
    go_enter Tryd.func80, Tryd.ntmps80
    go_wp2
    go_loop [6, 7] (fun x i => ∃ j : Nat, j ≤ K ∧ i = .int .i64 j ∧ x = .int .u64 (stpN j a)) (fun _ i => K - (intOf i).toNat)
    case atStart => exact ⟨0, Nat.zero_le _, rfl, rfl⟩
    case round =>
      obtain ⟨j, hj, rfl, rfl⟩ := hrel
      obtain ⟨z0, z1⟩ := HW.out j
      have hs : stpN (j + 1) a = 2 * stpN j a % 4294967296 + stpN j a / 2147483648 := rfl
      have HS := Lib.hid hs
      clear hs
      obtain ⟨z, hz⟩ : ∃ z, stpN j a = z := ⟨_, rfl⟩
      rw [hz] at z0 z1 HS ⊢
      have HZ := Lib.hid hz
      clear hz
      by_cases hlt : j < K
      · go_wp2
        go_round
        case rel => exact ⟨j + 1, by omega, by go_num, by rw [HS.out]⟩
        case measure => simp [intOf]; omega
      · go_wp2
        go_ret
        obtain rfl : j = K := by omega
        exact ⟨ret_int HZ.out.symm, rfl⟩
  · have t1 : -32 ≤ t := by omega
    have t0 : decide (t < 0) = true := by simp; omega
    have HT := Lib.hid htk
    clear htk
    go_enter Tryd.func80, Tryd.ntmps80
    go_wp2
    go_loop [6, 7] (fun x i => ∃ j : Nat, j ≤ K ∧ i = .int .i64 j ∧ x = .int .u64 (stpN j a)) (fun _ i => K - (intOf i).toNat)
    case atStart => exact ⟨0, Nat.zero_le _, rfl, rfl⟩
    case round =>
      obtain ⟨j, hj, rfl, rfl⟩ := hrel
      obtain ⟨z0, z1⟩ := HW.out j
      have hs : stpN (j + 1) a = 2 * stpN j a % 4294967296 + stpN j a / 2147483648 := rfl
      have HS := Lib.hid hs
      clear hs
      obtain ⟨z, hz⟩ : ∃ z, stpN j a = z := ⟨_, rfl⟩
      rw [hz] at z0 z1 HS ⊢
      have HZ := Lib.hid hz
      clear hz
      by_cases hlt : j < K
      · have hlt2 : (j : Int) < t + 32 := by rw [HT.out]; omega
        go_wp2
        go_round
        case rel => exact ⟨j + 1, by omega, by go_num, by rw [HS.out]⟩
        case measure => simp [intOf]; omega
      · have hlt2 : ¬ (j : Int) < t + 32 := by rw [HT.out]; omega
        go_wp2
        go_ret
        obtain rfl : j = K := by omega
        exact ⟨ret_int HZ.out.symm, rfl⟩
end Go.Proofs.YtfbefenagnlnfaaDoor
