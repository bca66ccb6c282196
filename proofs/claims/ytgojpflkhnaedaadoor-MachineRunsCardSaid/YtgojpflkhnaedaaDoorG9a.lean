/- The reference's Apply, all but the operations that go bit by bit: what it returns. The reference's Apply, all but the operations that go bit by bit: what it returns. The reference's Bits and Of. The reference's Of: the number of 32 bits. The reference's both: bit by bit. -/
import Derived.Test.YtgojpflkhnaedaaDoorWord
import Derived.Test.YtgojpflkhnaedaaDoorBytes
import Derived.RegionTactic
set_option linter.unusedVariables false
namespace Go.Proofs.YtgojpflkhnaedaaDoor
open Go.RowKit

set_option maxHeartbeats 400000 in
theorem flag_yes (w : World) :
    Calls Tryd.prog 43 #[.bool true] w fun e w' => e = .returned (.int .u32 1) ∧ w' = w := by
  go_enter Tryd.func43, Tryd.ntmps43
  go_wp2
  go_ret
  exact ⟨rfl, rfl⟩
set_option maxHeartbeats 400000 in
theorem flag_no (w : World) :
    Calls Tryd.prog 43 #[.bool false] w fun e w' => e = .returned (.int .u32 0) ∧ w' = w := by
  go_enter Tryd.func43, Tryd.ntmps43
  go_wp2
  go_ret
  exact ⟨rfl, rfl⟩

theorem pow_le' (k : Nat) (hk : k ≤ 32) : (1 : Int) ≤ 2 ^ k ∧ (2 : Int) ^ k ≤ 4294967296 := by
  have h1 : (2 : Nat) ^ k ≤ 2 ^ 32 := Nat.pow_le_pow_right (by decide) (by omega)
  have h2 : 0 < 2 ^ k := Nat.two_pow_pos k
  have h3 : ((2 ^ k : Nat) : Int) = 2 ^ k := by push_cast; rfl
  rw [← h3]
  constructor
  · omega
  · have h4 : (2 : Nat) ^ 32 = 4294967296 := by decide
    omega
/-- After j rounds. -/
def shN (op a : Int) (j : Nat) : Int := if op = 12 then a * 2 ^ j % 4294967296 else a / 2 ^ j
theorem shN_zero (op a : Int) (a0 : 0 ≤ a) (a1 : a < 4294967296) : shN op a 0 = a := by
  unfold shN
  simp only [Int.pow_zero, Int.mul_one]
  split <;> omega
theorem shN_left (a : Int) (j : Nat) : 2 * shN 12 a j % 4294967296 = shN 12 a (j + 1) := by
  have e : a * 2 ^ (j + 1) = 2 * (a * 2 ^ j) := by rw [Int.pow_succ, ← Int.mul_assoc, Int.mul_comm]
  simp only [shN, if_pos]
  rw [e]
  omega
theorem shN_right (a : Int) (j : Nat) : shN 13 a j / 2 = shN 13 a (j + 1) := by
  simp only [shN]
  rw [if_neg (by decide), if_neg (by decide), Int.pow_succ, Int.ediv_ediv_of_nonneg (by exact Int.le_of_lt (Int.pow_pos (by decide)))]
theorem shN_W (op a : Int) (j : Nat) (a0 : 0 ≤ a) (a1 : a < 4294967296) : 0 ≤ shN op a j ∧ shN op a j ≤ 4294967295 := by
  unfold shN
  split
  · omega
  · exact ⟨Int.ediv_nonneg a0 (Int.le_of_lt (Int.pow_pos (by decide))), by have := Int.ediv_le_self ((2 : Int) ^ j) a0; omega⟩
theorem shN_ap (op a : Int) (k : Nat) (hop : op = 12 ∨ op = 13) (hk : k < 32) : ap op a (k : Int) = shN op a k := by
  rcases hop with rfl | rfl
  · have e : ap 12 a (k : Int) = a * 2 ^ min k 32 % 4294967296 := by simp [ap]
    rw [e, Nat.min_eq_left (by omega)]; simp [shN]
  · have e : ap 13 a (k : Int) = a / 2 ^ min k 32 := by simp [ap]
    rw [e, Nat.min_eq_left (by omega)]; simp [shN]
theorem far_ap (op a f : Int) (hop : op = 12 ∨ op = 13) (hf : 32 ≤ f) (a0 : 0 ≤ a) (a1 : a < 4294967296) : ap op a f = 0 := by
  rcases hop with rfl | rfl
  · have e1 : ap 12 a f = a * 2 ^ min f.toNat 32 % 4294967296 := by simp [ap]
    rw [e1, Nat.min_eq_right (by omega)]
    omega
  · have e1 : ap 13 a f = a / 2 ^ min f.toNat 32 := by simp [ap]
    rw [e1, Nat.min_eq_right (by omega)]
    omega

set_option maxHeartbeats 800000 in
theorem ref_shift (op a b : Int) (w : World) (hop : op = 12 ∨ op = 13) (a0 : 0 ≤ a) (a1 : a < 4294967296) (b0 : 0 ≤ b) (b1 : b < 4294967296) :
    Calls Tryd.prog 42 #[.int .i64 op, .int .u32 a, .int .u32 b] w fun e w' => e = .returned (.int .u32 (ap op a b)) ∧ w' = w := by
  by_cases hb : 32 ≤ b
  · rw [far_ap op a b hop hb a0 a1]
    go_enter Tryd.func42, Tryd.ntmps42
    go_wp2
    go_ret
    exact ⟨rfl, rfl⟩
  · obtain ⟨k, rfl⟩ := Int.eq_ofNat_of_zero_le b0
    have hk : k < 32 := by omega
    have hg : decide (32 ≤ (k : Int)) = false := by simp; omega
    rw [shN_ap op a k hop hk]
    have z := shN_zero op a a0 a1
    have HZ0 := Lib.hid z
    have HW := Lib.hid (fun j => shN_W op a j a0 a1)
    clear z hb
    rcases hop with rfl | rfl
    all_goals
      go_enter Tryd.func42, Tryd.ntmps42
      go_wp2
    · go_loop [7, 8] (fun x i => ∃ j : Nat, j ≤ k ∧ i = .int .u32 j ∧ x = .int .u64 (shN 12 a j)) (fun _ i => k - (intOf i).toNat)
      case atStart => exact ⟨0, Nat.zero_le _, rfl, by rw [HZ0.out]⟩
      case round =>
        obtain ⟨j, hj, rfl, rfl⟩ := hrel
        obtain ⟨z0, z1⟩ := HW.out j
        have hs := shN_left a j
        have HS := Lib.hid hs
        clear hs
        obtain ⟨z, hz⟩ : ∃ z, shN 12 a j = z := ⟨_, rfl⟩
        rw [hz] at z0 z1 HS ⊢
        have HZ := Lib.hid hz
        clear hz
        by_cases hlt : j < k
        · go_wp2
          go_round
          case rel => exact ⟨j + 1, by omega, by go_num, by rw [← HS.out]⟩
          case measure => simp [intOf]; omega
        · go_wp2
          go_ret
          obtain rfl : j = k := by omega
          exact ⟨ret_int HZ.out.symm, rfl⟩
    · go_loop [7, 8] (fun x i => ∃ j : Nat, j ≤ k ∧ i = .int .u32 j ∧ x = .int .u64 (shN 13 a j)) (fun _ i => k - (intOf i).toNat)
      case atStart => exact ⟨0, Nat.zero_le _, rfl, by rw [HZ0.out]⟩
      case round =>
        obtain ⟨j, hj, rfl, rfl⟩ := hrel
        obtain ⟨z0, z1⟩ := HW.out j
        have hs := shN_right a j
        have HS := Lib.hid hs
        clear hs
        obtain ⟨z, hz⟩ : ∃ z, shN 13 a j = z := ⟨_, rfl⟩
        rw [hz] at z0 z1 HS ⊢
        have HZ := Lib.hid hz
        clear hz
        by_cases hlt : j < k
        · go_wp2
          go_round
          case rel => exact ⟨j + 1, by omega, by go_num, by rw [← HS.out]⟩
          case measure => simp [intOf]; omega
        · go_wp2
          go_ret
          obtain rfl : j = k := by omega
          exact ⟨ret_int HZ.out.symm, rfl⟩
end Go.Proofs.YtgojpflkhnaedaaDoor
set_option linter.unusedVariables false
namespace Go.Proofs.YtgojpflkhnaedaaDoor
open Go.RowKit

set_option maxHeartbeats 400000 in
theorem ref_add (a b : Int) (w : World) (a0 : 0 ≤ a) (a1 : a < 4294967296) (b0 : 0 ≤ b) (b1 : b < 4294967296) :
    Calls Tryd.prog 25 #[.int .i64 4, .int .u32 a, .int .u32 b] w fun e w' => e = .returned (.tuple #[.int .u32 (ap 4 a b), .int .i64 0]) ∧ w' = w := by
  have hfin : ap 4 a b = (a + b) % 4294967296 := by simp [ap]
  rw [hfin]
  clear hfin
  go_enter Tryd.func25, Tryd.ntmps25
  go_wp2
  go_ret2
  refine ⟨ret2_eq ?_ rfl, rfl⟩
  rfl
set_option maxHeartbeats 400000 in
theorem ref_sub (a b : Int) (w : World) (a0 : 0 ≤ a) (a1 : a < 4294967296) (b0 : 0 ≤ b) (b1 : b < 4294967296) :
    Calls Tryd.prog 25 #[.int .i64 5, .int .u32 a, .int .u32 b] w fun e w' => e = .returned (.tuple #[.int .u32 (ap 5 a b), .int .i64 0]) ∧ w' = w := by
  go_enter Tryd.func25, Tryd.ntmps25
  go_wp2
  go_ret2
  refine ⟨ret2_eq ?_ rfl, rfl⟩
  have e : ap 5 a b = (a + -b % 4294967296) % 4294967296 := by simp [ap]
  rw [e]
  omega
set_option maxHeartbeats 400000 in
theorem ref_mul (a b : Int) (w : World) (a0 : 0 ≤ a) (a1 : a < 4294967296) (b0 : 0 ≤ b) (b1 : b < 4294967296) :
    Calls Tryd.prog 25 #[.int .i64 6, .int .u32 a, .int .u32 b] w fun e w' => e = .returned (.tuple #[.int .u32 (ap 6 a b), .int .i64 0]) ∧ w' = w := by
  go_enter Tryd.func25, Tryd.ntmps25
  go_wp2
  go_ret2
  refine ⟨ret2_eq ?_ rfl, rfl⟩
  have e : ap 6 a b = a * b % 4294967296 := by simp [ap]
  rw [e, IntKind.wrap_u64, tmod_of_emod, Int.emod_emod_of_dvd _ (Int.dvd_refl _), Int.emod_emod_of_dvd _ (by decide)]
set_option maxHeartbeats 400000 in
theorem ref_zero (op a : Int) (w : World) (ho : op = 7 ∨ op = 8) (a0 : 0 ≤ a) (a1 : a < 4294967296) :
    Calls Tryd.prog 25 #[.int .i64 op, .int .u32 a, .int .u32 0] w fun e w' => e = .returned (.tuple #[.int .u32 0, .int .i64 14]) ∧ w' = w := by
  rcases ho with rfl | rfl
  all_goals
    go_enter Tryd.func25, Tryd.ntmps25
    go_wp2
    go_ret2
    exact ⟨rfl, rfl⟩
set_option maxHeartbeats 400000 in
theorem ref_div (a b : Int) (w : World) (a0 : 0 ≤ a) (a1 : a < 4294967296) (hb : 1 ≤ b) (b1 : b < 4294967296) :
    Calls Tryd.prog 25 #[.int .i64 7, .int .u32 a, .int .u32 b] w fun e w' => e = .returned (.tuple #[.int .u32 (a / b), .int .i64 0]) ∧ w' = w := by
  have hb' : (b == 0) = false := by rw [beq_eq_false_iff_ne]; omega
  go_enter Tryd.func25, Tryd.ntmps25
  go_wp2
  go_ret2
  refine ⟨ret2_eq ?_ rfl, rfl⟩
  exact Int.emod_eq_of_lt (Int.ediv_nonneg a0 (by omega)) (Int.lt_of_le_of_lt (Int.ediv_le_self b a0) a1)
set_option maxHeartbeats 400000 in
theorem ref_mod (a b : Int) (w : World) (a0 : 0 ≤ a) (a1 : a < 4294967296) (hb : 1 ≤ b) (b1 : b < 4294967296) :
    Calls Tryd.prog 25 #[.int .i64 8, .int .u32 a, .int .u32 b] w fun e w' => e = .returned (.tuple #[.int .u32 (a % b), .int .i64 0]) ∧ w' = w := by
  have hb' : (b == 0) = false := by rw [beq_eq_false_iff_ne]; omega
  go_enter Tryd.func25, Tryd.ntmps25
  go_wp2
  go_ret2
  refine ⟨ret2_eq ?_ rfl, rfl⟩
  exact Int.emod_eq_of_lt (Int.emod_nonneg _ (by omega)) (Int.lt_trans (Int.emod_lt_of_pos a (by omega)) b1)
set_option maxHeartbeats 400000 in
theorem ref_sh (op a b : Int) (w : World) (ho : op = 12 ∨ op = 13) (a0 : 0 ≤ a) (a1 : a < 4294967296) (b0 : 0 ≤ b) (b1 : b < 4294967296) :
    Calls Tryd.prog 25 #[.int .i64 op, .int .u32 a, .int .u32 b] w fun e w' => e = .returned (.tuple #[.int .u32 (ap op a b), .int .i64 0]) ∧ w' = w := by
  rcases ho with rfl | rfl
  all_goals
    go_enter Tryd.func25, Tryd.ntmps25
    go_wp2_with (go_at_call 42; refine (ref_shift _ _ _ _ (by omega) a0 a1 b0 b1).mono ?_; rintro e w' ⟨rfl, rfl⟩)
    go_ret2
    exact ⟨rfl, rfl⟩
set_option maxHeartbeats 400000 in
theorem ref_lt (a b : Int) (w : World) (a0 : 0 ≤ a) (a1 : a < 4294967296) (b0 : 0 ≤ b) (b1 : b < 4294967296) :
    Calls Tryd.prog 25 #[.int .i64 14, .int .u32 a, .int .u32 b] w fun e w' => e = .returned (.tuple #[.int .u32 (ap 14 a b), .int .i64 0]) ∧ w' = w := by
  by_cases h : a < b
  all_goals
    go_enter Tryd.func25, Tryd.ntmps25
    go_wp2
    go_ret2
    exact ⟨ret2_eq (by simp [ap, h]) rfl, rfl⟩
set_option maxHeartbeats 400000 in
theorem ref_eq (a b : Int) (w : World) (a0 : 0 ≤ a) (a1 : a < 4294967296) (b0 : 0 ≤ b) (b1 : b < 4294967296) :
    Calls Tryd.prog 25 #[.int .i64 15, .int .u32 a, .int .u32 b] w fun e w' => e = .returned (.tuple #[.int .u32 (ap 15 a b), .int .i64 0]) ∧ w' = w := by
  by_cases h : a = b
  · have hb' : (a == b) = true := by rw [beq_iff_eq]; exact h
    have H := Lib.hid h
    clear h
    go_enter Tryd.func25, Tryd.ntmps25
    go_wp2
    go_ret2
    exact ⟨ret2_eq (by simp [ap, H.out]) rfl, rfl⟩
  · have hb' : (a == b) = false := by rw [beq_eq_false_iff_ne]; exact h
    have H := Lib.hid h
    clear h
    go_enter Tryd.func25, Tryd.ntmps25
    go_wp2
    go_ret2
    exact ⟨ret2_eq (by simp [ap, H.out]) rfl, rfl⟩
set_option maxHeartbeats 400000 in
theorem ref_none (op : Int) (a b : Int) (w : World) (ho : op < 4 ∨ 15 < op) (a0 : 0 ≤ a) (a1 : a < 4294967296) (b0 : 0 ≤ b) (b1 : b < 4294967296) :
    Calls Tryd.prog 25 #[.int .i64 op, .int .u32 a, .int .u32 b] w fun e w' => e = .returned (.tuple #[.int .u32 0, .int .i64 1]) ∧ w' = w := by
  rcases ho with ho | ho
  all_goals
    go_enter Tryd.func25, Tryd.ntmps25
    go_wp2
    go_ret2
    exact ⟨rfl, rfl⟩
end Go.Proofs.YtgojpflkhnaedaaDoor
set_option linter.unusedVariables false
namespace Go.Proofs.YtgojpflkhnaedaaDoor
open Go.RowKit

theorem info3 : (Tryd.prog.info? 3).map (fun i => (i.zero, i.size, i.bytes)) = some (some (.int .i64 0), 1, 8) := by kernel_rfl

/-- A number's lowest n bits, the low end first. -/
def bl : Nat → Int → List Int
  | 0, _ => []
  | n + 1, a => a % 2 :: bl n (a / 2)
theorem length_bl (n : Nat) (a : Int) : (bl n a).length = n := by
  induction n generalizing a with
  | zero => rfl
  | succ n ih => simp [bl, ih]
theorem bl_bit (n : Nat) (a : Int) : ∀ x ∈ bl n a, x = 0 ∨ x = 1 := by
  induction n generalizing a with
  | zero => intro x hx; simp [bl] at hx
  | succ n ih =>
    intro x hx
    simp only [bl, List.mem_cons] at hx
    rcases hx with rfl | hx
    · omega
    · exact ih _ x hx
/-- The number of bits. -/
def ofl : List Int → Int
  | [] => 0
  | b :: r => b + 2 * ofl r
theorem ofl_W (l : List Int) (h : ∀ x ∈ l, x = 0 ∨ x = 1) (n : Nat) (hn : l.length ≤ n) : 0 ≤ ofl l ∧ ofl l < 2 ^ n := by
  induction l generalizing n with
  | nil => exact ⟨by simp [ofl], by simp only [ofl]; exact Int.pow_pos (by decide)⟩
  | cons b r ih =>
    match n, hn with
    | n + 1, hn =>
      have i := ih (fun x hx => h x (List.mem_cons_of_mem _ hx)) n (by simpa using hn)
      have hb := h b (List.mem_cons_self ..)
      simp only [ofl]
      rw [Int.pow_succ]
      omega

theorem own_shape {w : World} {B e n : Nat} {v : Value} {xs : List Value} (h : w.ownsRow B e 1 v n xs) (hn : 0 < n) :
    ∃ g cap, v = .slice (some ⟨g, 0, none⟩) n cap ∧ B ≤ g ∧ g < w.heap.size := by
  have h2 := h
  obtain ⟨_, h | ⟨g, cap, cur, hv, hg, hb, _⟩⟩ := h
  · omega
  · refine ⟨g, cap, hv, hg, ?_⟩
    have := h2.lt g (by rw [hv]; rfl)
    exact this.2

set_option maxHeartbeats 800000 in
theorem bits_any (a : Int) (w : World) (a0 : 0 ≤ a) (a1 : a < 4294967296) :
    Calls Tryd.prog 52 #[.int .u32 a] w fun e w' => ∃ g cap, e = .returned (.slice (some ⟨g, 0, none⟩) 32 cap) ∧ w.heap.size ≤ g ∧ g < w'.heap.size ∧
      w'.ownsRow w.heap.size 3 1 (.slice (some ⟨g, 0, none⟩) 32 cap) 32 ((bl 32 a).map (Value.int .i64)) ∧ Below w.heap.size w w' := by
  obtain ⟨i0, hi, hz0, hz1, hz2⟩ := info_parts info3
  go_enter Tryd.func52, Tryd.ntmps52
  go_wp2
  go_loopw [0, 3, 4] (fun sa out si wr => ∃ (j : Nat) (c : Int) (xs : List Int), j ≤ 32 ∧ si = .int .i64 j ∧ sa = .int .u32 c ∧ 0 ≤ c ∧ c < 4294967296 ∧ xs ++ bl (32 - j) c = bl 32 a ∧
      wr.ownsRow w.heap.size 3 1 out j (xs.map (Value.int .i64)) ∧ Below w.heap.size w wr)
    (fun _ _ si _ => 32 - (intOf si).toNat)
  case atStart => exact ⟨0, a, [], Nat.zero_le _, rfl, rfl, a0, a1, rfl, World.ownsRow_nil _ _ _ _, Below.refl _ _⟩
  case round =>
    obtain ⟨j, c, xs, hj, rfl, rfl, c0, c1, hx, hown, hnx⟩ := hrel
    have HX := Lib.hid hx
    clear hx
    by_cases hlt : j < 32
    · go_wp2_with (at_builtin; refine wpList_append_own _ rfl _ _ 78 rfl w.heap.size 3 i0 (.int .i64 0) 1 8 Tryd.underlying78 hi hz0 hz1 hz2 rfl (by decide) _ _ _ rfl (hown.alloc _) ⟨wr.heap.size, 0, none⟩ 1 1 ([c % 2].map (Value.int .i64)) rfl rfl (one_new _ _ _) (ints_oneCell _ _) ?c3 ?c4 ?c5 ?_)
      case c3 => unfold maxLen; omega
      case c4 => omega
      case c5 => have := hnx.size; simp; omega
      intro v' w1 hown1 hgrow1 _
      have hbel := (hnx.alloc hnx.size _).grown hgrow1 (by simp; have := hnx.size; omega) (fun k hk => (hown.lt k hk).1)
      clear hown hgrow1
      go_wp2
      go_roundw
      case rel => exact ⟨j + 1, c / 2, xs ++ [c % 2], by omega, by go_num, rfl, by omega, by omega, by rw [← HX.out, show 32 - j = (32 - (j + 1)) + 1 by omega, List.append_assoc]; rfl, by rw [List.map_append]; exact hown1, hbel⟩
      case measure => simp [intOf]; omega
    · obtain rfl : j = 32 := by omega
      obtain ⟨g, cap, hv, hg, hgs⟩ := own_shape hown (by omega)
      have hx2 := HX.out
      simp only [bl, List.append_nil, Nat.sub_self] at hx2
      have HX2 := Lib.hid hx2
      clear hx2
      have HV := Lib.hid hv
      clear hv
      go_wp2
      go_ret
      have hown2 := hown
      rw [HX2.out, HV.out] at hown2
      exact ⟨g, cap, congrArg Ending.returned HV.out, hg, hgs, hown2, hnx⟩
end Go.Proofs.YtgojpflkhnaedaaDoor
set_option linter.unusedVariables false
namespace Go.Proofs.YtgojpflkhnaedaaDoor
open Go.RowKit

theorem ofl_drop (zs : List Int) (p : Nat) (hp : p < zs.length) : ofl (zs.drop p) = zs.getD p 0 + 2 * ofl (zs.drop (p + 1)) := by
  rw [List.drop_eq_getElem_cons hp]
  simp [ofl, List.getD, hp]
theorem bit_getD (zs : List Int) (h : ∀ x ∈ zs, x = 0 ∨ x = 1) (p : Nat) : zs.getD p 0 = 0 ∨ zs.getD p 0 = 1 := by
  by_cases hp : p < zs.length
  · have := h _ (List.getElem_mem hp)
    simpa [List.getD, hp] using this
  · left; simp [List.getD, List.getElem?_eq_none (by omega : zs.length ≤ p)]
theorem ofl_drop_W (zs : List Int) (h : ∀ x ∈ zs, x = 0 ∨ x = 1) (hz : zs.length = 32) (p : Nat) : 0 ≤ ofl (zs.drop p) ∧ ofl (zs.drop p) ≤ 4294967295 := by
  have := ofl_W (zs.drop p) (fun x hx => h x (List.mem_of_mem_drop hx)) 32 (by simp; omega)
  have e : (2 : Int) ^ 32 = 4294967296 := by decide
  rw [e] at this
  omega

set_option maxHeartbeats 400000 in
theorem of_bits (g cap : Nat) (zs : List Int) (w : World) (hz : zs.length = 32) (hb : ∀ x ∈ zs, x = 0 ∨ x = 1)
    (hc : ∀ t, t < 32 → w.cell? ⟨g, t, none⟩ = some (.int .i64 (zs.getD t 0))) :
    Calls Tryd.prog 53 #[.slice (some ⟨g, 0, none⟩) 32 cap] w fun e w' => e = .returned (.int .u32 (ofl zs)) ∧ w' = w := by
  have HB := Lib.hid (bit_getD zs hb)
  have HW := Lib.hid (ofl_drop_W zs hb hz)
  have HD := Lib.hid (ofl_drop zs)
  have HC := Lib.hid hc
  have HL := Lib.hid hz
  clear hz hb hc
  go_enter Tryd.func53, Tryd.ntmps53
  go_wp2
  go_loop [3, 4] (fun sn si => ∃ (c x : Int), -1 ≤ c ∧ c ≤ 31 ∧ si = .int .i64 c ∧ sn = .int .u64 x ∧ Hid (x = ofl (zs.drop (c + 1).toNat))) (fun _ si => (intOf si + 1).toNat)
  case atStart => exact ⟨31, 0, by omega, by omega, rfl, rfl, by show _ = _; rw [List.drop_of_length_le (by rw [HL.out]; decide)]; rfl⟩
  case round =>
    obtain ⟨c, x, c0, c1, rfl, rfl, HX⟩ := hrel
    have hxw : 0 ≤ x ∧ x ≤ 4294967295 := by rw [HX.out]; exact HW.out _
    obtain ⟨x0, x1⟩ := hxw
    by_cases hlt : 0 ≤ c
    · obtain ⟨p, rfl⟩ := Int.eq_ofNat_of_zero_le hlt
      have hcell := HC.out p (by omega)
      have hbit := HB.out p
      have hd := HD.out p (by rw [HL.out]; omega)
      have hxw2 := HW.out p
      rw [hd] at hxw2
      rw [show ((p : Int) + 1).toNat = p + 1 by omega] at HX
      rw [← HX.out] at hxw2 hd
      obtain ⟨b, hbb⟩ : ∃ b, zs.getD p 0 = b := ⟨_, rfl⟩
      rw [hbb] at hcell hbit hd hxw2
      have b0 : 0 ≤ b := by omega
      have b1 : b ≤ 1 := by omega
      obtain ⟨y0, y1⟩ := hxw2
      have HDD := Lib.hid hd
      clear hd hbb hbit HX
      go_wp2
      go_round
      case rel => exact ⟨p - 1, 2 * x + b, by omega, by omega, by go_num, by go_num, by show _ = _; rw [show ((p : Int) - 1 + 1).toNat = p by omega, HDD.out]; omega⟩
      case measure => simp [intOf]
    · have hx2 := HX.out
      rw [show (c + 1).toNat = 0 by omega, List.drop_zero] at hx2
      have HX2 := Lib.hid hx2
      clear hx2
      go_wp2
      go_ret
      exact ⟨ret_int (by rw [← HX2.out]; omega), rfl⟩
end Go.Proofs.YtgojpflkhnaedaaDoor
set_option linter.unusedVariables false
namespace Go.Proofs.YtgojpflkhnaedaaDoor
open Go.RowKit

/-- One bit of two: both; one at least; just one. -/
def bit2 (op x y : Int) : Int :=
  if op = 9 then (if x + y = 2 then 1 else 0) else if op = 10 then (if x + y = 0 then 0 else 1) else (if x + y = 1 then 1 else 0)
def zip2 (op : Int) : List Int → List Int → List Int
  | x :: xs, y :: ys => bit2 op x y :: zip2 op xs ys
  | _, _ => []
theorem length_zip2 (op : Int) : ∀ (xs ys : List Int), xs.length = ys.length → (zip2 op xs ys).length = xs.length
  | [], [], _ => rfl
  | x :: xs, y :: ys, h => by simp [zip2, length_zip2 op xs ys (by simpa using h)]
theorem bit2_bit (op x y : Int) : bit2 op x y = 0 ∨ bit2 op x y = 1 := by
  unfold bit2
  split
  · split <;> simp
  · split
    · split <;> simp
    · split <;> simp
theorem zip2_bit (op : Int) : ∀ (xs ys : List Int), ∀ z ∈ zip2 op xs ys, z = 0 ∨ z = 1
  | [], _ => by intro z hz; simp [zip2] at hz
  | _ :: _, [] => by intro z hz; simp [zip2] at hz
  | x :: xs, y :: ys => by
    intro z hz
    simp only [zip2, List.mem_cons] at hz
    rcases hz with rfl | hz
    · exact bit2_bit op x y
    · exact zip2_bit op xs ys z hz

/-- After j rounds. -/
def mixd (op : Int) (j : Nat) (xs ys : List Int) : List Int := (zip2 op xs ys).take j ++ xs.drop j
theorem zip2_getD (op : Int) : ∀ (xs ys : List Int) (j : Nat), j < xs.length → xs.length = ys.length → (zip2 op xs ys).getD j 0 = bit2 op (xs.getD j 0) (ys.getD j 0)
  | x :: xs, y :: ys, 0, _, _ => by simp [zip2]
  | x :: xs, y :: ys, j + 1, h, e => by
    have := zip2_getD op xs ys j (by simpa using h) (by simpa using e)
    simpa [zip2] using this
theorem mixd_zero (op : Int) (xs ys : List Int) : mixd op 0 xs ys = xs := by simp [mixd]
theorem mixd_all (op : Int) (xs ys : List Int) (h : xs.length = ys.length) (j : Nat) (hj : xs.length ≤ j) : mixd op j xs ys = zip2 op xs ys := by
  unfold mixd
  rw [List.take_of_length_le (by rw [length_zip2 op xs ys h]; exact hj), List.drop_of_length_le hj, List.append_nil]
theorem length_mixd (op : Int) (xs ys : List Int) (h : xs.length = ys.length) (j : Nat) (hj : j ≤ xs.length) : (mixd op j xs ys).length = xs.length := by
  unfold mixd
  rw [List.length_append, List.length_take, length_zip2 op xs ys h, List.length_drop]
  omega
theorem mixd_at (op : Int) (xs ys : List Int) (h : xs.length = ys.length) (j : Nat) (hj : j < xs.length) : (mixd op j xs ys).getD j 0 = xs.getD j 0 := by
  unfold mixd
  have e : ((zip2 op xs ys).take j).length = j := by rw [List.length_take, length_zip2 op xs ys h]; omega
  simp only [List.getD]
  rw [List.getElem?_append_right (by omega), e, List.getElem?_drop]
  simp
theorem mixd_succ (op : Int) (xs ys : List Int) (h : xs.length = ys.length) (j : Nat) (hj : j < xs.length) :
    (mixd op j xs ys).set j (bit2 op (xs.getD j 0) (ys.getD j 0)) = mixd op (j + 1) xs ys := by
  unfold mixd
  have e : ((zip2 op xs ys).take j).length = j := by rw [List.length_take, length_zip2 op xs ys h]; omega
  have hz := zip2_getD op xs ys j hj h
  have hl : j < (zip2 op xs ys).length := by rw [length_zip2 op xs ys h]; exact hj
  rw [List.set_append_right _ _ (by omega), e, Nat.sub_self, List.drop_eq_getElem_cons hj, List.set_cons_zero, List.take_succ_eq_append_getElem hl, List.append_assoc]
  congr 2
  simpa [List.getD, hl] using hz.symm

theorem ofl_both (n : Nat) : ∀ (a b : Nat), a < 2 ^ n → b < 2 ^ n →
    ofl (zip2 9 (bl n a) (bl n b)) = ((a &&& b : Nat) : Int) ∧ ofl (zip2 10 (bl n a) (bl n b)) = ((a ||| b : Nat) : Int) ∧ ofl (zip2 11 (bl n a) (bl n b)) = ((a ^^^ b : Nat) : Int) := by
  induction n with
  | zero =>
    intro a b ha hb
    have h1 : a = 0 := by omega
    have h2 : b = 0 := by omega
    subst h1 h2
    exact ⟨by decide, by decide, by decide⟩
  | succ n ih =>
    intro a b ha hb
    have i := ih (a / 2) (b / 2) (by omega) (by omega)
    simp only [bl, zip2, ofl]
    rw [show ((a : Int) / 2) = ((a / 2 : Nat) : Int) by omega, show ((b : Int) / 2) = ((b / 2 : Nat) : Int) by omega, i.1, i.2.1, i.2.2]
    have a1 := Nat.and_div_two (a := a) (b := b)
    have o1 := Nat.or_div_two (a := a) (b := b)
    have e1 := Nat.xor_div_two (a := a) (b := b)
    have a2 := Nat.and_mod_two_pow (a := a) (b := b) (n := 1)
    have o2 := Nat.or_mod_two_pow (a := a) (b := b) (n := 1)
    have e2 := Nat.xor_mod_two_pow (a := a) (b := b) (n := 1)
    simp only [Nat.pow_one] at a2 o2 e2
    rw [show ((a : Int) % 2) = ((a % 2 : Nat) : Int) by omega, show ((b : Int) % 2) = ((b % 2 : Nat) : Int) by omega]
    have pa : a % 2 < 2 := Nat.mod_lt _ (by decide)
    have pb : b % 2 < 2 := Nat.mod_lt _ (by decide)
    generalize a % 2 = p at *
    generalize b % 2 = q at *
    have hpq : bit2 9 (p : Int) (q : Int) = ((p &&& q : Nat) : Int) ∧ bit2 10 (p : Int) (q : Int) = ((p ||| q : Nat) : Int) ∧ bit2 11 (p : Int) (q : Int) = ((p ^^^ q : Nat) : Int) := by
      match p, q, pa, pb with
      | 0, 0, _, _ => decide
      | 0, 1, _, _ => decide
      | 1, 0, _, _ => decide
      | 1, 1, _, _ => decide
    rw [hpq.1, hpq.2.1, hpq.2.2]
    omega
theorem ofl_ap (op a b : Int) (hop : op = 9 ∨ op = 10 ∨ op = 11) (a0 : 0 ≤ a) (a1 : a < 4294967296) (b0 : 0 ≤ b) (b1 : b < 4294967296) :
    ofl (zip2 op (bl 32 a) (bl 32 b)) = ap op a b := by
  have h := ofl_both 32 a.toNat b.toNat (by omega) (by omega)
  rw [Int.toNat_of_nonneg a0, Int.toNat_of_nonneg b0] at h
  rcases hop with rfl | rfl | rfl
  · rw [h.1]; simp [ap]
  · rw [h.2.1]; simp [ap]
  · rw [h.2.2]; simp [ap]
end Go.Proofs.YtgojpflkhnaedaaDoor
