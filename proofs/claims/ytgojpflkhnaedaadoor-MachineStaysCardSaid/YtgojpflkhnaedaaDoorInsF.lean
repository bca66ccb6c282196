/- A word with a bit turned: its fields; whether it is an instruction's. -/
import Derived.Test.YtgojpflkhnaedaaDoorInsM
import Derived.Test.YtgojpflkhnaedaaDoorMath
set_option linter.unusedVariables false
namespace Go.Proofs.YtgojpflkhnaedaaDoor
open Go

theorem xor_bit (n b : Nat) : (n / 2 ^ b % 2 = 0 ∧ n ^^^ 2 ^ b = n + 2 ^ b) ∨ (n / 2 ^ b % 2 = 1 ∧ (n ^^^ 2 ^ b) + 2 ^ b = n) := by
  have hp : 0 < 2 ^ b := Nat.two_pow_pos b
  have h1 : (n ^^^ 2 ^ b) / 2 ^ b = n / 2 ^ b ^^^ 1 := by rw [Nat.xor_div_two_pow, Nat.div_self hp]
  have h2 : (n ^^^ 2 ^ b) % 2 ^ b = n % 2 ^ b := by rw [Nat.xor_mod_two_pow, Nat.mod_self, Nat.xor_zero]
  have h3 := Nat.div_add_mod (n ^^^ 2 ^ b) (2 ^ b)
  have h4 := Nat.div_add_mod n (2 ^ b)
  obtain ⟨q, hq⟩ : ∃ q, n / 2 ^ b = q := ⟨_, rfl⟩
  obtain ⟨P, hP⟩ : ∃ P, 2 ^ b = P := ⟨_, rfl⟩
  have k1 : (q ^^^ 1) / 2 = q / 2 := by rw [Nat.xor_div_two]; simp
  have k2 : (q ^^^ 1) % 2 = q % 2 ^^^ 1 % 2 := Nat.xor_mod_two_pow (n := 1)
  rw [h1, h2, hq] at h3
  rw [hq] at h4 ⊢
  rw [hP] at h3 h4 ⊢
  rcases Nat.mod_two_eq_zero_or_one q with e | e
  · left
    rw [e] at k2
    have k3 : q ^^^ 1 = q + 1 := by
      have : (q ^^^ 1) % 2 = 1 := k2
      omega
    rw [k3, Nat.mul_add, Nat.mul_one] at h3
    exact ⟨e, by omega⟩
  · right
    rw [e] at k2
    have k3 : (q ^^^ 1) + 1 = q := by
      have : (q ^^^ 1) % 2 = 0 := k2
      omega
    have h5 : P * (q ^^^ 1) + P = P * q := by conv => rhs; rw [← k3, Nat.mul_add, Nat.mul_one]
    exact ⟨e, by omega⟩
/-- Does the operation's field that holds the bit b matter? -/
def thr (op : Int) (b : Nat) : Bool := (prt op).any fun p => if p = 97 then decide (20 ≤ b) else if p = 98 then decide (16 ≤ b) && decide (b < 20) else if p = 99 then decide (b < 16) else decide (b < 4)
theorem thr_eq {op : Int} (h : 1 ≤ op ∧ op ≤ 27) {b : Nat} (hb : b < 24) : thr op b = ((hsc (prt op) 97 && decide (20 ≤ b)) || (hsc (prt op) 98 && decide (16 ≤ b) && decide (b < 20)) || (hsc (prt op) 99 && decide (b < 16)) || (hsc (prt op) 114 && decide (b < 4))) := by
  have key : ∀ k, k < 27 → ∀ b, b < 24 → ((pcl.getD k []).any fun p => if p = 97 then decide (20 ≤ b) else if p = 98 then decide (16 ≤ b) && decide (b < 20) else if p = 99 then decide (b < 16) else decide (b < 4)) = ((hsc (pcl.getD k []) 97 && decide (20 ≤ b)) || (hsc (pcl.getD k []) 98 && decide (16 ≤ b) && decide (b < 20)) || (hsc (pcl.getD k []) 99 && decide (b < 16)) || (hsc (pcl.getD k []) 114 && decide (b < 4))) := by decide +kernel
  have hp : prt op = pcl.getD (op.toNat - 1) [] := if_pos h
  unfold thr
  rw [hp]
  exact key _ (by omega) b hb
theorem not_both {op : Int} (h : 1 ≤ op ∧ op ≤ 27) : hsc (prt op) 114 = true → hsc (prt op) 99 = false := by
  have key : ∀ k, k < 27 → hsc (pcl.getD k []) 114 = true → hsc (pcl.getD k []) 99 = false := by decide
  have hp : prt op = pcl.getD (op.toNat - 1) [] := if_pos h
  rw [hp]
  exact key _ (by omega)
set_option maxHeartbeats 4000000 in
/-- The fields of a word with a bit turned. -/
theorem flip_fields {w v : Int} (b : Nat) (hb : b < 24) (h0 : 0 ≤ w) (h1 : w < 4294967296) (hv : (w / 2 ^ b % 2 = 0 ∧ v = w + 2 ^ b) ∨ (w / 2 ^ b % 2 = 1 ∧ v + 2 ^ b = w)) :
    (0 ≤ v ∧ v < 4294967296) ∧ v / 16777216 = w / 16777216 ∧
    ((20 ≤ b ∧ v / 1048576 % 16 ≠ w / 1048576 % 16 ∧ v / 65536 % 16 = w / 65536 % 16 ∧ v % 65536 = w % 65536) ∨
     (16 ≤ b ∧ b < 20 ∧ v / 1048576 % 16 = w / 1048576 % 16 ∧ v / 65536 % 16 ≠ w / 65536 % 16 ∧ v % 65536 = w % 65536) ∨
     (4 ≤ b ∧ b < 16 ∧ v / 1048576 % 16 = w / 1048576 % 16 ∧ v / 65536 % 16 = w / 65536 % 16 ∧ v % 65536 ≠ w % 65536 ∧ (w % 65536 ≤ 15 → 15 < v % 65536)) ∨
     (b < 4 ∧ v / 1048576 % 16 = w / 1048576 % 16 ∧ v / 65536 % 16 = w / 65536 % 16 ∧ v % 65536 ≠ w % 65536 ∧ (w % 65536 ≤ 15 → v % 65536 ≤ 15))) := by
  rcases (show b < 4 ∨ (4 ≤ b ∧ b < 16) ∨ (16 ≤ b ∧ b < 20) ∨ 20 ≤ b by omega) with hr | hr | hr | hr
  · have hbs : b = 0 ∨ b = 1 ∨ b = 2 ∨ b = 3 := by omega
    rcases hbs with rfl | rfl | rfl | rfl
    all_goals
      simp only [Int.reducePow] at hv
      refine ⟨?_, ?_, .inr (.inr (.inr ?_))⟩ <;> omega
  · have hbs : b = 4 ∨ b = 5 ∨ b = 6 ∨ b = 7 ∨ b = 8 ∨ b = 9 ∨ b = 10 ∨ b = 11 ∨ b = 12 ∨ b = 13 ∨ b = 14 ∨ b = 15 := by omega
    rcases hbs with rfl | rfl | rfl | rfl | rfl | rfl | rfl | rfl | rfl | rfl | rfl | rfl
    all_goals
      simp only [Int.reducePow] at hv
      refine ⟨?_, ?_, .inr (.inr (.inl ?_))⟩ <;> omega
  · have hbs : b = 16 ∨ b = 17 ∨ b = 18 ∨ b = 19 := by omega
    rcases hbs with rfl | rfl | rfl | rfl
    all_goals
      simp only [Int.reducePow] at hv
      refine ⟨?_, ?_, .inr (.inl ?_)⟩ <;> omega
  · have hbs : b = 20 ∨ b = 21 ∨ b = 22 ∨ b = 23 := by omega
    rcases hbs with rfl | rfl | rfl | rfl
    all_goals
      simp only [Int.reducePow] at hv
      refine ⟨?_, ?_, .inl ?_⟩ <;> omega
theorem wi_yes {n most : Int} (h0 : 0 ≤ n) (h1 : n ≤ most) : wi true n most = true := by simp [wi, h0, h1]
theorem wi_far {n most : Int} (h1 : most < n) : wi true n most = false := by simp [wi]; omega
theorem wi_not {n most : Int} (h : n ≠ 0) : wi false n most = false := by simp [wi, h]
theorem flip_rgt {w v : Int} (b : Nat) (hb : b < 24) (h0 : 0 ≤ w) (h1 : w < 4294967296) (hv : (w / 2 ^ b % 2 = 0 ∧ v = w + 2 ^ b) ∨ (w / 2 ^ b % 2 = 1 ∧ v + 2 ^ b = w))
    (hr : rgt (w / 16777216) (w / 1048576 % 16) (w / 65536 % 16) (w % 65536) = true) :
    rgt (v / 16777216) (v / 1048576 % 16) (v / 65536 % 16) (v % 65536) = thr (w / 16777216) b := by
  obtain ⟨hvb, e0, hf⟩ := flip_fields b hb h0 h1 hv
  have hbd := rgt_bounds hr
  rw [e0, thr_eq hbd.1 hb]
  have hnb := not_both hbd.1
  have a1 : 0 ≤ v / 1048576 % 16 ∧ v / 1048576 % 16 ≤ 15 := by omega
  have a2 : 0 ≤ v / 65536 % 16 ∧ v / 65536 % 16 ≤ 15 := by omega
  have a3 : 0 ≤ v % 65536 ∧ v % 65536 ≤ 65535 := by omega
  obtain ⟨op, hop⟩ : ∃ op, w / 16777216 = op := ⟨_, rfl⟩
  obtain ⟨a, ha⟩ : ∃ a, w / 1048576 % 16 = a := ⟨_, rfl⟩
  obtain ⟨b1, hb1⟩ : ∃ b1, w / 65536 % 16 = b1 := ⟨_, rfl⟩
  obtain ⟨c, hc⟩ : ∃ c, w % 65536 = c := ⟨_, rfl⟩
  obtain ⟨a', ha'⟩ : ∃ a, v / 1048576 % 16 = a := ⟨_, rfl⟩
  obtain ⟨b1', hb1'⟩ : ∃ b1, v / 65536 % 16 = b1 := ⟨_, rfl⟩
  obtain ⟨c', hc'⟩ : ∃ c, v % 65536 = c := ⟨_, rfl⟩
  rw [hop] at hr hbd hnb ⊢
  rw [ha, hb1, hc] at hr hf
  rw [ha', hb1', hc'] at hf ⊢
  rw [ha'] at a1
  rw [hb1'] at a2
  rw [hc'] at a3
  clear hv hvb e0 hop ha hb1 hc ha' hb1' hc' h0 h1
  unfold rgt at hr ⊢
  simp only [Bool.and_eq_true, decide_eq_true_eq] at hr
  obtain ⟨⟨⟨q1, q2⟩, q3⟩, q4⟩ := hr
  rw [decide_eq_true q1, Bool.true_and]
  rcases hf with ⟨g, f1, rfl, rfl⟩ | ⟨g, g2, rfl, f1, rfl⟩ | ⟨g, g2, rfl, rfl, f1, f2⟩ | ⟨g, rfl, rfl, f1, f2⟩
  · rw [q3, q4, decide_eq_true g, decide_eq_false (show ¬ b < 20 by omega), decide_eq_false (show ¬ b < 16 by omega), decide_eq_false (show ¬ b < 4 by omega)]
    cases hs : hsc (prt op) 97 with
    | true => rw [wi_yes a1.1 a1.2]; simp
    | false =>
      rw [hs] at q2
      rw [wi_not (fun e => f1 (by rw [e, wi_none q2]))]; simp
  · rw [q2, q4, decide_eq_false (show ¬ 20 ≤ b by omega), decide_eq_true g, decide_eq_true g2, decide_eq_false (show ¬ b < 16 by omega), decide_eq_false (show ¬ b < 4 by omega)]
    cases hs : hsc (prt op) 98 with
    | true => rw [wi_yes a2.1 a2.2]; simp
    | false =>
      rw [hs] at q3
      rw [wi_not (fun e => f1 (by rw [e, wi_none q3]))]; simp
  · rw [q2, q3, decide_eq_false (show ¬ 20 ≤ b by omega), decide_eq_false (show ¬ 16 ≤ b by omega), decide_eq_true g2, decide_eq_false (show ¬ b < 4 by omega)]
    cases hs : hsc (prt op) 99 with
    | true =>
      cases hs2 : hsc (prt op) 114 with
      | true => rw [hnb hs2] at hs; cases hs
      | false =>
        have hm : mst op = 65535 := by unfold mst; rw [hs2]; rfl
        rw [hm, Bool.or_false, wi_yes a3.1 a3.2]; simp
    | false =>
      cases hs2 : hsc (prt op) 114 with
      | true =>
        have hm : mst op = 15 := by unfold mst; rw [hs2]; rfl
        rw [hs, hs2, hm] at q4
        have := wi_bounds q4 (by omega)
        rw [hm, Bool.false_or, wi_far (f2 this.2)]; simp
      | false =>
        rw [hs, hs2] at q4
        rw [Bool.false_or, wi_not (fun e => f1 (by rw [e, wi_none q4]))]; simp
  · rw [q2, q3, decide_eq_false (show ¬ 20 ≤ b by omega), decide_eq_false (show ¬ 16 ≤ b by omega), decide_eq_true (show b < 16 by omega), decide_eq_true g]
    cases hs : hsc (prt op) 99 with
    | true =>
      cases hs2 : hsc (prt op) 114 with
      | true => rw [hnb hs2] at hs; cases hs
      | false =>
        have hm : mst op = 65535 := by unfold mst; rw [hs2]; rfl
        rw [hm, Bool.or_false, wi_yes a3.1 a3.2]; simp
    | false =>
      cases hs2 : hsc (prt op) 114 with
      | true =>
        have hm : mst op = 15 := by unfold mst; rw [hs2]; rfl
        rw [hs, hs2, hm] at q4
        have := wi_bounds q4 (by omega)
        rw [hm, Bool.false_or, wi_yes a3.1 (f2 this.2)]; simp
      | false =>
        rw [hs, hs2] at q4
        rw [Bool.false_or, wi_not (fun e => f1 (by rw [e, wi_none q4]))]; simp
theorem low15 (x : Int) (h0 : 0 ≤ x) (h1 : x < 4294967296) : bits .and .u32 x 15 = x % 16 := by
  rw [and_u32 x 15 h0 h1 (by omega) (by omega)]
  have := Nat.and_two_pow_sub_one_eq_mod x.toNat 4
  simp only [Nat.reducePow, Nat.reduceSub] at this
  rw [show (15 : Int).toNat = 15 from rfl, this]
  omega
theorem low65535 (x : Int) (h0 : 0 ≤ x) (h1 : x < 4294967296) : bits .and .u32 x 65535 = x % 65536 := by
  rw [and_u32 x 65535 h0 h1 (by omega) (by omega)]
  have := Nat.and_two_pow_sub_one_eq_mod x.toNat 16
  simp only [Nat.reducePow, Nat.reduceSub] at this
  rw [show (65535 : Int).toNat = 65535 from rfl, this]
  omega
end Go.Proofs.YtgojpflkhnaedaaDoor
