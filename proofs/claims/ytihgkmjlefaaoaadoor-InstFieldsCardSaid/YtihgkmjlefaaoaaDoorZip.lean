/- The reference's both: bit by bit. -/
import Derived.Test.YtihgkmjlefaaoaaDoorOf
import Derived.RegionTactic
set_option linter.unusedVariables false
namespace Go.Proofs.YtihgkmjlefaaoaaDoor
open Go.RowKit

/-- One bit of two: both; one at least; just one. -/
def bit2 (op x y : Int) : Int :=
  if op = 9 then (if x + y = 2 then 1 else 0) else if op = 10 then (if x + y = 0 then 0 else 1) else (if x + y = 1 then 1 else 0)
def zip2 (op : Int) : List Int → List Int → List Int
  | x :: xs, y :: ys => bit2 op x y :: zip2 op xs ys
  | _, _ => []
theorem length_zip2 (op : Int) : ∀ (xs ys : List Int), xs.length = ys.length → (zip2 op xs ys).length = xs.length
  | [], [], _ => rfl
  | x :: xs, y :: ys, h => by simp [zip2, length_zip2 op xs ys (by simpa using h)]
theorem bit2_bit (op x y : Int) : bit2 op x y = 0 ∨ bit2 op x y = 1 := by
  unfold bit2
  split
  · split <;> simp
  · split
    · split <;> simp
    · split <;> simp
theorem zip2_bit (op : Int) : ∀ (xs ys : List Int), ∀ z ∈ zip2 op xs ys, z = 0 ∨ z = 1
  | [], _ => by intro z hz; simp [zip2] at hz
  | _ :: _, [] => by intro z hz; simp [zip2] at hz
  | x :: xs, y :: ys => by
    intro z hz
    simp only [zip2, List.mem_cons] at hz
    rcases hz with rfl | hz
    · exact bit2_bit op x y
    · exact zip2_bit op xs ys z hz

/-- After j rounds. -/
def mixd (op : Int) (j : Nat) (xs ys : List Int) : List Int := (zip2 op xs ys).take j ++ xs.drop j
theorem zip2_getD (op : Int) : ∀ (xs ys : List Int) (j : Nat), j < xs.length → xs.length = ys.length → (zip2 op xs ys).getD j 0 = bit2 op (xs.getD j 0) (ys.getD j 0)
  | x :: xs, y :: ys, 0, _, _ => by simp [zip2]
  | x :: xs, y :: ys, j + 1, h, e => by
    have := zip2_getD op xs ys j (by simpa using h) (by simpa using e)
    simpa [zip2] using this
theorem mixd_zero (op : Int) (xs ys : List Int) : mixd op 0 xs ys = xs := by simp [mixd]
theorem mixd_all (op : Int) (xs ys : List Int) (h : xs.length = ys.length) (j : Nat) (hj : xs.length ≤ j) : mixd op j xs ys = zip2 op xs ys := by
  unfold mixd
  rw [List.take_of_length_le (by rw [length_zip2 op xs ys h]; exact hj), List.drop_of_length_le hj, List.append_nil]
theorem length_mixd (op : Int) (xs ys : List Int) (h : xs.length = ys.length) (j : Nat) (hj : j ≤ xs.length) : (mixd op j xs ys).length = xs.length := by
  unfold mixd
  rw [List.length_append, List.length_take, length_zip2 op xs ys h, List.length_drop]
  omega
theorem mixd_at (op : Int) (xs ys : List Int) (h : xs.length = ys.length) (j : Nat) (hj : j < xs.length) : (mixd op j xs ys).getD j 0 = xs.getD j 0 := by
  unfold mixd
  have e : ((zip2 op xs ys).take j).length = j := by rw [List.length_take, length_zip2 op xs ys h]; omega
  simp only [List.getD]
  rw [List.getElem?_append_right (by omega), e, List.getElem?_drop]
  simp
theorem mixd_succ (op : Int) (xs ys : List Int) (h : xs.length = ys.length) (j : Nat) (hj : j < xs.length) :
    (mixd op j xs ys).set j (bit2 op (xs.getD j 0) (ys.getD j 0)) = mixd op (j + 1) xs ys := by
  unfold mixd
  have e : ((zip2 op xs ys).take j).length = j := by rw [List.length_take, length_zip2 op xs ys h]; omega
  have hz := zip2_getD op xs ys j hj h
  have hl : j < (zip2 op xs ys).length := by rw [length_zip2 op xs ys h]; exact hj
  rw [List.set_append_right _ _ (by omega), e, Nat.sub_self, List.drop_eq_getElem_cons hj, List.set_cons_zero, List.take_succ_eq_append_getElem hl, List.append_assoc]
  congr 2
  simpa [List.getD, hl] using hz.symm

theorem ofl_both (n : Nat) : ∀ (a b : Nat), a < 2 ^ n → b < 2 ^ n →
    ofl (zip2 9 (bl n a) (bl n b)) = ((a &&& b : Nat) : Int) ∧ ofl (zip2 10 (bl n a) (bl n b)) = ((a ||| b : Nat) : Int) ∧ ofl (zip2 11 (bl n a) (bl n b)) = ((a ^^^ b : Nat) : Int) := by
  induction n with
  | zero =>
    intro a b ha hb
    have h1 : a = 0 := by omega
    have h2 : b = 0 := by omega
    subst h1 h2
    exact ⟨by decide, by decide, by decide⟩
  | succ n ih =>
    intro a b ha hb
    have i := ih (a / 2) (b / 2) (by omega) (by omega)
    simp only [bl, zip2, ofl]
    rw [show ((a : Int) / 2) = ((a / 2 : Nat) : Int) by omega, show ((b : Int) / 2) = ((b / 2 : Nat) : Int) by omega, i.1, i.2.1, i.2.2]
    have a1 := Nat.and_div_two (a := a) (b := b)
    have o1 := Nat.or_div_two (a := a) (b := b)
    have e1 := Nat.xor_div_two (a := a) (b := b)
    have a2 := Nat.and_mod_two_pow (a := a) (b := b) (n := 1)
    have o2 := Nat.or_mod_two_pow (a := a) (b := b) (n := 1)
    have e2 := Nat.xor_mod_two_pow (a := a) (b := b) (n := 1)
    simp only [Nat.pow_one] at a2 o2 e2
    rw [show ((a : Int) % 2) = ((a % 2 : Nat) : Int) by omega, show ((b : Int) % 2) = ((b % 2 : Nat) : Int) by omega]
    have pa : a % 2 < 2 := Nat.mod_lt _ (by decide)
    have pb : b % 2 < 2 := Nat.mod_lt _ (by decide)
    generalize a % 2 = p at *
    generalize b % 2 = q at *
    have hpq : bit2 9 (p : Int) (q : Int) = ((p &&& q : Nat) : Int) ∧ bit2 10 (p : Int) (q : Int) = ((p ||| q : Nat) : Int) ∧ bit2 11 (p : Int) (q : Int) = ((p ^^^ q : Nat) : Int) := by
      match p, q, pa, pb with
      | 0, 0, _, _ => decide
      | 0, 1, _, _ => decide
      | 1, 0, _, _ => decide
      | 1, 1, _, _ => decide
    rw [hpq.1, hpq.2.1, hpq.2.2]
    omega
theorem ofl_ap (op a b : Int) (hop : op = 9 ∨ op = 10 ∨ op = 11) (a0 : 0 ≤ a) (a1 : a < 4294967296) (b0 : 0 ≤ b) (b1 : b < 4294967296) :
    ofl (zip2 op (bl 32 a) (bl 32 b)) = ap op a b := by
  have h := ofl_both 32 a.toNat b.toNat (by omega) (by omega)
  rw [Int.toNat_of_nonneg a0, Int.toNat_of_nonneg b0] at h
  rcases hop with rfl | rfl | rfl
  · rw [h.1]; simp [ap]
  · rw [h.2.1]; simp [ap]
  · rw [h.2.2]; simp [ap]
end Go.Proofs.YtihgkmjlefaaoaaDoor
