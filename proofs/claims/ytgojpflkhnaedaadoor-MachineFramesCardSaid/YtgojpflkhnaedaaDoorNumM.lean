/- Numerals: what is one, and its value; no program in sight. -/
import Derived.WalkKit
import Derived.Lib.ItoaNum
namespace Go.Proofs.YtgojpflkhnaedaaDoor
open Go

def digB (c : UInt8) : Bool := decide (48 ≤ c.toNat) && decide (c.toNat ≤ 57)
def numB (l : List UInt8) : Bool := !l.isEmpty && (decide (l.length ≤ 1) || l.head? != some 48) && l.all digB
def val (l : List UInt8) : Nat := l.foldl (fun n c => 10 * n + (c.toNat - 48)) 0
/-- The word whose text it is, and the error. -/
def prs (l : List UInt8) : Int × Int := if numB l = false then (0, 3) else if 4294967295 < val l then (0, 2) else ((val l : Int), 0)

theorem val_snoc (l : List UInt8) (c : UInt8) : val (l ++ [c]) = 10 * val l + (c.toNat - 48) := by simp [val]
theorem foldl_mono (l : List UInt8) : ∀ n, n ≤ l.foldl (fun n c => 10 * n + (c.toNat - 48)) n := by
  induction l with
  | nil => intro n; exact Nat.le_refl _
  | cons c r ih => intro n; simp only [List.foldl_cons]; exact Nat.le_trans (by omega) (ih _)
theorem val_append_le (a b : List UInt8) : val a ≤ val (a ++ b) := by
  unfold val; rw [List.foldl_append]; exact foldl_mono b _
theorem val_take_le (l : List UInt8) (k : Nat) : val (l.take k) ≤ val l := by
  have h := val_append_le (l.take k) (l.drop k)
  rwa [List.take_append_drop] at h

open Go.Lib in
theorem decDigits_ne (u : Nat) : decDigits u ≠ [] := by
  rw [decDigits]; split <;> simp
open Go.Lib in
theorem decDigits_all (u : Nat) : (decDigits u).all digB = true := by
  induction u using Nat.strongRecOn with
  | ind u ih =>
    rw [decDigits]
    split
    · rename_i h
      simp only [List.all_cons, List.all_nil, Bool.and_true, digB]
      have e : (UInt8.ofNat (48 + u)).toNat = 48 + u := by simp; omega
      rw [e]; simp; omega
    · rename_i h
      rw [List.all_append, ih (u / 10) (by omega)]
      simp only [List.all_cons, List.all_nil, Bool.and_true, Bool.true_and, digB]
      have e : (UInt8.ofNat (48 + u % 10)).toNat = 48 + u % 10 := by simp; omega
      rw [e]; simp; omega
open Go.Lib in
theorem decDigits_head (u : Nat) (h : 0 < u) : (decDigits u).head? ≠ some 48 := by
  induction u using Nat.strongRecOn with
  | ind u ih =>
    rw [decDigits]
    split
    · rename_i h1
      simp only [List.head?_cons]
      intro e
      have e2 : UInt8.ofNat (48 + u) = 48 := Option.some.inj e
      have e3 : (UInt8.ofNat (48 + u)).toNat = 48 + u := by simp; omega
      rw [e2] at e3
      simp at e3
      omega
    · rename_i h1
      have hne := decDigits_ne (u / 10)
      have hi := ih (u / 10) (by omega) (by omega)
      cases hd : decDigits (u / 10) with
      | nil => exact absurd hd hne
      | cons a r => rw [hd] at hi; simpa using hi
open Go.Lib in
theorem decDigits_val (u : Nat) : val (decDigits u) = u := by
  induction u using Nat.strongRecOn with
  | ind u ih =>
    rw [decDigits]
    split
    · rename_i h
      have e : (UInt8.ofNat (48 + u)).toNat = 48 + u := by simp; omega
      simp only [val, List.foldl_cons, List.foldl_nil, e]
      omega
    · rename_i h
      rw [val_snoc, ih (u / 10) (by omega)]
      have e : (UInt8.ofNat (48 + u % 10)).toNat = 48 + u % 10 := by simp; omega
      rw [e]
      omega
open Go.Lib in
theorem decDigits_num (u : Nat) : numB (decDigits u) = true := by
  unfold numB
  rw [decDigits_all]
  have hne : (decDigits u).isEmpty = false := by
    cases hd : decDigits u with
    | nil => exact absurd hd (decDigits_ne u)
    | cons a r => rfl
  rw [hne]
  by_cases h : 0 < u
  · have := decDigits_head u h
    simp [this]
  · obtain rfl : u = 0 := by omega
    have e : (decDigits 0).length ≤ 1 := by rw [decDigits_one (by omega)]; simp
    simp [e]
open Go.Lib in
theorem prs_text (u : Nat) (h : u < 4294967296) : prs (decDigits u) = ((u : Int), 0) := by
  unfold prs
  rw [decDigits_num, decDigits_val, if_neg (by simp), if_neg (by omega)]

open Go.Lib in
/-- A numeral of more digits ends in its last one. -/
theorem decDigits_snoc (v d : Nat) (hv : 0 < v) (hd : d < 10) : decDigits (10 * v + d) = decDigits v ++ [UInt8.ofNat (48 + d)] := by
  rw [decDigits, dif_neg (by omega), show (10 * v + d) / 10 = v by omega, show (10 * v + d) % 10 = d by omega]
theorem dig_ofNat (c : UInt8) (h : digB c = true) : UInt8.ofNat (48 + (c.toNat - 48)) = c ∧ c.toNat - 48 < 10 := by
  simp only [digB, Bool.and_eq_true, decide_eq_true_eq] at h
  refine ⟨?_, by omega⟩
  rw [show 48 + (c.toNat - 48) = c.toNat by omega]
  simp
theorem head_pos : ∀ (l : List UInt8), l ≠ [] → l.all digB = true → l.head? ≠ some 48 → 0 < val l := by
  intro l
  cases l with
  | nil => intro h; exact absurd rfl h
  | cons c r =>
    intro _ hd hh
    simp only [List.all_cons, Bool.and_eq_true] at hd
    have h1 := hd.1
    simp only [digB, Bool.and_eq_true, decide_eq_true_eq] at h1
    have hc : c ≠ 48 := fun e => hh (by simp [e])
    have hn : c.toNat ≠ 48 := fun e => hc (UInt8.toNat_inj.1 (by simpa using e))
    have h2 := foldl_mono r (10 * 0 + (c.toNat - 48))
    simp only [val, List.foldl_cons]
    omega
open Go.Lib in
theorem text_val : ∀ (n : Nat) (l : List UInt8), l.length = n → l ≠ [] → l.all digB = true → (n ≤ 1 ∨ l.head? ≠ some 48) → decDigits (val l) = l := by
  intro n
  induction n with
  | zero => intro l h hne; exact absurd (List.length_eq_zero_iff.1 h) hne
  | succ n ih =>
    intro l h hne hd hh
    obtain ⟨r, c, rfl⟩ : ∃ r c, l = r ++ [c] := ⟨l.dropLast, l.getLast hne, (List.dropLast_concat_getLast hne).symm⟩
    have hl : r.length = n := by simpa using h
    rw [List.all_append, Bool.and_eq_true] at hd
    have hc := dig_ofNat c (by simpa using hd.2)
    rw [val_snoc]
    by_cases hr : r = []
    · subst hr
      have e : 10 * val [] + (c.toNat - 48) = c.toNat - 48 := by simp [val]
      rw [e, decDigits_one hc.2, hc.1]; rfl
    · have hn : 1 ≤ n := by
        cases r with
        | nil => exact absurd rfl hr
        | cons a b => simp at hl; omega
      have hh2 : r.head? ≠ some 48 := by
        rcases hh with hh | hh
        · omega
        · cases r with
          | nil => exact absurd rfl hr
          | cons a b => simpa using hh
      rw [decDigits_snoc _ _ (head_pos r hr hd.1 hh2) hc.2, hc.1, ih r hl hr hd.1 (Or.inr hh2)]
open Go.Lib in
theorem text_num (l : List UInt8) (h : numB l = true) : decDigits (val l) = l := by
  simp only [numB, Bool.and_eq_true, Bool.or_eq_true, Bool.not_eq_true', decide_eq_true_eq, bne_iff_ne] at h
  exact text_val l.length l rfl (by intro e; subst e; simp at h) h.2 h.1.2
end Go.Proofs.YtgojpflkhnaedaaDoor
