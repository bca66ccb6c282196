/- Words, and the reference's: the words whose bytes a string is. -/
import Derived.Test.YtmifiadkhmglmaaBytes
set_option linter.unusedVariables false
namespace Go.Proofs.Ytmifiadkhmglmaa
open Go.RowKit


/-- A string's bytes as numbers. -/
def nums (s : ByteArray) : List Int := s.data.toList.map fun c => (c.toNat : Int)
theorem length_nums (s : ByteArray) : (nums s).length = s.size := by simp [nums]
theorem nums_getD (s : ByteArray) (i : Nat) (h : i < s.size) : (nums s).getD i 0 = (s[i].toNat : Int) := by
  simp [nums, List.getD, h]
  rfl
def wdsL : List Int → List Int
  | a :: b :: c :: d :: r => (a + b * 256 + (c + d * 256) * 65536) :: wdsL r
  | _ => []
theorem length_wdsL : ∀ (m : Nat) (l : List Int), l.length = 4 * m → (wdsL l).length = m
  | 0, l, h => by
    have : l = [] := List.length_eq_zero_iff.1 (by omega)
    subst this; rfl
  | m + 1, a :: b :: c :: d :: r, h => by
    simp only [wdsL, List.length_cons]
    rw [length_wdsL m r (by simp at h; omega)]
  | m + 1, [], h => by simp at h
  | m + 1, [_], h => by simp at h; omega
  | m + 1, [_, _], h => by simp at h; omega
  | m + 1, [_, _, _], h => by simp at h; omega
theorem wdsL_getD : ∀ (k : Nat) (l : List Int), 4 * k + 3 < l.length → (wdsL l).getD k 0 = l.getD (4 * k) 0 + l.getD (4 * k + 1) 0 * 256 + (l.getD (4 * k + 2) 0 + l.getD (4 * k + 3) 0 * 256) * 65536
  | 0, a :: b :: c :: d :: r, h => by simp [wdsL]
  | k + 1, a :: b :: c :: d :: r, h => by
    have := wdsL_getD k r (by simp at h; omega)
    simpa [wdsL, Nat.mul_add, Nat.add_assoc, List.getD] using this
  | _, [], h => by simp at h
  | _, [_], h => by simp at h
  | _, [_, _], h => by simp at h; omega
  | _, [_, _, _], h => by simp at h; omega
theorem bytsAll_wdsL : ∀ (m : Nat) (l : List Int), l.length = 4 * m → (∀ x ∈ l, 0 ≤ x ∧ x < 256) → bytsAll (wdsL l) = l
  | 0, l, h, _ => by
    have : l = [] := List.length_eq_zero_iff.1 (by omega)
    subst this; rfl
  | m + 1, a :: b :: c :: d :: r, h, hb => by
    have ih := bytsAll_wdsL m r (by simp at h; omega) (fun x hx => hb x (by simp [hx]))
    have h1 := hb a (by simp)
    have h2 := hb b (by simp)
    have h3 := hb c (by simp)
    have h4 := hb d (by simp)
    simp only [wdsL, bytsAll, byts, ih]
    rw [show (a + b * 256 + (c + d * 256) * 65536) % 256 = a by omega, show (a + b * 256 + (c + d * 256) * 65536) / 256 % 256 = b by omega,
      show (a + b * 256 + (c + d * 256) * 65536) / 65536 % 256 = c by omega, show (a + b * 256 + (c + d * 256) * 65536) / 16777216 = d by omega]
    rfl
  | m + 1, [], h, _ => by simp at h
  | m + 1, [_], h, _ => by simp at h; omega
  | m + 1, [_, _], h, _ => by simp at h; omega
  | m + 1, [_, _, _], h, _ => by simp at h; omega
theorem wdsL_bytsAll : ∀ (zs : List Int), (∀ z ∈ zs, 0 ≤ z ∧ z < 4294967296) → wdsL (bytsAll zs) = zs
  | [], _ => rfl
  | z :: r, h => by
    have ih := wdsL_bytsAll r (fun x hx => h x (by simp [hx]))
    have h1 := h z (by simp)
    simp only [bytsAll, byts, List.cons_append, List.nil_append, wdsL, ih]
    congr 1
    omega
theorem nums_byte (s : ByteArray) : ∀ x ∈ nums s, 0 ≤ x ∧ x < 256 := by
  intro x hx
  simp only [nums, List.mem_map] at hx
  obtain ⟨c, _, rfl⟩ := hx
  have := c.toNat_lt
  omega
theorem nums_strOfNums (xs : List Int) (h : ∀ x ∈ xs, 0 ≤ x ∧ x < 256) : nums (strOfNums xs) = xs := by
  simp only [nums, strOfNums, List.map_map]
  conv => rhs; rw [← List.map_id xs]
  apply List.map_congr_left
  intro x hx
  have := h x hx
  simp
  omega
theorem strOfNums_nums (s : ByteArray) : strOfNums (nums s) = s := by
  apply ByteArray.ext
  simp only [strOfNums, nums, List.map_map]
  apply Array.toList_inj.1
  conv => rhs; rw [← List.map_id s.data.toList]
  apply List.map_congr_left
  intro c _
  simp
theorem bytsAll_byte : ∀ (zs : List Int), (∀ z ∈ zs, 0 ≤ z ∧ z < 4294967296) → ∀ x ∈ bytsAll zs, 0 ≤ x ∧ x < 256
  | [], _ => by intro x hx; simp [bytsAll] at hx
  | z :: r, h => by
    intro x hx
    have h1 := h z (by simp)
    simp only [bytsAll, byts, List.cons_append, List.nil_append, List.mem_cons] at hx
    rcases hx with rfl | rfl | rfl | rfl | hx
    · omega
    · omega
    · omega
    · omega
    · exact bytsAll_byte r (fun x hx => h x (by simp [hx])) x hx
theorem wdsL_word : ∀ (m : Nat) (l : List Int), l.length = 4 * m → (∀ x ∈ l, 0 ≤ x ∧ x < 256) → ∀ z ∈ wdsL l, 0 ≤ z ∧ z < 4294967296
  | 0, l, h, _ => by
    have : l = [] := List.length_eq_zero_iff.1 (by omega)
    subst this; intro z hz; simp [wdsL] at hz
  | m + 1, a :: b :: c :: d :: r, h, hb => by
    have ih := wdsL_word m r (by simp at h; omega) (fun x hx => hb x (by simp [hx]))
    have h1 := hb a (by simp)
    have h2 := hb b (by simp)
    have h3 := hb c (by simp)
    have h4 := hb d (by simp)
    intro z hz
    simp only [wdsL, List.mem_cons] at hz
    rcases hz with rfl | hz
    · omega
    · exact ih z hz
  | m + 1, [], h, _ => by simp at h
  | m + 1, [_], h, _ => by simp at h; omega
  | m + 1, [_, _], h, _ => by simp at h; omega
  | m + 1, [_, _, _], h, _ => by simp at h; omega
end Go.Proofs.Ytmifiadkhmglmaa
