/- The reference of layer 3: the contract of its Of. -/
import Derived.Test.YtfbefenagnlnfaaDoorDigF
set_option linter.unusedVariables false
namespace Go.Proofs.YtfbefenagnlnfaaDoor
open Go.RowKit

theorem repeatL_rep (j : Nat) : Lib.repeatL [0] j = List.replicate j 0 := by
  induction j with
  | zero => rfl
  | succ j ih => rw [Lib.repeatL, ih]; rfl
/-- The bytes, the mark, and j noughts. -/
def pd (s : ByteArray) (j : Nat) : ByteArray := s ++ (⟨#[128]⟩ : ByteArray) ++ ⟨(Lib.repeatL [0] j).toArray⟩
theorem pd_zero (s : ByteArray) : pd s 0 = s ++ (⟨#[128]⟩ : ByteArray) := by
  apply ByteArray.ext
  simp [pd, Lib.repeatL]
theorem pd_succ (s : ByteArray) (j : Nat) : pd s j ++ (⟨#[0]⟩ : ByteArray) = pd s (j + 1) := by
  apply ByteArray.ext
  apply Array.toList_inj.1
  simp [pd, repeatL_rep, List.replicate_succ']
theorem size_pd (s : ByteArray) (j : Nat) : (pd s j).size = s.size + 1 + j := by
  have h1 := size_mk (Lib.repeatL [0] j)
  rw [length_repeatL0] at h1
  unfold pd
  rw [ByteArray.size_append, ByteArray.size_append, h1]
  rfl
theorem nums_append (a b : ByteArray) : nums (a ++ b) = nums a ++ nums b := by simp [nums]
theorem wdsL_append : ∀ (m : Nat) (a b : List Int), a.length = 4 * m → wdsL (a ++ b) = wdsL a ++ wdsL b
  | 0, a, b, h => by
    have : a = [] := List.length_eq_zero_iff.1 (by omega)
    subst this; rfl
  | m + 1, w :: x :: y :: z :: r, b, h => by
    simp only [List.cons_append, wdsL]
    rw [wdsL_append m r b (by simp at h; omega)]
  | m + 1, [], _, h => by simp at h
  | m + 1, [_], _, h => by simp at h; omega
  | m + 1, [_, _], _, h => by simp at h; omega
  | m + 1, [_, _, _], _, h => by simp at h; omega
theorem tkAll_append : ∀ (m : Nat) (s : Ws) (a b : List Int), a.length = 4 * m → tkAll s (a ++ b) = tkAll (tkAll s a) b
  | 0, s, a, b, h => by
    have : a = [] := List.length_eq_zero_iff.1 (by omega)
    subst this; rfl
  | m + 1, s, w :: x :: y :: z :: r, b, h => by
    simp only [List.cons_append, tkAll_step]
    exact tkAll_append m _ r b (by simp at h; omega)
  | m + 1, _, [], _, h => by simp at h
  | m + 1, _, [_], _, h => by simp at h; omega
  | m + 1, _, [_, _], _, h => by simp at h; omega
  | m + 1, _, [_, _, _], _, h => by simp at h; omega
theorem nums_ends (s : ByteArray) (hn : s.size ≤ 300) : nums (s ++ ender s.size) = nums (pd s ((23 - s.size % 16) % 16)) ++ bytsAll [(s.size : Int), 0] := by
  have hb := bytsAll_byte [(s.size : Int), 0] (by
    intro z hz
    simp only [List.mem_cons, List.not_mem_nil, or_false] at hz
    rcases hz with rfl | rfl
    · omega
    · omega)
  unfold ender pd
  simp only [nums_append, nums_strOfNums _ hb, List.append_assoc]
theorem dof_all (s : ByteArray) (hn : s.size ≤ 300) : dof s = (tkAll one8 (wdsL (nums (pd s ((23 - s.size % 16) % 16))) ++ [(s.size : Int), 0])).take 4 := by
  obtain ⟨n, hnn⟩ : ∃ n, s.size = n := ⟨_, rfl⟩
  obtain ⟨m, hm⟩ : ∃ m, n / 16 = m := ⟨_, rfl⟩
  have hend := nums_ends s hn
  have hpl : (nums (pd s ((23 - n % 16) % 16))).length = 4 * ((n + 1 + (23 - n % 16) % 16) / 4) := by rw [length_nums, size_pd, hnn]; omega
  unfold dof
  rw [hnn, hm]
  rw [hnn] at hend
  have e1 : (nums (s.extract 0 (16 * m))).length = 4 * (4 * m) := by rw [length_nums, ByteArray.size_extract]; omega
  have e2 : (wdsL (nums (s.extract 0 (16 * m)))).length = 4 * m := length_wdsL _ _ e1
  rw [← tkAll_append m _ _ _ e2, ← wdsL_append (4 * m) _ _ e1]
  have e3 : nums (s.extract 0 (16 * m)) ++ nums (s.extract (16 * m) n ++ ender n) = nums (s ++ ender n) := by
    rw [nums_append, nums_append, ← List.append_assoc]
    congr 1
    rw [nums_extract, nums_extract, List.drop_zero, Nat.sub_zero, List.take_of_length_le (l := (nums s).drop (16 * m)) (by rw [List.length_drop, length_nums]; omega), List.take_append_drop]
  rw [e3, hend, wdsL_append _ _ _ hpl, wdsL_bytsAll]
  intro z hz
  simp only [List.mem_cons, List.not_mem_nil, or_false] at hz
  rcases hz with rfl | rfl
  · omega
  · omega
end Go.Proofs.YtfbefenagnlnfaaDoor
