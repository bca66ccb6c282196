/- Images' bytes: pieces of a text; an image with words more behind its code; with one word, or Data, another. -/
import Derived.Test.YtmifiadkhmglmaaImgF
set_option linter.unusedVariables false
namespace Go.Proofs.Ytmifiadkhmglmaa
open Go.RowKit

theorem nums_piece (t : ByteArray) (a b : Nat) : nums (t.extract a b) = ((nums t).drop a).take (b - a) := by
  unfold nums
  rw [← List.map_drop, ← List.map_take]
  congr 1
  simp [List.extract_eq_take_drop]
theorem text_ext {s t : ByteArray} (h : nums s = nums t) : s = t := by
  rw [← strOfNums_nums s, h, strOfNums_nums]
theorem irt_more {code more : List Int} {d : Int} (h : irt code d = true) (hl : code.length + more.length ≤ 16384) : irt (code ++ more) d = true := by
  have := irt_yes h
  unfold irt
  rw [decide_eq_true (show (code ++ more).length ≤ 16384 by rw [List.length_append]; exact hl), decide_eq_true this.2.1, decide_eq_true this.2.2]
  rfl
theorem w32_more {a b : List Int} (ha : W32s a) (hb : W32s b) : W32s (a ++ b) := fun z hz => by
  rcases List.mem_append.1 hz with h | h
  · exact ha z h
  · exact hb z h
/-- With words more behind its code. -/
theorem goes_on {code more : List Int} {d : Int} (h : irt code d = true) (h2 : irt (code ++ more) d = true) (hw : W32s code) (hm : W32s more) :
    (ibs (code ++ more) d).size = (ibs code d).size + 4 * more.length ∧ (ibs (code ++ more) d).extract 0 4 = (ibs code d).extract 0 4 ∧
    (ibs (code ++ more) d).extract 8 (ibs code d).size = (ibs code d).extract 8 (ibs code d).size := by
  have hw2 := w32_more hw hm
  have z1 := size_ibs h hw
  refine ⟨?_, ?_, ?_⟩
  · rw [z1, size_ibs h2 hw2, List.length_append]; omega
  · apply text_ext
    rw [nums_piece, nums_piece, nums_ibs h hw, nums_ibs h2 hw2, ibl_eq, ibl_eq]
    rfl
  · apply text_ext
    rw [nums_piece, nums_piece, nums_ibs h hw, nums_ibs h2 hw2, ibl_eq, ibl_eq, z1, bytsAll_append, show 12 + 4 * code.length - 8 = 4 * code.length + 4 by omega]
    simp only [List.drop_succ_cons, List.drop_zero]
    have hb : (bytsAll code).length = 4 * code.length := length_bytsAll _
    simp only [List.take_succ_cons]
    rw [List.take_left' hb, List.take_of_length_le (by omega)]
/-- With another Data. -/
theorem other_data {code : List Int} {d : Int} (h : irt code d = true) (hw : W32s code) : irt code (32768 - d) = true ∧ (ibs code (32768 - d) = ibs code d ↔ d = 16384) := by
  have hy := irt_yes h
  have h2 : irt code (32768 - d) = true := by
    unfold irt
    rw [decide_eq_true hy.1, decide_eq_true (show 0 ≤ 32768 - d by omega), decide_eq_true (show 32768 - d ≤ 32768 by omega)]; rfl
  refine ⟨h2, fun e => ?_, fun e => by subst e; rfl⟩
  have e2 : ibl code (32768 - d) = ibl code d := by rw [← nums_ibs h2 hw, e, nums_ibs h hw]
  have := (ibl_inj h2 h hw hw e2).2
  omega
/-- With one word another. -/
theorem other_word {code : List Int} {d : Int} (h : irt code d = true) (hw : W32s code) {k : Nat} (hk : k < code.length) {x : Int} (hx : 0 ≤ x ∧ x < 4294967296) (hne : ¬ x = code.getD k 0) :
    irt (code.set k x) d = true ∧ W32s (code.set k x) ∧ ¬ ibs (code.set k x) d = ibs code d ∧ (ibs (code.set k x) d).size = (ibs code d).size := by
  have h2 : irt (code.set k x) d = true := by
    have := irt_yes h
    unfold irt
    rw [List.length_set, decide_eq_true this.1, decide_eq_true this.2.1, decide_eq_true this.2.2]; rfl
  have hw2 : W32s (code.set k x) := fun z hz => by
    rcases List.mem_or_eq_of_mem_set hz with h | h
    · exact hw z h
    · rw [h]; exact hx
  refine ⟨h2, hw2, fun e => ?_, by rw [size_ibs h2 hw2, size_ibs h hw, List.length_set]⟩
  have e2 : ibl (code.set k x) d = ibl code d := by rw [← nums_ibs h2 hw2, e, nums_ibs h hw]
  have e3 := (ibl_inj h2 h hw2 hw e2).1
  apply hne
  rw [← e3, List.getD_eq_getElem?_getD, List.getElem?_set_self hk]; rfl
end Go.Proofs.Ytmifiadkhmglmaa
