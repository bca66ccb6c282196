/- Images as plain lists: which may be, their bytes, what bytes are read as; and what follows. -/
import Derived.Test.YtmifiadkhmglmaaPackM
set_option linter.unusedVariables false
namespace Go.Proofs.Ytmifiadkhmglmaa
open Go.RowKit

/-- May it be? Its bytes, as numbers, as a text. -/
def irt (code : List Int) (d : Int) : Bool := decide (code.length ≤ 16384) && decide (0 ≤ d) && decide (d ≤ 32768)
def ibl (code : List Int) (d : Int) : List Int := [83, 69, 69, 68] ++ (bytsAll [(code.length : Int), d] ++ bytsAll code)
def ibs (code : List Int) (d : Int) : ByteArray := strOfNums (ibl code d)
/-- The word from a place on; is it an image's bytes; its code, its Data. -/
def wrd (l : List Int) (i : Nat) : Int := l.getD i 0 + 256 * l.getD (i + 1) 0 + 65536 * l.getD (i + 2) 0 + 16777216 * l.getD (i + 3) 0
def igo (l : List Int) : Bool := decide (12 ≤ l.length ∧ l.getD 0 0 = 83 ∧ l.getD 1 0 = 69 ∧ l.getD 2 0 = 69 ∧ l.getD 3 0 = 68 ∧ wrd l 4 ≤ 16384 ∧ wrd l 8 ≤ 32768 ∧ (l.length : Int) = 12 + 4 * wrd l 4)
def icd (l : List Int) : List Int := wdsL (l.drop 12)
theorem irt_yes {code : List Int} {d : Int} (h : irt code d = true) : code.length ≤ 16384 ∧ 0 ≤ d ∧ d ≤ 32768 := by
  simpa [irt, and_assoc] using h
theorem ibl_eq (code : List Int) (d : Int) : ibl code d = 83 :: 69 :: 69 :: 68 :: ((code.length : Int) % 256) :: ((code.length : Int) / 256 % 256) :: ((code.length : Int) / 65536 % 256) :: ((code.length : Int) / 16777216) :: (d % 256) :: (d / 256 % 256) :: (d / 65536 % 256) :: (d / 16777216) :: bytsAll code := rfl
theorem ibl_length (code : List Int) (d : Int) : (ibl code d).length = 12 + 4 * code.length := by
  rw [ibl_eq]
  simp [length_bytsAll]; omega
theorem ibl_byte {code : List Int} {d : Int} (hr : irt code d = true) (hw : W32s code) : ∀ x ∈ ibl code d, 0 ≤ x ∧ x < 256 := by
  have h := irt_yes hr
  intro x hx
  rw [ibl_eq] at hx
  simp only [List.mem_cons] at hx
  rcases hx with rfl | rfl | rfl | rfl | rfl | rfl | rfl | rfl | rfl | rfl | rfl | rfl | hx
  all_goals first | omega | exact bytsAll_byte code hw x hx
theorem ibl_four {code : List Int} {d : Int} (hr : irt code d = true) (more : List Int) : wrd (ibl code d ++ more) 4 = (code.length : Int) ∧ wrd (ibl code d ++ more) 8 = d ∧ (ibl code d ++ more).getD 0 0 = 83 ∧ (ibl code d ++ more).getD 1 0 = 69 ∧ (ibl code d ++ more).getD 2 0 = 69 ∧ (ibl code d ++ more).getD 3 0 = 68 := by
  have h := irt_yes hr
  rw [ibl_eq]
  refine ⟨?_, ?_, rfl, rfl, rfl, rfl⟩
  · show (code.length : Int) % 256 + 256 * ((code.length : Int) / 256 % 256) + 65536 * ((code.length : Int) / 65536 % 256) + 16777216 * ((code.length : Int) / 16777216) = _
    omega
  · show d % 256 + 256 * (d / 256 % 256) + 65536 * (d / 65536 % 256) + 16777216 * (d / 16777216) = _
    omega
/-- An image's bytes with more behind are an image's only if there is nothing more. -/
theorem igo_more {code : List Int} {d : Int} (hr : irt code d = true) (more : List Int) : igo (ibl code d ++ more) = decide (more = []) := by
  obtain ⟨h4, h8, g0, g1, g2, g3⟩ := ibl_four hr more
  have h := irt_yes hr
  have hl : (ibl code d ++ more).length = 12 + 4 * code.length + more.length := by rw [List.length_append, ibl_length]
  unfold igo
  rw [h4, h8, g0, g1, g2, g3, hl]
  by_cases hm : more = []
  · subst hm
    simp only [List.length_nil]
    rw [decide_eq_true (show _ ∧ _ from ⟨by omega, trivial, trivial, trivial, trivial, by omega, by omega, by omega⟩)]
    rfl
  · rw [decide_eq_false hm, decide_eq_false]
    rintro ⟨_, _, _, _, _, _, _, h7⟩
    have : more.length = 0 := by omega
    exact hm (List.eq_nil_of_length_eq_zero this)
theorem igo_ibl {code : List Int} {d : Int} (hr : irt code d = true) : igo (ibl code d) = true := by
  have := igo_more hr []
  rwa [List.append_nil, decide_eq_true rfl] at this
theorem icd_ibl {code : List Int} {d : Int} (hw : W32s code) : icd (ibl code d) = code := by
  unfold icd
  rw [ibl_eq]
  exact wdsL_bytsAll code hw
theorem idt_ibl {code : List Int} {d : Int} (hr : irt code d = true) : wrd (ibl code d) 8 = d := by
  have := (ibl_four hr []).2.1
  rwa [List.append_nil] at this
theorem getD_take (l : List Int) (k i : Nat) (h : i < k) : (l.take k).getD i 0 = l.getD i 0 := by
  rw [List.getD_eq_getElem?_getD, List.getD_eq_getElem?_getD, List.getElem?_take_of_lt h]
/-- No part from the front. -/
theorem igo_take {code : List Int} {d : Int} (hr : irt code d = true) {k : Nat} (hk : k < 12 + 4 * code.length) : igo ((ibl code d).take k) = false := by
  unfold igo
  rw [decide_eq_false]
  rintro ⟨h1, _, _, _, _, _, _, h7⟩
  have hl : ((ibl code d).take k).length = k := by rw [List.length_take, ibl_length]; omega
  rw [hl] at h1 h7
  have h4 : wrd ((ibl code d).take k) 4 = (code.length : Int) := by
    have := (ibl_four hr []).1
    rw [List.append_nil] at this
    rw [← this]
    unfold wrd
    rw [getD_take _ _ _ (by omega), getD_take _ _ _ (by omega), getD_take _ _ _ (by omega), getD_take _ _ _ (by omega)]
  rw [h4] at h7
  omega
theorem igo_parts {l : List Int} (h : igo l = true) : 12 ≤ l.length ∧ l.getD 0 0 = 83 ∧ l.getD 1 0 = 69 ∧ l.getD 2 0 = 69 ∧ l.getD 3 0 = 68 ∧ wrd l 4 ≤ 16384 ∧ wrd l 8 ≤ 32768 ∧ (l.length : Int) = 12 + 4 * wrd l 4 := of_decide_eq_true h
theorem wrd_bounds {l : List Int} (hb : ∀ x ∈ l, 0 ≤ x ∧ x < 256) (i : Nat) : 0 ≤ wrd l i ∧ wrd l i < 4294967296 := by
  have g : ∀ j, 0 ≤ l.getD j 0 ∧ l.getD j 0 < 256 := fun j => by
    rw [List.getD_eq_getElem?_getD]
    cases hj : l[j]? with
    | none => simp
    | some x => exact hb x (List.mem_of_getElem? hj)
  have h0 := g i
  have h1 := g (i + 1)
  have h2 := g (i + 2)
  have h3 := g (i + 3)
  unfold wrd
  omega
/-- What is read has just these bytes, and may be. -/
theorem ibl_read {l : List Int} (hb : ∀ x ∈ l, 0 ≤ x ∧ x < 256) (h : igo l = true) : ibl (icd l) (wrd l 8) = l ∧ irt (icd l) (wrd l 8) = true ∧ W32s (icd l) ∧ ((icd l).length : Int) = wrd l 4 := by
  obtain ⟨h1, g0, g1, g2, g3, h5, h6, h7⟩ := igo_parts h
  have hw4 := wrd_bounds hb 4
  have hw8 := wrd_bounds hb 8
  obtain ⟨n, hn⟩ : ∃ n : Nat, wrd l 4 = (n : Int) := ⟨(wrd l 4).toNat, by omega⟩
  match l, h1 with
  | e0 :: e1 :: e2 :: e3 :: e4 :: e5 :: e6 :: e7 :: e8 :: e9 :: e10 :: e11 :: r, _ =>
    have hrl : r.length = 4 * n := by
      rw [hn] at h7
      simp only [List.length_cons] at h7
      omega
    have hrb : ∀ x ∈ r, 0 ≤ x ∧ x < 256 := fun x hx => hb x (by simp [hx])
    have hc : icd (e0 :: e1 :: e2 :: e3 :: e4 :: e5 :: e6 :: e7 :: e8 :: e9 :: e10 :: e11 :: r) = wdsL r := rfl
    have hcl : (wdsL r).length = n := length_wdsL n r hrl
    have b4 := hb e4 (by simp)
    have b5 := hb e5 (by simp)
    have b6 := hb e6 (by simp)
    have b7 := hb e7 (by simp)
    have b8 := hb e8 (by simp)
    have b9 := hb e9 (by simp)
    have b10 := hb e10 (by simp)
    have b11 := hb e11 (by simp)
    have w4 : wrd (e0 :: e1 :: e2 :: e3 :: e4 :: e5 :: e6 :: e7 :: e8 :: e9 :: e10 :: e11 :: r) 4 = e4 + 256 * e5 + 65536 * e6 + 16777216 * e7 := rfl
    have w8 : wrd (e0 :: e1 :: e2 :: e3 :: e4 :: e5 :: e6 :: e7 :: e8 :: e9 :: e10 :: e11 :: r) 8 = e8 + 256 * e9 + 65536 * e10 + 16777216 * e11 := rfl
    have d0 : e0 = 83 := g0
    have d1 : e1 = 69 := g1
    have d2 : e2 = 69 := g2
    have d3 : e3 = 68 := g3
    rw [hc, w8]
    rw [w4] at hn h5
    rw [w8] at h6
    refine ⟨?_, ?_, wdsL_word n r hrl hrb, ?_⟩
    · rw [ibl_eq, hcl, bytsAll_wdsL n r hrl hrb, d0, d1, d2, d3, ← hn]
      have f : ∀ a b c d : Int, 0 ≤ a ∧ a < 256 → 0 ≤ b ∧ b < 256 → 0 ≤ c ∧ c < 256 → 0 ≤ d ∧ d < 256 → (a + 256 * b + 65536 * c + 16777216 * d) % 256 = a ∧ (a + 256 * b + 65536 * c + 16777216 * d) / 256 % 256 = b ∧ (a + 256 * b + 65536 * c + 16777216 * d) / 65536 % 256 = c ∧ (a + 256 * b + 65536 * c + 16777216 * d) / 16777216 = d := by
        intro a b c d ha hb hc hd; omega
      obtain ⟨q0, q1, q2, q3⟩ := f e4 e5 e6 e7 b4 b5 b6 b7
      obtain ⟨p0, p1, p2, p3⟩ := f e8 e9 e10 e11 b8 b9 b10 b11
      rw [q0, q1, q2, q3, p0, p1, p2, p3]
    · unfold irt
      rw [hcl, decide_eq_true (show n ≤ 16384 by omega), decide_eq_true (by omega), decide_eq_true (by omega)]; rfl
    · rw [hcl, w4, hn]
theorem ibl_inj {c1 c2 : List Int} {d1 d2 : Int} (h1 : irt c1 d1 = true) (h2 : irt c2 d2 = true) (w1 : W32s c1) (w2 : W32s c2) (h : ibl c1 d1 = ibl c2 d2) : c1 = c2 ∧ d1 = d2 := by
  have a := icd_ibl (d := d1) w1
  have b := icd_ibl (d := d2) w2
  have c := idt_ibl h1
  have d := idt_ibl h2
  rw [h] at a c
  exact ⟨a.symm.trans b, c.symm.trans d⟩
/-- No image begins another one. -/
theorem ibl_prefix {c1 c2 : List Int} {d1 d2 : Int} (h1 : irt c1 d1 = true) (h2 : irt c2 d2 = true) (w1 : W32s c1) (w2 : W32s c2) (more : List Int) (h : ibl c1 d1 ++ more = ibl c2 d2) : c1 = c2 ∧ d1 = d2 := by
  have g := igo_ibl h2
  rw [← h, igo_more h1] at g
  obtain rfl : more = [] := of_decide_eq_true g
  rw [List.append_nil] at h
  exact ibl_inj h1 h2 w1 w2 h
end Go.Proofs.Ytmifiadkhmglmaa
