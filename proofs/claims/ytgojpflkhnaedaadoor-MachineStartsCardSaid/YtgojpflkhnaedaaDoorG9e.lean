/- Words, and the reference's: the words whose bytes a string is. Images as plain lists: which may be, their bytes, what bytes are read as; and what follows. Layer 8 (image): the contract of Right over the program's code; slices.Equal of words. -/
import Derived.Test.YtgojpflkhnaedaaDoorBytes
import Derived.Test.YtgojpflkhnaedaaDoorG9b
import Derived.Deep.RegionHeld3
set_option linter.unusedVariables false
namespace Go.Proofs.YtgojpflkhnaedaaDoor
open Go.RowKit


/-- A string's bytes as numbers. -/
def nums (s : ByteArray) : List Int := s.data.toList.map fun c => (c.toNat : Int)
theorem length_nums (s : ByteArray) : (nums s).length = s.size := by simp [nums]
theorem nums_getD (s : ByteArray) (i : Nat) (h : i < s.size) : (nums s).getD i 0 = (s[i].toNat : Int) := by
  simp [nums, List.getD, h]
  rfl
def wdsL : List Int → List Int
  | a :: b :: c :: d :: r => (a + b * 256 + (c + d * 256) * 65536) :: wdsL r
  | _ => []
theorem length_wdsL : ∀ (m : Nat) (l : List Int), l.length = 4 * m → (wdsL l).length = m
  | 0, l, h => by
    have : l = [] := List.length_eq_zero_iff.1 (by omega)
    subst this; rfl
  | m + 1, a :: b :: c :: d :: r, h => by
    simp only [wdsL, List.length_cons]
    rw [length_wdsL m r (by simp at h; omega)]
  | m + 1, [], h => by simp at h
  | m + 1, [_], h => by simp at h; omega
  | m + 1, [_, _], h => by simp at h; omega
  | m + 1, [_, _, _], h => by simp at h; omega
theorem wdsL_getD : ∀ (k : Nat) (l : List Int), 4 * k + 3 < l.length → (wdsL l).getD k 0 = l.getD (4 * k) 0 + l.getD (4 * k + 1) 0 * 256 + (l.getD (4 * k + 2) 0 + l.getD (4 * k + 3) 0 * 256) * 65536
  | 0, a :: b :: c :: d :: r, h => by simp [wdsL]
  | k + 1, a :: b :: c :: d :: r, h => by
    have := wdsL_getD k r (by simp at h; omega)
    simpa [wdsL, Nat.mul_add, Nat.add_assoc, List.getD] using this
  | _, [], h => by simp at h
  | _, [_], h => by simp at h
  | _, [_, _], h => by simp at h; omega
  | _, [_, _, _], h => by simp at h; omega
theorem bytsAll_wdsL : ∀ (m : Nat) (l : List Int), l.length = 4 * m → (∀ x ∈ l, 0 ≤ x ∧ x < 256) → bytsAll (wdsL l) = l
  | 0, l, h, _ => by
    have : l = [] := List.length_eq_zero_iff.1 (by omega)
    subst this; rfl
  | m + 1, a :: b :: c :: d :: r, h, hb => by
    have ih := bytsAll_wdsL m r (by simp at h; omega) (fun x hx => hb x (by simp [hx]))
    have h1 := hb a (by simp)
    have h2 := hb b (by simp)
    have h3 := hb c (by simp)
    have h4 := hb d (by simp)
    simp only [wdsL, bytsAll, byts, ih]
    rw [show (a + b * 256 + (c + d * 256) * 65536) % 256 = a by omega, show (a + b * 256 + (c + d * 256) * 65536) / 256 % 256 = b by omega,
      show (a + b * 256 + (c + d * 256) * 65536) / 65536 % 256 = c by omega, show (a + b * 256 + (c + d * 256) * 65536) / 16777216 = d by omega]
    rfl
  | m + 1, [], h, _ => by simp at h
  | m + 1, [_], h, _ => by simp at h; omega
  | m + 1, [_, _], h, _ => by simp at h; omega
  | m + 1, [_, _, _], h, _ => by simp at h; omega
theorem wdsL_bytsAll : ∀ (zs : List Int), (∀ z ∈ zs, 0 ≤ z ∧ z < 4294967296) → wdsL (bytsAll zs) = zs
  | [], _ => rfl
  | z :: r, h => by
    have ih := wdsL_bytsAll r (fun x hx => h x (by simp [hx]))
    have h1 := h z (by simp)
    simp only [bytsAll, byts, List.cons_append, List.nil_append, wdsL, ih]
    congr 1
    omega
theorem nums_byte (s : ByteArray) : ∀ x ∈ nums s, 0 ≤ x ∧ x < 256 := by
  intro x hx
  simp only [nums, List.mem_map] at hx
  obtain ⟨c, _, rfl⟩ := hx
  have := c.toNat_lt
  omega
theorem nums_strOfNums (xs : List Int) (h : ∀ x ∈ xs, 0 ≤ x ∧ x < 256) : nums (strOfNums xs) = xs := by
  simp only [nums, strOfNums, List.map_map]
  conv => rhs; rw [← List.map_id xs]
  apply List.map_congr_left
  intro x hx
  have := h x hx
  simp
  omega
theorem strOfNums_nums (s : ByteArray) : strOfNums (nums s) = s := by
  apply ByteArray.ext
  simp only [strOfNums, nums, List.map_map]
  apply Array.toList_inj.1
  conv => rhs; rw [← List.map_id s.data.toList]
  apply List.map_congr_left
  intro c _
  simp
theorem bytsAll_byte : ∀ (zs : List Int), (∀ z ∈ zs, 0 ≤ z ∧ z < 4294967296) → ∀ x ∈ bytsAll zs, 0 ≤ x ∧ x < 256
  | [], _ => by intro x hx; simp [bytsAll] at hx
  | z :: r, h => by
    intro x hx
    have h1 := h z (by simp)
    simp only [bytsAll, byts, List.cons_append, List.nil_append, List.mem_cons] at hx
    rcases hx with rfl | rfl | rfl | rfl | hx
    · omega
    · omega
    · omega
    · omega
    · exact bytsAll_byte r (fun x hx => h x (by simp [hx])) x hx
theorem wdsL_word : ∀ (m : Nat) (l : List Int), l.length = 4 * m → (∀ x ∈ l, 0 ≤ x ∧ x < 256) → ∀ z ∈ wdsL l, 0 ≤ z ∧ z < 4294967296
  | 0, l, h, _ => by
    have : l = [] := List.length_eq_zero_iff.1 (by omega)
    subst this; intro z hz; simp [wdsL] at hz
  | m + 1, a :: b :: c :: d :: r, h, hb => by
    have ih := wdsL_word m r (by simp at h; omega) (fun x hx => hb x (by simp [hx]))
    have h1 := hb a (by simp)
    have h2 := hb b (by simp)
    have h3 := hb c (by simp)
    have h4 := hb d (by simp)
    intro z hz
    simp only [wdsL, List.mem_cons] at hz
    rcases hz with rfl | hz
    · omega
    · exact ih z hz
  | m + 1, [], h, _ => by simp at h
  | m + 1, [_], h, _ => by simp at h; omega
  | m + 1, [_, _], h, _ => by simp at h; omega
  | m + 1, [_, _, _], h, _ => by simp at h; omega
end Go.Proofs.YtgojpflkhnaedaaDoor
set_option linter.unusedVariables false
namespace Go.Proofs.YtgojpflkhnaedaaDoor
open Go.RowKit

/-- May it be? Its bytes, as numbers, as a text. -/
def irt (code : List Int) (d : Int) : Bool := decide (code.length ≤ 16384) && decide (0 ≤ d) && decide (d ≤ 32768)
def ibl (code : List Int) (d : Int) : List Int := [83, 69, 69, 68] ++ (bytsAll [(code.length : Int), d] ++ bytsAll code)
def ibs (code : List Int) (d : Int) : ByteArray := strOfNums (ibl code d)
/-- The word from a place on; is it an image's bytes; its code, its Data. -/
def wrd (l : List Int) (i : Nat) : Int := l.getD i 0 + 256 * l.getD (i + 1) 0 + 65536 * l.getD (i + 2) 0 + 16777216 * l.getD (i + 3) 0
def igo (l : List Int) : Bool := decide (12 ≤ l.length ∧ l.getD 0 0 = 83 ∧ l.getD 1 0 = 69 ∧ l.getD 2 0 = 69 ∧ l.getD 3 0 = 68 ∧ wrd l 4 ≤ 16384 ∧ wrd l 8 ≤ 32768 ∧ (l.length : Int) = 12 + 4 * wrd l 4)
def icd (l : List Int) : List Int := wdsL (l.drop 12)
theorem irt_yes {code : List Int} {d : Int} (h : irt code d = true) : code.length ≤ 16384 ∧ 0 ≤ d ∧ d ≤ 32768 := by
  simpa [irt, and_assoc] using h
theorem ibl_eq (code : List Int) (d : Int) : ibl code d = 83 :: 69 :: 69 :: 68 :: ((code.length : Int) % 256) :: ((code.length : Int) / 256 % 256) :: ((code.length : Int) / 65536 % 256) :: ((code.length : Int) / 16777216) :: (d % 256) :: (d / 256 % 256) :: (d / 65536 % 256) :: (d / 16777216) :: bytsAll code := rfl
theorem ibl_length (code : List Int) (d : Int) : (ibl code d).length = 12 + 4 * code.length := by
  rw [ibl_eq]
  simp [length_bytsAll]; omega
theorem ibl_byte {code : List Int} {d : Int} (hr : irt code d = true) (hw : W32s code) : ∀ x ∈ ibl code d, 0 ≤ x ∧ x < 256 := by
  have h := irt_yes hr
  intro x hx
  rw [ibl_eq] at hx
  simp only [List.mem_cons] at hx
  rcases hx with rfl | rfl | rfl | rfl | rfl | rfl | rfl | rfl | rfl | rfl | rfl | rfl | hx
  all_goals first | omega | exact bytsAll_byte code hw x hx
theorem ibl_four {code : List Int} {d : Int} (hr : irt code d = true) (more : List Int) : wrd (ibl code d ++ more) 4 = (code.length : Int) ∧ wrd (ibl code d ++ more) 8 = d ∧ (ibl code d ++ more).getD 0 0 = 83 ∧ (ibl code d ++ more).getD 1 0 = 69 ∧ (ibl code d ++ more).getD 2 0 = 69 ∧ (ibl code d ++ more).getD 3 0 = 68 := by
  have h := irt_yes hr
  rw [ibl_eq]
  refine ⟨?_, ?_, rfl, rfl, rfl, rfl⟩
  · show (code.length : Int) % 256 + 256 * ((code.length : Int) / 256 % 256) + 65536 * ((code.length : Int) / 65536 % 256) + 16777216 * ((code.length : Int) / 16777216) = _
    omega
  · show d % 256 + 256 * (d / 256 % 256) + 65536 * (d / 65536 % 256) + 16777216 * (d / 16777216) = _
    omega
/-- An image's bytes with more behind are an image's only if there is nothing more. -/
theorem igo_more {code : List Int} {d : Int} (hr : irt code d = true) (more : List Int) : igo (ibl code d ++ more) = decide (more = []) := by
  obtain ⟨h4, h8, g0, g1, g2, g3⟩ := ibl_four hr more
  have h := irt_yes hr
  have hl : (ibl code d ++ more).length = 12 + 4 * code.length + more.length := by rw [List.length_append, ibl_length]
  unfold igo
  rw [h4, h8, g0, g1, g2, g3, hl]
  by_cases hm : more = []
  · subst hm
    simp only [List.length_nil]
    rw [decide_eq_true (show _ ∧ _ from ⟨by omega, trivial, trivial, trivial, trivial, by omega, by omega, by omega⟩)]
    rfl
  · rw [decide_eq_false hm, decide_eq_false]
    rintro ⟨_, _, _, _, _, _, _, h7⟩
    have : more.length = 0 := by omega
    exact hm (List.eq_nil_of_length_eq_zero this)
theorem igo_ibl {code : List Int} {d : Int} (hr : irt code d = true) : igo (ibl code d) = true := by
  have := igo_more hr []
  rwa [List.append_nil, decide_eq_true rfl] at this
theorem icd_ibl {code : List Int} {d : Int} (hw : W32s code) : icd (ibl code d) = code := by
  unfold icd
  rw [ibl_eq]
  exact wdsL_bytsAll code hw
theorem idt_ibl {code : List Int} {d : Int} (hr : irt code d = true) : wrd (ibl code d) 8 = d := by
  have := (ibl_four hr []).2.1
  rwa [List.append_nil] at this
theorem getD_take (l : List Int) (k i : Nat) (h : i < k) : (l.take k).getD i 0 = l.getD i 0 := by
  rw [List.getD_eq_getElem?_getD, List.getD_eq_getElem?_getD, List.getElem?_take_of_lt h]
/-- No part from the front. -/
theorem igo_take {code : List Int} {d : Int} (hr : irt code d = true) {k : Nat} (hk : k < 12 + 4 * code.length) : igo ((ibl code d).take k) = false := by
  unfold igo
  rw [decide_eq_false]
  rintro ⟨h1, _, _, _, _, _, _, h7⟩
  have hl : ((ibl code d).take k).length = k := by rw [List.length_take, ibl_length]; omega
  rw [hl] at h1 h7
  have h4 : wrd ((ibl code d).take k) 4 = (code.length : Int) := by
    have := (ibl_four hr []).1
    rw [List.append_nil] at this
    rw [← this]
    unfold wrd
    rw [getD_take _ _ _ (by omega), getD_take _ _ _ (by omega), getD_take _ _ _ (by omega), getD_take _ _ _ (by omega)]
  rw [h4] at h7
  omega
theorem igo_parts {l : List Int} (h : igo l = true) : 12 ≤ l.length ∧ l.getD 0 0 = 83 ∧ l.getD 1 0 = 69 ∧ l.getD 2 0 = 69 ∧ l.getD 3 0 = 68 ∧ wrd l 4 ≤ 16384 ∧ wrd l 8 ≤ 32768 ∧ (l.length : Int) = 12 + 4 * wrd l 4 := of_decide_eq_true h
theorem wrd_bounds {l : List Int} (hb : ∀ x ∈ l, 0 ≤ x ∧ x < 256) (i : Nat) : 0 ≤ wrd l i ∧ wrd l i < 4294967296 := by
  have g : ∀ j, 0 ≤ l.getD j 0 ∧ l.getD j 0 < 256 := fun j => by
    rw [List.getD_eq_getElem?_getD]
    cases hj : l[j]? with
    | none => simp
    | some x => exact hb x (List.mem_of_getElem? hj)
  have h0 := g i
  have h1 := g (i + 1)
  have h2 := g (i + 2)
  have h3 := g (i + 3)
  unfold wrd
  omega
/-- What is read has just these bytes, and may be. -/
theorem ibl_read {l : List Int} (hb : ∀ x ∈ l, 0 ≤ x ∧ x < 256) (h : igo l = true) : ibl (icd l) (wrd l 8) = l ∧ irt (icd l) (wrd l 8) = true ∧ W32s (icd l) ∧ ((icd l).length : Int) = wrd l 4 := by
  obtain ⟨h1, g0, g1, g2, g3, h5, h6, h7⟩ := igo_parts h
  have hw4 := wrd_bounds hb 4
  have hw8 := wrd_bounds hb 8
  obtain ⟨n, hn⟩ : ∃ n : Nat, wrd l 4 = (n : Int) := ⟨(wrd l 4).toNat, by omega⟩
  match l, h1 with
  | e0 :: e1 :: e2 :: e3 :: e4 :: e5 :: e6 :: e7 :: e8 :: e9 :: e10 :: e11 :: r, _ =>
    have hrl : r.length = 4 * n := by
      rw [hn] at h7
      simp only [List.length_cons] at h7
      omega
    have hrb : ∀ x ∈ r, 0 ≤ x ∧ x < 256 := fun x hx => hb x (by simp [hx])
    have hc : icd (e0 :: e1 :: e2 :: e3 :: e4 :: e5 :: e6 :: e7 :: e8 :: e9 :: e10 :: e11 :: r) = wdsL r := rfl
    have hcl : (wdsL r).length = n := length_wdsL n r hrl
    have b4 := hb e4 (by simp)
    have b5 := hb e5 (by simp)
    have b6 := hb e6 (by simp)
    have b7 := hb e7 (by simp)
    have b8 := hb e8 (by simp)
    have b9 := hb e9 (by simp)
    have b10 := hb e10 (by simp)
    have b11 := hb e11 (by simp)
    have w4 : wrd (e0 :: e1 :: e2 :: e3 :: e4 :: e5 :: e6 :: e7 :: e8 :: e9 :: e10 :: e11 :: r) 4 = e4 + 256 * e5 + 65536 * e6 + 16777216 * e7 := rfl
    have w8 : wrd (e0 :: e1 :: e2 :: e3 :: e4 :: e5 :: e6 :: e7 :: e8 :: e9 :: e10 :: e11 :: r) 8 = e8 + 256 * e9 + 65536 * e10 + 16777216 * e11 := rfl
    have d0 : e0 = 83 := g0
    have d1 : e1 = 69 := g1
    have d2 : e2 = 69 := g2
    have d3 : e3 = 68 := g3
    rw [hc, w8]
    rw [w4] at hn h5
    rw [w8] at h6
    refine ⟨?_, ?_, wdsL_word n r hrl hrb, ?_⟩
    · rw [ibl_eq, hcl, bytsAll_wdsL n r hrl hrb, d0, d1, d2, d3, ← hn]
      have f : ∀ a b c d : Int, 0 ≤ a ∧ a < 256 → 0 ≤ b ∧ b < 256 → 0 ≤ c ∧ c < 256 → 0 ≤ d ∧ d < 256 → (a + 256 * b + 65536 * c + 16777216 * d) % 256 = a ∧ (a + 256 * b + 65536 * c + 16777216 * d) / 256 % 256 = b ∧ (a + 256 * b + 65536 * c + 16777216 * d) / 65536 % 256 = c ∧ (a + 256 * b + 65536 * c + 16777216 * d) / 16777216 = d := by
        intro a b c d ha hb hc hd; omega
      obtain ⟨q0, q1, q2, q3⟩ := f e4 e5 e6 e7 b4 b5 b6 b7
      obtain ⟨p0, p1, p2, p3⟩ := f e8 e9 e10 e11 b8 b9 b10 b11
      rw [q0, q1, q2, q3, p0, p1, p2, p3]
    · unfold irt
      rw [hcl, decide_eq_true (show n ≤ 16384 by omega), decide_eq_true (by omega), decide_eq_true (by omega)]; rfl
    · rw [hcl, w4, hn]
theorem ibl_inj {c1 c2 : List Int} {d1 d2 : Int} (h1 : irt c1 d1 = true) (h2 : irt c2 d2 = true) (w1 : W32s c1) (w2 : W32s c2) (h : ibl c1 d1 = ibl c2 d2) : c1 = c2 ∧ d1 = d2 := by
  have a := icd_ibl (d := d1) w1
  have b := icd_ibl (d := d2) w2
  have c := idt_ibl h1
  have d := idt_ibl h2
  rw [h] at a c
  exact ⟨a.symm.trans b, c.symm.trans d⟩
/-- No image begins another one. -/
theorem ibl_prefix {c1 c2 : List Int} {d1 d2 : Int} (h1 : irt c1 d1 = true) (h2 : irt c2 d2 = true) (w1 : W32s c1) (w2 : W32s c2) (more : List Int) (h : ibl c1 d1 ++ more = ibl c2 d2) : c1 = c2 ∧ d1 = d2 := by
  have g := igo_ibl h2
  rw [← h, igo_more h1] at g
  obtain rfl : more = [] := of_decide_eq_true g
  rw [List.append_nil] at h
  exact ibl_inj h1 h2 w1 w2 h
end Go.Proofs.YtgojpflkhnaedaaDoor
set_option linter.unusedVariables false
namespace Go.Proofs.YtgojpflkhnaedaaDoor
open Go.RowKit

set_option maxHeartbeats 1000000 in
theorem right8 {A : Option Addr} {n c : Nat} {d : Int} (code : List Int) (w : World) (hn : code.length = n) (hn2 : n ≤ 9223372036854775807) :
    Calls Tryd.prog 21 #[.agg #[.slice A n c, .int .i64 d]] w fun e w' => e = .returned (.bool (irt code d)) ∧ Below w.heap.size w w' := by
  have HK := Lib.hid ((Kx.nil none w).more (.cells #[.slice A n c, .int .i64 d] 24 (0, 0)))
  obtain ⟨a0, a1, _⟩ := cells2 (HK.out.at 0 rfl)
  by_cases h1 : code.length ≤ 16384
  · have i1 : (n : Int) ≤ 16384 := by omega
    by_cases h2 : 0 ≤ d
    · by_cases h3 : d ≤ 32768
      · have e : irt code d = true := by simp [irt, h1, h2, h3]
        rw [e]
        go_enter Tryd.func21, Tryd.ntmps21
        go_wp2_with fail
        go_ret
        exact ⟨rfl, HK.out.be.plain⟩
      · have e : irt code d = false := by simp [irt, h3]
        have i3 : decide (d ≤ 32768) = false := decide_eq_false h3
        rw [e]
        go_enter Tryd.func21, Tryd.ntmps21
        go_wp2_with fail
        go_ret
        exact ⟨rfl, HK.out.be.plain⟩
    · have e : irt code d = false := by simp [irt, h2]
      have i2 : decide (0 ≤ d) = false := decide_eq_false h2
      rw [e]
      go_enter Tryd.func21, Tryd.ntmps21
      go_wp2_with fail
      go_ret
      exact ⟨rfl, HK.out.be.plain⟩
  · have e : irt code d = false := by simp [irt, h1]
    have i1 : decide ((n : Int) ≤ 16384) = false := decide_eq_false (by omega)
    rw [e]
    go_enter Tryd.func21, Tryd.ntmps21
    go_wp2_with fail
    go_ret
    exact ⟨rfl, HK.out.be.plain⟩
set_option maxRecDepth 100000 in
set_option maxHeartbeats 2000000 in
/-- slices.Equal of two slices of words. -/
theorem equal8 {A B : Option Addr} {n c m e : Nat} {k1 k2 : List Int} (w : World) (ha : Rd w A n k1) (hb : Rd w B m k2) (hn : n ≤ 1073741824) (hm : m ≤ 1073741824) :
    Calls Tryd.prog 32 #[.slice A n c, .slice B m e] w fun en w' => en = .returned (.bool (decide (k1 = k2))) ∧ Below w.heap.size w w' := by
  have hl1 := ha.1
  have hl2 := hb.1
  by_cases hnm : n = m
  · subst hnm
    have HA := Lib.hid ha
    have HB := Lib.hid hb
    have HL1 := Lib.hid hl1
    have HL2 := Lib.hid hl2
    have HR : Hid (decide (k1 = k2) = decide (k1.drop 0 = k2.drop 0)) := Lib.hid (by simp)
    obtain ⟨r, hr⟩ : ∃ r : Bool, decide (k1 = k2) = r := ⟨_, rfl⟩
    rw [hr] at HR ⊢
    clear ha hb hl1 hl2 hr
    go_enter Tryd.func32, Tryd.ntmps32
    go_wp2_with fail
    go_loopw [13] (fun v wr => ∃ k : Nat, k ≤ n ∧ v = .int .i64 (k : Int) ∧ Hid (r = decide (k1.drop k = k2.drop k)) ∧ Hid (Below w.heap.size w wr)) (fun v _ => n - (intOf v).toNat)
    case atStart => exact ⟨0, Nat.zero_le _, rfl, HR, Lib.hid (Below.refl _ _)⟩
    case round =>
      clear HR
      obtain ⟨k, hk, rfl, HR, HK⟩ := hrel
      by_cases hlt : k < n
      · have i0 : (0 : Int) ≤ (k : Int) := by omega
        have i1 : (k : Int) < (n : Int) := by omega
        obtain ⟨p, o, rfl, x1⟩ := (HA.out.below HK.out).cell hlt
        obtain ⟨q, o2, rfl, x2⟩ := (HB.out.below HK.out).cell hlt
        have hx := HR.out
        rw [drop_eq (l := k1) (k := k) (by rw [HL1.out]; exact hlt), drop_eq (l := k2) (k := k) (by rw [HL2.out]; exact hlt)] at hx
        obtain ⟨x, ex⟩ : ∃ x, k1.getD k 0 = x := ⟨_, rfl⟩
        obtain ⟨y, ey⟩ : ∃ y, k2.getD k 0 = y := ⟨_, rfl⟩
        rw [ex, ey] at hx
        rw [ex] at x1
        rw [ey] at x2
        clear ex ey
        by_cases hxy : x = y
        · subst hxy
          have HX : Hid (r = decide (k1.drop (k + 1) = k2.drop (k + 1))) := Lib.hid (by rw [hx]; simp)
          clear hx
          go_wp2_with fail
          go_region
          go_wp2_with fail
          go_roundw
          case rel => exact ⟨k + 1, by omega, by go_num, HX, Lib.hid HK.out.drew⟩
          case measure => simp [intOf]; omega
        · have e1 : (x != y) = true := by rw [bne_iff_ne]; exact hxy
          have HX : Hid (r = false) := Lib.hid (by rw [hx]; simp [hxy])
          clear hx hxy
          go_wp2_with fail
          go_region
          go_wp2_with fail
          go_ret
          exact ⟨ret_bool HX.out.symm, HK.out.drew⟩
      · obtain rfl : k = n := by omega
        have hx := HR.out
        rw [List.drop_eq_nil_of_le (by rw [HL1.out]; omega), List.drop_eq_nil_of_le (by rw [HL2.out]; omega)] at hx
        have HX : Hid (r = true) := Lib.hid (by rw [hx]; simp)
        have u1 : ¬ (k : Int) < (k : Int) := by omega
        clear hx
        go_wp2_with fail
        go_ret
        exact ⟨ret_bool HX.out.symm, HK.out⟩
  · have e1 : ((n : Int) != (m : Int)) = true := by rw [bne_iff_ne]; omega
    rw [decide_eq_false (show ¬ (k1 = k2) from fun h => hnm (by rw [← hl1, ← hl2, h]))]
    clear ha hb hl1 hl2 hnm
    go_enter Tryd.func32, Tryd.ntmps32
    go_wp2_with fail
    go_ret
    exact ⟨rfl, Below.refl _ _⟩
end Go.Proofs.YtgojpflkhnaedaaDoor
