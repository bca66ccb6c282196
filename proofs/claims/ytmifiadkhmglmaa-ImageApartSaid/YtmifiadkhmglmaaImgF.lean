/- The reference of layer 8: the contract of Read where the bytes are no image's. -/
import Derived.Test.YtmifiadkhmglmaaImgE
set_option linter.unusedVariables false
namespace Go.Proofs.Ytmifiadkhmglmaa
open Go.RowKit

theorem imv_nil (w : World) : ImV w (.agg #[.slice none 0 0, .int .i64 0]) [] 0 := ⟨none, 0, 0, rfl, ⟨rfl, .inl rfl, fun j => by simp⟩, Nat.le_refl _, by unfold maxLen; omega⟩
theorem byte_ne {c : UInt8} {k : Int} (h : ¬ (c.toNat : Int) = k) : ((c.toNat : Int) == k) = false := by rw [beq_eq_false_iff_ne]; exact h
theorem byte_is {c : UInt8} {k : Int} (h : (c.toNat : Int) = k) : ((c.toNat : Int) == k) = true := by rw [beq_iff_eq]; exact h
set_option maxRecDepth 100000 in
set_option maxHeartbeats 4000000 in
theorem read8_no (s : ByteArray) (w : World) (hs : s.size ≤ 1073741824) (hi : igo (nums s) = false) :
    Calls Try.prog 18 #[.string s] w fun e w' => ∃ v, e = .returned (.tuple #[v, .int .i64 7]) ∧ ImV w' v [] 0 ∧ Below w.heap.size w w' := by
  have hl := length_nums s
  have hno := of_decide_eq_false hi
  rw [hl] at hno
  have HK := Lib.hid ((Kx.nil none w).more (.cells #[.slice none 0 0, .int .i64 0] 24 (0, 0)))
  by_cases h1 : 12 ≤ s.size
  · have u1 : ¬ (s.size : Int) < 12 := by omega
    have j0 : 0 < s.size := by omega
    have j1 : 1 < s.size := by omega
    have j2 : 2 < s.size := by omega
    have j3 : 3 < s.size := by omega
    rw [nums_getD s 0 j0, nums_getD s 1 j1, nums_getD s 2 j2, nums_getD s 3 j3] at hno
    obtain ⟨c0, hc0⟩ : ∃ c, s[0]'j0 = c := ⟨_, rfl⟩
    obtain ⟨c1, hc1⟩ : ∃ c, s[1]'j1 = c := ⟨_, rfl⟩
    obtain ⟨c2, hc2⟩ : ∃ c, s[2]'j2 = c := ⟨_, rfl⟩
    obtain ⟨c3, hc3⟩ : ∃ c, s[3]'j3 = c := ⟨_, rfl⟩
    rw [hc0, hc1, hc2, hc3] at hno
    have hw4 := wrd_bounds (nums_byte s) 4
    have hw8 := wrd_bounds (nums_byte s) 8
    obtain ⟨n, hn⟩ : ∃ n : Nat, wrd (nums s) 4 = (n : Int) := ⟨(wrd (nums s) 4).toNat, by omega⟩
    have c4 := fun w => word8_ref s 4 w (by omega) hs
    have c8 := fun w => word8_ref s 8 w (by omega) hs
    obtain ⟨d, hd⟩ : ∃ d : Int, wrd (nums s) 8 = d := ⟨_, rfl⟩
    rw [hn] at c4 hno hw4
    rw [hd] at c8 hno hw8
    have C4 := Lib.hid c4
    have C8 := Lib.hid c8
    clear c4 c8 hn hd hl hi
    by_cases g0 : (c0.toNat : Int) = 83
    · have e0 := byte_is g0
      by_cases g1 : (c1.toNat : Int) = 69
      · have e1 := byte_is g1
        by_cases g2 : (c2.toNat : Int) = 69
        · have e2 := byte_is g2
          by_cases g3 : (c3.toNat : Int) = 68
          · have e3 := byte_is g3
            have z1 : IntKind.i64.wrap (n : Int) = (n : Int) := by rw [IntKind.wrap_i64]; omega
            by_cases g4 : (n : Int) ≤ 16384
            · have e4 : decide ((16384 : Int) < (n : Int)) = false := decide_eq_false (by omega)
              by_cases g5 : d ≤ 32768
              · have e5 : decide ((32768 : Int) < d) = false := decide_eq_false (by omega)
                have e6 : ((s.size : Int) == 12 + 4 * (n : Int)) = false := by
                  rw [beq_eq_false_iff_ne]
                  exact fun h => hno ⟨h1, g0, g1, g2, g3, g4, g5, h⟩
                clear hno hw4 hw8
                go_enter Try.func18, Try.ntmps18
                go_wp2_with fail
                refine (C4.out _).mono ?_
                rintro e w1 ⟨rfl, hb⟩
                replace HK := Lib.hid (HK.out.after hb)
                clear hb
                go_wp2_with fail
                refine (C8.out _).mono ?_
                rintro e w2 ⟨rfl, hb⟩
                replace HK := Lib.hid (HK.out.after hb)
                clear hb
                obtain ⟨a0, a1, a2, a3⟩ := cells2 (HK.out.at 0 rfl)
                have HF := Lib.hid (HK.out.put2 0 rfl (.inr (Nat.le_refl _)) (.slice none 0 0) (.int .i64 0))
                go_wp2_with fail
                exact bodyPost_ret (v := .tuple #[.agg #[.slice none 0 0, .int .i64 0], .int .i64 7]) (by
                  obtain ⟨k0, k1, _⟩ := cells2 (HF.out.at 0 rfl)
                  simp [results, go_sem, k0, k1]) rfl ⟨_, rfl, imv_nil _, HF.out.be.plain⟩
              · have e5 : decide ((32768 : Int) < d) = true := decide_eq_true (by omega)
                clear hno hw4 hw8
                go_enter Try.func18, Try.ntmps18
                go_wp2_with fail
                refine (C4.out _).mono ?_
                rintro e w1 ⟨rfl, hb⟩
                replace HK := Lib.hid (HK.out.after hb)
                clear hb
                go_wp2_with fail
                refine (C8.out _).mono ?_
                rintro e w2 ⟨rfl, hb⟩
                replace HK := Lib.hid (HK.out.after hb)
                clear hb
                obtain ⟨a0, a1, a2, a3⟩ := cells2 (HK.out.at 0 rfl)
                have HF := Lib.hid (HK.out.put2 0 rfl (.inr (Nat.le_refl _)) (.slice none 0 0) (.int .i64 0))
                go_wp2_with fail
                exact bodyPost_ret (v := .tuple #[.agg #[.slice none 0 0, .int .i64 0], .int .i64 7]) (by
                  obtain ⟨k0, k1, _⟩ := cells2 (HF.out.at 0 rfl)
                  simp [results, go_sem, k0, k1]) rfl ⟨_, rfl, imv_nil _, HF.out.be.plain⟩
            · have e4 : decide ((16384 : Int) < (n : Int)) = true := decide_eq_true (by omega)
              clear hno hw4 hw8
              go_enter Try.func18, Try.ntmps18
              go_wp2_with fail
              refine (C4.out _).mono ?_
              rintro e w1 ⟨rfl, hb⟩
              replace HK := Lib.hid (HK.out.after hb)
              clear hb
              go_wp2_with fail
              refine (C8.out _).mono ?_
              rintro e w2 ⟨rfl, hb⟩
              replace HK := Lib.hid (HK.out.after hb)
              clear hb
              obtain ⟨a0, a1, a2, a3⟩ := cells2 (HK.out.at 0 rfl)
              have HF := Lib.hid (HK.out.put2 0 rfl (.inr (Nat.le_refl _)) (.slice none 0 0) (.int .i64 0))
              go_wp2_with fail
              exact bodyPost_ret (v := .tuple #[.agg #[.slice none 0 0, .int .i64 0], .int .i64 7]) (by
                obtain ⟨k0, k1, _⟩ := cells2 (HF.out.at 0 rfl)
                simp [results, go_sem, k0, k1]) rfl ⟨_, rfl, imv_nil _, HF.out.be.plain⟩
          · have e3 := byte_ne g3
            have HF := HK
            clear hno hw4 hw8
            obtain ⟨a0, a1, a2, a3⟩ := cells2 (HK.out.at 0 rfl)
            go_enter Try.func18, Try.ntmps18
            go_wp2_with fail
            exact bodyPost_ret (v := .tuple #[.agg #[.slice none 0 0, .int .i64 0], .int .i64 7]) (by
              obtain ⟨k0, k1, _⟩ := cells2 (HF.out.at 0 rfl)
              simp [results, go_sem, k0, k1]) rfl ⟨_, rfl, imv_nil _, HF.out.be.plain⟩
        · have e2 := byte_ne g2
          have HF := HK
          clear hno hw4 hw8
          obtain ⟨a0, a1, a2, a3⟩ := cells2 (HK.out.at 0 rfl)
          go_enter Try.func18, Try.ntmps18
          go_wp2_with fail
          exact bodyPost_ret (v := .tuple #[.agg #[.slice none 0 0, .int .i64 0], .int .i64 7]) (by
            obtain ⟨k0, k1, _⟩ := cells2 (HF.out.at 0 rfl)
            simp [results, go_sem, k0, k1]) rfl ⟨_, rfl, imv_nil _, HF.out.be.plain⟩
      · have e1 := byte_ne g1
        have HF := HK
        clear hno hw4 hw8
        obtain ⟨a0, a1, a2, a3⟩ := cells2 (HK.out.at 0 rfl)
        go_enter Try.func18, Try.ntmps18
        go_wp2_with fail
        exact bodyPost_ret (v := .tuple #[.agg #[.slice none 0 0, .int .i64 0], .int .i64 7]) (by
          obtain ⟨k0, k1, _⟩ := cells2 (HF.out.at 0 rfl)
          simp [results, go_sem, k0, k1]) rfl ⟨_, rfl, imv_nil _, HF.out.be.plain⟩
    · have e0 := byte_ne g0
      have HF := HK
      clear hno hw4 hw8
      obtain ⟨a0, a1, a2, a3⟩ := cells2 (HK.out.at 0 rfl)
      go_enter Try.func18, Try.ntmps18
      go_wp2_with fail
      exact bodyPost_ret (v := .tuple #[.agg #[.slice none 0 0, .int .i64 0], .int .i64 7]) (by
        obtain ⟨k0, k1, _⟩ := cells2 (HF.out.at 0 rfl)
        simp [results, go_sem, k0, k1]) rfl ⟨_, rfl, imv_nil _, HF.out.be.plain⟩
  · have u1 : (s.size : Int) < 12 := by omega
    have HF := HK
    clear hno
    obtain ⟨a0, a1, a2, a3⟩ := cells2 (HK.out.at 0 rfl)
    go_enter Try.func18, Try.ntmps18
    go_wp2_with fail
    exact bodyPost_ret (v := .tuple #[.agg #[.slice none 0 0, .int .i64 0], .int .i64 7]) (by
      obtain ⟨k0, k1, _⟩ := cells2 (HF.out.at 0 rfl)
      simp [results, go_sem, k0, k1]) rfl ⟨_, rfl, imv_nil _, HF.out.be.plain⟩
/-- What Read gives: the error's number, the image's code, its Data. -/
def rde (s : ByteArray) : Int := if igo (nums s) then 0 else 7
def rdc (s : ByteArray) : List Int := if igo (nums s) then icd (nums s) else []
def rdd (s : ByteArray) : Int := if igo (nums s) then wrd (nums s) 8 else 0
theorem rd_yes {s : ByteArray} (h : igo (nums s) = true) : rde s = 0 ∧ rdc s = icd (nums s) ∧ rdd s = wrd (nums s) 8 := by simp [rde, rdc, rdd, h]
theorem rd_no {s : ByteArray} (h : igo (nums s) = false) : rde s = 7 ∧ rdc s = [] ∧ rdd s = 0 := by simp [rde, rdc, rdd, h]
theorem read8_ref (s : ByteArray) (w : World) (hs : s.size ≤ 1073741824) :
    Calls Try.prog 18 #[.string s] w fun e w' => ∃ v, e = .returned (.tuple #[v, .int .i64 (rde s)]) ∧ ImV w' v (rdc s) (rdd s) ∧ Below w.heap.size w w' := by
  cases h : igo (nums s) with
  | true =>
    obtain ⟨a, b, c⟩ := rd_yes h
    rw [a, b, c]
    exact read8_yes s w h
  | false =>
    obtain ⟨a, b, c⟩ := rd_no h
    rw [a, b, c]
    exact read8_no s w hs h
theorem nums_ibs {code : List Int} {d : Int} (hr : irt code d = true) (hw : W32s code) : nums (ibs code d) = ibl code d := nums_strOfNums _ (ibl_byte hr hw)
theorem size_ibs {code : List Int} {d : Int} (hr : irt code d = true) (hw : W32s code) : (ibs code d).size = 12 + 4 * code.length := by
  rw [← length_nums, nums_ibs hr hw, ibl_length]
/-- An image's bytes are read as it. -/
theorem put_read {code : List Int} {d : Int} (hr : irt code d = true) (hw : W32s code) : (ibs code d).size = 12 + 4 * code.length ∧ rde (ibs code d) = 0 ∧ rdc (ibs code d) = code ∧ rdd (ibs code d) = d := by
  have hn := nums_ibs hr hw
  have hg : igo (nums (ibs code d)) = true := by rw [hn]; exact igo_ibl hr
  obtain ⟨a, b, c⟩ := rd_yes hg
  refine ⟨size_ibs hr hw, a, ?_, ?_⟩
  · rw [b, hn, icd_ibl hw]
  · rw [c, hn, idt_ibl hr]
end Go.Proofs.Ytmifiadkhmglmaa
