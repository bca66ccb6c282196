/- The reference of layer 8: the contract of Same. -/
import Derived.Test.YtmifiadkhmglmaaImgA
set_option linter.unusedVariables false
namespace Go.Proofs.Ytmifiadkhmglmaa
open Go.RowKit

theorem drop_eq {l : List Int} {k : Nat} (h : k < l.length) : l.drop k = l.getD k 0 :: l.drop (k + 1) := by
  rw [List.drop_eq_getElem_cons h, List.getD_eq_getElem?_getD, List.getElem?_eq_getElem h]; rfl
set_option maxRecDepth 100000 in
set_option maxHeartbeats 2000000 in
theorem same8_ref {A B : Option Addr} {n c m e : Nat} {d1 d2 : Int} {k1 k2 : List Int} (w : World) (ha : Rd w A n k1) (hb : Rd w B m k2) (hn : n ≤ 1073741824) (hm : m ≤ 1073741824) :
    Calls Try.prog 14 #[.agg #[.slice A n c, .int .i64 d1], .agg #[.slice B m e, .int .i64 d2]] w fun en w' => en = .returned (.bool (decide (k1 = k2 ∧ d1 = d2))) ∧ Below w.heap.size w w' := by
  have HK := Lib.hid (((Kx.nil none w).more (.cells #[.slice A n c, .int .i64 d1] 24 (0, 0))).add (w.heap.size + 1) (by simp) (.cells #[.slice B m e, .int .i64 d2] 24 (0, 0)))
  obtain ⟨a0, a1, _⟩ := cells2 (HK.out.at 0 rfl)
  obtain ⟨b0, b1, _⟩ := cells2 (HK.out.at 1 rfl)
  have hl1 := ha.1
  have hl2 := hb.1
  by_cases hd : d1 = d2
  · subst hd
    by_cases hnm : n = m
    · subst hnm
      have HA := Lib.hid ha
      have HB := Lib.hid hb
      have HL1 := Lib.hid hl1
      have HL2 := Lib.hid hl2
      have HR : Hid (decide (k1 = k2 ∧ d1 = d1) = decide (k1.drop 0 = k2.drop 0)) := Lib.hid (by simp)
      obtain ⟨r, hr⟩ : ∃ r : Bool, decide (k1 = k2 ∧ d1 = d1) = r := ⟨_, rfl⟩
      rw [hr] at HR ⊢
      clear ha hb hl1 hl2 hr
      go_enter Try.func14, Try.ntmps14
      go_wp2_with fail
      go_loopw [5] (fun v wr => ∃ k : Nat, k ≤ n ∧ v = .int .i64 (k : Int) ∧ Hid (r = decide (k1.drop k = k2.drop k)) ∧ Hid (Kx none w wr [(w.heap.size, .cells #[.slice A n c, .int .i64 d1] 24 (0, 0)), (w.heap.size + 1, .cells #[.slice B n e, .int .i64 d1] 24 (0, 0))])) (fun v _ => n - (intOf v).toNat)
      case atStart => exact ⟨0, Nat.zero_le _, rfl, HR, HK⟩
      case round =>
        clear HR HK a0 a1 b0 b1
        obtain ⟨k, hk, rfl, HR, HK⟩ := hrel
        obtain ⟨a0, a1, _⟩ := cells2 (HK.out.at 0 rfl)
        obtain ⟨b0, b1, _⟩ := cells2 (HK.out.at 1 rfl)
        by_cases hlt : k < n
        · have i0 : (0 : Int) ≤ (k : Int) := by omega
          have i1 : (k : Int) < (n : Int) := by omega
          obtain ⟨p, o, rfl, x1⟩ := (HA.out.kx HK.out).cell hlt
          obtain ⟨q, o2, rfl, x2⟩ := (HB.out.kx HK.out).cell hlt
          have hx := HR.out
          rw [drop_eq (l := k1) (k := k) (by rw [HL1.out]; exact hlt), drop_eq (l := k2) (k := k) (by rw [HL2.out]; exact hlt)] at hx
          obtain ⟨x, ex⟩ : ∃ x, k1.getD k 0 = x := ⟨_, rfl⟩
          obtain ⟨y, ey⟩ : ∃ y, k2.getD k 0 = y := ⟨_, rfl⟩
          rw [ex, ey] at hx
          rw [ex] at x1
          rw [ey] at x2
          clear ex ey
          by_cases hxy : x = y
          · subst hxy
            have HX : Hid (r = decide (k1.drop (k + 1) = k2.drop (k + 1))) := Lib.hid (by rw [hx]; simp)
            clear hx
            go_wp2_with fail
            go_region
            go_wp2_with fail
            go_roundw
            case rel => exact ⟨k + 1, by omega, by go_num, HX, Lib.hid HK.out.drew⟩
            case measure => simp [intOf]; omega
          · have e1 : (x == y) = false := by rw [beq_eq_false_iff_ne]; exact hxy
            have HX : Hid (r = false) := Lib.hid (by rw [hx]; simp [hxy])
            clear hx hxy
            go_wp2_with fail
            go_region
            go_wp2_with fail
            go_ret
            exact ⟨ret_bool HX.out.symm, HK.out.drew.be.plain⟩
        · obtain rfl : k = n := by omega
          have hx := HR.out
          rw [List.drop_eq_nil_of_le (by rw [HL1.out]; omega), List.drop_eq_nil_of_le (by rw [HL2.out]; omega)] at hx
          have HX : Hid (r = true) := Lib.hid (by rw [hx]; simp)
          have u1 : ¬ (k : Int) < (k : Int) := by omega
          clear hx
          go_wp2_with fail
          go_ret
          exact ⟨ret_bool HX.out.symm, HK.out.be.plain⟩
    · have e1 : ((n : Int) == (m : Int)) = false := by rw [beq_eq_false_iff_ne]; omega
      rw [decide_eq_false (show ¬ (k1 = k2 ∧ d1 = d1) from fun h => hnm (by rw [← hl1, ← hl2, h.1]))]
      clear ha hb hl1 hl2 hnm
      go_enter Try.func14, Try.ntmps14
      go_wp2_with fail
      go_ret
      exact ⟨rfl, HK.out.be.plain⟩
  · have e1 : (d1 == d2) = false := by rw [beq_eq_false_iff_ne]; exact hd
    rw [decide_eq_false (show ¬ (k1 = k2 ∧ d1 = d2) from fun h => hd h.2)]
    clear ha hb hl1 hl2 hd
    go_enter Try.func14, Try.ntmps14
    go_wp2_with fail
    go_ret
    exact ⟨rfl, HK.out.be.plain⟩
end Go.Proofs.Ytmifiadkhmglmaa
