/- The reference of layer 9: Words. -/
import Derived.Test.YtgojpflkhnaedaaDoorG9b
import Derived.Test.YtgojpflkhnaedaaDoorG9c
set_option linter.unusedVariables false
namespace Go.Proofs.YtgojpflkhnaedaaDoor
open Go.RowKit

theorem dropw {l : List Int} {k : Nat} (h : k < l.length) : l.drop k = l.getD k 0 :: l.drop (k + 1) := by
  rw [List.drop_eq_getElem_cons h, List.getD_eq_getElem?_getD, List.getElem?_eq_getElem h]; rfl
theorem rd_at {w : World} {A : Option Addr} {n : Nat} {l : List Int} (h : Rd w A n l) {j : Nat} (hj : j < n) : ∃ b off, A = some ⟨b, off, none⟩ ∧ w.cell? ⟨b, off + j, none⟩ = some (.int .u32 (l.getD j 0)) := by
  rcases h.2.1 with h0 | ⟨b, off, e, _, hc⟩
  · omega
  · exact ⟨b, off, e, hc j hj⟩
set_option maxRecDepth 100000 in
set_option maxHeartbeats 2000000 in
theorem words9_ref {A B : Option Addr} {n c m e : Nat} {k1 k2 : List Int} (w : World) (ha : Rd w A n k1) (hb : Rd w B m k2) (hn : n ≤ 1073741824) (hm : m ≤ 1073741824) :
    Calls Tryd.prog 20 #[.slice A n c, .slice B m e] w fun en w' => en = .returned (.bool (decide (k1 = k2))) ∧ Below w.heap.size w w' := by
  have hl1 := ha.1
  have hl2 := hb.1
  by_cases hnm : n = m
  · subst hnm
    have HA := Lib.hid ha
    have HB := Lib.hid hb
    have HL1 := Lib.hid hl1
    have HL2 := Lib.hid hl2
    have HR : Hid (decide (k1 = k2) = decide (k1.drop 0 = k2.drop 0)) := Lib.hid (by simp)
    obtain ⟨r, hr⟩ : ∃ r : Bool, decide (k1 = k2) = r := ⟨_, rfl⟩
    rw [hr] at HR ⊢
    have HW := Lib.hid (Below.refl w.heap.size w)
    clear ha hb hl1 hl2 hr
    go_enter Tryd.func20, Tryd.ntmps20
    go_wp2_with fail
    go_loopw [5] (fun v wr => ∃ k : Nat, k ≤ n ∧ v = .int .i64 (k : Int) ∧ Hid (r = decide (k1.drop k = k2.drop k)) ∧ Hid (Below w.heap.size w wr)) (fun v _ => n - (intOf v).toNat)
    case atStart => exact ⟨0, Nat.zero_le _, rfl, HR, HW⟩
    case round =>
      clear HR HW
      obtain ⟨k, hk, rfl, HR, HW⟩ := hrel
      by_cases hlt : k < n
      · have i0 : (0 : Int) ≤ (k : Int) := by omega
        have i1 : (k : Int) < (n : Int) := by omega
        obtain ⟨p, o, rfl, x1⟩ := rd_at (HA.out.below HW.out) hlt
        obtain ⟨q, o2, rfl, x2⟩ := rd_at (HB.out.below HW.out) hlt
        have hx := HR.out
        rw [dropw (l := k1) (k := k) (by rw [HL1.out]; exact hlt), dropw (l := k2) (k := k) (by rw [HL2.out]; exact hlt)] at hx
        obtain ⟨x, ex⟩ : ∃ x, k1.getD k 0 = x := ⟨_, rfl⟩
        obtain ⟨y, ey⟩ : ∃ y, k2.getD k 0 = y := ⟨_, rfl⟩
        rw [ex, ey] at hx
        rw [ex] at x1
        rw [ey] at x2
        clear ex ey
        by_cases hxy : x = y
        · subst hxy
          have HX : Hid (r = decide (k1.drop (k + 1) = k2.drop (k + 1))) := Lib.hid (by rw [hx]; simp)
          clear hx
          go_wp2_with fail
          go_region
          go_wp2_with fail
          go_roundw
          case rel => exact ⟨k + 1, by omega, by go_num, HX, Lib.hid HW.out.drew⟩
          case measure => simp [intOf]; omega
        · have e1 : (x == y) = false := by rw [beq_eq_false_iff_ne]; exact hxy
          have HX : Hid (r = false) := Lib.hid (by rw [hx]; simp [hxy])
          clear hx hxy
          go_wp2_with fail
          go_region
          go_wp2_with fail
          go_ret
          exact ⟨ret_bool HX.out.symm, HW.out.drew⟩
      · obtain rfl : k = n := by omega
        have hx := HR.out
        rw [List.drop_eq_nil_of_le (by rw [HL1.out]; omega), List.drop_eq_nil_of_le (by rw [HL2.out]; omega)] at hx
        have HX : Hid (r = true) := Lib.hid (by rw [hx]; simp)
        have u1 : ¬ (k : Int) < (k : Int) := by omega
        clear hx
        go_wp2_with fail
        go_ret
        exact ⟨ret_bool HX.out.symm, HW.out⟩
  · have e1 : ((n : Int) == (m : Int)) = false := by rw [beq_eq_false_iff_ne]; omega
    rw [decide_eq_false (show ¬ (k1 = k2) from fun h => hnm (by rw [← hl1, ← hl2, h]))]
    clear ha hb hl1 hl2 hnm
    go_enter Tryd.func20, Tryd.ntmps20
    go_wp2_with fail
    go_ret
    exact ⟨rfl, Below.refl _ _⟩
end Go.Proofs.YtgojpflkhnaedaaDoor
