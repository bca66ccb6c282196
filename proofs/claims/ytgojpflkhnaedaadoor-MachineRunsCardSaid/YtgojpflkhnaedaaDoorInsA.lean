/- The reference of layer 7: the contracts of Name and Parts, has, within. -/
import Derived.Test.YtgojpflkhnaedaaDoorRet
import Derived.Test.YtgojpflkhnaedaaDoorInsM
set_option linter.unusedVariables false
namespace Go.Proofs.YtgojpflkhnaedaaDoor
open Go.RowKit

set_option maxHeartbeats 4000000 in
theorem parts_in (op : Int) (w : World) (h : 1 ≤ op ∧ op ≤ 27) :
    Calls Tryd.prog 44 #[.int .i64 op] w fun e w' => e = .returned (.string ⟨(prt op).toArray⟩) ∧ w' = w := by
  rcases op_cases h with rfl | rfl | rfl | rfl | rfl | rfl | rfl | rfl | rfl | rfl | rfl | rfl | rfl | rfl | rfl | rfl | rfl | rfl | rfl | rfl | rfl | rfl | rfl | rfl | rfl | rfl | rfl
  all_goals
    go_enter Tryd.func44, Tryd.ntmps44
    go_wp2_with fail
    go_ret
    exact ⟨rfl, rfl⟩
theorem parts_low (op : Int) (w : World) (h : op < 1) :
    Calls Tryd.prog 44 #[.int .i64 op] w fun e w' => e = .returned (.string ⟨(prt op).toArray⟩) ∧ w' = w := by
  rw [prt_out (by omega)]
  have e1 : (op == 1) = false := by rw [beq_eq_false_iff_ne]; omega
  have e2 : (op == 2) = false := by rw [beq_eq_false_iff_ne]; omega
  have e3 : (op == 3) = false := by rw [beq_eq_false_iff_ne]; omega
  have e4 : (op == 4) = false := by rw [beq_eq_false_iff_ne]; omega
  have e5 : (op == 5) = false := by rw [beq_eq_false_iff_ne]; omega
  have e6 : (op == 6) = false := by rw [beq_eq_false_iff_ne]; omega
  have e7 : (op == 7) = false := by rw [beq_eq_false_iff_ne]; omega
  have e8 : (op == 8) = false := by rw [beq_eq_false_iff_ne]; omega
  have e9 : (op == 9) = false := by rw [beq_eq_false_iff_ne]; omega
  have e10 : (op == 10) = false := by rw [beq_eq_false_iff_ne]; omega
  have e11 : (op == 11) = false := by rw [beq_eq_false_iff_ne]; omega
  have e12 : (op == 12) = false := by rw [beq_eq_false_iff_ne]; omega
  have e13 : (op == 13) = false := by rw [beq_eq_false_iff_ne]; omega
  have e14 : (op == 14) = false := by rw [beq_eq_false_iff_ne]; omega
  have e15 : (op == 15) = false := by rw [beq_eq_false_iff_ne]; omega
  have e16 : (op == 16) = false := by rw [beq_eq_false_iff_ne]; omega
  have e17 : (op == 17) = false := by rw [beq_eq_false_iff_ne]; omega
  have e18 : (op == 18) = false := by rw [beq_eq_false_iff_ne]; omega
  have e19 : (op == 19) = false := by rw [beq_eq_false_iff_ne]; omega
  have e20 : (op == 20) = false := by rw [beq_eq_false_iff_ne]; omega
  have e21 : (op == 21) = false := by rw [beq_eq_false_iff_ne]; omega
  have e22 : (op == 22) = false := by rw [beq_eq_false_iff_ne]; omega
  have e23 : (op == 23) = false := by rw [beq_eq_false_iff_ne]; omega
  have e24 : (op == 24) = false := by rw [beq_eq_false_iff_ne]; omega
  have e25 : (op == 25) = false := by rw [beq_eq_false_iff_ne]; omega
  have e26 : (op == 26) = false := by rw [beq_eq_false_iff_ne]; omega
  have e27 : (op == 27) = false := by rw [beq_eq_false_iff_ne]; omega
  have g1 : ¬ 4 ≤ op := by omega
  clear h
  go_enter Tryd.func44, Tryd.ntmps44
  go_wp2_with fail
  go_ret
  exact ⟨rfl, rfl⟩
theorem parts_high (op : Int) (w : World) (h : 27 < op) :
    Calls Tryd.prog 44 #[.int .i64 op] w fun e w' => e = .returned (.string ⟨(prt op).toArray⟩) ∧ w' = w := by
  rw [prt_out (by omega)]
  have e1 : (op == 1) = false := by rw [beq_eq_false_iff_ne]; omega
  have e2 : (op == 2) = false := by rw [beq_eq_false_iff_ne]; omega
  have e3 : (op == 3) = false := by rw [beq_eq_false_iff_ne]; omega
  have e4 : (op == 4) = false := by rw [beq_eq_false_iff_ne]; omega
  have e5 : (op == 5) = false := by rw [beq_eq_false_iff_ne]; omega
  have e6 : (op == 6) = false := by rw [beq_eq_false_iff_ne]; omega
  have e7 : (op == 7) = false := by rw [beq_eq_false_iff_ne]; omega
  have e8 : (op == 8) = false := by rw [beq_eq_false_iff_ne]; omega
  have e9 : (op == 9) = false := by rw [beq_eq_false_iff_ne]; omega
  have e10 : (op == 10) = false := by rw [beq_eq_false_iff_ne]; omega
  have e11 : (op == 11) = false := by rw [beq_eq_false_iff_ne]; omega
  have e12 : (op == 12) = false := by rw [beq_eq_false_iff_ne]; omega
  have e13 : (op == 13) = false := by rw [beq_eq_false_iff_ne]; omega
  have e14 : (op == 14) = false := by rw [beq_eq_false_iff_ne]; omega
  have e15 : (op == 15) = false := by rw [beq_eq_false_iff_ne]; omega
  have e16 : (op == 16) = false := by rw [beq_eq_false_iff_ne]; omega
  have e17 : (op == 17) = false := by rw [beq_eq_false_iff_ne]; omega
  have e18 : (op == 18) = false := by rw [beq_eq_false_iff_ne]; omega
  have e19 : (op == 19) = false := by rw [beq_eq_false_iff_ne]; omega
  have e20 : (op == 20) = false := by rw [beq_eq_false_iff_ne]; omega
  have e21 : (op == 21) = false := by rw [beq_eq_false_iff_ne]; omega
  have e22 : (op == 22) = false := by rw [beq_eq_false_iff_ne]; omega
  have e23 : (op == 23) = false := by rw [beq_eq_false_iff_ne]; omega
  have e24 : (op == 24) = false := by rw [beq_eq_false_iff_ne]; omega
  have e25 : (op == 25) = false := by rw [beq_eq_false_iff_ne]; omega
  have e26 : (op == 26) = false := by rw [beq_eq_false_iff_ne]; omega
  have e27 : (op == 27) = false := by rw [beq_eq_false_iff_ne]; omega
  have g1 : 4 ≤ op := by omega
  have g2 : ¬ op ≤ 15 := by omega
  clear h
  go_enter Tryd.func44, Tryd.ntmps44
  go_wp2_with fail
  go_ret
  exact ⟨rfl, rfl⟩
theorem parts_ref (op : Int) (w : World) :
    Calls Tryd.prog 44 #[.int .i64 op] w fun e w' => e = .returned (.string ⟨(prt op).toArray⟩) ∧ w' = w := by
  by_cases h : 1 ≤ op ∧ op ≤ 27
  · exact parts_in op w h
  · by_cases h2 : op < 1
    · exact parts_low op w h2
    · exact parts_high op w (by omega)
theorem within_ref (t : Bool) (n most : Int) (w : World) :
    Calls Tryd.prog 46 #[.bool t, .int .i64 n, .int .i64 most] w fun e w' => e = .returned (.bool (wi t n most)) ∧ w' = w := by
  cases t
  · go_enter Tryd.func46, Tryd.ntmps46
    go_wp2_with fail
    go_ret
    exact ⟨rfl, rfl⟩
  · by_cases h0 : 0 ≤ n
    · by_cases h1 : n ≤ most
      · have e : wi true n most = true := by simp [wi, h0, h1]
        rw [e]
        go_enter Tryd.func46, Tryd.ntmps46
        go_wp2_with fail
        go_ret
        exact ⟨rfl, rfl⟩
      · have e : wi true n most = false := by simp [wi]; omega
        rw [e]
        go_enter Tryd.func46, Tryd.ntmps46
        go_wp2_with fail
        go_ret
        exact ⟨rfl, rfl⟩
    · have e : wi true n most = false := by simp [wi]; omega
      rw [e]
      go_enter Tryd.func46, Tryd.ntmps46
      go_wp2_with fail
      go_ret
      exact ⟨rfl, rfl⟩
theorem sd_cons (s : ByteArray) (k : Nat) (h : k < s.size) : s.data.toList.drop k = s[k] :: s.data.toList.drop (k + 1) := by
  have hl : k < s.data.toList.length := by simpa using h
  rw [List.drop_eq_getElem_cons hl]
  congr 1
theorem sd_all (s : ByteArray) : s.data.toList.drop s.size = [] := List.drop_of_length_le (by simp)
theorem has_ref (s : ByteArray) (d : UInt8) (n : Int) (hn : n = (d.toNat : Int)) (w : World) (hs : s.size ≤ 1073741824) :
    Calls Tryd.prog 45 #[.string s, .int .u8 n] w fun e w' => e = .returned (.bool (hsc s.data.toList d)) ∧ w' = w := by
  subst hn
  go_enter Tryd.func45, Tryd.ntmps45
  go_wp2_with fail
  go_loop [5] (fun si => ∃ k : Nat, k ≤ s.size ∧ si = .int .i64 k ∧ Hid (hsc s.data.toList d = hsc (s.data.toList.drop k) d)) (fun si => s.size - (intOf si).toNat)
  case atStart => exact ⟨0, Nat.zero_le _, rfl, rfl⟩
  case round =>
    obtain ⟨k, hk, rfl, HX⟩ := hrel
    by_cases hlt : k < s.size
    · have HX2 := HX.out
      rw [sd_cons s k hlt] at HX2
      obtain ⟨c, hc⟩ : ∃ c, s[k] = c := ⟨_, rfl⟩
      rw [hc] at HX2
      by_cases h0 : c = d
      · have e1 : ((c.toNat : Int) == (d.toNat : Int)) = true := by rw [beq_iff_eq, h0]
        have hy : hsc s.data.toList d = true := by rw [HX2]; simp [hsc, h0]
        have HY := Lib.hid hy
        clear HX2 h0 hy
        go_wp2
        go_ret
        exact ⟨ret_bool HY.out.symm, rfl⟩
      · have e1 : ((c.toNat : Int) == (d.toNat : Int)) = false := by
          rw [beq_eq_false_iff_ne]
          intro e
          exact h0 (UInt8.toNat_inj.1 (by omega))
        have hy : hsc s.data.toList d = hsc (s.data.toList.drop (k + 1)) d := by rw [HX2]; simp [hsc, h0]
        have HY := Lib.hid hy
        clear HX2 h0 hy
        go_wp2
        go_round
        case rel => exact ⟨k + 1, by omega, by go_num, HY⟩
        case measure => simp [intOf]; omega
    · obtain rfl : k = s.size := by omega
      have HX2 := HX.out
      rw [sd_all] at HX2
      have HY := Lib.hid HX2
      clear HX2
      go_wp2
      go_ret
      exact ⟨ret_bool (by rw [HY.out]; rfl), rfl⟩
end Go.Proofs.YtgojpflkhnaedaaDoor
