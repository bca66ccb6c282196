/- The reference of layer 7: the contract of Op. -/
import Derived.Test.YtihgkmjlefaaoaaDoorInsA
import Derived.Laws.IdiomStrings
set_option linter.unusedVariables false
namespace Go.Proofs.YtihgkmjlefaaoaaDoor
open Go.RowKit

theorem str_yes {l : List UInt8} {s : ByteArray} (h : l = s.data.toList) : ((⟨l.toArray⟩ : ByteArray).toList == s.toList) = true := by
  rw [ByteArray.toList_eq, ByteArray.toList_eq, beq_iff_eq]; exact h
theorem str_no {l : List UInt8} {s : ByteArray} (h : ¬ l = s.data.toList) : ((⟨l.toArray⟩ : ByteArray).toList == s.toList) = false := by
  rw [ByteArray.toList_eq, ByteArray.toList_eq, beq_eq_false_iff_ne]; exact h
set_option maxHeartbeats 1000000 in
theorem op_ref (s : ByteArray) (w : World) :
    Calls Tryd.prog 21 #[.string s] w fun e w' => e = .returned (.int .i64 (opo s.data.toList)) ∧ w' = w := by
  have C1 := Lib.hid (fun (k : Nat) (w : World) => name_ref (k : Int) w)
  go_enter Tryd.func21, Tryd.ntmps21
  go_wp2_with fail
  go_loop [3] (fun si => ∃ k : Nat, 1 ≤ k ∧ k ≤ 28 ∧ si = .int .i64 (k : Int) ∧ Hid (opo s.data.toList = opn (28 - k) k s.data.toList)) (fun si => 28 - (intOf si).toNat)
  case atStart => exact ⟨1, by omega, by omega, rfl, rfl⟩
  case round =>
    obtain ⟨k, hk1, hk2, rfl, HX⟩ := hrel
    by_cases hlt : k ≤ 27
    · have hx := HX.out
      rw [show 28 - k = (28 - (k + 1)) + 1 by omega, opn] at hx
      have i1 : (k : Int) ≤ 27 := by omega
      obtain ⟨NM, hNM⟩ : ∃ S : ByteArray, ⟨(nam (k : Int)).toArray⟩ = S := ⟨_, rfl⟩
      have c1 := C1.out k
      rw [hNM] at c1
      have CN := Lib.hid c1
      by_cases h : nam (k : Int) = s.data.toList
      · have e1 : (NM.toList == s.toList) = true := by rw [← hNM]; exact str_yes h
        rw [if_pos h] at hx
        have HY := Lib.hid hx
        clear hx h HX hNM c1
        go_wp2_with fail
        refine (CN.out _).mono ?_
        rintro e w1 ⟨rfl, rfl⟩
        go_wp2_with fail
        go_ret
        exact ⟨ret_int HY.out.symm, rfl⟩
      · have e1 : (NM.toList == s.toList) = false := by rw [← hNM]; exact str_no h
        rw [if_neg h] at hx
        have HY := Lib.hid hx
        clear hx h HX hNM c1
        go_wp2_with fail
        refine (CN.out _).mono ?_
        rintro e w1 ⟨rfl, rfl⟩
        go_wp2_with fail
        go_round
        case rel => exact ⟨k + 1, by omega, by omega, by go_num, HY⟩
        case measure => simp [intOf]; omega
    · obtain rfl : k = 28 := by omega
      have hx := HX.out
      have HY : Hid (opo s.data.toList = 0) := Lib.hid hx
      clear hx HX
      go_wp2_with fail
      go_ret
      exact ⟨ret_int HY.out.symm, rfl⟩
end Go.Proofs.YtihgkmjlefaaoaaDoor
