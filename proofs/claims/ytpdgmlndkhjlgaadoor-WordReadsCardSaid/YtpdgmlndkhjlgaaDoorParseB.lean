/- Parse, and the reference's Parse. -/
import Derived.Test.YtpdgmlndkhjlgaaDoorParse
set_option linter.unusedVariables false
namespace Go.Proofs.YtpdgmlndkhjlgaaDoor
open Go.RowKit

theorem numB_dig (s : ByteArray) (h : numB s.data.toList = true) (k : Nat) (hk : k < s.size) : 48 ≤ (s[k].toNat : Int) ∧ (s[k].toNat : Int) ≤ 57 := by
  have hm : s[k] ∈ s.data.toList := by rw [← at_list s k hk]; exact List.getElem_mem _
  simp only [numB, Bool.and_eq_true] at h
  have := List.all_eq_true.1 h.2 _ hm
  simp only [digB, Bool.and_eq_true, decide_eq_true_eq] at this
  omega
theorem val_take_snoc (s : ByteArray) (k : Nat) (hk : k < s.size) (h : 48 ≤ (s[k].toNat : Int)) :
    (val (s.data.toList.take (k + 1)) : Int) = 10 * (val (s.data.toList.take k) : Int) + ((s[k].toNat : Int) - 48) := by
  rw [List.take_succ_eq_append_getElem (by simpa using hk)]
  have e : s.data.toList[k]'(by simpa using hk) = s[k] := rfl
  rw [e, val_snoc]
  omega
theorem val_take_all (s : ByteArray) (k : Nat) (hk : s.size ≤ k) : val (s.data.toList.take k) = val s.data.toList := by
  rw [List.take_of_length_le (by simp; omega)]
theorem prs_no (l : List UInt8) (h : numB l = false) : prs l = (0, 3) := by unfold prs; rw [if_pos h]
theorem prs_far (l : List UInt8) (h : numB l = true) (k : Nat) (hk : 4294967295 < (val (l.take k) : Int)) : prs l = (0, 2) := by
  have := val_take_le l k
  unfold prs; rw [if_neg (by simp [h]), if_pos (by omega)]
theorem prs_ok (l : List UInt8) (h : numB l = true) (hk : (val l : Int) ≤ 4294967295) : prs l = ((val l : Int), 0) := by
  unfold prs; rw [if_neg (by simp [h]), if_neg (by omega)]
theorem prs_big (l : List UInt8) (h : numB l = true) (hk : 4294967295 < (val l : Int)) : prs l = (0, 2) := by
  unfold prs; rw [if_neg (by simp [h]), if_pos (by omega)]
theorem ret2_pair {k l : IntKind} {a b : Int} {p : Int × Int} (h : p = (a, b)) : Ending.returned (.tuple #[.int k a, .int l b]) = .returned (.tuple #[.int k p.1, .int l p.2]) := by rw [h]

set_option maxHeartbeats 1000000 in
theorem parse_any (s : ByteArray) (w : World) (hs : s.size ≤ 4096) :
    Calls Tryd.prog 5 #[.string s] w fun e w' => e = .returned (.tuple #[.int .u32 (prs s.data.toList).1, .int .i64 (prs s.data.toList).2]) ∧ w' = w := by
  have HN := Lib.hid (numeral_any s)
  cases hn : numB s.data.toList with
  | false =>
    have hn2 := HN.out
    rw [hn] at hn2
    have HN2 := Lib.hid hn2
    have HF := Lib.hid (prs_no _ hn)
    clear hn hn2
    go_enter Tryd.func5, Tryd.ntmps5
    go_wp2_with (go_at_call 12; refine (HN2.out _ hs).mono ?_; rintro e w' ⟨rfl, rfl⟩)
    go_ret2
    exact ⟨ret2_pair HF.out, rfl⟩
  | true =>
    have hn2 := HN.out
    rw [hn] at hn2
    have HN2 := Lib.hid hn2
    have HD := Lib.hid (numB_dig s hn)
    have HF := Lib.hid (prs_far _ hn)
    have HO := Lib.hid (prs_ok _ hn)
    clear hn hn2
    go_enter Tryd.func5, Tryd.ntmps5
    go_wp2_with (go_at_call 12; refine (HN2.out _ hs).mono ?_; rintro e w' ⟨rfl, rfl⟩)
    go_loop [4, 11] (fun sn si => ∃ (k : Nat) (x : Int), k ≤ s.size ∧ si = .int .i64 k ∧ sn = .int .u64 x ∧ 0 ≤ x ∧ x ≤ 4294967295 ∧ Hid (x = (val (s.data.toList.take k) : Int))) (fun _ si => s.size - (intOf si).toNat)
    case atStart => exact ⟨0, 0, Nat.zero_le _, rfl, rfl, by omega, by omega, by show _ = _; simp [val]⟩
    case round =>
      obtain ⟨k, x, hk, rfl, rfl, x0, x1, HX⟩ := hrel
      by_cases hlt : k < s.size
      · obtain ⟨d0, d1⟩ := HD.out k hlt
        have hv := val_take_snoc s k hlt d0
        rw [← HX.out] at hv
        have HV := Lib.hid hv
        clear hv
        by_cases hbig : 4294967295 < 10 * x + ((s[k].toNat : Int) - 48)
        · have hp := HF.out (k + 1) (by rw [HV.out]; exact hbig)
          have HP := Lib.hid hp
          clear hp
          go_wp2
          go_ret2
          exact ⟨ret2_pair HP.out, rfl⟩
        · go_wp2
          go_round
          case rel => exact ⟨k + 1, 10 * x + ((s[k].toNat : Int) - 48), by omega, by go_num, rfl, by omega, by omega, HV.out.symm⟩
          case measure => simp [intOf]; omega
      · have hx2 := HX.out
        rw [val_take_all s k (by omega)] at hx2
        have hp := HO.out (by omega)
        rw [← hx2] at hp
        have HP := Lib.hid hp
        clear hp hx2
        go_wp2
        go_ret2
        exact ⟨ret2_pair HP.out, rfl⟩
end Go.Proofs.YtpdgmlndkhjlgaaDoor
