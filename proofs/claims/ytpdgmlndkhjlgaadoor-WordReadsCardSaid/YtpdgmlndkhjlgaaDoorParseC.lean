/- The reference's Parse. -/
import Derived.Test.YtpdgmlndkhjlgaaDoorParseB
set_option linter.unusedVariables false
namespace Go.Proofs.YtpdgmlndkhjlgaaDoor
open Go.RowKit

set_option maxHeartbeats 400000 in
theorem ref_parse_none (w : World) :
    Calls Tryd.prog 6 #[.string ByteArray.empty] w fun e w' => e = .returned (.tuple #[.int .u32 0, .int .i64 3]) ∧ w' = w := by
  go_enter Tryd.func6, Tryd.ntmps6
  go_wp2
  go_ret2
  exact ⟨rfl, rfl⟩

set_option maxHeartbeats 400000 in
theorem ref_parse_zero (s : ByteArray) (w : World) (hs : s.size ≤ 4096) (h1 : 1 < s.size) (h0 : ((s[0]'(by omega)).toNat : Int) = 48) :
    Calls Tryd.prog 6 #[.string s] w fun e w' => e = .returned (.tuple #[.int .u32 0, .int .i64 3]) ∧ w' = w := by
  have hb : (((s[0]'(by omega)).toNat : Int) == 48) = true := by rw [beq_iff_eq]; exact h0
  have he : ((s.size : Int) == 0) = false := by rw [beq_eq_false_iff_ne]; omega
  have h2 : (1 : Int) < (s.size : Int) := by omega
  have h3 : 0 < s.size := by omega
  have H0 := Lib.hid h0
  clear h0
  go_enter Tryd.func6, Tryd.ntmps6
  go_wp2
  go_ret2
  exact ⟨rfl, rfl⟩

set_option maxHeartbeats 1000000 in
theorem ref_parse_rest (s : ByteArray) (w : World) (hs : s.size ≤ 4096) (h1 : 1 ≤ s.size) (hh : s.size ≤ 1 ∨ (s[0]'h1).toNat ≠ 48) :
    Calls Tryd.prog 6 #[.string s] w fun e w' => e = .returned (.tuple #[.int .u32 (prs s.data.toList).1, .int .i64 (prs s.data.toList).2]) ∧ w' = w := by
  have HH := Lib.hid hh
  have he : ((s.size : Int) == 0) = false := by rw [beq_eq_false_iff_ne]; omega
  by_cases h2 : s.size ≤ 1
  · clear hh
    go_enter Tryd.func6, Tryd.ntmps6
    go_wp2
    go_loop [4, 5] (fun sn si => ∃ (k : Nat) (x : Int), k ≤ s.size ∧ si = .int .i64 k ∧ sn = .int .u64 x ∧ 0 ≤ x ∧ x ≤ 4294967296 ∧ Hid (x = min (val (s.data.toList.take k) : Int) 4294967296 ∧ (s.data.toList.take k).all digB = true)) (fun _ si => s.size - (intOf si).toNat)
    case atStart => exact ⟨0, 0, Nat.zero_le _, rfl, rfl, by omega, by omega, ⟨by simp [val]; omega, by simp⟩⟩
    case round =>
      obtain ⟨k, x, hk, rfl, rfl, x0, x1, HX⟩ := hrel
      by_cases hlt : k < s.size
      · rcases Int.lt_or_le ((s[k].toNat : Int)) 48 with hlo | hlo
        · have HF := Lib.hid (prs_no _ (numB_bad s k hlt (dig_lo _ hlo)))
          go_wp2
          go_ret2
          exact ⟨ret2_pair HF.out, rfl⟩
        · rcases Int.lt_or_le 57 ((s[k].toNat : Int)) with hhi | hhi
          · have HF := Lib.hid (prs_no _ (numB_bad s k hlt (dig_hi _ hhi)))
            go_wp2
            go_ret2
            exact ⟨ret2_pair HF.out, rfl⟩
          · have HS := Lib.hid (all_snoc s k hlt HX.out.2 (dig_ok _ hlo hhi))
            have HV := Lib.hid (val_take_snoc s k hlt hlo)
            have HX1 := Lib.hid HX.out.1
            by_cases hbig : 4294967296 < x * 10 + ((s[k].toNat : Int) - 48)
            · go_wp2
              go_round
              case rel => exact ⟨k + 1, 4294967296, by omega, by go_num, rfl, by omega, by omega, ⟨by rw [HV.out]; have := HX1.out; omega, HS.out⟩⟩
              case measure => simp [intOf]; omega
            · go_wp2
              go_round
              case rel => exact ⟨k + 1, x * 10 + ((s[k].toNat : Int) - 48), by omega, by go_num, rfl, by omega, by omega, ⟨by rw [HV.out]; have := HX1.out; omega, HS.out⟩⟩
              case measure => simp [intOf]; omega
      · have hkl : k = s.size := by omega
        have ha := HX.out
        rw [val_take_all s k (by omega), List.take_of_length_le (by simp; omega)] at ha
        have hn := numB_good s h1 ha.2 HH.out
        by_cases hbig : 4294967296 ≤ x
        · have HF := Lib.hid (prs_big _ hn (by omega))
          clear hn ha
          go_wp2
          go_ret2
          exact ⟨ret2_pair HF.out, rfl⟩
        · have hp := prs_ok _ hn (by omega)
          rw [show (val s.data.toList : Int) = x by omega] at hp
          have HF := Lib.hid hp
          clear hn ha hp
          go_wp2
          go_ret2
          exact ⟨ret2_pair HF.out, rfl⟩
  · have h0 : (s[0]'h1).toNat ≠ 48 := by omega
    have hb : (((s[0]'h1).toNat : Int) == 48) = false := by rw [beq_eq_false_iff_ne]; omega
    have h3 : 0 < s.size := by omega
    clear hh h0
    go_enter Tryd.func6, Tryd.ntmps6
    go_wp2
    go_loop [4, 5] (fun sn si => ∃ (k : Nat) (x : Int), k ≤ s.size ∧ si = .int .i64 k ∧ sn = .int .u64 x ∧ 0 ≤ x ∧ x ≤ 4294967296 ∧ Hid (x = min (val (s.data.toList.take k) : Int) 4294967296 ∧ (s.data.toList.take k).all digB = true)) (fun _ si => s.size - (intOf si).toNat)
    case atStart => exact ⟨0, 0, Nat.zero_le _, rfl, rfl, by omega, by omega, ⟨by simp [val]; omega, by simp⟩⟩
    case round =>
      obtain ⟨k, x, hk, rfl, rfl, x0, x1, HX⟩ := hrel
      by_cases hlt : k < s.size
      · rcases Int.lt_or_le ((s[k].toNat : Int)) 48 with hlo | hlo
        · have HF := Lib.hid (prs_no _ (numB_bad s k hlt (dig_lo _ hlo)))
          go_wp2
          go_ret2
          exact ⟨ret2_pair HF.out, rfl⟩
        · rcases Int.lt_or_le 57 ((s[k].toNat : Int)) with hhi | hhi
          · have HF := Lib.hid (prs_no _ (numB_bad s k hlt (dig_hi _ hhi)))
            go_wp2
            go_ret2
            exact ⟨ret2_pair HF.out, rfl⟩
          · have HS := Lib.hid (all_snoc s k hlt HX.out.2 (dig_ok _ hlo hhi))
            have HV := Lib.hid (val_take_snoc s k hlt hlo)
            have HX1 := Lib.hid HX.out.1
            by_cases hbig : 4294967296 < x * 10 + ((s[k].toNat : Int) - 48)
            · go_wp2
              go_round
              case rel => exact ⟨k + 1, 4294967296, by omega, by go_num, rfl, by omega, by omega, ⟨by rw [HV.out]; have := HX1.out; omega, HS.out⟩⟩
              case measure => simp [intOf]; omega
            · go_wp2
              go_round
              case rel => exact ⟨k + 1, x * 10 + ((s[k].toNat : Int) - 48), by omega, by go_num, rfl, by omega, by omega, ⟨by rw [HV.out]; have := HX1.out; omega, HS.out⟩⟩
              case measure => simp [intOf]; omega
      · have hkl : k = s.size := by omega
        have ha := HX.out
        rw [val_take_all s k (by omega), List.take_of_length_le (by simp; omega)] at ha
        have hn := numB_good s h1 ha.2 HH.out
        by_cases hbig : 4294967296 ≤ x
        · have HF := Lib.hid (prs_big _ hn (by omega))
          clear hn ha
          go_wp2
          go_ret2
          exact ⟨ret2_pair HF.out, rfl⟩
        · have hp := prs_ok _ hn (by omega)
          rw [show (val s.data.toList : Int) = x by omega] at hp
          have HF := Lib.hid hp
          clear hn ha hp
          go_wp2
          go_ret2
          exact ⟨ret2_pair HF.out, rfl⟩
theorem ref_parse_any (s : ByteArray) (w : World) (hs : s.size ≤ 4096) :
    Calls Tryd.prog 6 #[.string s] w fun e w' => e = .returned (.tuple #[.int .u32 (prs s.data.toList).1, .int .i64 (prs s.data.toList).2]) ∧ w' = w := by
  by_cases h1 : 1 ≤ s.size
  · by_cases hh : s.size ≤ 1 ∨ (s[0]'h1).toNat ≠ 48
    · exact ref_parse_rest s w hs h1 hh
    · have h2 : 1 < s.size := by omega
      have h0 : (s[0]'h1).toNat = 48 := by omega
      rw [prs_no _ (numB_zero s h2 h0)]
      exact ref_parse_zero s w hs h2 (by omega)
  · obtain rfl := empty_of_size s (by omega)
    rw [prs_no _ (by rfl)]
    exact ref_parse_none w
end Go.Proofs.YtpdgmlndkhjlgaaDoor
