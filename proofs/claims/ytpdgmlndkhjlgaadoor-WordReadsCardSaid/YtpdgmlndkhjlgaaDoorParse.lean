/- numeral and Parse, and the reference's Parse. -/
import Derived.Test.YtpdgmlndkhjlgaaDoorNumM
import Derived.Test.YtpdgmlndkhjlgaaDoorWord
set_option linter.unusedVariables false
namespace Go.Proofs.YtpdgmlndkhjlgaaDoor
open Go.RowKit

theorem at_list (s : ByteArray) (k : Nat) (h : k < s.size) : s.data.toList[k]'(by simpa using h) = s[k] := rfl
theorem numB_bad (s : ByteArray) (k : Nat) (h : k < s.size) (hd : digB s[k] = false) : numB s.data.toList = false := by
  have hm : s[k] ∈ s.data.toList := by rw [← at_list s k h]; exact List.getElem_mem _
  unfold numB
  have : s.data.toList.all digB = false := by
    rw [List.all_eq_false]
    exact ⟨_, hm, by simp [hd]⟩
  simp [this]
theorem numB_good (s : ByteArray) (h : 1 ≤ s.size) (hd : s.data.toList.all digB = true) (hh : s.size ≤ 1 ∨ (s[0]'h).toNat ≠ 48) : numB s.data.toList = true := by
  unfold numB
  have hl : s.data.toList.length = s.size := by simp
  have hne : s.data.toList.isEmpty = false := by
    cases e : s.data.toList with
    | nil => rw [e] at hl; simp at hl; omega
    | cons a r => rfl
  have hz : s.data.toList.head? = some (s[0]'h) := by
    rw [List.head?_eq_getElem?, List.getElem?_eq_getElem (by rw [hl]; exact h)]; rfl
  rw [hne, hd, hz, hl]
  rcases hh with hh | hh
  · simp [hh]
  · have : s[0]'h ≠ 48 := fun e => hh (by rw [e]; rfl)
    simp [this]
theorem numB_zero (s : ByteArray) (h : 1 < s.size) (h0 : (s[0]'(by omega)).toNat = 48) : numB s.data.toList = false := by
  unfold numB
  have hl : s.data.toList.length = s.size := by simp
  have hz : s.data.toList.head? = some (s[0]'(by omega)) := by
    rw [List.head?_eq_getElem?, List.getElem?_eq_getElem (by rw [hl]; omega)]; rfl
  have : s[0]'(by omega) = 48 := UInt8.toNat_inj.1 (by simpa using h0)
  rw [hz, hl, this]
  have : ¬ s.size ≤ 1 := by omega
  simp [this]
theorem all_snoc (s : ByteArray) (k : Nat) (h : k < s.size) (ha : (s.data.toList.take k).all digB = true) (hd : digB s[k] = true) : (s.data.toList.take (k + 1)).all digB = true := by
  rw [List.take_succ_eq_append_getElem (by simpa using h), List.all_append, ha]
  have : s.data.toList[k]'(by simpa using h) = s[k] := rfl
  rw [this]
  simp [hd]
theorem dig_lo (c : UInt8) (h : (c.toNat : Int) < 48) : digB c = false := by simp [digB]; omega
theorem dig_hi (c : UInt8) (h : 57 < (c.toNat : Int)) : digB c = false := by simp [digB]; omega
theorem dig_ok (c : UInt8) (h : 48 ≤ (c.toNat : Int)) (h' : (c.toNat : Int) ≤ 57) : digB c = true := by simp [digB]; omega
theorem empty_of_size (s : ByteArray) (h : s.size = 0) : s = ByteArray.empty := by
  apply ByteArray.ext
  exact Array.size_eq_zero_iff.1 h
theorem toList_ne (s : ByteArray) (h : 1 ≤ s.size) : ¬ s.toList = [] := by
  intro e
  have : s.toList.length = s.size := by rw [Go.ByteArray.toList_eq]; simp
  rw [e] at this; simp at this; omega

set_option maxHeartbeats 400000 in
theorem numeral_none (w : World) :
    Calls Tryd.prog 12 #[.string ByteArray.empty] w fun e w' => e = .returned (.bool false) ∧ w' = w := by
  go_enter Tryd.func12, Tryd.ntmps12
  go_wp2
  go_ret
  exact ⟨rfl, rfl⟩

set_option maxHeartbeats 400000 in
theorem numeral_zero (s : ByteArray) (w : World) (hs : s.size ≤ 4096) (h1 : 1 < s.size) (h0 : ((s[0]'(by omega)).toNat : Int) = 48) :
    Calls Tryd.prog 12 #[.string s] w fun e w' => e = .returned (.bool false) ∧ w' = w := by
  have hb : (((s[0]'(by omega)).toNat : Int) == 48) = true := by rw [beq_iff_eq]; exact h0
  have hne := toList_ne s (by omega)
  have he : s.toList.isEmpty = false := by simpa using hne
  have h2 : (1 : Int) < (s.size : Int) := by omega
  have h3 : 0 < s.size := by omega
  have H0 := Lib.hid h0
  clear h0
  go_enter Tryd.func12, Tryd.ntmps12
  go_wp2
  go_ret
  exact ⟨rfl, rfl⟩

set_option maxHeartbeats 1000000 in
theorem numeral_rest (s : ByteArray) (w : World) (hs : s.size ≤ 4096) (h1 : 1 ≤ s.size) (hh : s.size ≤ 1 ∨ (s[0]'h1).toNat ≠ 48) :
    Calls Tryd.prog 12 #[.string s] w fun e w' => e = .returned (.bool (numB s.data.toList)) ∧ w' = w := by
  have HH := Lib.hid hh
  have hne := toList_ne s (by omega)
  have he : s.toList.isEmpty = false := by simpa using hne
  by_cases h2 : s.size ≤ 1
  · clear hh
    go_enter Tryd.func12, Tryd.ntmps12
    go_wp2
    go_loop [18] (fun si => ∃ k : Nat, k ≤ s.size ∧ si = .int .i64 k ∧ Hid ((s.data.toList.take k).all digB = true)) (fun si => s.size - (intOf si).toNat)
    case atStart => exact ⟨0, Nat.zero_le _, rfl, by show _ = _; simp⟩
    case round =>
      obtain ⟨k, hk, rfl, HA⟩ := hrel
      by_cases hlt : k < s.size
      · rcases Int.lt_or_le ((s[k].toNat : Int)) 48 with hlo | hlo
        · have HF := Lib.hid (numB_bad s k hlt (dig_lo _ hlo))
          go_wp2
          go_ret
          exact ⟨ret_bool HF.out.symm, rfl⟩
        · rcases Int.lt_or_le 57 ((s[k].toNat : Int)) with hhi | hhi
          · have HF := Lib.hid (numB_bad s k hlt (dig_hi _ hhi))
            go_wp2
            go_ret
            exact ⟨ret_bool HF.out.symm, rfl⟩
          · have HS := Lib.hid (all_snoc s k hlt HA.out (dig_ok _ hlo hhi))
            go_wp2
            go_round
            case rel => exact ⟨k + 1, by omega, by go_num, HS⟩
            case measure => simp [intOf]; omega
      · have hkl : k = s.size := by omega
        have ha := HA.out
        rw [List.take_of_length_le (by simp; omega)] at ha
        have HF := Lib.hid (numB_good s h1 ha HH.out)
        clear ha
        go_wp2
        go_ret
        exact ⟨ret_bool HF.out.symm, rfl⟩
  · have h0 : (s[0]'h1).toNat ≠ 48 := by omega
    have hb : (((s[0]'h1).toNat : Int) == 48) = false := by rw [beq_eq_false_iff_ne]; omega
    have h3 : 0 < s.size := by omega
    clear hh h0
    go_enter Tryd.func12, Tryd.ntmps12
    go_wp2
    go_loop [18] (fun si => ∃ k : Nat, k ≤ s.size ∧ si = .int .i64 k ∧ Hid ((s.data.toList.take k).all digB = true)) (fun si => s.size - (intOf si).toNat)
    case atStart => exact ⟨0, Nat.zero_le _, rfl, by show _ = _; simp⟩
    case round =>
      obtain ⟨k, hk, rfl, HA⟩ := hrel
      by_cases hlt : k < s.size
      · rcases Int.lt_or_le ((s[k].toNat : Int)) 48 with hlo | hlo
        · have HF := Lib.hid (numB_bad s k hlt (dig_lo _ hlo))
          go_wp2
          go_ret
          exact ⟨ret_bool HF.out.symm, rfl⟩
        · rcases Int.lt_or_le 57 ((s[k].toNat : Int)) with hhi | hhi
          · have HF := Lib.hid (numB_bad s k hlt (dig_hi _ hhi))
            go_wp2
            go_ret
            exact ⟨ret_bool HF.out.symm, rfl⟩
          · have HS := Lib.hid (all_snoc s k hlt HA.out (dig_ok _ hlo hhi))
            go_wp2
            go_round
            case rel => exact ⟨k + 1, by omega, by go_num, HS⟩
            case measure => simp [intOf]; omega
      · have hkl : k = s.size := by omega
        have ha := HA.out
        rw [List.take_of_length_le (by simp; omega)] at ha
        have HF := Lib.hid (numB_good s h1 ha HH.out)
        clear ha
        go_wp2
        go_ret
        exact ⟨ret_bool HF.out.symm, rfl⟩
theorem numeral_any (s : ByteArray) (w : World) (hs : s.size ≤ 4096) :
    Calls Tryd.prog 12 #[.string s] w fun e w' => e = .returned (.bool (numB s.data.toList)) ∧ w' = w := by
  by_cases h1 : 1 ≤ s.size
  · by_cases hh : s.size ≤ 1 ∨ (s[0]'h1).toNat ≠ 48
    · exact numeral_rest s w hs h1 hh
    · have h2 : 1 < s.size := by omega
      have h0 : (s[0]'h1).toNat = 48 := by omega
      rw [numB_zero s h2 h0]
      exact numeral_zero s w hs h2 (by omega)
  · obtain rfl := empty_of_size s (by omega)
    exact numeral_none w
end Go.Proofs.YtpdgmlndkhjlgaaDoor
