/- The reference's Of: the number of 32 bits. -/
import Derived.Test.YtihgkmjlefaaoaaDoorBits
set_option linter.unusedVariables false
namespace Go.Proofs.YtihgkmjlefaaoaaDoor
open Go.RowKit

theorem ofl_drop (zs : List Int) (p : Nat) (hp : p < zs.length) : ofl (zs.drop p) = zs.getD p 0 + 2 * ofl (zs.drop (p + 1)) := by
  rw [List.drop_eq_getElem_cons hp]
  simp [ofl, List.getD, hp]
theorem bit_getD (zs : List Int) (h : ∀ x ∈ zs, x = 0 ∨ x = 1) (p : Nat) : zs.getD p 0 = 0 ∨ zs.getD p 0 = 1 := by
  by_cases hp : p < zs.length
  · have := h _ (List.getElem_mem hp)
    simpa [List.getD, hp] using this
  · left; simp [List.getD, List.getElem?_eq_none (by omega : zs.length ≤ p)]
theorem ofl_drop_W (zs : List Int) (h : ∀ x ∈ zs, x = 0 ∨ x = 1) (hz : zs.length = 32) (p : Nat) : 0 ≤ ofl (zs.drop p) ∧ ofl (zs.drop p) ≤ 4294967295 := by
  have := ofl_W (zs.drop p) (fun x hx => h x (List.mem_of_mem_drop hx)) 32 (by simp; omega)
  have e : (2 : Int) ^ 32 = 4294967296 := by decide
  rw [e] at this
  omega

set_option maxHeartbeats 400000 in
theorem of_bits (g cap : Nat) (zs : List Int) (w : World) (hz : zs.length = 32) (hb : ∀ x ∈ zs, x = 0 ∨ x = 1)
    (hc : ∀ t, t < 32 → w.cell? ⟨g, t, none⟩ = some (.int .i64 (zs.getD t 0))) :
    Calls Tryd.prog 39 #[.slice (some ⟨g, 0, none⟩) 32 cap] w fun e w' => e = .returned (.int .u32 (ofl zs)) ∧ w' = w := by
  have HB := Lib.hid (bit_getD zs hb)
  have HW := Lib.hid (ofl_drop_W zs hb hz)
  have HD := Lib.hid (ofl_drop zs)
  have HC := Lib.hid hc
  have HL := Lib.hid hz
  clear hz hb hc
  go_enter Tryd.func39, Tryd.ntmps39
  go_wp2
  go_loop [3, 4] (fun sn si => ∃ (c x : Int), -1 ≤ c ∧ c ≤ 31 ∧ si = .int .i64 c ∧ sn = .int .u64 x ∧ Hid (x = ofl (zs.drop (c + 1).toNat))) (fun _ si => (intOf si + 1).toNat)
  case atStart => exact ⟨31, 0, by omega, by omega, rfl, rfl, by show _ = _; rw [List.drop_of_length_le (by rw [HL.out]; decide)]; rfl⟩
  case round =>
    obtain ⟨c, x, c0, c1, rfl, rfl, HX⟩ := hrel
    have hxw : 0 ≤ x ∧ x ≤ 4294967295 := by rw [HX.out]; exact HW.out _
    obtain ⟨x0, x1⟩ := hxw
    by_cases hlt : 0 ≤ c
    · obtain ⟨p, rfl⟩ := Int.eq_ofNat_of_zero_le hlt
      have hcell := HC.out p (by omega)
      have hbit := HB.out p
      have hd := HD.out p (by rw [HL.out]; omega)
      have hxw2 := HW.out p
      rw [hd] at hxw2
      rw [show ((p : Int) + 1).toNat = p + 1 by omega] at HX
      rw [← HX.out] at hxw2 hd
      obtain ⟨b, hbb⟩ : ∃ b, zs.getD p 0 = b := ⟨_, rfl⟩
      rw [hbb] at hcell hbit hd hxw2
      have b0 : 0 ≤ b := by omega
      have b1 : b ≤ 1 := by omega
      obtain ⟨y0, y1⟩ := hxw2
      have HDD := Lib.hid hd
      clear hd hbb hbit HX
      go_wp2
      go_round
      case rel => exact ⟨p - 1, 2 * x + b, by omega, by omega, by go_num, by go_num, by show _ = _; rw [show ((p : Int) - 1 + 1).toNat = p by omega, HDD.out]; omega⟩
      case measure => simp [intOf]
    · have hx2 := HX.out
      rw [show (c + 1).toNat = 0 by omega, List.drop_zero] at hx2
      have HX2 := Lib.hid hx2
      clear hx2
      go_wp2
      go_ret
      exact ⟨ret_int (by rw [← HX2.out]; omega), rfl⟩
end Go.Proofs.YtihgkmjlefaaoaaDoor
