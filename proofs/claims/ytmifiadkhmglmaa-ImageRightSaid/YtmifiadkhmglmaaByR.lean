/- The reference's Bytes of words. -/
import Derived.Test.YtmifiadkhmglmaaBytes
set_option linter.unusedVariables false
namespace Go.Proofs.Ytmifiadkhmglmaa
open Go.RowKit

def byN : Nat → Int → List Int
  | 0, _ => []
  | n + 1, c => c % 256 :: byN n (c / 256)
theorem byN_byts (z : Int) (z0 : 0 ≤ z) (z1 : z < 4294967296) : byN 4 z = byts z := by
  simp only [byN, byts]
  rw [show z / 256 / 256 = z / 65536 by omega, show z / 65536 / 256 = z / 16777216 by omega, show z / 16777216 % 256 = z / 16777216 by omega]

set_option maxRecDepth 100000 in
set_option maxHeartbeats 1000000 in
theorem ref_bytes_row (b off len cap : Nat) (zs : List Int) (w : World) (hz : zs.length = len) (hl : len ≤ 4096) (hp : 0 < len) (hb : b < w.heap.size)
    (hc : ∀ j, j < len → w.cell? ⟨b, off + j, none⟩ = some (.int .u32 (zs.getD j 0))) (hw : ∀ j, 0 ≤ zs.getD j 0 ∧ zs.getD j 0 < 4294967296) :
    Calls Try.prog 21 #[.slice (some ⟨b, off, none⟩) len cap] w fun e w' => e = .returned (.string (strOfNums (bytsAll zs))) ∧ Below w.heap.size w w' := by
  obtain ⟨i0, hi, hz0, hz1, hz2⟩ := info_parts info5
  go_enter Try.func21, Try.ntmps21
  go_wp2_with (at_make; refine wpList_make_own _ rfl _ _ 47 rfl w.heap.size 5 i0 (.int .u8 0) 1 Try.underlying47 hi hz0 hz1 _ _ _ (4 * len) rfl rfl (by omega) ?b2 ?b3 (Nat.le_refl _) ?_)
  case b2 => rw [hz2]; omega
  case b3 => unfold maxLen; omega
  intro w0 hown0 hgrow0
  go_wp2
  go_loopw [3, 4] (fun out si wr => ∃ k : Nat, k ≤ len ∧ si = .int .i64 k ∧ out = .slice (some ⟨w.heap.size, 0, none⟩) (4 * k) (4 * len) ∧
      wr.ownsRow w.heap.size 5 1 (.slice (some ⟨w.heap.size, 0, none⟩) (4 * k) (4 * len)) (4 * k) ((bytsAll (zs.take k)).map (Value.int .u8)) ∧ Below w.heap.size w wr)
    (fun _ si _ => len - (intOf si).toNat)
  case atStart => exact ⟨0, Nat.zero_le _, rfl, rfl, hown0, (Below.refl _ _).grown hgrow0 (Nat.le_refl _) (fun k h => by cases h)⟩
  case round =>
    obtain ⟨k, hk, rfl, rfl, hown, hnx⟩ := hrel
    by_cases hlt : k < len
    · have hcx : wr.cell? ⟨b, off + k, none⟩ = some (.int .u32 (zs.getD k 0)) := (hnx.cell (by exact hb)).trans (hc k hlt)
      obtain ⟨z, hzk⟩ : ∃ z, z = zs.getD k 0 := ⟨_, rfl⟩
      have hz0' := hw k
      rw [← hzk] at hcx hz0'
      have HZ := Lib.hid hzk
      have HC := Lib.hid hc
      have HW := Lib.hid hw
      clear hzk hw hc
      obtain ⟨z0, z1⟩ := hz0'
      have HBZ := Lib.hid (byN_byts z z0 z1)
      go_wp2
      obtain ⟨wo, rfl⟩ : ∃ wo : World, wo = wr := ⟨_, rfl⟩
      go_loopw [3, 5, 6] (fun out sn sj wr => ∃ (j : Nat) (c : Int) (xs : List Int), j ≤ 4 ∧ sj = .int .i64 j ∧ sn = .int .u32 c ∧ 0 ≤ c ∧ c < 4294967296 ∧ Hid (xs ++ byN (4 - j) c = bytsAll (zs.take k) ++ byN 4 z) ∧
          out = .slice (some ⟨w.heap.size, 0, none⟩) (4 * k + j) (4 * len) ∧
          wr.ownsRow w.heap.size 5 1 (.slice (some ⟨w.heap.size, 0, none⟩) (4 * k + j) (4 * len)) (4 * k + j) (xs.map (Value.int .u8)) ∧ Below w.heap.size w wr)
        (fun _ _ sj _ => 4 - (intOf sj).toNat)
      case atStart => exact ⟨0, z, bytsAll (zs.take k), by omega, rfl, rfl, z0, z1, rfl, rfl, hown, hnx⟩
      case round =>
        obtain ⟨j, c, xs, hj, rfl, rfl, c0, c1, HX, rfl, hown2, hnx2⟩ := hrel
        by_cases hlt2 : j < 4
        · go_wp2_with (at_builtin; refine wpList_append_fits _ rfl (.tmp 25) (.tmp 29) 47 rfl w.heap.size 5 i0 1 Try.underlying47 hi hz1 w.heap.size (4 * k + j) (4 * len) _ rfl (hown2.alloc _) ⟨wr.heap.size, 0, none⟩ 1 1 ([c % 256].map (Value.int .u8)) rfl rfl (one_new _ _ _) (ints_oneCell _ _) (by omega) ?_; intro w1 hown1 hgrow1)
          go_roundw
          case rel => exact ⟨j + 1, c / 256, xs ++ [c % 256], by omega, by go_num, rfl, by omega, by omega, by show _ = _; rw [← HX.out, show 4 - j = (4 - (j + 1)) + 1 by omega, List.append_assoc]; rfl, rfl, by rw [List.map_append]; exact hown1, (hnx2.alloc hnx2.size _).grown hgrow1 (by simp; have := hnx2.size; omega) (fun k hk => by cases hk; exact Nat.le_refl _)⟩
          case measure => simp [intOf]; omega
        · obtain rfl : j = 4 := by omega
          have hx2 := HX.out
          rw [HBZ.out, HZ.out, ← bytsAll_snoc zs k (by omega)] at hx2
          simp only [byN, List.append_nil, Nat.sub_self] at hx2
          have HX2 := Lib.hid hx2
          clear hx2
          go_wp2
          go_roundw
          case rel => exact ⟨k + 1, by omega, by go_num, by rw [Nat.mul_add], by rw [Nat.mul_add, ← HX2.out]; exact hown2, hnx2⟩
          case measure => simp [intOf]; omega
    · have hkl : k = len := by omega
      subst hkl
      have hcells : ∀ i, i < 4 * k → wr.cell? ⟨w.heap.size, 0 + i, none⟩ = some (.int .u8 ((bytsAll (zs.take k)).getD i 0)) := by
        intro i hi
        have hlen : (bytsAll (zs.take k)).length = 4 * k := by rw [length_bytsAll, List.length_take]; omega
        rw [Nat.zero_add, hown.cellAt i (by omega)]
        simp [List.getElem?_map, List.getD, List.getElem?_eq_getElem (show i < (bytsAll (zs.take k)).length by omega)]
      have hcv := run_convert_bytes_arg (P := Try.prog) wr 47 5 Try.underlying47 Try.underlying5 w.heap.size 0 (4 * k) (4 * k) (bytsAll (zs.take k)) (by rw [length_bytsAll, List.length_take]; omega) hcells 9 Try.underlying9
      rw [List.take_of_length_le (by omega)] at hcv
      clear hcells hc
      go_wp2
      go_ret
      exact ⟨rfl, hnx⟩
set_option maxHeartbeats 400000 in
theorem ref_bytes_nil (a : Option Addr) (cap : Nat) (w : World) :
    Calls Try.prog 21 #[.slice a 0 cap] w fun e w' => e = .returned (.string ByteArray.empty) ∧ Below w.heap.size w w' := by
  obtain ⟨i0, hi, hz0, hz1, hz2⟩ := info_parts info5
  go_enter Try.func21, Try.ntmps21
  go_wp2_with (at_make; refine wpList_make_own _ rfl _ _ 47 rfl w.heap.size 5 i0 (.int .u8 0) 1 Try.underlying47 hi hz0 hz1 _ _ _ 0 rfl rfl (by omega) ?b2 ?b3 (Nat.le_refl _) ?_)
  case b2 => rw [hz2]; omega
  case b3 => unfold maxLen; omega
  intro w0 hown0 hgrow0
  have hcv := run_convert_bytes_arg (P := Try.prog) w0 47 5 Try.underlying47 Try.underlying5 w.heap.size 0 0 0 [] rfl (fun i hi => by omega) 9 Try.underlying9
  have e0 : strOfNums [] = ByteArray.empty := rfl
  rw [e0] at hcv
  clear e0
  go_wp2
  refine wp_loop_rounds 1 ?_
  rw [rounds_succ]
  go_wp2
  go_ret
  exact ⟨rfl, (Below.refl _ _).grown hgrow0 (Nat.le_refl _) (fun k h => by cases h)⟩
end Go.Proofs.Ytmifiadkhmglmaa
