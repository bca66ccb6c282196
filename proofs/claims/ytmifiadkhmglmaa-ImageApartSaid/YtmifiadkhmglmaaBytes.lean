/- The contract of package word's Bytes. -/
import Derived.Test.YtmifiadkhmglmaaRet
import Derived.Test.YtmifiadkhmglmaaMath
set_option linter.unusedVariables false
namespace Go.Proofs.Ytmifiadkhmglmaa
open Go.RowKit


/-- A word's bytes, the lowest first. -/
def byts (n : Int) : List Int := [n % 256, n / 256 % 256, n / 65536 % 256, n / 16777216]
def bytsAll : List Int → List Int
  | [] => []
  | n :: r => byts n ++ bytsAll r

theorem bytsAll_append (a b : List Int) : bytsAll (a ++ b) = bytsAll a ++ bytsAll b := by
  induction a with
  | nil => rfl
  | cons n r ih => simp [bytsAll, ih]
theorem length_bytsAll (a : List Int) : (bytsAll a).length = 4 * a.length := by
  induction a with
  | nil => rfl
  | cons n r ih => simp [bytsAll, ih, byts]; omega
theorem take_snoc_getD (zs : List Int) (k : Nat) (h : k < zs.length) : zs.take (k + 1) = zs.take k ++ [zs.getD k 0] := by
  rw [List.take_succ_eq_append_getElem h]
  simp [List.getD, h]
theorem bytsAll_snoc (zs : List Int) (k : Nat) (h : k < zs.length) : bytsAll (zs.take (k + 1)) = bytsAll (zs.take k) ++ byts (zs.getD k 0) := by
  rw [take_snoc_getD zs k h, bytsAll_append]
  simp [bytsAll]

theorem four_new (w : World) (a b c d : Value) (t : TypeId) :
    ∀ (j : Nat) (u : Value), [a, b, c, d][j]? = some u → (w.alloc (.cells #[a, b, c, d] t)).cell? ((⟨w.heap.size, 0, none⟩ : Addr).add j) = some u := by
  intro j u hj
  match j, hj with
  | 0, hj => simp at hj; subst hj; simp [Addr.add]
  | 1, hj => simp at hj; subst hj; simp [Addr.add]
  | 2, hj => simp at hj; subst hj; simp [Addr.add]
  | 3, hj => simp at hj; subst hj; simp [Addr.add]
  | n + 4, hj => simp at hj

set_option maxHeartbeats 400000 in
theorem bytes_row (b off len cap : Nat) (zs : List Int) (w : World) (hz : zs.length = len) (hl : len ≤ 4096) (hp : 0 < len) (hb : b < w.heap.size)
    (hc : ∀ j, j < len → w.cell? ⟨b, off + j, none⟩ = some (.int .u32 (zs.getD j 0))) (hw : ∀ j, 0 ≤ zs.getD j 0 ∧ zs.getD j 0 < 4294967296) :
    Calls Try.prog 20 #[.slice (some ⟨b, off, none⟩) len cap] w fun e w' => e = .returned (.string (strOfNums (bytsAll zs))) ∧ Below w.heap.size w w' := by
  obtain ⟨i0, hi, hz0, hz1, hz2⟩ := info_parts info5
  go_enter Try.func20, Try.ntmps20
  go_wp2_with (at_make; refine wpList_make_own _ rfl _ _ 47 rfl w.heap.size 5 i0 (.int .u8 0) 1 Try.underlying47 hi hz0 hz1 _ _ _ (4 * len) rfl rfl (by omega) ?b2 ?b3 (Nat.le_refl _) ?_)
  case b2 => rw [hz2]; omega
  case b3 => unfold maxLen; omega
  intro w0 hown0 hgrow0
  go_wp2
  go_loopw [3, 12] (fun out si wr => ∃ k : Nat, k ≤ len ∧ si = .int .i64 k ∧ out = .slice (some ⟨w.heap.size, 0, none⟩) (4 * k) (4 * len) ∧
      wr.ownsRow w.heap.size 5 1 (.slice (some ⟨w.heap.size, 0, none⟩) (4 * k) (4 * len)) (4 * k) ((bytsAll (zs.take k)).map (Value.int .u8)) ∧ Below w.heap.size w wr)
    (fun _ si _ => len - (intOf si).toNat)
  case atStart => exact ⟨0, Nat.zero_le _, rfl, rfl, hown0, (Below.refl _ _).grown hgrow0 (Nat.le_refl _) (fun k h => by cases h)⟩
  case round =>
    obtain ⟨k, hk, rfl, rfl, hown, hnx⟩ := hrel
    by_cases hlt : k < len
    · have hcx : wr.cell? ⟨b, off + k, none⟩ = some (.int .u32 (zs.getD k 0)) := (hnx.cell (by exact hb)).trans (hc k hlt)
      obtain ⟨z, hzk⟩ : ∃ z, z = zs.getD k 0 := ⟨_, rfl⟩
      have hz0' := hw k
      rw [← hzk] at hcx hz0'
      have HZ := Lib.hid hzk
      clear hzk hw hc
      obtain ⟨z0, z1⟩ := hz0'
      go_wp2_with (at_builtin; refine wpList_append_fits _ rfl (.tmp 16) (.tmp 28) 47 rfl w.heap.size 5 i0 1 Try.underlying47 hi hz1 w.heap.size (4 * k) (4 * len) _ rfl (hown.alloc _) ⟨wr.heap.size, 0, none⟩ 4 4 ((byts z).map (Value.int .u8)) rfl rfl (four_new _ _ _ _ _ _) (ints_oneCell _ _) (by omega) ?_; intro w1 hown1 hgrow1)
      go_roundw
      case rel => exact ⟨k + 1, by omega, by go_num, by rw [Nat.mul_add], by rw [Nat.mul_add, bytsAll_snoc zs k (by omega), ← HZ.out, List.map_append]; exact hown1, (hnx.alloc hnx.size _).grown hgrow1 (by simp; have := hnx.size; omega) (fun k hk => by cases hk; exact Nat.le_refl _)⟩
      case measure => simp [intOf]; omega
    · have hkl : k = len := by omega
      subst hkl
      have hcells : ∀ i, i < 4 * k → wr.cell? ⟨w.heap.size, 0 + i, none⟩ = some (.int .u8 ((bytsAll (zs.take k)).getD i 0)) := by
        intro i hi
        have hlen : (bytsAll (zs.take k)).length = 4 * k := by rw [length_bytsAll, List.length_take]; omega
        rw [Nat.zero_add, hown.cellAt i (by omega)]
        simp [List.getElem?_map, List.getD, List.getElem?_eq_getElem (show i < (bytsAll (zs.take k)).length by omega)]
      have hcv := run_convert_bytes_arg (P := Try.prog) wr 47 5 Try.underlying47 Try.underlying5 w.heap.size 0 (4 * k) (4 * k) (bytsAll (zs.take k)) (by rw [length_bytsAll, List.length_take]; omega) hcells 9 Try.underlying9
      rw [List.take_of_length_le (by omega)] at hcv
      clear hcells hc
      go_wp2
      go_ret
      exact ⟨rfl, hnx⟩
set_option maxHeartbeats 400000 in
theorem bytes_nil (a : Option Addr) (cap : Nat) (w : World) :
    Calls Try.prog 20 #[.slice a 0 cap] w fun e w' => e = .returned (.string ByteArray.empty) ∧ Below w.heap.size w w' := by
  obtain ⟨i0, hi, hz0, hz1, hz2⟩ := info_parts info5
  go_enter Try.func20, Try.ntmps20
  go_wp2_with (at_make; refine wpList_make_own _ rfl _ _ 47 rfl w.heap.size 5 i0 (.int .u8 0) 1 Try.underlying47 hi hz0 hz1 _ _ _ 0 rfl rfl (by omega) ?b2 ?b3 (Nat.le_refl _) ?_)
  case b2 => rw [hz2]; omega
  case b3 => unfold maxLen; omega
  intro w0 hown0 hgrow0
  have hcv := run_convert_bytes_arg (P := Try.prog) w0 47 5 Try.underlying47 Try.underlying5 w.heap.size 0 0 0 [] rfl (fun i hi => by omega) 9 Try.underlying9
  have e0 : strOfNums [] = ByteArray.empty := rfl
  rw [e0] at hcv
  clear e0
  go_wp2
  refine wp_loop_rounds 1 ?_
  rw [rounds_succ]
  go_wp2
  go_ret
  exact ⟨rfl, (Below.refl _ _).grown hgrow0 (Nat.le_refl _) (fun k h => by cases h)⟩
end Go.Proofs.Ytmifiadkhmglmaa
