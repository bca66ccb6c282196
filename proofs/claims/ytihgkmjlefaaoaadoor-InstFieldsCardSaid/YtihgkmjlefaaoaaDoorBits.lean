/- The reference's Bits and Of. -/
import Derived.Test.YtihgkmjlefaaoaaDoorBytes
set_option linter.unusedVariables false
namespace Go.Proofs.YtihgkmjlefaaoaaDoor
open Go.RowKit

theorem info3 : (Tryd.prog.info? 3).map (fun i => (i.zero, i.size, i.bytes)) = some (some (.int .i64 0), 1, 8) := by kernel_rfl

/-- A number's lowest n bits, the low end first. -/
def bl : Nat → Int → List Int
  | 0, _ => []
  | n + 1, a => a % 2 :: bl n (a / 2)
theorem length_bl (n : Nat) (a : Int) : (bl n a).length = n := by
  induction n generalizing a with
  | zero => rfl
  | succ n ih => simp [bl, ih]
theorem bl_bit (n : Nat) (a : Int) : ∀ x ∈ bl n a, x = 0 ∨ x = 1 := by
  induction n generalizing a with
  | zero => intro x hx; simp [bl] at hx
  | succ n ih =>
    intro x hx
    simp only [bl, List.mem_cons] at hx
    rcases hx with rfl | hx
    · omega
    · exact ih _ x hx
/-- The number of bits. -/
def ofl : List Int → Int
  | [] => 0
  | b :: r => b + 2 * ofl r
theorem ofl_W (l : List Int) (h : ∀ x ∈ l, x = 0 ∨ x = 1) (n : Nat) (hn : l.length ≤ n) : 0 ≤ ofl l ∧ ofl l < 2 ^ n := by
  induction l generalizing n with
  | nil => exact ⟨by simp [ofl], by simp only [ofl]; exact Int.pow_pos (by decide)⟩
  | cons b r ih =>
    match n, hn with
    | n + 1, hn =>
      have i := ih (fun x hx => h x (List.mem_cons_of_mem _ hx)) n (by simpa using hn)
      have hb := h b (List.mem_cons_self ..)
      simp only [ofl]
      rw [Int.pow_succ]
      omega

theorem own_shape {w : World} {B e n : Nat} {v : Value} {xs : List Value} (h : w.ownsRow B e 1 v n xs) (hn : 0 < n) :
    ∃ g cap, v = .slice (some ⟨g, 0, none⟩) n cap ∧ B ≤ g ∧ g < w.heap.size := by
  have h2 := h
  obtain ⟨_, h | ⟨g, cap, cur, hv, hg, hb, _⟩⟩ := h
  · omega
  · refine ⟨g, cap, hv, hg, ?_⟩
    have := h2.lt g (by rw [hv]; rfl)
    exact this.2

set_option maxHeartbeats 800000 in
theorem bits_any (a : Int) (w : World) (a0 : 0 ≤ a) (a1 : a < 4294967296) :
    Calls Tryd.prog 38 #[.int .u32 a] w fun e w' => ∃ g cap, e = .returned (.slice (some ⟨g, 0, none⟩) 32 cap) ∧ w.heap.size ≤ g ∧ g < w'.heap.size ∧
      w'.ownsRow w.heap.size 3 1 (.slice (some ⟨g, 0, none⟩) 32 cap) 32 ((bl 32 a).map (Value.int .i64)) ∧ Below w.heap.size w w' := by
  obtain ⟨i0, hi, hz0, hz1, hz2⟩ := info_parts info3
  go_enter Tryd.func38, Tryd.ntmps38
  go_wp2
  go_loopw [0, 3, 4] (fun sa out si wr => ∃ (j : Nat) (c : Int) (xs : List Int), j ≤ 32 ∧ si = .int .i64 j ∧ sa = .int .u32 c ∧ 0 ≤ c ∧ c < 4294967296 ∧ xs ++ bl (32 - j) c = bl 32 a ∧
      wr.ownsRow w.heap.size 3 1 out j (xs.map (Value.int .i64)) ∧ Below w.heap.size w wr)
    (fun _ _ si _ => 32 - (intOf si).toNat)
  case atStart => exact ⟨0, a, [], Nat.zero_le _, rfl, rfl, a0, a1, rfl, World.ownsRow_nil _ _ _ _, Below.refl _ _⟩
  case round =>
    obtain ⟨j, c, xs, hj, rfl, rfl, c0, c1, hx, hown, hnx⟩ := hrel
    have HX := Lib.hid hx
    clear hx
    by_cases hlt : j < 32
    · go_wp2_with (at_builtin; refine wpList_append_own _ rfl _ _ 65 rfl w.heap.size 3 i0 (.int .i64 0) 1 8 Tryd.underlying65 hi hz0 hz1 hz2 rfl (by decide) _ _ _ rfl (hown.alloc _) ⟨wr.heap.size, 0, none⟩ 1 1 ([c % 2].map (Value.int .i64)) rfl rfl (one_new _ _ _) (ints_oneCell _ _) ?c3 ?c4 ?c5 ?_)
      case c3 => unfold maxLen; omega
      case c4 => omega
      case c5 => have := hnx.size; simp; omega
      intro v' w1 hown1 hgrow1 _
      have hbel := (hnx.alloc hnx.size _).grown hgrow1 (by simp; have := hnx.size; omega) (fun k hk => (hown.lt k hk).1)
      clear hown hgrow1
      go_wp2
      go_roundw
      case rel => exact ⟨j + 1, c / 2, xs ++ [c % 2], by omega, by go_num, rfl, by omega, by omega, by rw [← HX.out, show 32 - j = (32 - (j + 1)) + 1 by omega, List.append_assoc]; rfl, by rw [List.map_append]; exact hown1, hbel⟩
      case measure => simp [intOf]; omega
    · obtain rfl : j = 32 := by omega
      obtain ⟨g, cap, hv, hg, hgs⟩ := own_shape hown (by omega)
      have hx2 := HX.out
      simp only [bl, List.append_nil, Nat.sub_self] at hx2
      have HX2 := Lib.hid hx2
      clear hx2
      have HV := Lib.hid hv
      clear hv
      go_wp2
      go_ret
      have hown2 := hown
      rw [HX2.out, HV.out] at hown2
      exact ⟨g, cap, congrArg Ending.returned HV.out, hg, hgs, hown2, hnx⟩
end Go.Proofs.YtihgkmjlefaaoaaDoor
