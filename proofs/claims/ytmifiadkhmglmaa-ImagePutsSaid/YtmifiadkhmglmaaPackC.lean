/- Words, and the reference's: the words whose bytes a string is. -/
import Derived.Test.YtmifiadkhmglmaaPackM
set_option linter.unusedVariables false
namespace Go.Proofs.Ytmifiadkhmglmaa
open Go.RowKit

theorem or_add (x y : Int) (i : Nat) (hi : i < 32) (x0 : 0 ≤ x) (x1 : x < 2 ^ i) (y0 : 0 ≤ y) (y1 : y * 2 ^ i < 4294967296) :
    bits .or .u32 x (y * 2 ^ i) = x + y * 2 ^ i := by
  have hp : (0 : Int) < 2 ^ i := Int.pow_pos (by decide)
  have hle : (2 : Int) ^ i ≤ 4294967296 := by
    have h1 : (2 : Nat) ^ i ≤ 2 ^ 32 := Nat.pow_le_pow_right (by decide) (by omega)
    have h3 : ((2 ^ i : Nat) : Int) = 2 ^ i := by push_cast; rfl
    have h4 : (2 : Nat) ^ 32 = 4294967296 := by decide
    rw [← h3]; omega
  have hz : 0 ≤ y * 2 ^ i := Int.mul_nonneg y0 (Int.le_of_lt hp)
  have e32 : (2 : Int) ^ 32 = 4294967296 := by decide
  have h := bits_join .u32 32 (by decide) wraps_u32 i (y * 2 ^ i) x hz (Int.mul_emod_left _ _) (by rw [e32]; exact y1) x0 x1 (by rw [e32]; omega)
  rw [Int.add_comm] at h
  rw [← h, or_u32 _ _ x0 (by omega) hz y1, or_u32 _ _ hz y1 x0 (by omega), Nat.or_comm]
theorem or_pair (x y : Int) (x0 : 0 ≤ x) (x1 : x < 256) (y0 : 0 ≤ y) (y1 : y < 256) :
    bits .or .u32 (x % 4294967296) (y % 4294967296 * 256 % 4294967296) = x + y * 256 := by
  have e : (2 : Int) ^ 8 = 256 := by decide
  have h := or_add x y 8 (by decide) x0 (by rw [e]; exact x1) y0 (by rw [e]; omega)
  rw [e] at h
  rw [← h]
  congr 1
  · omega
  · omega
theorem or_half (x y : Int) (x0 : 0 ≤ x) (x1 : x < 65536) (y0 : 0 ≤ y) (y1 : y < 65536) :
    bits .or .u32 x (y * 65536) = x + y * 65536 := by
  have e : (2 : Int) ^ 16 = 65536 := by decide
  have h := or_add x y 16 (by decide) x0 (by rw [e]; exact x1) y0 (by rw [e]; omega)
  rw [e] at h
  exact h
theorem byte_bd (b : UInt8) : 0 ≤ (b.toNat : Int) ∧ (b.toNat : Int) < 256 := by
  have := b.toNat_lt
  omega

theorem one_new2 (w : World) (a : Value) (t : TypeId) :
    ∀ (j : Nat) (u : Value), [a][j]? = some u → (w.alloc (.cells #[a] t)).drew.drew.cell? ((⟨w.heap.size, 0, none⟩ : Addr).add j) = some u := by
  intro j u hj
  have := one_new w a t j u hj
  simpa using this

set_option maxHeartbeats 400000 in
theorem words_form (s : ByteArray) (w : World) (hs : s.size ≤ 4096) (h4 : s.size % 4 ≠ 0) :
    Calls Try.prog 28 #[.string s] w fun e w' => e = .returned (.tuple #[.slice none 0 0, .int .i64 7]) ∧ Below w.heap.size w w' := by
  have hb : (((s.size : Int) % 4) != 0) = true := by rw [bne_iff_ne]; omega
  go_enter Try.func28, Try.ntmps28
  go_wp2
  go_ret2
  exact ⟨rfl, Below.refl _ _⟩

set_option maxHeartbeats 400000 in
theorem words_any (s : ByteArray) (m : Nat) (w : World) (hs : m ≤ 1024) (h4 : s.size = 4 * m) :
    Calls Try.prog 28 #[.string s] w fun e w' => e = .returned (.tuple #[.slice (some ⟨w.heap.size, 0, none⟩) m m, .int .i64 0]) ∧
      w'.ownsRow w.heap.size 35 1 (.slice (some ⟨w.heap.size, 0, none⟩) m m) m ((wdsL (nums s)).map (Value.int .u32)) ∧ Below w.heap.size w w' := by
  have hwl := length_wdsL m (nums s) (by rw [length_nums]; exact h4)
  have HWL := Lib.hid hwl
  clear hwl
  obtain ⟨i0, hi, hz0, hz1, hz2⟩ := info_parts infoU32
  go_enter Try.func28, Try.ntmps28
  go_wp2_with (at_make; refine wpList_make_own _ rfl _ _ 22 rfl w.heap.size 35 i0 (.int .u32 0) 1 Try.underlying22 hi hz0 hz1 _ _ _ m rfl rfl (by omega) ?b2 ?b3 (Nat.le_refl _) ?_)
  case b2 => rw [hz2]; omega
  case b3 => unfold maxLen; omega
  intro w0 hown0 hgrow0
  go_wp2
  go_loopw [4, 5] (fun out si wr => ∃ k : Nat, k ≤ m ∧ si = .int .i64 (4 * (k : Int)) ∧ out = .slice (some ⟨w.heap.size, 0, none⟩) k m ∧
      wr.ownsRow w.heap.size 35 1 (.slice (some ⟨w.heap.size, 0, none⟩) k m) k (((wdsL (nums s)).take k).map (Value.int .u32)) ∧ Below w.heap.size w wr)
    (fun _ si _ => 4 * m - (intOf si).toNat)
  case atStart => exact ⟨0, Nat.zero_le _, rfl, rfl, hown0, (Below.refl _ _).grown hgrow0 (Nat.le_refl _) (fun k h => by cases h)⟩
  case round =>
    obtain ⟨k, hk, rfl, rfl, hown, hnx⟩ := hrel
    by_cases hlt : k < m
    · have p0 : 0 ≤ 4 * (k : Int) := by omega
      have p1 : 0 ≤ 4 * (k : Int) + 1 := by omega
      have p2 : 0 ≤ 4 * (k : Int) + 2 := by omega
      have p3 : 0 ≤ 4 * (k : Int) + 3 := by omega
      have q0 : 4 * (k : Int) < 4 * (m : Int) := by omega
      have q1 : 4 * (k : Int) + 1 < 4 * (m : Int) := by omega
      have q2 : 4 * (k : Int) + 2 < 4 * (m : Int) := by omega
      have q3 : 4 * (k : Int) + 3 < 4 * (m : Int) := by omega
      have s0 : 4 * k < s.size := by omega
      have s1 : 4 * k + 1 < s.size := by omega
      have s2 : 4 * k + 2 < s.size := by omega
      have s3 : 4 * k + 3 < s.size := by omega
      have t0 := byte_bd s[4 * k]
      have t1 := byte_bd s[4 * k + 1]
      have t2 := byte_bd s[4 * k + 2]
      have t3 := byte_bd s[4 * k + 3]
      have hw := wdsL_getD k (nums s) (by rw [length_nums]; omega)
      rw [nums_getD s _ s0, nums_getD s _ s1, nums_getD s _ s2, nums_getD s _ s3] at hw
      have htk := take_snoc_getD (wdsL (nums s)) k (by rw [HWL.out]; exact hlt)
      rw [hw] at htk
      have HTK := Lib.hid htk
      have HT0 := Lib.hid t0
      have HT1 := Lib.hid t1
      have HT2 := Lib.hid t2
      have HT3 := Lib.hid t3
      clear hw htk t0 t1 t2 t3
      go_wp2
      go_region
      rw [or_pair _ _ HT0.out.1 HT0.out.2 HT1.out.1 HT1.out.2]
      go_wp2
      go_region
      rw [or_pair _ _ HT2.out.1 HT2.out.2 HT3.out.1 HT3.out.2]
      have u0 := HT0.out
      have u1 := HT1.out
      have u2 := HT2.out
      have u3 := HT3.out
      obtain ⟨x, hx⟩ : ∃ x : Int, (s[4 * k].toNat : Int) + (s[4 * k + 1].toNat : Int) * 256 = x := ⟨_, rfl⟩
      obtain ⟨y, hy⟩ : ∃ y : Int, (s[4 * k + 2].toNat : Int) + (s[4 * k + 3].toNat : Int) * 256 = y := ⟨_, rfl⟩
      have x0 : 0 ≤ x := by omega
      have x1 : x < 65536 := by omega
      have y0 : 0 ≤ y := by omega
      have y1 : y < 65536 := by omega
      rw [hx, hy]
      have htk := HTK.out
      rw [hx, hy] at htk
      have HTK2 := Lib.hid htk
      have hor := or_half x y x0 x1 y0 y1
      clear htk HTK hx hy u0 u1 u2 u3
      go_wp2_with (at_builtin; refine wpList_append_fits _ rfl (.tmp 45) (.tmp 50) 22 rfl w.heap.size 35 i0 1 Try.underlying22 hi hz1 w.heap.size k m _ rfl ((hown.alloc _).drew.drew) ⟨wr.heap.size, 0, none⟩ 1 1 ([x + y * 65536].map (Value.int .u32)) rfl rfl (one_new2 _ _ _) (ints_oneCell _ _) (by omega) ?_; intro w1 hown1 hgrow1)
      go_roundw
      case rel => exact ⟨k + 1, by omega, by go_num, rfl, by rw [HTK2.out, List.map_append]; exact hown1, (hnx.alloc hnx.size _).drew.drew.grown hgrow1 (by simp; have := hnx.size; omega) (fun k hk => by cases hk; exact Nat.le_refl _)⟩
      case measure => simp [intOf]; omega
    · obtain rfl : k = m := by omega
      rw [List.take_of_length_le (by rw [HWL.out]; exact Nat.le_refl _)] at hown
      go_wp2
      go_ret2
      exact ⟨rfl, hown, hnx⟩


/-- The number of the bytes at places i to 3 of a word, so far. -/
def hi4 (l : List Int) (k : Nat) : Nat → Int
  | 0 => 0
  | n + 1 => hi4 l k n * 256 + l.getD (4 * k + (3 - n)) 0
theorem hi4_bd (l : List Int) (hl : ∀ p, 0 ≤ l.getD p 0 ∧ l.getD p 0 < 256) (k : Nat) : ∀ n, 0 ≤ hi4 l k n ∧ hi4 l k n < 256 ^ n
  | 0 => by simp [hi4]
  | n + 1 => by
    have ih := hi4_bd l hl k n
    have h := hl (4 * k + (3 - n))
    simp only [hi4]
    rw [Int.pow_succ]
    omega
theorem hi4_all (l : List Int) (k : Nat) (h : 4 * k + 3 < l.length) : hi4 l k 4 = (wdsL l).getD k 0 := by
  rw [wdsL_getD k l h]
  have e0 : 4 * k + (3 - 0) = 4 * k + 3 := rfl
  have e1 : 4 * k + (3 - 1) = 4 * k + 2 := rfl
  have e2 : 4 * k + (3 - 2) = 4 * k + 1 := rfl
  have e3 : 4 * k + (3 - 3) = 4 * k := rfl
  simp only [hi4, e0, e1, e2, e3]
  omega
theorem nums_bd (s : ByteArray) (p : Nat) : 0 ≤ (nums s).getD p 0 ∧ (nums s).getD p 0 < 256 := by
  by_cases hp : p < s.size
  · rw [nums_getD s p hp]; exact byte_bd _
  · simp [List.getD, List.getElem?_eq_none (show (nums s).length ≤ p by rw [length_nums]; omega)]

end Go.Proofs.Ytmifiadkhmglmaa
