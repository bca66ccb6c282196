/- The reference of layer 2: the contracts of its sign and its Text. -/
import Derived.Test.YtnobnnbckehikaaDoorStr
import Derived.Test.YtnobnnbckehikaaDoorRet
import Derived.OwnWalk
import Derived.Laws.BytesArg
import Derived.Laws.IdiomStrings
import Derived.Deep.AppendLies
import Derived.Deep.RegionHeld3
set_option linter.unusedVariables false
namespace Go.Proofs.YtnobnnbckehikaaDoor
open Go.RowKit

theorem byteCells_len (l : List UInt8) : (Lib.byteCells l).length = l.length := Lib.byteCells_length l
theorem byteCells_append (a b : List UInt8) : Lib.byteCells (a ++ b) = Lib.byteCells a ++ Lib.byteCells b := by simp [Lib.byteCells]
theorem byteCells_one (l : List UInt8) : ∀ u ∈ Lib.byteCells l, u.oneCell' = true := by
  intro u hu
  simp only [Lib.byteCells, List.mem_map] at hu
  obtain ⟨x, _, rfl⟩ := hu
  rfl
/-- string(v) of an own slice of bytes. -/
theorem conv_own {w : World} {B n : Nat} {v : Value} {l : List UInt8} (h : w.ownsRow B 5 1 v n (Lib.byteCells l)) (hn : n = l.length) :
    (convert 55 9 v).run Tryd.prog w = .ok (.string ⟨l.toArray⟩) w := by
  subst hn
  have h2 := h
  obtain ⟨_, ⟨rfl, h0⟩ | ⟨g, cap, cur, rfl, _⟩⟩ := h
  · have hl : l = [] := by simpa using h0
    subst hl
    exact run_convert_bytes_nil w 55 5 Tryd.underlying55 Tryd.underlying5 0 0 9 Tryd.underlying9
  · refine run_convert_bytes_back (P := Tryd.prog) w 55 9 5 ⟨g, 0, none⟩ cap l Tryd.underlying55 Tryd.underlying5 Tryd.underlying9 ?_
    intro j hj
    exact h2.cells (g := g) rfl j _ (by simp [Lib.byteCells, hj])

set_option maxHeartbeats 400000 in
theorem sign_any (n : Nat) (w : World) (hn : n < 16) :
    Calls Tryd.prog 38 #[.int .i64 (n : Int)] w fun e w' => e = .returned (.int .u8 ((sg n).toNat : Int)) ∧ w' = w := by
  by_cases h : n < 10
  · have e : ((sg n).toNat : Int) = 48 + (n : Int) := by
      unfold sg
      rw [if_pos h]
      have : (UInt8.ofNat (48 + n)).toNat = 48 + n := by simp; omega
      rw [this]; omega
    rw [e]
    go_enter Tryd.func38, Tryd.ntmps38
    go_wp2
    go_ret
    exact ⟨ret_int (by omega), rfl⟩
  · have e : ((sg n).toNat : Int) = 87 + (n : Int) := by
      unfold sg
      rw [if_neg h]
      have : (UInt8.ofNat (87 + n)).toNat = 87 + n := by simp; omega
      rw [this]; omega
    rw [e]
    go_enter Tryd.func38, Tryd.ntmps38
    go_wp2
    go_ret
    exact ⟨ret_int (by omega), rfl⟩
theorem hx_cells (l : List UInt8) (c : UInt8) : Lib.byteCells l ++ [.int .u8 ((sg (c.toNat / 16)).toNat : Int), .int .u8 ((sg (c.toNat % 16)).toNat : Int)] = Lib.byteCells (l ++ hx c) := by
  rw [byteCells_append]
  rfl
theorem wrap_small (z : Int) (h0 : 0 ≤ z) (h1 : z < 4294967296) : IntKind.i64.wrap z = z := by
  rw [IntKind.wrap_i64]; omega
theorem wrap_quo (n : Nat) (h : n < 256) : IntKind.i64.wrap ((IntKind.i64.wrap (n : Int)).tdiv 16) = ((n / 16 : Nat) : Int) := by
  rw [wrap_small (n : Int) (by omega) (by omega), Int.tdiv_eq_ediv_of_nonneg (by omega), wrap_small _ (by omega) (by omega)]
  omega
theorem wrap_rem (n : Nat) (h : n < 256) : (IntKind.i64.wrap (n : Int)).tmod 16 = ((n % 16 : Nat) : Int) := by
  rw [wrap_small (n : Int) (by omega) (by omega), Int.tmod_eq_emod_of_nonneg (by omega)]
  omega

set_option maxRecDepth 100000 in
set_option maxHeartbeats 3200000 in
theorem text_ref (s : ByteArray) (w : World) (hs : s.size ≤ 1073741824) :
    Calls Tryd.prog 34 #[.string s] w fun e w' => e = .returned (.string ⟨(txt s.data.toList).toArray⟩) ∧ Below w.heap.size w w' := by
  obtain ⟨i0, hi, hz0, hz1, hz2⟩ := info_parts info5
  go_enter Tryd.func34, Tryd.ntmps34
  go_wp2_with fail
  go_loopw [3, 4] (fun out si wr => ∃ (k : Nat) (l : List UInt8), k ≤ s.size ∧ si = .int .i64 k ∧ Hid (l ++ txt (s.data.toList.drop k) = txt s.data.toList) ∧ l.length = 2 * k ∧
      Hid (wr.ownsRow w.heap.size 5 1 out (2 * k) (Lib.byteCells l)) ∧ Below w.heap.size w wr) (fun _ si _ => s.size - (intOf si).toNat)
  case atStart => exact ⟨0, [], Nat.zero_le _, rfl, rfl, rfl, World.ownsRow_nil _ _ _ _, Below.refl _ _⟩
  case round =>
    obtain ⟨k, l, hk, rfl, HX, hl, HO, hnx⟩ := hrel
    by_cases hlt : k < s.size
    · have HX2 := HX.out
      rw [drop_cons s k hlt, txt, ← List.append_assoc] at HX2
      have HX3 := Lib.hid HX2
      clear HX2
      obtain ⟨c, hc⟩ : ∃ c, s[k] = c := ⟨_, rfl⟩
      rw [hc] at HX3
      have hc8 : c.toNat < 256 := c.toNat_lt
      have HC := Lib.hid (hx_cells l c)
      have hi0 : (0 : Int) ≤ (k : Int) := by omega
      have hi1 : (k : Int) < (s.size : Int) := by omega
      have HQ := Lib.hid (wrap_quo c.toNat hc8)
      have HR := Lib.hid (wrap_rem c.toNat hc8)
      have HS := Lib.hid hnx.size
      go_wp2_with fail
      go_region_held3 (fun _ => True) (exact trivial)
        (first
          | (go_at_call 38; rw [HQ.out]; refine (sign_any (c.toNat / 16) _ (by omega)).mono ?_; rintro e w' ⟨rfl, rfl⟩)
          | (go_at_call 38; rw [HR.out]; refine (sign_any (c.toNat % 16) _ (by omega)).mono ?_; rintro e w' ⟨rfl, rfl⟩)
          | (refine step_append_lies _ (by rfl) _ _ _ (by rfl) w.heap.size 5 i0 _ 1 1 Tryd.underlying55 hi hz0 hz1 hz2 rfl (by omega) _ (2 * k) (Lib.byteCells l) (by rfl) ((HO.out.alloc _).drew)
              ⟨wr.heap.size, 0, none⟩ 2 2 [.int .u8 ((sg (c.toNat / 16)).toNat : Int), .int .u8 ((sg (c.toNat % 16)).toNat : Int)] (by rfl) (by rfl)
              (World.news_of_block (cs := #[.int .u8 ((sg (c.toNat / 16)).toNat : Int), .int .u8 ((sg (c.toNat % 16)).toNat : Int)]) (t := 5) (fr := (0, 0)) (heap_alloc_new wr _)) (by simp [Value.oneCell'])
              (by omega) (by unfold maxLen; omega) (by omega) (by have := HS.out; simp; omega) (wr.heap.size + 1) (by simp) ?_; intro gg cap w1 hown1 hgrow hat hlt1))
      all_goals
        have hown2 := hown1
        rw [HC.out] at hown2
        have HO2 := Lib.hid hown2
        have hb2 := (((Below.refl w.heap.size wr).alloc hnx.size _).drew.grown hgrow (by have := hnx.size; simp; omega) (fun k hk => (HO.out.lt k hk).1))
        clear hown1 hgrow hown2
        go_wp2_with fail
        go_roundw
        case rel => exact ⟨k + 1, l ++ hx c, by omega, by go_num, HX3, by simp [hx]; omega, by rw [show 2 * (k + 1) = 2 * k + 2 by omega]; exact HO2, hnx.trans hb2⟩
        case measure => simp [intOf]; omega
    · obtain rfl : k = s.size := by omega
      have HX2 := HX.out
      rw [drop_all, txt, List.append_nil] at HX2
      subst HX2
      have hcv := conv_own HO.out hl.symm
      go_wp2
      go_ret
      exact ⟨rfl, hnx⟩

end Go.Proofs.YtnobnnbckehikaaDoor
