/- The contracts of hex's value and writeByte. -/
import Derived.Test.YtflggcnojfmlmaaDoorTab
import Derived.Test.YtflggcnojfmlmaaDoorBld
import Derived.Test.YtflggcnojfmlmaaDoorHexM
set_option linter.unusedVariables false
namespace Go.Proofs.YtflggcnojfmlmaaDoor
open Go.RowKit

theorem ret_val {a b : Int} {x y : Bool} (h : a = b) (h' : x = y) : Ending.returned (.tuple #[.int .u8 a, .bool x]) = .returned (.tuple #[.int .u8 b, .bool y]) := by rw [h, h']

set_option maxHeartbeats 400000 in
theorem value_no (n : Nat) (w : World) (hn : n < 256) (ht : Tabs w) (h0 : tv n = 0) :
    Calls Tryd.prog 34 #[.int .u8 (n : Int)] w fun e w' => e = .returned (.tuple #[.int .u8 0, .bool false]) ∧ w' = w := by
  by_cases h : 103 ≤ n
  · clear h0 ht
    go_enter Tryd.func34, Tryd.ntmps34
    go_wp2
    go_ret2
    exact ⟨rfl, rfl⟩
  · have hc := ht.val_cell n (by omega)
    rw [h0] at hc
    clear h0 ht
    go_enter Tryd.func34, Tryd.ntmps34
    go_wp2
    go_ret2
    exact ⟨rfl, rfl⟩
set_option maxHeartbeats 400000 in
theorem value_yes (n v : Nat) (w : World) (ht : Tabs w) (h0 : tv n = v + 1) :
    Calls Tryd.prog 34 #[.int .u8 (n : Int)] w fun e w' => e = .returned (.tuple #[.int .u8 (v : Int), .bool true]) ∧ w' = w := by
  have hn : n < 103 := by
    rcases Nat.lt_or_ge n 103 with h | h
    · exact h
    · rw [tv_far n h] at h0; omega
  have hb := tv_le n
  have hc := ht.val_cell n hn
  rw [h0] at hc hb
  clear h0 ht
  have hb0 : (((v + 1 : Nat) : Int) == 0) = false := by rw [beq_eq_false_iff_ne]; omega
  have hb1 : (((v : Int) + 1) == 0) = false := by rw [beq_eq_false_iff_ne]; omega
  go_enter Tryd.func34, Tryd.ntmps34
  go_wp2
  go_ret2
  exact ⟨ret_val (by omega) rfl, rfl⟩

theorem byteCells_snoc (l : List UInt8) (d : UInt8) : Lib.byteCells l ++ [.int .u8 (d.toNat : Int)] = Lib.byteCells (l ++ [d]) := by simp [Lib.byteCells]
theorem builder_put {B b : Nat} {l : List UInt8} {d : UInt8} {v : Int} {w : World} (h : Lib.BuilderAtF 57 5 B b (.pointer (some ⟨b, 0, none⟩)) (Lib.byteCells l ++ [.int .u8 v]) w) (hv : v = (d.toNat : Int)) :
    Lib.IsBuilderF 57 5 B b (Lib.byteCells (l ++ [d])) w := by
  subst hv
  rw [byteCells_snoc] at h
  exact .inr h

set_option maxHeartbeats 800000 in
theorem writeByte_num (B b : Nat) (l : List UInt8) (n : Nat) (hn : n < 256) (d1 d2 : UInt8) (e1 : sg (n / 16) = d1) (e2 : sg (n % 16) = d2) (w : World) (h : Lib.IsBuilderF 57 5 B b (Lib.byteCells l) w) (hl : l.length ≤ 1099511627776) (hB : B ≤ w.heap.size) (ht : TabsB B w) :
    Calls Tryd.prog 27 #[.pointer (some ⟨b, 0, none⟩), .int .u8 (n : Int)] w fun e w' => e = .returned (.tuple #[]) ∧ Lib.IsBuilderF 57 5 B b (Lib.byteCells (l ++ [d1, d2])) w' ∧ Below B w w' := by
  have c1 := ht.dig_cell (n / 16) (by omega)
  rw [e1] at c1
  have i1 : 0 ≤ (n : Int) / 16 ∧ (n : Int) / 16 < 16 := by omega
  have i2 : 0 ≤ (n : Int) % 16 ∧ (n : Int) % 16 < 16 := by omega
  have HT := Lib.hid ht
  have HH := Lib.hid h
  have E2 := Lib.hid e2
  clear ht h e1 e2
  go_enter Tryd.func27, Tryd.ntmps27
  go_wp2_with fail
  refine (Tryd.bld_WriteByte B b _ _ _ HH.out (by rw [Lib.byteCells_length]; omega) hB).mono ?_
  rintro e w1 ⟨rfl, h1, b1, k1⟩
  have H1 := Lib.hid (builder_put h1 rfl)
  have T1 := HT.out.below b1
  have c2 := T1.dig_cell (n % 16) (by omega)
  rw [E2.out] at c2
  clear h1 k1 T1
  go_wp2_with fail
  refine (Tryd.bld_WriteByte B b _ _ _ H1.out (by rw [Lib.byteCells_length, List.length_append]; simp; omega) (by have := b1.size; omega)).mono ?_
  rintro e w2 ⟨rfl, h2, b2, k2⟩
  have H2 := Lib.hid (builder_put h2 rfl)
  clear h2 k2
  go_wp2
  go_end0
  refine ⟨rfl, ?_, b1.trans b2⟩
  have := H2.out
  rw [List.append_assoc] at this
  exact this
theorem writeByte_any (B b : Nat) (l : List UInt8) (c : UInt8) (w : World) (h : Lib.IsBuilderF 57 5 B b (Lib.byteCells l) w) (hl : l.length ≤ 1099511627776) (hB : B ≤ w.heap.size) (ht : TabsB B w) :
    Calls Tryd.prog 27 #[.pointer (some ⟨b, 0, none⟩), .int .u8 (c.toNat : Int)] w fun e w' => e = .returned (.tuple #[]) ∧ Lib.IsBuilderF 57 5 B b (Lib.byteCells (l ++ hx c)) w' ∧ Below B w w' :=
  writeByte_num B b l c.toNat c.toNat_lt _ _ rfl rfl w h hl hB ht
end Go.Proofs.YtflggcnojfmlmaaDoor
