/- The tables that package hex reads, and the contracts of its value and writeByte. -/
import Derived.Test.YtaogndcaabnboaaDoorRet
import Derived.Test.YtaogndcaabnboaaDoorBld
import Derived.Test.YtaogndcaabnboaaDoorHexM
import Derived.Lib.LaidTab
set_option linter.unusedVariables false
namespace Go.Proofs.YtaogndcaabnboaaDoor
open Go.RowKit

theorem ret_val {a b : Int} {x y : Bool} (h : a = b) (h' : x = y) : Ending.returned (.tuple #[.int .u8 a, .bool x]) = .returned (.tuple #[.int .u8 b, .bool y]) := by rw [h, h']

def digTab : List Int := (List.range 16).map fun n => ((sg n).toNat : Int)
def valTab : List Int := (List.range 103).map fun n => (tv n : Int)
theorem dig_data : (Rows.laid_seedcorn_hex_digits : DataW Unit) = Lib.tabData .u8 digTab := by kernel_rfl
theorem val_data : (Rows.laid_seedcorn_hex_values : DataW Unit) = Lib.tabData .u8 valTab := by kernel_rfl
theorem trn_data : (Rows.laid_seedcorn_digest_turns : DataW Unit) = Lib.tabData .i64 [7, 9, 13, 18] := by kernel_rfl
theorem gTrn : Tryd.prog.globalNamed "seedcorn/digest.turns" = some 0 := by kernel_rfl
theorem gDig : Tryd.prog.globalNamed "seedcorn/hex.digits" = some 1 := by kernel_rfl
theorem gVal : Tryd.prog.globalNamed "seedcorn/hex.values" = some 2 := by kernel_rfl

/-- The tables hold what the program's text lays. -/
structure Tabs (w : World) : Prop where
  dig : Lib.TabIs Tryd.prog w "seedcorn/hex.digits" .u8 digTab
  val : Lib.TabIs Tryd.prog w "seedcorn/hex.values" .u8 valTab
  trn : Lib.TabIs Tryd.prog w "seedcorn/digest.turns" .i64 [7, 9, 13, 18]
theorem tab_below {W W' : World} {s : String} {k : IntKind} {zs : List Int} {g : Nat} (hg : Tryd.prog.globalNamed s = some g) (h : Lib.TabIs Tryd.prog W s k zs) (hb : Below W.heap.size W W') : Lib.TabIs Tryd.prog W' s k zs := by
  unfold Lib.TabIs World.var? at *
  rw [hg] at *
  simp only [Option.bind_some] at h ⊢
  have hlt : g < W.heap.size := by
    rcases Nat.lt_or_ge g W.heap.size with h' | h'
    · exact h'
    · rw [Array.getElem?_eq_none h'] at h; simp at h
  rw [hb.block _ hlt]
  exact h
theorem Tabs.below {W W' : World} (h : Tabs W) (hb : Below W.heap.size W W') : Tabs W' where
  dig := tab_below gDig h.dig hb
  val := tab_below gVal h.val hb
  trn := tab_below gTrn h.trn hb
theorem Tabs.dig_cell {w : World} (h : Tabs w) (n : Nat) (hn : n < 16) : w.cell? ⟨1, n, none⟩ = some (.int .u8 ((sg n).toNat : Int)) := by
  have := World.var?_cell gDig h.dig n
  rw [this]
  simp [digTab, hn]
theorem Tabs.val_cell {w : World} (h : Tabs w) (n : Nat) (hn : n < 103) : w.cell? ⟨2, n, none⟩ = some (.int .u8 (tv n : Int)) := by
  have := World.var?_cell gVal h.val n
  rw [this]
  simp [valTab, hn]
theorem Tabs.trn_cell {w : World} (h : Tabs w) (n : Nat) : w.cell? ⟨0, n, none⟩ = (([7, 9, 13, 18] : List Int).map (Value.int .i64)).toArray[n]? := World.var?_cell gTrn h.trn n
theorem tv_far (n : Nat) (h : 103 ≤ n) : tv n = 0 := by
  unfold tv
  rw [if_neg (by omega), if_neg (by omega), if_neg (by omega)]


/-- .. and they lie below block B. -/
structure TabsB (B : Nat) (w : World) : Prop extends Tabs w where
  ld : 1 < B
  lv : 2 < B
  lt : 0 < B
theorem tab_lt {W : World} {s : String} {k : IntKind} {zs : List Int} {g : Nat} (hg : Tryd.prog.globalNamed s = some g) (h : Lib.TabIs Tryd.prog W s k zs) : g < W.heap.size := by
  unfold Lib.TabIs World.var? at h
  rw [hg] at h
  simp only [Option.bind_some] at h
  rcases Nat.lt_or_ge g W.heap.size with h' | h'
  · exact h'
  · rw [Array.getElem?_eq_none h'] at h; simp at h
theorem tab_belowB {B : Nat} {W W' : World} {s : String} {k : IntKind} {zs : List Int} {g : Nat} (hg : Tryd.prog.globalNamed s = some g) (h : Lib.TabIs Tryd.prog W s k zs) (hlt : g < B) (hb : Below B W W') : Lib.TabIs Tryd.prog W' s k zs := by
  unfold Lib.TabIs World.var? at *
  rw [hg] at *
  simp only [Option.bind_some] at h ⊢
  rw [hb.block _ hlt]
  exact h
theorem Tabs.at {w : World} (h : Tabs w) : TabsB w.heap.size w where
  toTabs := h
  ld := tab_lt gDig h.dig
  lv := tab_lt gVal h.val
  lt := tab_lt gTrn h.trn
theorem TabsB.below {B : Nat} {W W' : World} (h : TabsB B W) (hb : Below B W W') : TabsB B W' where
  dig := tab_belowB gDig h.dig h.ld hb
  val := tab_belowB gVal h.val h.lv hb
  trn := tab_belowB gTrn h.trn h.lt hb
  ld := h.ld
  lv := h.lv
  lt := h.lt

set_option maxHeartbeats 400000 in
theorem value_no (n : Nat) (w : World) (hn : n < 256) (ht : Tabs w) (h0 : tv n = 0) :
    Calls Tryd.prog 60 #[.int .u8 (n : Int)] w fun e w' => e = .returned (.tuple #[.int .u8 0, .bool false]) ∧ w' = w := by
  by_cases h : 103 ≤ n
  · clear h0 ht
    go_enter Tryd.func60, Tryd.ntmps60
    go_wp2
    go_ret2
    exact ⟨rfl, rfl⟩
  · have hc := ht.val_cell n (by omega)
    rw [h0] at hc
    clear h0 ht
    go_enter Tryd.func60, Tryd.ntmps60
    go_wp2
    go_ret2
    exact ⟨rfl, rfl⟩
set_option maxHeartbeats 400000 in
theorem value_yes (n v : Nat) (w : World) (ht : Tabs w) (h0 : tv n = v + 1) :
    Calls Tryd.prog 60 #[.int .u8 (n : Int)] w fun e w' => e = .returned (.tuple #[.int .u8 (v : Int), .bool true]) ∧ w' = w := by
  have hn : n < 103 := by
    rcases Nat.lt_or_ge n 103 with h | h
    · exact h
    · rw [tv_far n h] at h0; omega
  have hb := tv_le n
  have hc := ht.val_cell n hn
  rw [h0] at hc hb
  clear h0 ht
  have hb0 : (((v + 1 : Nat) : Int) == 0) = false := by rw [beq_eq_false_iff_ne]; omega
  have hb1 : (((v : Int) + 1) == 0) = false := by rw [beq_eq_false_iff_ne]; omega
  go_enter Tryd.func60, Tryd.ntmps60
  go_wp2
  go_ret2
  exact ⟨ret_val (by omega) rfl, rfl⟩

theorem byteCells_snoc (l : List UInt8) (d : UInt8) : Lib.byteCells l ++ [.int .u8 (d.toNat : Int)] = Lib.byteCells (l ++ [d]) := by simp [Lib.byteCells]
theorem builder_put {B b : Nat} {l : List UInt8} {d : UInt8} {v : Int} {w : World} (h : Lib.BuilderAtF 62 5 B b (.pointer (some ⟨b, 0, none⟩)) (Lib.byteCells l ++ [.int .u8 v]) w) (hv : v = (d.toNat : Int)) :
    Lib.IsBuilderF 62 5 B b (Lib.byteCells (l ++ [d])) w := by
  subst hv
  rw [byteCells_snoc] at h
  exact .inr h

set_option maxHeartbeats 800000 in
theorem writeByte_num (B b : Nat) (l : List UInt8) (n : Nat) (hn : n < 256) (d1 d2 : UInt8) (e1 : sg (n / 16) = d1) (e2 : sg (n % 16) = d2) (w : World) (h : Lib.IsBuilderF 62 5 B b (Lib.byteCells l) w) (hl : l.length ≤ 1099511627776) (hB : B ≤ w.heap.size) (ht : TabsB B w) :
    Calls Tryd.prog 45 #[.pointer (some ⟨b, 0, none⟩), .int .u8 (n : Int)] w fun e w' => e = .returned (.tuple #[]) ∧ Lib.IsBuilderF 62 5 B b (Lib.byteCells (l ++ [d1, d2])) w' ∧ Below B w w' := by
  have c1 := ht.dig_cell (n / 16) (by omega)
  rw [e1] at c1
  have i1 : 0 ≤ (n : Int) / 16 ∧ (n : Int) / 16 < 16 := by omega
  have i2 : 0 ≤ (n : Int) % 16 ∧ (n : Int) % 16 < 16 := by omega
  have HT := Lib.hid ht
  have HH := Lib.hid h
  have E2 := Lib.hid e2
  clear ht h e1 e2
  go_enter Tryd.func45, Tryd.ntmps45
  go_wp2_with fail
  refine (Tryd.bld_WriteByte B b _ _ _ HH.out (by rw [Lib.byteCells_length]; omega) hB).mono ?_
  rintro e w1 ⟨rfl, h1, b1, k1⟩
  have H1 := Lib.hid (builder_put h1 rfl)
  have T1 := HT.out.below b1
  have c2 := T1.dig_cell (n % 16) (by omega)
  rw [E2.out] at c2
  clear h1 k1 T1
  go_wp2_with fail
  refine (Tryd.bld_WriteByte B b _ _ _ H1.out (by rw [Lib.byteCells_length, List.length_append]; simp; omega) (by have := b1.size; omega)).mono ?_
  rintro e w2 ⟨rfl, h2, b2, k2⟩
  have H2 := Lib.hid (builder_put h2 rfl)
  clear h2 k2
  go_wp2
  go_end0
  refine ⟨rfl, ?_, b1.trans b2⟩
  have := H2.out
  rw [List.append_assoc] at this
  exact this
theorem writeByte_any (B b : Nat) (l : List UInt8) (c : UInt8) (w : World) (h : Lib.IsBuilderF 62 5 B b (Lib.byteCells l) w) (hl : l.length ≤ 1099511627776) (hB : B ≤ w.heap.size) (ht : TabsB B w) :
    Calls Tryd.prog 45 #[.pointer (some ⟨b, 0, none⟩), .int .u8 (c.toNat : Int)] w fun e w' => e = .returned (.tuple #[]) ∧ Lib.IsBuilderF 62 5 B b (Lib.byteCells (l ++ hx c)) w' ∧ Below B w w' :=
  writeByte_num B b l c.toNat c.toNat_lt _ _ rfl rfl w h hl hB ht
end Go.Proofs.YtaogndcaabnboaaDoor
