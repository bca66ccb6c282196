/- The tables that are read, and what is known of them. -/
import Derived.Test.YtflggcnojfmlmaaDoorRet
import Derived.Test.YtflggcnojfmlmaaDoorHexM
import Derived.Below
import Derived.Lib.LaidTab
set_option linter.unusedVariables false
namespace Go.Proofs.YtflggcnojfmlmaaDoor
open Go.RowKit


def digTab : List Int := (List.range 16).map fun n => ((sg n).toNat : Int)
def valTab : List Int := (List.range 103).map fun n => (tv n : Int)
theorem dig_data : (Rows.laid_seedcorn_hex_digits : DataW Unit) = Lib.tabData .u8 digTab := by kernel_rfl
theorem val_data : (Rows.laid_seedcorn_hex_values : DataW Unit) = Lib.tabData .u8 valTab := by kernel_rfl
theorem trn_data : (Rows.laid_seedcorn_digest_turns : DataW Unit) = Lib.tabData .i64 [7, 9, 13, 18] := by kernel_rfl
theorem gTrn : Tryd.prog.globalNamed "seedcorn/digest.turns" = some 0 := by kernel_rfl
theorem gDig : Tryd.prog.globalNamed "seedcorn/hex.digits" = some 1 := by kernel_rfl
theorem gVal : Tryd.prog.globalNamed "seedcorn/hex.values" = some 2 := by kernel_rfl

/-- The tables hold what the program's text lays. -/
structure Tabs (w : World) : Prop where
  dig : Lib.TabIs Tryd.prog w "seedcorn/hex.digits" .u8 digTab
  val : Lib.TabIs Tryd.prog w "seedcorn/hex.values" .u8 valTab
  trn : Lib.TabIs Tryd.prog w "seedcorn/digest.turns" .i64 [7, 9, 13, 18]
theorem tab_below {W W' : World} {s : String} {k : IntKind} {zs : List Int} {g : Nat} (hg : Tryd.prog.globalNamed s = some g) (h : Lib.TabIs Tryd.prog W s k zs) (hb : Below W.heap.size W W') : Lib.TabIs Tryd.prog W' s k zs := by
  unfold Lib.TabIs World.var? at *
  rw [hg] at *
  simp only [Option.bind_some] at h ⊢
  have hlt : g < W.heap.size := by
    rcases Nat.lt_or_ge g W.heap.size with h' | h'
    · exact h'
    · rw [Array.getElem?_eq_none h'] at h; simp at h
  rw [hb.block _ hlt]
  exact h
theorem Tabs.below {W W' : World} (h : Tabs W) (hb : Below W.heap.size W W') : Tabs W' where
  dig := tab_below gDig h.dig hb
  val := tab_below gVal h.val hb
  trn := tab_below gTrn h.trn hb
theorem Tabs.dig_cell {w : World} (h : Tabs w) (n : Nat) (hn : n < 16) : w.cell? ⟨1, n, none⟩ = some (.int .u8 ((sg n).toNat : Int)) := by
  have := World.var?_cell gDig h.dig n
  rw [this]
  simp [digTab, hn]
theorem Tabs.val_cell {w : World} (h : Tabs w) (n : Nat) (hn : n < 103) : w.cell? ⟨2, n, none⟩ = some (.int .u8 (tv n : Int)) := by
  have := World.var?_cell gVal h.val n
  rw [this]
  simp [valTab, hn]
theorem Tabs.trn_cell {w : World} (h : Tabs w) (n : Nat) : w.cell? ⟨0, n, none⟩ = (([7, 9, 13, 18] : List Int).map (Value.int .i64)).toArray[n]? := World.var?_cell gTrn h.trn n
theorem tv_far (n : Nat) (h : 103 ≤ n) : tv n = 0 := by
  unfold tv
  rw [if_neg (by omega), if_neg (by omega), if_neg (by omega)]


/-- .. and they lie below block B. -/
structure TabsB (B : Nat) (w : World) : Prop extends Tabs w where
  ld : 1 < B
  lv : 2 < B
  lt : 0 < B
theorem tab_lt {W : World} {s : String} {k : IntKind} {zs : List Int} {g : Nat} (hg : Tryd.prog.globalNamed s = some g) (h : Lib.TabIs Tryd.prog W s k zs) : g < W.heap.size := by
  unfold Lib.TabIs World.var? at h
  rw [hg] at h
  simp only [Option.bind_some] at h
  rcases Nat.lt_or_ge g W.heap.size with h' | h'
  · exact h'
  · rw [Array.getElem?_eq_none h'] at h; simp at h
theorem tab_belowB {B : Nat} {W W' : World} {s : String} {k : IntKind} {zs : List Int} {g : Nat} (hg : Tryd.prog.globalNamed s = some g) (h : Lib.TabIs Tryd.prog W s k zs) (hlt : g < B) (hb : Below B W W') : Lib.TabIs Tryd.prog W' s k zs := by
  unfold Lib.TabIs World.var? at *
  rw [hg] at *
  simp only [Option.bind_some] at h ⊢
  rw [hb.block _ hlt]
  exact h
theorem Tabs.at {w : World} (h : Tabs w) : TabsB w.heap.size w where
  toTabs := h
  ld := tab_lt gDig h.dig
  lv := tab_lt gVal h.val
  lt := tab_lt gTrn h.trn
theorem TabsB.below {B : Nat} {W W' : World} (h : TabsB B W) (hb : Below B W W') : TabsB B W' where
  dig := tab_belowB gDig h.dig h.ld hb
  val := tab_belowB gVal h.val h.lv hb
  trn := tab_belowB gTrn h.trn h.lt hb
  ld := h.ld
  lv := h.lv
  lt := h.lt
end Go.Proofs.YtflggcnojfmlmaaDoor
