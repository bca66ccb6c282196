/- The tables that are read, and what is known of them. -/
import Derived.Test.YtcjclbhkheogpaaDoorRet
import Derived.Below
import Derived.Lib.LaidTab
set_option linter.unusedVariables false
namespace Go.Proofs.YtcjclbhkheogpaaDoor
open Go.RowKit


theorem trn_data : (Rows.laid_seedcorn_digest_turns : DataW Unit) = Lib.tabData .i64 [7, 9, 13, 18] := by kernel_rfl
theorem gTrn : Tryd.prog.globalNamed "seedcorn/digest.turns" = some 0 := by kernel_rfl

/-- The tables hold what the program's text lays. -/
structure Tabs (w : World) : Prop where
  trn : Lib.TabIs Tryd.prog w "seedcorn/digest.turns" .i64 [7, 9, 13, 18]
theorem tab_below {W W' : World} {s : String} {k : IntKind} {zs : List Int} {g : Nat} (hg : Tryd.prog.globalNamed s = some g) (h : Lib.TabIs Tryd.prog W s k zs) (hb : Below W.heap.size W W') : Lib.TabIs Tryd.prog W' s k zs := by
  unfold Lib.TabIs World.var? at *
  rw [hg] at *
  simp only [Option.bind_some] at h ⊢
  have hlt : g < W.heap.size := by
    rcases Nat.lt_or_ge g W.heap.size with h' | h'
    · exact h'
    · rw [Array.getElem?_eq_none h'] at h; simp at h
  rw [hb.block _ hlt]
  exact h
theorem Tabs.below {W W' : World} (h : Tabs W) (hb : Below W.heap.size W W') : Tabs W' where
  trn := tab_below gTrn h.trn hb
theorem Tabs.trn_cell {w : World} (h : Tabs w) (n : Nat) : w.cell? ⟨0, n, none⟩ = (([7, 9, 13, 18] : List Int).map (Value.int .i64)).toArray[n]? := World.var?_cell gTrn h.trn n


/-- .. and they lie below block B. -/
structure TabsB (B : Nat) (w : World) : Prop extends Tabs w where
  lt : 0 < B
theorem tab_lt {W : World} {s : String} {k : IntKind} {zs : List Int} {g : Nat} (hg : Tryd.prog.globalNamed s = some g) (h : Lib.TabIs Tryd.prog W s k zs) : g < W.heap.size := by
  unfold Lib.TabIs World.var? at h
  rw [hg] at h
  simp only [Option.bind_some] at h
  rcases Nat.lt_or_ge g W.heap.size with h' | h'
  · exact h'
  · rw [Array.getElem?_eq_none h'] at h; simp at h
theorem tab_belowB {B : Nat} {W W' : World} {s : String} {k : IntKind} {zs : List Int} {g : Nat} (hg : Tryd.prog.globalNamed s = some g) (h : Lib.TabIs Tryd.prog W s k zs) (hlt : g < B) (hb : Below B W W') : Lib.TabIs Tryd.prog W' s k zs := by
  unfold Lib.TabIs World.var? at *
  rw [hg] at *
  simp only [Option.bind_some] at h ⊢
  rw [hb.block _ hlt]
  exact h
theorem Tabs.at {w : World} (h : Tabs w) : TabsB w.heap.size w where
  toTabs := h
  lt := tab_lt gTrn h.trn
theorem TabsB.below {B : Nat} {W W' : World} (h : TabsB B W) (hb : Below B W W') : TabsB B W' where
  trn := tab_belowB gTrn h.trn h.lt hb
  lt := h.lt
end Go.Proofs.YtcjclbhkheogpaaDoor
