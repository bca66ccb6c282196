/- The tables that are read, and what is known of them. -/
import Derived.Test.YtgojpflkhnaedaaDoorRet
import Derived.Test.YtgojpflkhnaedaaDoorInsM
import Derived.Below
import Derived.Lib.LaidTab
set_option linter.unusedVariables false
namespace Go.Proofs.YtgojpflkhnaedaaDoor
open Go.RowKit


theorem gOpr : Tryd.prog.globalNamed "seedcorn/inst.operations" = some 0 := by kernel_rfl

/-- The tables hold what the program's text lays. -/
structure Tabs (w : World) : Prop where
  opr : w.var? Tryd.prog "seedcorn/inst.operations" = some oprs
theorem tab_below {W W' : World} {s : String} {k : IntKind} {zs : List Int} {g : Nat} (hg : Tryd.prog.globalNamed s = some g) (h : Lib.TabIs Tryd.prog W s k zs) (hb : Below W.heap.size W W') : Lib.TabIs Tryd.prog W' s k zs := by
  unfold Lib.TabIs World.var? at *
  rw [hg] at *
  simp only [Option.bind_some] at h ⊢
  have hlt : g < W.heap.size := by
    rcases Nat.lt_or_ge g W.heap.size with h' | h'
    · exact h'
    · rw [Array.getElem?_eq_none h'] at h; simp at h
  rw [hb.block _ hlt]
  exact h
theorem var_below {W W' : World} {s : String} {cs : Array Value} {g : Nat} (hg : Tryd.prog.globalNamed s = some g) (h : W.var? Tryd.prog s = some cs) (hb : Below W.heap.size W W') : W'.var? Tryd.prog s = some cs := by
  unfold World.var? at *
  rw [hg] at *
  simp only [Option.bind_some] at h ⊢
  have hlt : g < W.heap.size := by
    rcases Nat.lt_or_ge g W.heap.size with h' | h'
    · exact h'
    · rw [Array.getElem?_eq_none h'] at h; simp at h
  rw [hb.block _ hlt]
  exact h
theorem Tabs.below {W W' : World} (h : Tabs W) (hb : Below W.heap.size W W') : Tabs W' where
  opr := var_below gOpr h.opr hb


/-- .. and they lie below block B. -/
structure TabsB (B : Nat) (w : World) : Prop extends Tabs w where
  lo : 0 < B
theorem tab_lt {W : World} {s : String} {k : IntKind} {zs : List Int} {g : Nat} (hg : Tryd.prog.globalNamed s = some g) (h : Lib.TabIs Tryd.prog W s k zs) : g < W.heap.size := by
  unfold Lib.TabIs World.var? at h
  rw [hg] at h
  simp only [Option.bind_some] at h
  rcases Nat.lt_or_ge g W.heap.size with h' | h'
  · exact h'
  · rw [Array.getElem?_eq_none h'] at h; simp at h
theorem tab_belowB {B : Nat} {W W' : World} {s : String} {k : IntKind} {zs : List Int} {g : Nat} (hg : Tryd.prog.globalNamed s = some g) (h : Lib.TabIs Tryd.prog W s k zs) (hlt : g < B) (hb : Below B W W') : Lib.TabIs Tryd.prog W' s k zs := by
  unfold Lib.TabIs World.var? at *
  rw [hg] at *
  simp only [Option.bind_some] at h ⊢
  rw [hb.block _ hlt]
  exact h
theorem var_lt {W : World} {s : String} {cs : Array Value} {g : Nat} (hg : Tryd.prog.globalNamed s = some g) (h : W.var? Tryd.prog s = some cs) : g < W.heap.size := by
  unfold World.var? at h
  rw [hg] at h
  simp only [Option.bind_some] at h
  rcases Nat.lt_or_ge g W.heap.size with h' | h'
  · exact h'
  · rw [Array.getElem?_eq_none h'] at h; simp at h
theorem var_belowB {B : Nat} {W W' : World} {s : String} {cs : Array Value} {g : Nat} (hg : Tryd.prog.globalNamed s = some g) (h : W.var? Tryd.prog s = some cs) (hlt : g < B) (hb : Below B W W') : W'.var? Tryd.prog s = some cs := by
  unfold World.var? at *
  rw [hg] at *
  simp only [Option.bind_some] at h ⊢
  rw [hb.block _ hlt]
  exact h
theorem Tabs.at {w : World} (h : Tabs w) : TabsB w.heap.size w where
  toTabs := h
  lo := var_lt gOpr h.opr
theorem TabsB.below {B : Nat} {W W' : World} (h : TabsB B W) (hb : Below B W W') : TabsB B W' where
  opr := var_belowB gOpr h.opr h.lo hb
  lo := h.lo
end Go.Proofs.YtgojpflkhnaedaaDoor
