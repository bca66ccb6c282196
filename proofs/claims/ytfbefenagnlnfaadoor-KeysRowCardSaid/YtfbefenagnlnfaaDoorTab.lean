/- The tables that are read, and what is known of them. -/
import Derived.Test.YtfbefenagnlnfaaDoorRet
import Derived.Below
import Derived.Lib.LaidTab
set_option linter.unusedVariables false
namespace Go.Proofs.YtfbefenagnlnfaaDoor
open Go.RowKit


theorem trn_data : (Rows.laid_seedcorn_digest_turns : DataW Unit) = Lib.tabData .i64 [7, 9, 13, 18] := by kernel_rfl
theorem gTrn : Tryd.prog.globalNamed "seedcorn/digest.turns" = some 1 := by kernel_rfl
theorem mrk_data : (Rows.laid_seedcorn_onetime_stepMark : DataW Unit) = Lib.tabData .u32 [0, 0, 0, 1] := by kernel_rfl
theorem gMrk : Tryd.prog.globalNamed "seedcorn/onetime.stepMark" = some 0 := by kernel_rfl

/-- The tables hold what the program's text lays. -/
structure Tabs (w : World) : Prop where
  trn : Lib.TabIs Tryd.prog w "seedcorn/digest.turns" .i64 [7, 9, 13, 18]
  mrk : Lib.TabIs Tryd.prog w "seedcorn/onetime.stepMark" .u32 [0, 0, 0, 1]
theorem tab_below {W W' : World} {s : String} {k : IntKind} {zs : List Int} {g : Nat} (hg : Tryd.prog.globalNamed s = some g) (h : Lib.TabIs Tryd.prog W s k zs) (hb : Below W.heap.size W W') : Lib.TabIs Tryd.prog W' s k zs := by
  unfold Lib.TabIs World.var? at *
  rw [hg] at *
  simp only [Option.bind_some] at h ⊢
  have hlt : g < W.heap.size := by
    rcases Nat.lt_or_ge g W.heap.size with h' | h'
    · exact h'
    · rw [Array.getElem?_eq_none h'] at h; simp at h
  rw [hb.block _ hlt]
  exact h
theorem Tabs.below {W W' : World} (h : Tabs W) (hb : Below W.heap.size W W') : Tabs W' where
  trn := tab_below gTrn h.trn hb
  mrk := tab_below gMrk h.mrk hb
theorem Tabs.trn_cell {w : World} (h : Tabs w) (n : Nat) : w.cell? ⟨1, n, none⟩ = (([7, 9, 13, 18] : List Int).map (Value.int .i64)).toArray[n]? := World.var?_cell gTrn h.trn n
theorem Tabs.mrk_cell {w : World} (h : Tabs w) (n : Nat) : w.cell? ⟨0, n, none⟩ = (([0, 0, 0, 1] : List Int).map (Value.int .u32)).toArray[n]? := World.var?_cell gMrk h.mrk n


/-- .. and they lie below block B. -/
structure TabsB (B : Nat) (w : World) : Prop extends Tabs w where
  lt : 1 < B
  lk : 0 < B
theorem tab_lt {W : World} {s : String} {k : IntKind} {zs : List Int} {g : Nat} (hg : Tryd.prog.globalNamed s = some g) (h : Lib.TabIs Tryd.prog W s k zs) : g < W.heap.size := by
  unfold Lib.TabIs World.var? at h
  rw [hg] at h
  simp only [Option.bind_some] at h
  rcases Nat.lt_or_ge g W.heap.size with h' | h'
  · exact h'
  · rw [Array.getElem?_eq_none h'] at h; simp at h
theorem tab_belowB {B : Nat} {W W' : World} {s : String} {k : IntKind} {zs : List Int} {g : Nat} (hg : Tryd.prog.globalNamed s = some g) (h : Lib.TabIs Tryd.prog W s k zs) (hlt : g < B) (hb : Below B W W') : Lib.TabIs Tryd.prog W' s k zs := by
  unfold Lib.TabIs World.var? at *
  rw [hg] at *
  simp only [Option.bind_some] at h ⊢
  rw [hb.block _ hlt]
  exact h
theorem Tabs.at {w : World} (h : Tabs w) : TabsB w.heap.size w where
  toTabs := h
  lt := tab_lt gTrn h.trn
  lk := tab_lt gMrk h.mrk
theorem TabsB.below {B : Nat} {W W' : World} (h : TabsB B W) (hb : Below B W W') : TabsB B W' where
  trn := tab_belowB gTrn h.trn h.lt hb
  mrk := tab_belowB gMrk h.mrk h.lk hb
  lt := h.lt
  lk := h.lk
end Go.Proofs.YtfbefenagnlnfaaDoor
