/- From the row's list of variables to the tables; a world in which they hold what the program's text lays; arrays of words among the arguments. -/
import Derived.Test.YtflggcnojfmlmaaDoorCards
import Derived.Test.YtflggcnojfmlmaaDoorTie
import Derived.WalkKit
import Derived.ProofKit
import Derived.OpenShut
import Derived.ShutString
import Derived.Deep.DeepHandedRow
import Derived.Stop.LaidErr
import Derived.ChangeKeysEq
import Derived.Test.YtflggcnojfmlmaaDoorDigK
import Derived.Test.YtflggcnojfmlmaaDoorOpn
namespace Go.Proofs.YtflggcnojfmlmaaDoor
open Go.ChangeShapes Go.WideShapes Go.ChangeAt Go.RowKit
set_option linter.unusedVariables false

theorem own : ownKnob Tryd.prog.godebug = none := by kernel_rfl
theorem tDig : (Tryd.prog.globals[1]?).map (·.type) = some 72 := by kernel_rfl
theorem tVal : (Tryd.prog.globals[2]?).map (·.type) = some 78 := by kernel_rfl
theorem tTrn : (Tryd.prog.globals[0]?).map (·.type) = some 49 := by kernel_rfl
theorem cDig : Tryd.prog.cellsOf 72 = 16 := by kernel_rfl
theorem cVal : Tryd.prog.cellsOf 78 = 103 := by kernel_rfl
theorem cTrn : Tryd.prog.cellsOf 49 = 4 := by kernel_rfl
theorem cU8 : Tryd.prog.cellsOf 5 = 1 := by kernel_rfl
theorem cI : Tryd.prog.cellsOf 3 = 1 := by kernel_rfl
theorem cA8 : Tryd.prog.cellsOf 26 = 8 := by kernel_rfl
theorem cDg : Tryd.prog.cellsOf 29 = 4 := by kernel_rfl

theorem laid_at {P : Program} {W : World} {x : String × DataW Unit} : ∀ (l : List (String × DataW Unit)), laidMet P l W → x ∈ l → ∃ r, laidMet P (x :: r) W
  | y :: r, h, hx => by
    rcases List.mem_cons.1 hx with rfl | hx
    · exact ⟨r, h⟩
    · exact laid_at r h.tail hx
/-- What the rows' list gives: the three tables. -/
theorem tabs_of {W : World} {l : List (String × DataW Unit)} (h : laidMet Tryd.prog l W) (m1 : ("seedcorn/hex.digits", Rows.laid_seedcorn_hex_digits) ∈ l) (m2 : ("seedcorn/hex.values", Rows.laid_seedcorn_hex_values) ∈ l) (m3 : ("seedcorn/digest.turns", Rows.laid_seedcorn_digest_turns) ∈ l) : Tabs W := by
  obtain ⟨r1, h1⟩ := laid_at l h m1
  obtain ⟨r2, h2⟩ := laid_at l h m2
  obtain ⟨r3, h3⟩ := laid_at l h m3
  rw [dig_data] at h1
  rw [val_data] at h2
  rw [trn_data] at h3
  exact { dig := Lib.tabIs_of_head gDig tDig Tryd.underlying72 Tryd.underlying5 cU8 cDig h1
          val := Lib.tabIs_of_head gVal tVal Tryd.underlying78 Tryd.underlying5 cU8 cVal h2
          trn := Lib.tabIs_of_head gTrn tTrn Tryd.underlying49 Tryd.underlying3 cI cTrn h3 }

def over (cs : Array Value) : Obj → Obj
  | .cells _ t frozen => .cells cs t frozen
  | o => o
/-- A world for the witness: the settled one, its tables as their initialisers lay them. -/
noncomputable def laidWorld (os : Os) : World :=
  { World.holding Tryd.prog os ⟨#[], #[], []⟩ with heap := ((((World.holding Tryd.prog os ⟨#[], #[], []⟩).heap.modify 1 (over #[.int .u8 48, .int .u8 49, .int .u8 50, .int .u8 51, .int .u8 52, .int .u8 53, .int .u8 54, .int .u8 55, .int .u8 56, .int .u8 57, .int .u8 97, .int .u8 98, .int .u8 99, .int .u8 100, .int .u8 101, .int .u8 102])).modify 2 (over #[.int .u8 0, .int .u8 0, .int .u8 0, .int .u8 0, .int .u8 0, .int .u8 0, .int .u8 0, .int .u8 0, .int .u8 0, .int .u8 0, .int .u8 0, .int .u8 0, .int .u8 0, .int .u8 0, .int .u8 0, .int .u8 0, .int .u8 0, .int .u8 0, .int .u8 0, .int .u8 0, .int .u8 0, .int .u8 0, .int .u8 0, .int .u8 0, .int .u8 0, .int .u8 0, .int .u8 0, .int .u8 0, .int .u8 0, .int .u8 0, .int .u8 0, .int .u8 0, .int .u8 0, .int .u8 0, .int .u8 0, .int .u8 0, .int .u8 0, .int .u8 0, .int .u8 0, .int .u8 0, .int .u8 0, .int .u8 0, .int .u8 0, .int .u8 0, .int .u8 0, .int .u8 0, .int .u8 0, .int .u8 0, .int .u8 1, .int .u8 2, .int .u8 3, .int .u8 4, .int .u8 5, .int .u8 6, .int .u8 7, .int .u8 8, .int .u8 9, .int .u8 10, .int .u8 0, .int .u8 0, .int .u8 0, .int .u8 0, .int .u8 0, .int .u8 0, .int .u8 0, .int .u8 11, .int .u8 12, .int .u8 13, .int .u8 14, .int .u8 15, .int .u8 16, .int .u8 0, .int .u8 0, .int .u8 0, .int .u8 0, .int .u8 0, .int .u8 0, .int .u8 0, .int .u8 0, .int .u8 0, .int .u8 0, .int .u8 0, .int .u8 0, .int .u8 0, .int .u8 0, .int .u8 0, .int .u8 0, .int .u8 0, .int .u8 0, .int .u8 0, .int .u8 0, .int .u8 0, .int .u8 0, .int .u8 0, .int .u8 0, .int .u8 0, .int .u8 0, .int .u8 11, .int .u8 12, .int .u8 13, .int .u8 14, .int .u8 15, .int .u8 16])).modify 0 (over #[.int .i64 7, .int .i64 9, .int .i64 13, .int .i64 18])) }

section
variable {H : Type} {enc : TypeId × Value → H} {W : World} {base : Nat} {sp : Nat → Bool} {held : Bool}
set_option maxRecDepth 100000 in
theorem open_a8 {b : Nat} {v : Value} {d : DataW H} {p : List MemPlace} (hv : Value.okWide Tryd.prog W .any b 26 v) (h : DataW.Trod enc Tryd.prog W base sp held 26 v d p) :
    ∃ x0 x1 x2 x3 x4 x5 x6 x7 : Int, v = ag [x0, x1, x2, x3, x4, x5, x6, x7] ∧ d = .agg ([x0, x1, x2, x3, x4, x5, x6, x7].map fun z => .lit (.int .u32 z)) ∧ p = [] ∧ (∀ z ∈ [x0, x1, x2, x3, x4, x5, x6, x7], (Lit.int .u32 z).wf = true) ∧ Ok8 [x0, x1, x2, x3, x4, x5, x6, x7] := by
  obtain ⟨cs, rfl, hsz, _⟩ : ∃ cs, v = .agg cs ∧ cs.size = Tryd.prog.cellsOf 26 ∧ Row.okWide Tryd.prog W .any b 26 cs := by
    simpa [Value.okWide, Tryd.underlying26] using hv
  rw [cA8] at hsz
  obtain ⟨zs, rfl, rfl, hm, hw⟩ := words_of Tryd.underlying26 cA8 hsz h
  obtain ⟨l⟩ := cs
  match l, hsz with
  | [y0, y1, y2, y3, y4, y5, y6, y7], _ =>
    have hm2 : [[y0], [y1], [y2], [y3], [y4], [y5], [y6], [y7]] = zs.map (fun z => [Value.int .u32 z]) := hm
    match zs, hm2 with
    | [x0, x1, x2, x3, x4, x5, x6, x7], hm2 =>
      simp only [List.map_cons, List.map_nil, List.cons.injEq, and_true] at hm2
      obtain ⟨rfl, rfl, rfl, rfl, rfl, rfl, rfl, rfl⟩ := hm2
      exact ⟨x0, x1, x2, x3, x4, x5, x6, x7, rfl, rfl, rfl, hw, rfl, fun z hz => w32_wf (hw z hz)⟩
set_option maxRecDepth 100000 in
theorem open_dg {b : Nat} {v : Value} {d : DataW H} {p : List MemPlace} (hv : Value.okWide Tryd.prog W .any b 29 v) (h : DataW.Trod enc Tryd.prog W base sp held 29 v d p) :
    ∃ x0 x1 x2 x3 : Int, v = ag [x0, x1, x2, x3] ∧ d = .agg ([x0, x1, x2, x3].map fun z => .lit (.int .u32 z)) ∧ p = [] ∧ (∀ z ∈ [x0, x1, x2, x3], (Lit.int .u32 z).wf = true) ∧ Ok4 [x0, x1, x2, x3] := by
  obtain ⟨cs, rfl, hsz, _⟩ : ∃ cs, v = .agg cs ∧ cs.size = Tryd.prog.cellsOf 29 ∧ Row.okWide Tryd.prog W .any b 29 cs := by
    simpa [Value.okWide, Tryd.underlying29] using hv
  rw [cDg] at hsz
  obtain ⟨zs, rfl, rfl, hm, hw⟩ := words_of Tryd.underlying29 cDg hsz h
  obtain ⟨l⟩ := cs
  match l, hsz with
  | [y0, y1, y2, y3], _ =>
    have hm2 : [[y0], [y1], [y2], [y3]] = zs.map (fun z => [Value.int .u32 z]) := hm
    match zs, hm2 with
    | [x0, x1, x2, x3], hm2 =>
      simp only [List.map_cons, List.map_nil, List.cons.injEq, and_true] at hm2
      obtain ⟨rfl, rfl, rfl, rfl⟩ := hm2
      exact ⟨x0, x1, x2, x3, rfl, rfl, rfl, hw, rfl, fun z hz => w32_wf (hw z hz)⟩
set_option maxRecDepth 100000 in
theorem shut_a8 {x0 x1 x2 x3 x4 x5 x6 x7 : Int} (hw : ∀ z ∈ [x0, x1, x2, x3, x4, x5, x6, x7], (Lit.int .u32 z).wf = true) : DataW.Trod enc Tryd.prog W base sp held 26 (ag [x0, x1, x2, x3, x4, x5, x6, x7]) (.agg ([x0, x1, x2, x3, x4, x5, x6, x7].map fun z => .lit (.int .u32 z))) [] := by
  have w0 := hw x0 (by simp)
  have w1 := hw x1 (by simp)
  have w2 := hw x2 (by simp)
  have w3 := hw x3 (by simp)
  have w4 := hw x4 (by simp)
  have w5 := hw x5 (by simp)
  have w6 := hw x6 (by simp)
  have w7 := hw x7 (by simp)
  exact ⟨2, by simp [ag, DataW.trod, Value.cells, Tryd.underlying26, Tryd.underlying25, cA8, cellsU, w0, w1, w2, w3, w4, w5, w6, w7, show List.range 8 = [0, 1, 2, 3, 4, 5, 6, 7] from rfl]⟩
set_option maxRecDepth 100000 in
theorem shut_dg {x0 x1 x2 x3 : Int} (hw : ∀ z ∈ [x0, x1, x2, x3], (Lit.int .u32 z).wf = true) : DataW.Trod enc Tryd.prog W base sp held 29 (ag [x0, x1, x2, x3]) (.agg ([x0, x1, x2, x3].map fun z => .lit (.int .u32 z))) [] := by
  have w0 := hw x0 (by simp)
  have w1 := hw x1 (by simp)
  have w2 := hw x2 (by simp)
  have w3 := hw x3 (by simp)
  exact ⟨2, by simp [ag, DataW.trod, Value.cells, Tryd.underlying29, Tryd.underlying25, cDg, cellsU, w0, w1, w2, w3, show List.range 4 = [0, 1, 2, 3] from rfl]⟩
end
end Go.Proofs.YtflggcnojfmlmaaDoor
