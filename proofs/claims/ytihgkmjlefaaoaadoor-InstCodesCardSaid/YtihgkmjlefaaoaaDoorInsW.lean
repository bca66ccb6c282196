/- Stage 7: the laws' arguments: instructions; the tables that the laws list; a world in which they hold what the program's text lays. -/
import Derived.Test.YtihgkmjlefaaoaaDoorCards
import Derived.Test.YtihgkmjlefaaoaaDoorTie
import Derived.WalkKit
import Derived.ProofKit
import Derived.OpenShut
import Derived.ShutString
import Derived.Test.YtihgkmjlefaaoaaDoorTab
import Derived.Test.YtihgkmjlefaaoaaDoorTabG
import Derived.Deep.DeepHandedRow
import Derived.Stop.LaidErr
import Derived.Deep.Slices
import Derived.ChangeSame
import Derived.ChangeOld
import Derived.Carry
namespace Go.Proofs.YtihgkmjlefaaoaaDoor
open Go.ChangeShapes Go.WideShapes Go.ChangeAt Go.RowKit
set_option linter.unusedVariables false

theorem own : ownKnob Tryd.prog.godebug = none := by kernel_rfl
theorem laidOut : laidOutB Tryd.prog = true := by kernel_rfl
theorem cInt : Tryd.prog.cellsOf 3 = 1 := by kernel_rfl
theorem cIns : Tryd.prog.cellsOf 23 = 4 := by kernel_rfl
def opl : List Lit := (List.range 28).flatMap fun (k : Nat) => [.string (nam (k : Int)), .int .i64 (mxa k), .int .i64 (mxb k), .int .i64 (mxc k)]
theorem t_opr : (Tryd.prog.globals[0]?).map (·.type) = some 44 := by kernel_rfl
theorem ti_opr : Tryd.prog.tiled 4 44 = true := by kernel_rfl
theorem opr_data : litsD 4 (Rows.laid_seedcorn_inst_operations : DataW Unit) = some opl := by kernel_rfl
theorem opl_cells : (opl.map Lit.toCell).toArray = oprs := by kernel_rfl
theorem t_pow : (Tryd.prog.globals[2]?).map (·.type) = some 80 := by kernel_rfl
theorem c_pow : Tryd.prog.cellsOf 80 = 20 := by kernel_rfl
theorem e_pow : Tryd.prog.cellsOf 51 = 1 := by kernel_rfl
theorem tabs_of {W : World} {l : List (String × DataW Unit)} (h : laidMet Tryd.prog (("math/bits.deBruijn32tab", Rows.laid_math_bits_deBruijn32tab) :: ("math/bits.deBruijn64tab", Rows.laid_math_bits_deBruijn64tab) :: ("internal/strconv.uint64pow10", Rows.laid_internal_strconv_uint64pow10) :: ("seedcorn/inst.operations", Rows.laid_seedcorn_inst_operations) :: l) W) : Tabs W := by
  have h2 := h.tail.tail
  rw [pow_data] at h2
  have h3 := h.tail.tail.tail
  exact { pow := Lib.tabIs_of_head gPow t_pow Tryd.underlying80 Tryd.underlying51 e_pow c_pow h2
          opr := (var_of_head gOpr t_opr ti_opr opr_data h3).trans (congrArg some opl_cells) }
def over (cs : Array Value) : Obj → Obj
  | .cells _ t frozen => .cells cs t frozen
  | o => o
/-- A world for the witness: the settled one, its tables as their initialisers lay them. -/
noncomputable def laidWorld (os : Os) : World :=
  { World.holding Tryd.prog os ⟨#[], #[], []⟩ with heap := (((((World.holding Tryd.prog os ⟨#[], #[], []⟩).heap.modify 3 (over #[.int .u8 0, .int .u8 1, .int .u8 28, .int .u8 2, .int .u8 29, .int .u8 14, .int .u8 24, .int .u8 3, .int .u8 30, .int .u8 22, .int .u8 20, .int .u8 15, .int .u8 25, .int .u8 17, .int .u8 4, .int .u8 8, .int .u8 31, .int .u8 27, .int .u8 13, .int .u8 23, .int .u8 21, .int .u8 19, .int .u8 16, .int .u8 7, .int .u8 26, .int .u8 12, .int .u8 18, .int .u8 6, .int .u8 11, .int .u8 5, .int .u8 10, .int .u8 9])).modify 4 (over #[.int .u8 0, .int .u8 1, .int .u8 56, .int .u8 2, .int .u8 57, .int .u8 49, .int .u8 28, .int .u8 3, .int .u8 61, .int .u8 58, .int .u8 42, .int .u8 50, .int .u8 38, .int .u8 29, .int .u8 17, .int .u8 4, .int .u8 62, .int .u8 47, .int .u8 59, .int .u8 36, .int .u8 45, .int .u8 43, .int .u8 51, .int .u8 22, .int .u8 53, .int .u8 39, .int .u8 33, .int .u8 30, .int .u8 24, .int .u8 18, .int .u8 12, .int .u8 5, .int .u8 63, .int .u8 55, .int .u8 48, .int .u8 27, .int .u8 60, .int .u8 41, .int .u8 37, .int .u8 16, .int .u8 46, .int .u8 35, .int .u8 44, .int .u8 21, .int .u8 52, .int .u8 32, .int .u8 23, .int .u8 11, .int .u8 54, .int .u8 26, .int .u8 40, .int .u8 15, .int .u8 34, .int .u8 20, .int .u8 31, .int .u8 10, .int .u8 25, .int .u8 14, .int .u8 19, .int .u8 9, .int .u8 13, .int .u8 8, .int .u8 7, .int .u8 6])).modify 2 (over #[.int .u64 1, .int .u64 10, .int .u64 100, .int .u64 1000, .int .u64 10000, .int .u64 100000, .int .u64 1000000, .int .u64 10000000, .int .u64 100000000, .int .u64 1000000000, .int .u64 10000000000, .int .u64 100000000000, .int .u64 1000000000000, .int .u64 10000000000000, .int .u64 100000000000000, .int .u64 1000000000000000, .int .u64 10000000000000000, .int .u64 100000000000000000, .int .u64 1000000000000000000, .int .u64 10000000000000000000])).modify 0 (over #[.string ⟨#[]⟩, .int .i64 0, .int .i64 0, .int .i64 0, .string ⟨#[108, 105]⟩, .int .i64 15, .int .i64 0, .int .i64 65535, .string ⟨#[108, 117, 105]⟩, .int .i64 15, .int .i64 0, .int .i64 65535, .string ⟨#[109, 111, 118]⟩, .int .i64 15, .int .i64 15, .int .i64 0, .string ⟨#[97, 100, 100]⟩, .int .i64 15, .int .i64 15, .int .i64 15, .string ⟨#[115, 117, 98]⟩, .int .i64 15, .int .i64 15, .int .i64 15, .string ⟨#[109, 117, 108]⟩, .int .i64 15, .int .i64 15, .int .i64 15, .string ⟨#[100, 105, 118]⟩, .int .i64 15, .int .i64 15, .int .i64 15, .string ⟨#[109, 111, 100]⟩, .int .i64 15, .int .i64 15, .int .i64 15, .string ⟨#[97, 110, 100]⟩, .int .i64 15, .int .i64 15, .int .i64 15, .string ⟨#[111, 114]⟩, .int .i64 15, .int .i64 15, .int .i64 15, .string ⟨#[120, 111, 114]⟩, .int .i64 15, .int .i64 15, .int .i64 15, .string ⟨#[115, 104, 108]⟩, .int .i64 15, .int .i64 15, .int .i64 15, .string ⟨#[115, 104, 114]⟩, .int .i64 15, .int .i64 15, .int .i64 15, .string ⟨#[108, 116]⟩, .int .i64 15, .int .i64 15, .int .i64 15, .string ⟨#[101, 113]⟩, .int .i64 15, .int .i64 15, .int .i64 15, .string ⟨#[108, 100]⟩, .int .i64 15, .int .i64 15, .int .i64 65535, .string ⟨#[115, 116]⟩, .int .i64 15, .int .i64 15, .int .i64 65535, .string ⟨#[106, 109, 112]⟩, .int .i64 0, .int .i64 0, .int .i64 65535, .string ⟨#[106, 122]⟩, .int .i64 15, .int .i64 0, .int .i64 65535, .string ⟨#[106, 110, 122]⟩, .int .i64 15, .int .i64 0, .int .i64 65535, .string ⟨#[99, 97, 108, 108]⟩, .int .i64 15, .int .i64 0, .int .i64 65535, .string ⟨#[114, 101, 116]⟩, .int .i64 15, .int .i64 0, .int .i64 0, .string ⟨#[103, 101, 116]⟩, .int .i64 15, .int .i64 0, .int .i64 0, .string ⟨#[112, 117, 116]⟩, .int .i64 15, .int .i64 0, .int .i64 0, .string ⟨#[99, 104, 107]⟩, .int .i64 15, .int .i64 0, .int .i64 65535, .string ⟨#[104, 97, 108, 116]⟩, .int .i64 0, .int .i64 0, .int .i64 0, .string ⟨#[108, 100, 99]⟩, .int .i64 15, .int .i64 15, .int .i64 65535])) }
section
variable {H : Type} {enc : TypeId × Value → H} {W : World} {base : Nat} {sp : Nat → Bool} {held : Bool}
set_option maxRecDepth 100000 in
theorem open_ins {b0 : Nat} {v : Value} {d : DataW H} {p : List MemPlace} (hv : Value.okWide Tryd.prog W .any b0 23 v) (h : DataW.Trod enc Tryd.prog W 0 (fun _ => true) true 23 v d p) :
    ∃ (I0 I1 I2 I3 : Int), v = .agg #[.int .i64 I0, .int .i64 I1, .int .i64 I2, .int .i64 I3] := by
  obtain ⟨cs, rfl, hsz, _⟩ : ∃ cs, v = .agg cs ∧ cs.size = Tryd.prog.cellsOf 23 ∧ Row.okWide Tryd.prog W .any b0 23 cs := by
    simpa [Value.okWide, Tryd.underlying23] using hv
  rw [cIns] at hsz
  obtain ⟨fuel, hf⟩ := h
  obtain ⟨ls⟩ := cs
  match ls, hsz with
  | [e0, e1, e2, e3], _ =>
    have hf2 : DataW.trod enc Tryd.prog W 0 (fun _ => true) true fuel 23 [e0, e1, e2, e3] = some (d, p) := by simpa [Value.cells] using hf
    obtain ⟨xs, n, _, _, _, hlen, hg⟩ := DataW.trod_struct Tryd.underlying23 hf2
    have hxl : xs.length = 4 := hlen
    match xs, hxl with
    | [(t0, p0), (t1, p1), (t2, p2), (t3, p3)], _ =>
      have g0 : DataW.trod enc Tryd.prog W 0 (fun _ => true) true n 3 (([e0, e1, e2, e3].drop 0).take (Tryd.prog.cellsOf 3)) = some (t0, p0) := hg 0 _ rfl
      rw [cInt] at g0
      have g0 : DataW.trod enc Tryd.prog W 0 (fun _ => true) true n 3 [e0] = some (t0, p0) := g0
      obtain ⟨I0, q0, _, _⟩ := DataW.trod_int Tryd.underlying3 g0
      have g1 : DataW.trod enc Tryd.prog W 0 (fun _ => true) true n 3 (([e0, e1, e2, e3].drop 1).take (Tryd.prog.cellsOf 3)) = some (t1, p1) := hg 1 _ rfl
      rw [cInt] at g1
      have g1 : DataW.trod enc Tryd.prog W 0 (fun _ => true) true n 3 [e1] = some (t1, p1) := g1
      obtain ⟨I1, q1, _, _⟩ := DataW.trod_int Tryd.underlying3 g1
      have g2 : DataW.trod enc Tryd.prog W 0 (fun _ => true) true n 3 (([e0, e1, e2, e3].drop 2).take (Tryd.prog.cellsOf 3)) = some (t2, p2) := hg 2 _ rfl
      rw [cInt] at g2
      have g2 : DataW.trod enc Tryd.prog W 0 (fun _ => true) true n 3 [e2] = some (t2, p2) := g2
      obtain ⟨I2, q2, _, _⟩ := DataW.trod_int Tryd.underlying3 g2
      have g3 : DataW.trod enc Tryd.prog W 0 (fun _ => true) true n 3 (([e0, e1, e2, e3].drop 3).take (Tryd.prog.cellsOf 3)) = some (t3, p3) := hg 3 _ rfl
      rw [cInt] at g3
      have g3 : DataW.trod enc Tryd.prog W 0 (fun _ => true) true n 3 [e3] = some (t3, p3) := g3
      obtain ⟨I3, q3, _, _⟩ := DataW.trod_int Tryd.underlying3 g3
      simp only [List.cons.injEq, and_true] at q0 q1 q2 q3
      subst q0 q1 q2 q3
      exact ⟨I0, I1, I2, I3, rfl⟩
end
end Go.Proofs.YtihgkmjlefaaoaaDoor
