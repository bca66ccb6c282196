/-
  NARROWER THAN 'FOR EVERY INPUT', by the rows' own cells (each row's printed sentence says how): MachineStarts: laid · MachineSteps: laid · MachineRuns: laid · MachineStays: laid · MachineFrames: laid · MachineHangs: laid · MachineSame: laid.
  DERIVED. THE GIVEN ROWS OF THIS SEAT. 7 by the template 'for every input the law returns true; each argument reads behind the call as it read before'; 0 by the template 'total and deterministic' (their statements: YtgojpflkhnaedaaDoorTotals.lean).
  GIVEN WITH THE SEED: the statements are not yours to turn. If you find one false, say at which input.
  Laid BY PROGRAM, IN A SANDBOX (cutbox-rows.mjs): the forced cells as the released guide's own fill.sh prints them over the translation 099b499071b27a9c… (all of the seat's roots in one cut). By AI agents, Wed Nov 11 2026. No macro, syntax, notation, axiom, sorry.
-/
import Derived.Test.YtgojpflkhnaedaaDoorChecked
import GoSem.Claim
import GoSem.ClaimJoined
import GoSem.ClaimMapViews
import Derived.JoinedTies
import Derived.KernelRfl
namespace Go.Proofs.YtgojpflkhnaedaaDoor
/- THE CELL 'sum', in the pinned program and in every row, IS THE sha256 OF THE DUMP (.gsa) THAT YtgojpflkhnaedaaDoorProg.lean LOADS. Nothing in Lean hashes anything: it is a label: what it is worth is what the hold of that sum in a sandbox is worth. -/
noncomputable def Tryd.pinned : Pinned := { name := "ytgojpflkhnaedaadoor", sum := "099b499071b27a9c0ee50ca64803d57c39a87ec19d1d548e4b7e101280a1c785", checked := Tryd.checked }
namespace Rows
def none {H : Type} : Left H := { results := [], args := [] }

/- WHAT THE LISTED PACKAGE-LEVEL VARIABLES READ AS WHEN THE CALL BEGINS. Each datum BY PROGRAM (the guide's laid-datum.mjs) off the statement by which the dump's own 'gosem.cut.vars' lays the variable. In a bare row this is a premise. The card (YtgojpflkhnaedaaDoorCards.lean) ties it to the program's text. -/
def laid_seedcorn_inst_operations {H : Type} : DataW H := .agg [.agg [.lit (.string []), .lit (.int .i64 0), .lit (.int .i64 0), .lit (.int .i64 0)], .agg [.lit (.string [108, 105]), .lit (.int .i64 15), .lit (.int .i64 0), .lit (.int .i64 65535)], .agg [.lit (.string [108, 117, 105]), .lit (.int .i64 15), .lit (.int .i64 0), .lit (.int .i64 65535)], .agg [.lit (.string [109, 111, 118]), .lit (.int .i64 15), .lit (.int .i64 15), .lit (.int .i64 0)], .agg [.lit (.string [97, 100, 100]), .lit (.int .i64 15), .lit (.int .i64 15), .lit (.int .i64 15)], .agg [.lit (.string [115, 117, 98]), .lit (.int .i64 15), .lit (.int .i64 15), .lit (.int .i64 15)], .agg [.lit (.string [109, 117, 108]), .lit (.int .i64 15), .lit (.int .i64 15), .lit (.int .i64 15)], .agg [.lit (.string [100, 105, 118]), .lit (.int .i64 15), .lit (.int .i64 15), .lit (.int .i64 15)], .agg [.lit (.string [109, 111, 100]), .lit (.int .i64 15), .lit (.int .i64 15), .lit (.int .i64 15)], .agg [.lit (.string [97, 110, 100]), .lit (.int .i64 15), .lit (.int .i64 15), .lit (.int .i64 15)], .agg [.lit (.string [111, 114]), .lit (.int .i64 15), .lit (.int .i64 15), .lit (.int .i64 15)], .agg [.lit (.string [120, 111, 114]), .lit (.int .i64 15), .lit (.int .i64 15), .lit (.int .i64 15)], .agg [.lit (.string [115, 104, 108]), .lit (.int .i64 15), .lit (.int .i64 15), .lit (.int .i64 15)], .agg [.lit (.string [115, 104, 114]), .lit (.int .i64 15), .lit (.int .i64 15), .lit (.int .i64 15)], .agg [.lit (.string [108, 116]), .lit (.int .i64 15), .lit (.int .i64 15), .lit (.int .i64 15)], .agg [.lit (.string [101, 113]), .lit (.int .i64 15), .lit (.int .i64 15), .lit (.int .i64 15)], .agg [.lit (.string [108, 100]), .lit (.int .i64 15), .lit (.int .i64 15), .lit (.int .i64 65535)], .agg [.lit (.string [115, 116]), .lit (.int .i64 15), .lit (.int .i64 15), .lit (.int .i64 65535)], .agg [.lit (.string [106, 109, 112]), .lit (.int .i64 0), .lit (.int .i64 0), .lit (.int .i64 65535)], .agg [.lit (.string [106, 122]), .lit (.int .i64 15), .lit (.int .i64 0), .lit (.int .i64 65535)], .agg [.lit (.string [106, 110, 122]), .lit (.int .i64 15), .lit (.int .i64 0), .lit (.int .i64 65535)], .agg [.lit (.string [99, 97, 108, 108]), .lit (.int .i64 15), .lit (.int .i64 0), .lit (.int .i64 65535)], .agg [.lit (.string [114, 101, 116]), .lit (.int .i64 15), .lit (.int .i64 0), .lit (.int .i64 0)], .agg [.lit (.string [103, 101, 116]), .lit (.int .i64 15), .lit (.int .i64 0), .lit (.int .i64 0)], .agg [.lit (.string [112, 117, 116]), .lit (.int .i64 15), .lit (.int .i64 0), .lit (.int .i64 0)], .agg [.lit (.string [99, 104, 107]), .lit (.int .i64 15), .lit (.int .i64 0), .lit (.int .i64 65535)], .agg [.lit (.string [104, 97, 108, 116]), .lit (.int .i64 0), .lit (.int .i64 0), .lit (.int .i64 0)], .agg [.lit (.string [108, 100, 99]), .lit (.int .i64 15), .lit (.int .i64 15), .lit (.int .i64 65535)]]

/-- 'seedcornlaw09.MachineStarts': WHATEVER THE INPUT: true; the input reads as it did. -/
def machineStartsSpec : ChangeSpec := { name := "machineStarts", fn := fun _ => fun
  | [d] => { results := [.lit (.bool true)], args := [d] }
  | _ => none }
def machineStartsRow : OpenClaim := { program := "ytgojpflkhnaedaadoor", sum := "099b499071b27a9c0ee50ca64803d57c39a87ec19d1d548e4b7e101280a1c785", func := "seedcorn/seedcornlaw09.MachineStarts", spec := "machineStarts", named := ["seedcorn/inst.operations"], apart := false, laid := [("seedcorn/inst.operations", laid_seedcorn_inst_operations)] }
def MachineStartsSaid : Prop := machineStartsRow.holds Tryd.pinned (OpenSpec.ofChange machineStartsSpec)

/-- ITS FALSE NEIGHBOUR: 'it returns false'. Refute it at one input. -/
def machineStartsWrong : ChangeSpec := { name := "machineStarts", fn := fun _ => fun
  | [d] => { results := [.lit (.bool false)], args := [d] }
  | _ => none }
def MachineStartsWrongFalsely : Prop := machineStartsRow.holds Tryd.pinned (OpenSpec.ofChange machineStartsWrong)

/-- 'seedcornlaw09.MachineSteps': WHATEVER THE INPUT: true; the input reads as it did. -/
def machineStepsSpec : ChangeSpec := { name := "machineSteps", fn := fun _ => fun
  | [d] => { results := [.lit (.bool true)], args := [d] }
  | _ => none }
def machineStepsRow : OpenClaim := { program := "ytgojpflkhnaedaadoor", sum := "099b499071b27a9c0ee50ca64803d57c39a87ec19d1d548e4b7e101280a1c785", func := "seedcorn/seedcornlaw09.MachineSteps", spec := "machineSteps", named := ["seedcorn/inst.operations"], apart := false, laid := [("seedcorn/inst.operations", laid_seedcorn_inst_operations)] }
def MachineStepsSaid : Prop := machineStepsRow.holds Tryd.pinned (OpenSpec.ofChange machineStepsSpec)

/-- ITS FALSE NEIGHBOUR: 'it returns false'. Refute it at one input. -/
def machineStepsWrong : ChangeSpec := { name := "machineSteps", fn := fun _ => fun
  | [d] => { results := [.lit (.bool false)], args := [d] }
  | _ => none }
def MachineStepsWrongFalsely : Prop := machineStepsRow.holds Tryd.pinned (OpenSpec.ofChange machineStepsWrong)

/-- 'seedcornlaw09.MachineRuns': WHATEVER THE INPUT: true; the input reads as it did. -/
def machineRunsSpec : ChangeSpec := { name := "machineRuns", fn := fun _ => fun
  | [d1, d2, d3] => { results := [.lit (.bool true)], args := [d1, d2, d3] }
  | _ => none }
def machineRunsRow : OpenClaim := { program := "ytgojpflkhnaedaadoor", sum := "099b499071b27a9c0ee50ca64803d57c39a87ec19d1d548e4b7e101280a1c785", func := "seedcorn/seedcornlaw09.MachineRuns", spec := "machineRuns", named := ["seedcorn/inst.operations"], apart := false, laid := [("seedcorn/inst.operations", laid_seedcorn_inst_operations)] }
def MachineRunsSaid : Prop := machineRunsRow.holds Tryd.pinned (OpenSpec.ofChange machineRunsSpec)

/-- ITS FALSE NEIGHBOUR: 'it returns false'. Refute it at one input. -/
def machineRunsWrong : ChangeSpec := { name := "machineRuns", fn := fun _ => fun
  | [d1, d2, d3] => { results := [.lit (.bool false)], args := [d1, d2, d3] }
  | _ => none }
def MachineRunsWrongFalsely : Prop := machineRunsRow.holds Tryd.pinned (OpenSpec.ofChange machineRunsWrong)

/-- 'seedcornlaw09.MachineStays': WHATEVER THE INPUT: true; the input reads as it did. -/
def machineStaysSpec : ChangeSpec := { name := "machineStays", fn := fun _ => fun
  | [d] => { results := [.lit (.bool true)], args := [d] }
  | _ => none }
def machineStaysRow : OpenClaim := { program := "ytgojpflkhnaedaadoor", sum := "099b499071b27a9c0ee50ca64803d57c39a87ec19d1d548e4b7e101280a1c785", func := "seedcorn/seedcornlaw09.MachineStays", spec := "machineStays", named := ["seedcorn/inst.operations"], apart := false, laid := [("seedcorn/inst.operations", laid_seedcorn_inst_operations)] }
def MachineStaysSaid : Prop := machineStaysRow.holds Tryd.pinned (OpenSpec.ofChange machineStaysSpec)

/-- ITS FALSE NEIGHBOUR: 'it returns false'. Refute it at one input. -/
def machineStaysWrong : ChangeSpec := { name := "machineStays", fn := fun _ => fun
  | [d] => { results := [.lit (.bool false)], args := [d] }
  | _ => none }
def MachineStaysWrongFalsely : Prop := machineStaysRow.holds Tryd.pinned (OpenSpec.ofChange machineStaysWrong)

/-- 'seedcornlaw09.MachineFrames': WHATEVER THE INPUT: true; the input reads as it did. -/
def machineFramesSpec : ChangeSpec := { name := "machineFrames", fn := fun _ => fun
  | [d] => { results := [.lit (.bool true)], args := [d] }
  | _ => none }
def machineFramesRow : OpenClaim := { program := "ytgojpflkhnaedaadoor", sum := "099b499071b27a9c0ee50ca64803d57c39a87ec19d1d548e4b7e101280a1c785", func := "seedcorn/seedcornlaw09.MachineFrames", spec := "machineFrames", named := ["seedcorn/inst.operations"], apart := false, laid := [("seedcorn/inst.operations", laid_seedcorn_inst_operations)] }
def MachineFramesSaid : Prop := machineFramesRow.holds Tryd.pinned (OpenSpec.ofChange machineFramesSpec)

/-- ITS FALSE NEIGHBOUR: 'it returns false'. Refute it at one input. -/
def machineFramesWrong : ChangeSpec := { name := "machineFrames", fn := fun _ => fun
  | [d] => { results := [.lit (.bool false)], args := [d] }
  | _ => none }
def MachineFramesWrongFalsely : Prop := machineFramesRow.holds Tryd.pinned (OpenSpec.ofChange machineFramesWrong)

/-- 'seedcornlaw09.MachineHangs': WHATEVER THE INPUT: true; the input reads as it did. -/
def machineHangsSpec : ChangeSpec := { name := "machineHangs", fn := fun _ => fun
  | [d1, d2] => { results := [.lit (.bool true)], args := [d1, d2] }
  | _ => none }
def machineHangsRow : OpenClaim := { program := "ytgojpflkhnaedaadoor", sum := "099b499071b27a9c0ee50ca64803d57c39a87ec19d1d548e4b7e101280a1c785", func := "seedcorn/seedcornlaw09.MachineHangs", spec := "machineHangs", named := ["seedcorn/inst.operations"], apart := false, laid := [("seedcorn/inst.operations", laid_seedcorn_inst_operations)] }
def MachineHangsSaid : Prop := machineHangsRow.holds Tryd.pinned (OpenSpec.ofChange machineHangsSpec)

/-- ITS FALSE NEIGHBOUR: 'it returns false'. Refute it at one input. -/
def machineHangsWrong : ChangeSpec := { name := "machineHangs", fn := fun _ => fun
  | [d1, d2] => { results := [.lit (.bool false)], args := [d1, d2] }
  | _ => none }
def MachineHangsWrongFalsely : Prop := machineHangsRow.holds Tryd.pinned (OpenSpec.ofChange machineHangsWrong)

/-- 'seedcornlaw09.MachineSame': WHATEVER THE INPUT: true; the input reads as it did. -/
def machineSameSpec : ChangeSpec := { name := "machineSame", fn := fun _ => fun
  | [d1, d2] => { results := [.lit (.bool true)], args := [d1, d2] }
  | _ => none }
def machineSameRow : OpenClaim := { program := "ytgojpflkhnaedaadoor", sum := "099b499071b27a9c0ee50ca64803d57c39a87ec19d1d548e4b7e101280a1c785", func := "seedcorn/seedcornlaw09.MachineSame", spec := "machineSame", named := ["seedcorn/inst.operations"], apart := false, laid := [("seedcorn/inst.operations", laid_seedcorn_inst_operations)] }
def MachineSameSaid : Prop := machineSameRow.holds Tryd.pinned (OpenSpec.ofChange machineSameSpec)

/-- ITS FALSE NEIGHBOUR: 'it returns false'. Refute it at one input. -/
def machineSameWrong : ChangeSpec := { name := "machineSame", fn := fun _ => fun
  | [d1, d2] => { results := [.lit (.bool false)], args := [d1, d2] }
  | _ => none }
def MachineSameWrongFalsely : Prop := machineSameRow.holds Tryd.pinned (OpenSpec.ofChange machineSameWrong)

/- THE SECOND FORM. 'bulk': how many values and letters a reading holds, each counted each time it is reached (what is shared counts as often as it is met; a slice's spare places count too). A statement '..UptoSaid' is the law's where the arguments, and the package variables that the reading takes, are together of bulk at most 1048576: NARROWER than '..Said'. Prove '..Said' where nothing that the law and all that it calls make is longer than what came in: it says more and counts as full. Else prove '..UptoSaid'. A law counts once. -/
mutual
def uptoBulk {H : Type} : DataW H → Nat
  | .lit (.string bytes) => bytes.length + 1
  | .lit _ => 1
  | .nil => 1
  | .ptr d => uptoBulk d + 1
  | .slice elems spare => uptoBulkAll elems + uptoBulkAll spare + 1
  | .agg parts => uptoBulkAll parts + 1
  | .iface _ d => uptoBulk d + 1
  | .map entries => uptoBulkEntries entries + 1
  | .held _ => 1
def uptoBulkAll {H : Type} : List (DataW H) → Nat
  | [] => 0
  | d :: r => uptoBulk d + uptoBulkAll r
def uptoBulkEntries {H : Type} : List (Lit × DataW H) → Nat
  | [] => 0
  | x :: r => uptoBulkEntry x + uptoBulkEntries r
def uptoBulkEntry {H : Type} : Lit × DataW H → Nat
  | (.string bytes, d) => bytes.length + uptoBulk d + 1
  | (_, d) => uptoBulk d + 1
 end
def uptoSmall : (H : Type) → List (DataW H) → Bool := fun _ ds => decide (uptoBulkAll ds ≤ 1048576)
def OpenSpec.upto (s : _root_.Go.ChangeSpec) : _root_.Go.OpenSpec := { _root_.Go.OpenSpec.ofChange s with cond := some uptoSmall }

/-- 'seedcornlaw09.MachineStarts', WHERE WHAT IT READS IS OF BULK AT MOST 1048576: true; the input reads as it did. -/
def machineStartsUptoRow : OpenClaim := { program := "ytgojpflkhnaedaadoor", sum := "099b499071b27a9c0ee50ca64803d57c39a87ec19d1d548e4b7e101280a1c785", func := "seedcorn/seedcornlaw09.MachineStarts", spec := "machineStarts", named := ["seedcorn/inst.operations"], apart := false, laid := [("seedcorn/inst.operations", laid_seedcorn_inst_operations)], narrowed := true }
def MachineStartsUptoSaid : Prop := machineStartsUptoRow.holds Tryd.pinned (OpenSpec.upto machineStartsSpec)

/-- 'seedcornlaw09.MachineSteps', WHERE WHAT IT READS IS OF BULK AT MOST 1048576: true; the input reads as it did. -/
def machineStepsUptoRow : OpenClaim := { program := "ytgojpflkhnaedaadoor", sum := "099b499071b27a9c0ee50ca64803d57c39a87ec19d1d548e4b7e101280a1c785", func := "seedcorn/seedcornlaw09.MachineSteps", spec := "machineSteps", named := ["seedcorn/inst.operations"], apart := false, laid := [("seedcorn/inst.operations", laid_seedcorn_inst_operations)], narrowed := true }
def MachineStepsUptoSaid : Prop := machineStepsUptoRow.holds Tryd.pinned (OpenSpec.upto machineStepsSpec)

/-- 'seedcornlaw09.MachineRuns', WHERE WHAT IT READS IS OF BULK AT MOST 1048576: true; the input reads as it did. -/
def machineRunsUptoRow : OpenClaim := { program := "ytgojpflkhnaedaadoor", sum := "099b499071b27a9c0ee50ca64803d57c39a87ec19d1d548e4b7e101280a1c785", func := "seedcorn/seedcornlaw09.MachineRuns", spec := "machineRuns", named := ["seedcorn/inst.operations"], apart := false, laid := [("seedcorn/inst.operations", laid_seedcorn_inst_operations)], narrowed := true }
def MachineRunsUptoSaid : Prop := machineRunsUptoRow.holds Tryd.pinned (OpenSpec.upto machineRunsSpec)

/-- 'seedcornlaw09.MachineStays', WHERE WHAT IT READS IS OF BULK AT MOST 1048576: true; the input reads as it did. -/
def machineStaysUptoRow : OpenClaim := { program := "ytgojpflkhnaedaadoor", sum := "099b499071b27a9c0ee50ca64803d57c39a87ec19d1d548e4b7e101280a1c785", func := "seedcorn/seedcornlaw09.MachineStays", spec := "machineStays", named := ["seedcorn/inst.operations"], apart := false, laid := [("seedcorn/inst.operations", laid_seedcorn_inst_operations)], narrowed := true }
def MachineStaysUptoSaid : Prop := machineStaysUptoRow.holds Tryd.pinned (OpenSpec.upto machineStaysSpec)

/-- 'seedcornlaw09.MachineFrames', WHERE WHAT IT READS IS OF BULK AT MOST 1048576: true; the input reads as it did. -/
def machineFramesUptoRow : OpenClaim := { program := "ytgojpflkhnaedaadoor", sum := "099b499071b27a9c0ee50ca64803d57c39a87ec19d1d548e4b7e101280a1c785", func := "seedcorn/seedcornlaw09.MachineFrames", spec := "machineFrames", named := ["seedcorn/inst.operations"], apart := false, laid := [("seedcorn/inst.operations", laid_seedcorn_inst_operations)], narrowed := true }
def MachineFramesUptoSaid : Prop := machineFramesUptoRow.holds Tryd.pinned (OpenSpec.upto machineFramesSpec)

/-- 'seedcornlaw09.MachineHangs', WHERE WHAT IT READS IS OF BULK AT MOST 1048576: true; the input reads as it did. -/
def machineHangsUptoRow : OpenClaim := { program := "ytgojpflkhnaedaadoor", sum := "099b499071b27a9c0ee50ca64803d57c39a87ec19d1d548e4b7e101280a1c785", func := "seedcorn/seedcornlaw09.MachineHangs", spec := "machineHangs", named := ["seedcorn/inst.operations"], apart := false, laid := [("seedcorn/inst.operations", laid_seedcorn_inst_operations)], narrowed := true }
def MachineHangsUptoSaid : Prop := machineHangsUptoRow.holds Tryd.pinned (OpenSpec.upto machineHangsSpec)

/-- 'seedcornlaw09.MachineSame', WHERE WHAT IT READS IS OF BULK AT MOST 1048576: true; the input reads as it did. -/
def machineSameUptoRow : OpenClaim := { program := "ytgojpflkhnaedaadoor", sum := "099b499071b27a9c0ee50ca64803d57c39a87ec19d1d548e4b7e101280a1c785", func := "seedcorn/seedcornlaw09.MachineSame", spec := "machineSame", named := ["seedcorn/inst.operations"], apart := false, laid := [("seedcorn/inst.operations", laid_seedcorn_inst_operations)], narrowed := true }
def MachineSameUptoSaid : Prop := machineSameUptoRow.holds Tryd.pinned (OpenSpec.upto machineSameSpec)

end Rows
end Go.Proofs.YtgojpflkhnaedaaDoor
