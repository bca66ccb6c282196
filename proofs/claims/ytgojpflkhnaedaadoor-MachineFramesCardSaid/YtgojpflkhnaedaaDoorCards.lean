/-
  DERIVED. GIVEN WITH THE SEED: THE CARDS: each row of YtgojpflkhnaedaaDoorRows.lean that lists a variable, with what it lists TIED to the program's text (the seventh form; the later family's looks); each row that meets fmt, with fmt's text TOLD by the authors' own Lean function (tested against real Go, not proved from fmt's source: count such statements apart). THE CARD IS WHAT COUNTS. Prove the row's statement (the work); the ties are given (YtgojpflkhnaedaaDoorTie.lean); close each card by the builder's one call (the guide's Derived/Test/ToyasCard.lean, 'card_holds'). Laid BY PROGRAM, IN A SANDBOX (cutbox-door.mjs). By AI agents, Wed Nov 11 2026. No macro, syntax, notation, axiom, sorry.
-/
import Derived.Test.YtgojpflkhnaedaaDoorRows
import GoSem.ClaimSeven
namespace Go.Proofs.YtgojpflkhnaedaaDoor
namespace Rows

/-- THE TIED CARD OF 'seedcornlaw09.MachineStarts'. -/
def machineStartsCard : Claim7 := { stood := { row := machineStartsRow, standIns := [], harness := (true, "7273b36d1282a65f128271e7c9960bf94fce85104a796c8fe199fd6b0b844875"), looks := false }, kinds := [], alts := [], laidByText := true, laidKinds := [.data], laidTests := true, laidLooks := .later }
def MachineStartsCardSaid : Prop := Claim7.holds Tryd.pinned (.plain (OpenSpec.ofChange machineStartsSpec)) machineStartsCard

/-- THE TIED CARD OF 'seedcornlaw09.MachineSteps'. -/
def machineStepsCard : Claim7 := { stood := { row := machineStepsRow, standIns := [], harness := (true, "7273b36d1282a65f128271e7c9960bf94fce85104a796c8fe199fd6b0b844875"), looks := false }, kinds := [], alts := [], laidByText := true, laidKinds := [.data], laidTests := true, laidLooks := .later }
def MachineStepsCardSaid : Prop := Claim7.holds Tryd.pinned (.plain (OpenSpec.ofChange machineStepsSpec)) machineStepsCard

/-- THE TIED CARD OF 'seedcornlaw09.MachineRuns'. -/
def machineRunsCard : Claim7 := { stood := { row := machineRunsRow, standIns := [], harness := (true, "7273b36d1282a65f128271e7c9960bf94fce85104a796c8fe199fd6b0b844875"), looks := false }, kinds := [], alts := [], laidByText := true, laidKinds := [.data], laidTests := true, laidLooks := .later }
def MachineRunsCardSaid : Prop := Claim7.holds Tryd.pinned (.plain (OpenSpec.ofChange machineRunsSpec)) machineRunsCard

/-- THE TIED CARD OF 'seedcornlaw09.MachineStays'. -/
def machineStaysCard : Claim7 := { stood := { row := machineStaysRow, standIns := [], harness := (true, "7273b36d1282a65f128271e7c9960bf94fce85104a796c8fe199fd6b0b844875"), looks := false }, kinds := [], alts := [], laidByText := true, laidKinds := [.data], laidTests := true, laidLooks := .later }
def MachineStaysCardSaid : Prop := Claim7.holds Tryd.pinned (.plain (OpenSpec.ofChange machineStaysSpec)) machineStaysCard

/-- THE TIED CARD OF 'seedcornlaw09.MachineFrames'. -/
def machineFramesCard : Claim7 := { stood := { row := machineFramesRow, standIns := [], harness := (true, "7273b36d1282a65f128271e7c9960bf94fce85104a796c8fe199fd6b0b844875"), looks := false }, kinds := [], alts := [], laidByText := true, laidKinds := [.data], laidTests := true, laidLooks := .later }
def MachineFramesCardSaid : Prop := Claim7.holds Tryd.pinned (.plain (OpenSpec.ofChange machineFramesSpec)) machineFramesCard

/-- THE TIED CARD OF 'seedcornlaw09.MachineHangs'. -/
def machineHangsCard : Claim7 := { stood := { row := machineHangsRow, standIns := [], harness := (true, "7273b36d1282a65f128271e7c9960bf94fce85104a796c8fe199fd6b0b844875"), looks := false }, kinds := [], alts := [], laidByText := true, laidKinds := [.data], laidTests := true, laidLooks := .later }
def MachineHangsCardSaid : Prop := Claim7.holds Tryd.pinned (.plain (OpenSpec.ofChange machineHangsSpec)) machineHangsCard

/-- THE TIED CARD OF 'seedcornlaw09.MachineSame'. -/
def machineSameCard : Claim7 := { stood := { row := machineSameRow, standIns := [], harness := (true, "7273b36d1282a65f128271e7c9960bf94fce85104a796c8fe199fd6b0b844875"), looks := false }, kinds := [], alts := [], laidByText := true, laidKinds := [.data], laidTests := true, laidLooks := .later }
def MachineSameCardSaid : Prop := Claim7.holds Tryd.pinned (.plain (OpenSpec.ofChange machineSameSpec)) machineSameCard

/-- THE SECOND FORM's CARD OF 'seedcornlaw09.MachineStarts'. -/
def machineStartsUptoCard : Claim7 := { stood := { row := machineStartsUptoRow, standIns := [], harness := (true, "7273b36d1282a65f128271e7c9960bf94fce85104a796c8fe199fd6b0b844875"), looks := false }, kinds := [], alts := [], laidByText := true, laidKinds := [.data], laidTests := true, laidLooks := .later }
def MachineStartsUptoCardSaid : Prop := Claim7.holds Tryd.pinned (.plain (OpenSpec.upto machineStartsSpec)) machineStartsUptoCard

/-- THE SECOND FORM's CARD OF 'seedcornlaw09.MachineSteps'. -/
def machineStepsUptoCard : Claim7 := { stood := { row := machineStepsUptoRow, standIns := [], harness := (true, "7273b36d1282a65f128271e7c9960bf94fce85104a796c8fe199fd6b0b844875"), looks := false }, kinds := [], alts := [], laidByText := true, laidKinds := [.data], laidTests := true, laidLooks := .later }
def MachineStepsUptoCardSaid : Prop := Claim7.holds Tryd.pinned (.plain (OpenSpec.upto machineStepsSpec)) machineStepsUptoCard

/-- THE SECOND FORM's CARD OF 'seedcornlaw09.MachineRuns'. -/
def machineRunsUptoCard : Claim7 := { stood := { row := machineRunsUptoRow, standIns := [], harness := (true, "7273b36d1282a65f128271e7c9960bf94fce85104a796c8fe199fd6b0b844875"), looks := false }, kinds := [], alts := [], laidByText := true, laidKinds := [.data], laidTests := true, laidLooks := .later }
def MachineRunsUptoCardSaid : Prop := Claim7.holds Tryd.pinned (.plain (OpenSpec.upto machineRunsSpec)) machineRunsUptoCard

/-- THE SECOND FORM's CARD OF 'seedcornlaw09.MachineStays'. -/
def machineStaysUptoCard : Claim7 := { stood := { row := machineStaysUptoRow, standIns := [], harness := (true, "7273b36d1282a65f128271e7c9960bf94fce85104a796c8fe199fd6b0b844875"), looks := false }, kinds := [], alts := [], laidByText := true, laidKinds := [.data], laidTests := true, laidLooks := .later }
def MachineStaysUptoCardSaid : Prop := Claim7.holds Tryd.pinned (.plain (OpenSpec.upto machineStaysSpec)) machineStaysUptoCard

/-- THE SECOND FORM's CARD OF 'seedcornlaw09.MachineFrames'. -/
def machineFramesUptoCard : Claim7 := { stood := { row := machineFramesUptoRow, standIns := [], harness := (true, "7273b36d1282a65f128271e7c9960bf94fce85104a796c8fe199fd6b0b844875"), looks := false }, kinds := [], alts := [], laidByText := true, laidKinds := [.data], laidTests := true, laidLooks := .later }
def MachineFramesUptoCardSaid : Prop := Claim7.holds Tryd.pinned (.plain (OpenSpec.upto machineFramesSpec)) machineFramesUptoCard

/-- THE SECOND FORM's CARD OF 'seedcornlaw09.MachineHangs'. -/
def machineHangsUptoCard : Claim7 := { stood := { row := machineHangsUptoRow, standIns := [], harness := (true, "7273b36d1282a65f128271e7c9960bf94fce85104a796c8fe199fd6b0b844875"), looks := false }, kinds := [], alts := [], laidByText := true, laidKinds := [.data], laidTests := true, laidLooks := .later }
def MachineHangsUptoCardSaid : Prop := Claim7.holds Tryd.pinned (.plain (OpenSpec.upto machineHangsSpec)) machineHangsUptoCard

/-- THE SECOND FORM's CARD OF 'seedcornlaw09.MachineSame'. -/
def machineSameUptoCard : Claim7 := { stood := { row := machineSameUptoRow, standIns := [], harness := (true, "7273b36d1282a65f128271e7c9960bf94fce85104a796c8fe199fd6b0b844875"), looks := false }, kinds := [], alts := [], laidByText := true, laidKinds := [.data], laidTests := true, laidLooks := .later }
def MachineSameUptoCardSaid : Prop := Claim7.holds Tryd.pinned (.plain (OpenSpec.upto machineSameSpec)) machineSameUptoCard
end Rows
end Go.Proofs.YtgojpflkhnaedaaDoor
