/-
  DERIVED. GIVEN WITH THE SEED: THE CARDS: each row of YtcjclbhkheogpaaDoorRows.lean that lists a variable, with what it lists TIED to the program's text (the seventh form; the later family's looks); each row that meets fmt, with fmt's text TOLD by the authors' own Lean function (tested against real Go, not proved from fmt's source: count such statements apart). THE CARD IS WHAT COUNTS. Prove the row's statement (the work); the ties are given (YtcjclbhkheogpaaDoorTie.lean); close each card by the builder's one call (the guide's Derived/Test/ToyasCard.lean, 'card_holds'). Laid BY PROGRAM, IN A SANDBOX (cutbox-door.mjs). By AI agents, Wed Nov 11 2026. No macro, syntax, notation, axiom, sorry.
-/
import Derived.Test.YtcjclbhkheogpaaDoorRows
import GoSem.ClaimSeven
namespace Go.Proofs.YtcjclbhkheogpaaDoor
namespace Rows

/-- THE TIED CARD OF 'seedcornlaw04.MerkleClashes'. -/
def merkleClashesCard : Claim7 := { stood := { row := merkleClashesRow, standIns := [], harness := (true, "fed4b9da4ea087e58e304c0713c7e1e46170837309fce1cefde4b8d55f19bb78"), looks := false }, kinds := [], alts := [], laidByText := true, laidKinds := [.data], laidTests := true, laidLooks := .later }
def MerkleClashesCardSaid : Prop := Claim7.holds Tryd.pinned (.plain (OpenSpec.ofChange merkleClashesSpec)) merkleClashesCard

/-- THE TIED CARD OF 'seedcornlaw04.MerkleOther'. -/
def merkleOtherCard : Claim7 := { stood := { row := merkleOtherRow, standIns := [], harness := (true, "fed4b9da4ea087e58e304c0713c7e1e46170837309fce1cefde4b8d55f19bb78"), looks := false }, kinds := [], alts := [], laidByText := true, laidKinds := [.data], laidTests := true, laidLooks := .later }
def MerkleOtherCardSaid : Prop := Claim7.holds Tryd.pinned (.plain (OpenSpec.ofChange merkleOtherSpec)) merkleOtherCard

/-- THE SECOND FORM's CARD OF 'seedcornlaw04.MerkleClashes'. -/
def merkleClashesUptoCard : Claim7 := { stood := { row := merkleClashesUptoRow, standIns := [], harness := (true, "fed4b9da4ea087e58e304c0713c7e1e46170837309fce1cefde4b8d55f19bb78"), looks := false }, kinds := [], alts := [], laidByText := true, laidKinds := [.data], laidTests := true, laidLooks := .later }
def MerkleClashesUptoCardSaid : Prop := Claim7.holds Tryd.pinned (.plain (OpenSpec.upto merkleClashesSpec)) merkleClashesUptoCard

/-- THE SECOND FORM's CARD OF 'seedcornlaw04.MerkleOther'. -/
def merkleOtherUptoCard : Claim7 := { stood := { row := merkleOtherUptoRow, standIns := [], harness := (true, "fed4b9da4ea087e58e304c0713c7e1e46170837309fce1cefde4b8d55f19bb78"), looks := false }, kinds := [], alts := [], laidByText := true, laidKinds := [.data], laidTests := true, laidLooks := .later }
def MerkleOtherUptoCardSaid : Prop := Claim7.holds Tryd.pinned (.plain (OpenSpec.upto merkleOtherSpec)) merkleOtherUptoCard
end Rows
end Go.Proofs.YtcjclbhkheogpaaDoor
