/-
  DERIVED. GIVEN WITH THE SEED: THE CARDS: each row of YtfbefenagnlnfaaDoorRows.lean that lists a variable, with what it lists TIED to the program's text (the seventh form; the later family's looks); each row that meets fmt, with fmt's text TOLD by the authors' own Lean function (tested against real Go, not proved from fmt's source: count such statements apart). THE CARD IS WHAT COUNTS. Prove the row's statement (the work); the ties are given (YtfbefenagnlnfaaDoorTie.lean); close each card by the builder's one call (the guide's Derived/Test/ToyasCard.lean, 'card_holds'). Laid BY PROGRAM, IN A SANDBOX (cutbox-door.mjs). By AI agents, Wed Nov 11 2026. No macro, syntax, notation, axiom, sorry.
-/
import Derived.Test.YtfbefenagnlnfaaDoorRows
import GoSem.ClaimSeven
namespace Go.Proofs.YtfbefenagnlnfaaDoor
namespace Rows

/-- THE TIED CARD OF 'seedcornlaw06.KeysPublic'. -/
def keysPublicCard : Claim7 := { stood := { row := keysPublicRow, standIns := [], harness := (true, "88a5a991f5184cc454e9df986a6d0a4cf8b3a1a1130578c2d461ec3525e3876b"), looks := false }, kinds := [], alts := [], laidByText := true, laidKinds := [.data, .data], laidTests := true, laidLooks := .later }
def KeysPublicCardSaid : Prop := Claim7.holds Tryd.pinned (.plain (OpenSpec.ofChange keysPublicSpec)) keysPublicCard

/-- THE TIED CARD OF 'seedcornlaw06.KeysSigns'. -/
def keysSignsCard : Claim7 := { stood := { row := keysSignsRow, standIns := [], harness := (true, "88a5a991f5184cc454e9df986a6d0a4cf8b3a1a1130578c2d461ec3525e3876b"), looks := false }, kinds := [], alts := [], laidByText := true, laidKinds := [.data, .data], laidTests := true, laidLooks := .later }
def KeysSignsCardSaid : Prop := Claim7.holds Tryd.pinned (.plain (OpenSpec.ofChange keysSignsSpec)) keysSignsCard

/-- THE TIED CARD OF 'seedcornlaw06.KeysCheck'. -/
def keysCheckCard : Claim7 := { stood := { row := keysCheckRow, standIns := [], harness := (true, "88a5a991f5184cc454e9df986a6d0a4cf8b3a1a1130578c2d461ec3525e3876b"), looks := false }, kinds := [], alts := [], laidByText := true, laidKinds := [.data, .data], laidTests := true, laidLooks := .later }
def KeysCheckCardSaid : Prop := Claim7.holds Tryd.pinned (.plain (OpenSpec.ofChange keysCheckSpec)) keysCheckCard

/-- THE TIED CARD OF 'seedcornlaw06.KeysUses'. -/
def keysUsesCard : Claim7 := { stood := { row := keysUsesRow, standIns := [], harness := (true, "88a5a991f5184cc454e9df986a6d0a4cf8b3a1a1130578c2d461ec3525e3876b"), looks := false }, kinds := [], alts := [], laidByText := true, laidKinds := [.data, .data], laidTests := true, laidLooks := .later }
def KeysUsesCardSaid : Prop := Claim7.holds Tryd.pinned (.plain (OpenSpec.ofChange keysUsesSpec)) keysUsesCard

/-- THE TIED CARD OF 'seedcornlaw06.KeysRow'. -/
def keysRowCard : Claim7 := { stood := { row := keysRowRow, standIns := [], harness := (true, "88a5a991f5184cc454e9df986a6d0a4cf8b3a1a1130578c2d461ec3525e3876b"), looks := false }, kinds := [], alts := [], laidByText := true, laidKinds := [.data, .data], laidTests := true, laidLooks := .later }
def KeysRowCardSaid : Prop := Claim7.holds Tryd.pinned (.plain (OpenSpec.ofChange keysRowSpec)) keysRowCard

/-- THE TIED CARD OF 'seedcornlaw06.KeysClash'. -/
def keysClashCard : Claim7 := { stood := { row := keysClashRow, standIns := [], harness := (true, "88a5a991f5184cc454e9df986a6d0a4cf8b3a1a1130578c2d461ec3525e3876b"), looks := false }, kinds := [], alts := [], laidByText := true, laidKinds := [.data, .data], laidTests := true, laidLooks := .later }
def KeysClashCardSaid : Prop := Claim7.holds Tryd.pinned (.plain (OpenSpec.ofChange keysClashSpec)) keysClashCard

/-- THE TIED CARD OF 'seedcornlaw06.KeysPlaces'. -/
def keysPlacesCard : Claim7 := { stood := { row := keysPlacesRow, standIns := [], harness := (true, "88a5a991f5184cc454e9df986a6d0a4cf8b3a1a1130578c2d461ec3525e3876b"), looks := false }, kinds := [], alts := [], laidByText := true, laidKinds := [.data, .data], laidTests := true, laidLooks := .later }
def KeysPlacesCardSaid : Prop := Claim7.holds Tryd.pinned (.plain (OpenSpec.ofChange keysPlacesSpec)) keysPlacesCard

/-- THE SECOND FORM's CARD OF 'seedcornlaw06.KeysPublic'. -/
def keysPublicUptoCard : Claim7 := { stood := { row := keysPublicUptoRow, standIns := [], harness := (true, "88a5a991f5184cc454e9df986a6d0a4cf8b3a1a1130578c2d461ec3525e3876b"), looks := false }, kinds := [], alts := [], laidByText := true, laidKinds := [.data, .data], laidTests := true, laidLooks := .later }
def KeysPublicUptoCardSaid : Prop := Claim7.holds Tryd.pinned (.plain (OpenSpec.upto keysPublicSpec)) keysPublicUptoCard

/-- THE SECOND FORM's CARD OF 'seedcornlaw06.KeysSigns'. -/
def keysSignsUptoCard : Claim7 := { stood := { row := keysSignsUptoRow, standIns := [], harness := (true, "88a5a991f5184cc454e9df986a6d0a4cf8b3a1a1130578c2d461ec3525e3876b"), looks := false }, kinds := [], alts := [], laidByText := true, laidKinds := [.data, .data], laidTests := true, laidLooks := .later }
def KeysSignsUptoCardSaid : Prop := Claim7.holds Tryd.pinned (.plain (OpenSpec.upto keysSignsSpec)) keysSignsUptoCard

/-- THE SECOND FORM's CARD OF 'seedcornlaw06.KeysCheck'. -/
def keysCheckUptoCard : Claim7 := { stood := { row := keysCheckUptoRow, standIns := [], harness := (true, "88a5a991f5184cc454e9df986a6d0a4cf8b3a1a1130578c2d461ec3525e3876b"), looks := false }, kinds := [], alts := [], laidByText := true, laidKinds := [.data, .data], laidTests := true, laidLooks := .later }
def KeysCheckUptoCardSaid : Prop := Claim7.holds Tryd.pinned (.plain (OpenSpec.upto keysCheckSpec)) keysCheckUptoCard

/-- THE SECOND FORM's CARD OF 'seedcornlaw06.KeysUses'. -/
def keysUsesUptoCard : Claim7 := { stood := { row := keysUsesUptoRow, standIns := [], harness := (true, "88a5a991f5184cc454e9df986a6d0a4cf8b3a1a1130578c2d461ec3525e3876b"), looks := false }, kinds := [], alts := [], laidByText := true, laidKinds := [.data, .data], laidTests := true, laidLooks := .later }
def KeysUsesUptoCardSaid : Prop := Claim7.holds Tryd.pinned (.plain (OpenSpec.upto keysUsesSpec)) keysUsesUptoCard

/-- THE SECOND FORM's CARD OF 'seedcornlaw06.KeysRow'. -/
def keysRowUptoCard : Claim7 := { stood := { row := keysRowUptoRow, standIns := [], harness := (true, "88a5a991f5184cc454e9df986a6d0a4cf8b3a1a1130578c2d461ec3525e3876b"), looks := false }, kinds := [], alts := [], laidByText := true, laidKinds := [.data, .data], laidTests := true, laidLooks := .later }
def KeysRowUptoCardSaid : Prop := Claim7.holds Tryd.pinned (.plain (OpenSpec.upto keysRowSpec)) keysRowUptoCard

/-- THE SECOND FORM's CARD OF 'seedcornlaw06.KeysClash'. -/
def keysClashUptoCard : Claim7 := { stood := { row := keysClashUptoRow, standIns := [], harness := (true, "88a5a991f5184cc454e9df986a6d0a4cf8b3a1a1130578c2d461ec3525e3876b"), looks := false }, kinds := [], alts := [], laidByText := true, laidKinds := [.data, .data], laidTests := true, laidLooks := .later }
def KeysClashUptoCardSaid : Prop := Claim7.holds Tryd.pinned (.plain (OpenSpec.upto keysClashSpec)) keysClashUptoCard

/-- THE SECOND FORM's CARD OF 'seedcornlaw06.KeysPlaces'. -/
def keysPlacesUptoCard : Claim7 := { stood := { row := keysPlacesUptoRow, standIns := [], harness := (true, "88a5a991f5184cc454e9df986a6d0a4cf8b3a1a1130578c2d461ec3525e3876b"), looks := false }, kinds := [], alts := [], laidByText := true, laidKinds := [.data, .data], laidTests := true, laidLooks := .later }
def KeysPlacesUptoCardSaid : Prop := Claim7.holds Tryd.pinned (.plain (OpenSpec.upto keysPlacesSpec)) keysPlacesUptoCard
end Rows
end Go.Proofs.YtfbefenagnlnfaaDoor
