/-
  DERIVED. GIVEN WITH THE SEED: THE CARDS: each row of YtnobnnbckehikaaDoorRows.lean that lists a variable, with what it lists TIED to the program's text (the seventh form; the later family's looks); each row that meets fmt, with fmt's text TOLD by the authors' own Lean function (tested against real Go, not proved from fmt's source: count such statements apart). THE CARD IS WHAT COUNTS. Prove the row's statement (the work); the ties are given (YtnobnnbckehikaaDoorTie.lean); close each card by the builder's one call (the guide's Derived/Test/ToyasCard.lean, 'card_holds'). Laid BY PROGRAM, IN A SANDBOX (cutbox-door.mjs). By AI agents, Wed Nov 11 2026. No macro, syntax, notation, axiom, sorry.
-/
import Derived.Test.YtnobnnbckehikaaDoorRows
import GoSem.ClaimSeven
namespace Go.Proofs.YtnobnnbckehikaaDoor
namespace Rows

/-- THE TIED CARD OF 'seedcornlaw05.OnetimeSteps'. -/
def onetimeStepsCard : Claim7 := { stood := { row := onetimeStepsRow, standIns := [], harness := (true, "ea7196a3512aa699864d055f6163317c076b723b90af7bf173182ed9fc943bf0"), looks := false }, kinds := [], alts := [], laidByText := true, laidKinds := [.data, .data], laidTests := true, laidLooks := .later }
def OnetimeStepsCardSaid : Prop := Claim7.holds Tryd.pinned (.plain (OpenSpec.ofChange onetimeStepsSpec)) onetimeStepsCard

/-- THE TIED CARD OF 'seedcornlaw05.OnetimeKeys'. -/
def onetimeKeysCard : Claim7 := { stood := { row := onetimeKeysRow, standIns := [], harness := (true, "ea7196a3512aa699864d055f6163317c076b723b90af7bf173182ed9fc943bf0"), looks := false }, kinds := [], alts := [], laidByText := true, laidKinds := [.data, .data], laidTests := true, laidLooks := .later }
def OnetimeKeysCardSaid : Prop := Claim7.holds Tryd.pinned (.plain (OpenSpec.ofChange onetimeKeysSpec)) onetimeKeysCard

/-- THE TIED CARD OF 'seedcornlaw05.OnetimeHolds'. -/
def onetimeHoldsCard : Claim7 := { stood := { row := onetimeHoldsRow, standIns := [], harness := (true, "ea7196a3512aa699864d055f6163317c076b723b90af7bf173182ed9fc943bf0"), looks := false }, kinds := [], alts := [], laidByText := true, laidKinds := [.data, .data], laidTests := true, laidLooks := .later }
def OnetimeHoldsCardSaid : Prop := Claim7.holds Tryd.pinned (.plain (OpenSpec.ofChange onetimeHoldsSpec)) onetimeHoldsCard

/-- THE TIED CARD OF 'seedcornlaw05.OnetimeReaches'. -/
def onetimeReachesCard : Claim7 := { stood := { row := onetimeReachesRow, standIns := [], harness := (true, "ea7196a3512aa699864d055f6163317c076b723b90af7bf173182ed9fc943bf0"), looks := false }, kinds := [], alts := [], laidByText := true, laidKinds := [.data, .data], laidTests := true, laidLooks := .later }
def OnetimeReachesCardSaid : Prop := Claim7.holds Tryd.pinned (.plain (OpenSpec.ofChange onetimeReachesSpec)) onetimeReachesCard

/-- THE TIED CARD OF 'seedcornlaw05.OnetimeUnlike'. -/
def onetimeUnlikeCard : Claim7 := { stood := { row := onetimeUnlikeRow, standIns := [], harness := (true, "ea7196a3512aa699864d055f6163317c076b723b90af7bf173182ed9fc943bf0"), looks := false }, kinds := [], alts := [], laidByText := true, laidKinds := [.data, .data], laidTests := true, laidLooks := .later }
def OnetimeUnlikeCardSaid : Prop := Claim7.holds Tryd.pinned (.plain (OpenSpec.ofChange onetimeUnlikeSpec)) onetimeUnlikeCard

/-- THE TIED CARD OF 'seedcornlaw05.OnetimeGives'. -/
def onetimeGivesCard : Claim7 := { stood := { row := onetimeGivesRow, standIns := [], harness := (true, "ea7196a3512aa699864d055f6163317c076b723b90af7bf173182ed9fc943bf0"), looks := false }, kinds := [], alts := [], laidByText := true, laidKinds := [.data, .data], laidTests := true, laidLooks := .later }
def OnetimeGivesCardSaid : Prop := Claim7.holds Tryd.pinned (.plain (OpenSpec.ofChange onetimeGivesSpec)) onetimeGivesCard

/-- THE TIED CARD OF 'seedcornlaw05.OnetimeAhead'. -/
def onetimeAheadCard : Claim7 := { stood := { row := onetimeAheadRow, standIns := [], harness := (true, "ea7196a3512aa699864d055f6163317c076b723b90af7bf173182ed9fc943bf0"), looks := false }, kinds := [], alts := [], laidByText := true, laidKinds := [.data, .data], laidTests := true, laidLooks := .later }
def OnetimeAheadCardSaid : Prop := Claim7.holds Tryd.pinned (.plain (OpenSpec.ofChange onetimeAheadSpec)) onetimeAheadCard

/-- THE SECOND FORM's CARD OF 'seedcornlaw05.OnetimeSteps'. -/
def onetimeStepsUptoCard : Claim7 := { stood := { row := onetimeStepsUptoRow, standIns := [], harness := (true, "ea7196a3512aa699864d055f6163317c076b723b90af7bf173182ed9fc943bf0"), looks := false }, kinds := [], alts := [], laidByText := true, laidKinds := [.data, .data], laidTests := true, laidLooks := .later }
def OnetimeStepsUptoCardSaid : Prop := Claim7.holds Tryd.pinned (.plain (OpenSpec.upto onetimeStepsSpec)) onetimeStepsUptoCard

/-- THE SECOND FORM's CARD OF 'seedcornlaw05.OnetimeKeys'. -/
def onetimeKeysUptoCard : Claim7 := { stood := { row := onetimeKeysUptoRow, standIns := [], harness := (true, "ea7196a3512aa699864d055f6163317c076b723b90af7bf173182ed9fc943bf0"), looks := false }, kinds := [], alts := [], laidByText := true, laidKinds := [.data, .data], laidTests := true, laidLooks := .later }
def OnetimeKeysUptoCardSaid : Prop := Claim7.holds Tryd.pinned (.plain (OpenSpec.upto onetimeKeysSpec)) onetimeKeysUptoCard

/-- THE SECOND FORM's CARD OF 'seedcornlaw05.OnetimeHolds'. -/
def onetimeHoldsUptoCard : Claim7 := { stood := { row := onetimeHoldsUptoRow, standIns := [], harness := (true, "ea7196a3512aa699864d055f6163317c076b723b90af7bf173182ed9fc943bf0"), looks := false }, kinds := [], alts := [], laidByText := true, laidKinds := [.data, .data], laidTests := true, laidLooks := .later }
def OnetimeHoldsUptoCardSaid : Prop := Claim7.holds Tryd.pinned (.plain (OpenSpec.upto onetimeHoldsSpec)) onetimeHoldsUptoCard

/-- THE SECOND FORM's CARD OF 'seedcornlaw05.OnetimeReaches'. -/
def onetimeReachesUptoCard : Claim7 := { stood := { row := onetimeReachesUptoRow, standIns := [], harness := (true, "ea7196a3512aa699864d055f6163317c076b723b90af7bf173182ed9fc943bf0"), looks := false }, kinds := [], alts := [], laidByText := true, laidKinds := [.data, .data], laidTests := true, laidLooks := .later }
def OnetimeReachesUptoCardSaid : Prop := Claim7.holds Tryd.pinned (.plain (OpenSpec.upto onetimeReachesSpec)) onetimeReachesUptoCard

/-- THE SECOND FORM's CARD OF 'seedcornlaw05.OnetimeUnlike'. -/
def onetimeUnlikeUptoCard : Claim7 := { stood := { row := onetimeUnlikeUptoRow, standIns := [], harness := (true, "ea7196a3512aa699864d055f6163317c076b723b90af7bf173182ed9fc943bf0"), looks := false }, kinds := [], alts := [], laidByText := true, laidKinds := [.data, .data], laidTests := true, laidLooks := .later }
def OnetimeUnlikeUptoCardSaid : Prop := Claim7.holds Tryd.pinned (.plain (OpenSpec.upto onetimeUnlikeSpec)) onetimeUnlikeUptoCard

/-- THE SECOND FORM's CARD OF 'seedcornlaw05.OnetimeGives'. -/
def onetimeGivesUptoCard : Claim7 := { stood := { row := onetimeGivesUptoRow, standIns := [], harness := (true, "ea7196a3512aa699864d055f6163317c076b723b90af7bf173182ed9fc943bf0"), looks := false }, kinds := [], alts := [], laidByText := true, laidKinds := [.data, .data], laidTests := true, laidLooks := .later }
def OnetimeGivesUptoCardSaid : Prop := Claim7.holds Tryd.pinned (.plain (OpenSpec.upto onetimeGivesSpec)) onetimeGivesUptoCard

/-- THE SECOND FORM's CARD OF 'seedcornlaw05.OnetimeAhead'. -/
def onetimeAheadUptoCard : Claim7 := { stood := { row := onetimeAheadUptoRow, standIns := [], harness := (true, "ea7196a3512aa699864d055f6163317c076b723b90af7bf173182ed9fc943bf0"), looks := false }, kinds := [], alts := [], laidByText := true, laidKinds := [.data, .data], laidTests := true, laidLooks := .later }
def OnetimeAheadUptoCardSaid : Prop := Claim7.holds Tryd.pinned (.plain (OpenSpec.upto onetimeAheadSpec)) onetimeAheadUptoCard
end Rows
end Go.Proofs.YtnobnnbckehikaaDoor
