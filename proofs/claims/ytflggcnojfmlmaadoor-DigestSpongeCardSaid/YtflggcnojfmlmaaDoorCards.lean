/-
  DERIVED. GIVEN WITH THE SEED: THE CARDS: each row of YtflggcnojfmlmaaDoorRows.lean that lists a variable, with what it lists TIED to the program's text (the seventh form; the later family's looks); each row that meets fmt, with fmt's text TOLD by the authors' own Lean function (tested against real Go, not proved from fmt's source: count such statements apart). THE CARD IS WHAT COUNTS. Prove the row's statement (the work); the ties are given (YtflggcnojfmlmaaDoorTie.lean); close each card by the builder's one call (the guide's Derived/Test/ToyasCard.lean, 'card_holds'). Laid BY PROGRAM, IN A SANDBOX (cutbox-door.mjs). By AI agents, Wed Nov 11 2026. No macro, syntax, notation, axiom, sorry.
-/
import Derived.Test.YtflggcnojfmlmaaDoorRows
import GoSem.ClaimSeven
namespace Go.Proofs.YtflggcnojfmlmaaDoor
namespace Rows

/-- THE TIED CARD OF 'seedcornlaw03.DigestSponge'. -/
def digestSpongeCard : Claim7 := { stood := { row := digestSpongeRow, standIns := [], harness := (true, "0640aa333149160368263ce00f8dbead3d621e98882704585d8ed49e043a442e"), looks := false }, kinds := [], alts := [], laidByText := true, laidKinds := [.data, .data, .data], laidTests := true, laidLooks := .later }
def DigestSpongeCardSaid : Prop := Claim7.holds Tryd.pinned (.plain (OpenSpec.ofChange digestSpongeSpec)) digestSpongeCard

/-- THE SECOND FORM's CARD OF 'seedcornlaw03.DigestSponge'. -/
def digestSpongeUptoCard : Claim7 := { stood := { row := digestSpongeUptoRow, standIns := [], harness := (true, "0640aa333149160368263ce00f8dbead3d621e98882704585d8ed49e043a442e"), looks := false }, kinds := [], alts := [], laidByText := true, laidKinds := [.data, .data, .data], laidTests := true, laidLooks := .later }
def DigestSpongeUptoCardSaid : Prop := Claim7.holds Tryd.pinned (.plain (OpenSpec.upto digestSpongeSpec)) digestSpongeUptoCard
end Rows
end Go.Proofs.YtflggcnojfmlmaaDoor
