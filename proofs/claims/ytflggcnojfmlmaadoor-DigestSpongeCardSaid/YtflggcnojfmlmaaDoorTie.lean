/-
  DERIVED. GIVEN WITH THE SEED: THE PROGRAM's TIES (one call each: nine closed facts by the kernel) AND EACH ROW's TIE, after the 31st guide's Derived/Test/Toyas{Tie, Card}.lean. No idea stands in it: it is a product of the set-up. Laid BY PROGRAM, IN A SANDBOX (cutbox-door.mjs). By AI agents, Wed Nov 11 2026. No macro, syntax, notation, axiom, sorry.
-/
import Derived.Test.YtflggcnojfmlmaaDoorRows
import Derived.LaidByTextLater
import Derived.SevenTiedAt
import Derived.LaidSub
import Derived.LaidOnce
namespace Go.Proofs.YtflggcnojfmlmaaDoor
open Go
set_option maxRecDepth 100000
theorem seatTie1 : Tryd.prog.laidByTextLater [("seedcorn/hex.digits", Rows.laid_seedcorn_hex_digits), ("seedcorn/hex.values", Rows.laid_seedcorn_hex_values), ("seedcorn/digest.turns", Rows.laid_seedcorn_digest_turns)] [.data, .data, .data] true :=
  Program.laidByTextLater_by_one 24 8 104 (by kernel_rfl) (by kernel_rfl) (by kernel_rfl) (by kernel_rfl) (by kernel_rfl) (by kernel_rfl) (fun _ _ => by kernel_rfl)
theorem noOwnUnsafe : Tryd.pinned.checked.prog.headLifts.contains "ownunsafe" = false := by kernel_rfl
theorem tie : Tryd.prog.laidByTextLater [("seedcorn/hex.digits", Rows.laid_seedcorn_hex_digits), ("seedcorn/hex.values", Rows.laid_seedcorn_hex_values), ("seedcorn/digest.turns", Rows.laid_seedcorn_digest_turns)] [.data, .data, .data] true :=
  Program.laidByTextLater.sub seatTie1 ["seedcorn/hex.digits", "seedcorn/hex.values", "seedcorn/digest.turns"] (by kernel_rfl) (by kernel_rfl)
theorem digestSponge_row_tie : Rows.digestSpongeRow.laidByTextAt .later Tryd.pinned [.data, .data, .data] true :=
  OpenClaim.laidByTextAt_later rfl rfl tie noOwnUnsafe
theorem digestSpongeUpto_row_tie : Rows.digestSpongeUptoRow.laidByTextAt .later Tryd.pinned [.data, .data, .data] true :=
  OpenClaim.laidByTextAt_later rfl rfl tie noOwnUnsafe
end Go.Proofs.YtflggcnojfmlmaaDoor
