/-
  NARROWER THAN 'FOR EVERY INPUT', by the rows' own cells (each row's printed sentence says how): KeysPublic: laid · KeysSigns: laid · KeysCheck: laid · KeysUses: laid · KeysRow: laid · KeysClash: laid · KeysPlaces: laid.
  DERIVED. THE GIVEN ROWS OF THIS SEAT. 7 by the template 'for every input the law returns true; each argument reads behind the call as it read before'; 0 by the template 'total and deterministic' (their statements: YtfbefenagnlnfaaDoorTotals.lean).
  GIVEN WITH THE SEED: the statements are not yours to turn. If you find one false, say at which input.
  Laid BY PROGRAM, IN A SANDBOX (cutbox-rows.mjs): the forced cells as the released guide's own fill.sh prints them over the translation d95f3850d17ca32b… (all of the seat's roots in one cut). By AI agents, Wed Nov 11 2026. No macro, syntax, notation, axiom, sorry.
-/
import Derived.Test.YtfbefenagnlnfaaDoorChecked
import GoSem.Claim
import GoSem.ClaimJoined
import GoSem.ClaimMapViews
import Derived.JoinedTies
import Derived.KernelRfl
namespace Go.Proofs.YtfbefenagnlnfaaDoor
/- THE CELL 'sum', in the pinned program and in every row, IS THE sha256 OF THE DUMP (.gsa) THAT YtfbefenagnlnfaaDoorProg.lean LOADS. Nothing in Lean hashes anything: it is a label: what it is worth is what the hold of that sum in a sandbox is worth. -/
noncomputable def Tryd.pinned : Pinned := { name := "ytfbefenagnlnfaadoor", sum := "d95f3850d17ca32ba8b50dc1010118687545c1ac6459fd7d4af8af0f5bce4762", checked := Tryd.checked }
namespace Rows
def none {H : Type} : Left H := { results := [], args := [] }

/- WHAT THE LISTED PACKAGE-LEVEL VARIABLES READ AS WHEN THE CALL BEGINS. Each datum BY PROGRAM (the guide's laid-datum.mjs) off the statement by which the dump's own 'gosem.cut.vars' lays the variable. In a bare row this is a premise. The card (YtfbefenagnlnfaaDoorCards.lean) ties it to the program's text. -/
def laid_seedcorn_digest_turns {H : Type} : DataW H := .agg [.lit (.int .i64 7), .lit (.int .i64 9), .lit (.int .i64 13), .lit (.int .i64 18)]
def laid_seedcorn_onetime_stepMark {H : Type} : DataW H := .agg [.lit (.int .u32 0), .lit (.int .u32 0), .lit (.int .u32 0), .lit (.int .u32 1)]

/-- 'seedcornlaw06.KeysPublic': WHATEVER THE INPUT: true; the input reads as it did. -/
def keysPublicSpec : ChangeSpec := { name := "keysPublic", fn := fun _ => fun
  | [d1, d2] => { results := [.lit (.bool true)], args := [d1, d2] }
  | _ => none }
def keysPublicRow : OpenClaim := { program := "ytfbefenagnlnfaadoor", sum := "d95f3850d17ca32ba8b50dc1010118687545c1ac6459fd7d4af8af0f5bce4762", func := "seedcorn/seedcornlaw06.KeysPublic", spec := "keysPublic", inPlace := ["internal/abi.NoEscape", "internal/bytealg.MakeNoZero"], unfollowed := true, recurses := true, named := ["seedcorn/digest.turns", "seedcorn/onetime.stepMark"], apart := false, laid := [("seedcorn/digest.turns", laid_seedcorn_digest_turns), ("seedcorn/onetime.stepMark", laid_seedcorn_onetime_stepMark)] }
def KeysPublicSaid : Prop := keysPublicRow.holds Tryd.pinned (OpenSpec.ofChange keysPublicSpec)

/-- ITS FALSE NEIGHBOUR: 'it returns false'. Refute it at one input. -/
def keysPublicWrong : ChangeSpec := { name := "keysPublic", fn := fun _ => fun
  | [d1, d2] => { results := [.lit (.bool false)], args := [d1, d2] }
  | _ => none }
def KeysPublicWrongFalsely : Prop := keysPublicRow.holds Tryd.pinned (OpenSpec.ofChange keysPublicWrong)

/-- 'seedcornlaw06.KeysSigns': WHATEVER THE INPUT: true; the input reads as it did. -/
def keysSignsSpec : ChangeSpec := { name := "keysSigns", fn := fun _ => fun
  | [d1, d2, d3] => { results := [.lit (.bool true)], args := [d1, d2, d3] }
  | _ => none }
def keysSignsRow : OpenClaim := { program := "ytfbefenagnlnfaadoor", sum := "d95f3850d17ca32ba8b50dc1010118687545c1ac6459fd7d4af8af0f5bce4762", func := "seedcorn/seedcornlaw06.KeysSigns", spec := "keysSigns", inPlace := ["internal/abi.NoEscape", "internal/bytealg.MakeNoZero"], unfollowed := true, recurses := true, named := ["seedcorn/digest.turns", "seedcorn/onetime.stepMark"], apart := false, laid := [("seedcorn/digest.turns", laid_seedcorn_digest_turns), ("seedcorn/onetime.stepMark", laid_seedcorn_onetime_stepMark)] }
def KeysSignsSaid : Prop := keysSignsRow.holds Tryd.pinned (OpenSpec.ofChange keysSignsSpec)

/-- ITS FALSE NEIGHBOUR: 'it returns false'. Refute it at one input. -/
def keysSignsWrong : ChangeSpec := { name := "keysSigns", fn := fun _ => fun
  | [d1, d2, d3] => { results := [.lit (.bool false)], args := [d1, d2, d3] }
  | _ => none }
def KeysSignsWrongFalsely : Prop := keysSignsRow.holds Tryd.pinned (OpenSpec.ofChange keysSignsWrong)

/-- 'seedcornlaw06.KeysCheck': WHATEVER THE INPUT: true; the input reads as it did. -/
def keysCheckSpec : ChangeSpec := { name := "keysCheck", fn := fun _ => fun
  | [d1, d2, d3] => { results := [.lit (.bool true)], args := [d1, d2, d3] }
  | _ => none }
def keysCheckRow : OpenClaim := { program := "ytfbefenagnlnfaadoor", sum := "d95f3850d17ca32ba8b50dc1010118687545c1ac6459fd7d4af8af0f5bce4762", func := "seedcorn/seedcornlaw06.KeysCheck", spec := "keysCheck", inPlace := ["internal/abi.NoEscape", "internal/bytealg.MakeNoZero"], unfollowed := true, recurses := true, named := ["seedcorn/digest.turns", "seedcorn/onetime.stepMark"], apart := false, laid := [("seedcorn/digest.turns", laid_seedcorn_digest_turns), ("seedcorn/onetime.stepMark", laid_seedcorn_onetime_stepMark)] }
def KeysCheckSaid : Prop := keysCheckRow.holds Tryd.pinned (OpenSpec.ofChange keysCheckSpec)

/-- ITS FALSE NEIGHBOUR: 'it returns false'. Refute it at one input. -/
def keysCheckWrong : ChangeSpec := { name := "keysCheck", fn := fun _ => fun
  | [d1, d2, d3] => { results := [.lit (.bool false)], args := [d1, d2, d3] }
  | _ => none }
def KeysCheckWrongFalsely : Prop := keysCheckRow.holds Tryd.pinned (OpenSpec.ofChange keysCheckWrong)

/-- 'seedcornlaw06.KeysUses': WHATEVER THE INPUT: true; the input reads as it did. -/
def keysUsesSpec : ChangeSpec := { name := "keysUses", fn := fun _ => fun
  | [d1, d2] => { results := [.lit (.bool true)], args := [d1, d2] }
  | _ => none }
def keysUsesRow : OpenClaim := { program := "ytfbefenagnlnfaadoor", sum := "d95f3850d17ca32ba8b50dc1010118687545c1ac6459fd7d4af8af0f5bce4762", func := "seedcorn/seedcornlaw06.KeysUses", spec := "keysUses", inPlace := ["internal/abi.NoEscape", "internal/bytealg.MakeNoZero"], unfollowed := true, recurses := true, named := ["seedcorn/digest.turns", "seedcorn/onetime.stepMark"], apart := false, laid := [("seedcorn/digest.turns", laid_seedcorn_digest_turns), ("seedcorn/onetime.stepMark", laid_seedcorn_onetime_stepMark)] }
def KeysUsesSaid : Prop := keysUsesRow.holds Tryd.pinned (OpenSpec.ofChange keysUsesSpec)

/-- ITS FALSE NEIGHBOUR: 'it returns false'. Refute it at one input. -/
def keysUsesWrong : ChangeSpec := { name := "keysUses", fn := fun _ => fun
  | [d1, d2] => { results := [.lit (.bool false)], args := [d1, d2] }
  | _ => none }
def KeysUsesWrongFalsely : Prop := keysUsesRow.holds Tryd.pinned (OpenSpec.ofChange keysUsesWrong)

/-- 'seedcornlaw06.KeysRow': WHATEVER THE INPUT: true; the input reads as it did. -/
def keysRowSpec : ChangeSpec := { name := "keysRow", fn := fun _ => fun
  | [d1, d2, d3] => { results := [.lit (.bool true)], args := [d1, d2, d3] }
  | _ => none }
def keysRowRow : OpenClaim := { program := "ytfbefenagnlnfaadoor", sum := "d95f3850d17ca32ba8b50dc1010118687545c1ac6459fd7d4af8af0f5bce4762", func := "seedcorn/seedcornlaw06.KeysRow", spec := "keysRow", inPlace := ["internal/abi.NoEscape", "internal/bytealg.MakeNoZero"], unfollowed := true, recurses := true, named := ["seedcorn/digest.turns", "seedcorn/onetime.stepMark"], apart := false, laid := [("seedcorn/digest.turns", laid_seedcorn_digest_turns), ("seedcorn/onetime.stepMark", laid_seedcorn_onetime_stepMark)] }
def KeysRowSaid : Prop := keysRowRow.holds Tryd.pinned (OpenSpec.ofChange keysRowSpec)

/-- ITS FALSE NEIGHBOUR: 'it returns false'. Refute it at one input. -/
def keysRowWrong : ChangeSpec := { name := "keysRow", fn := fun _ => fun
  | [d1, d2, d3] => { results := [.lit (.bool false)], args := [d1, d2, d3] }
  | _ => none }
def KeysRowWrongFalsely : Prop := keysRowRow.holds Tryd.pinned (OpenSpec.ofChange keysRowWrong)

/-- 'seedcornlaw06.KeysClash': WHATEVER THE INPUT: true; the input reads as it did. -/
def keysClashSpec : ChangeSpec := { name := "keysClash", fn := fun _ => fun
  | [d] => { results := [.lit (.bool true)], args := [d] }
  | _ => none }
def keysClashRow : OpenClaim := { program := "ytfbefenagnlnfaadoor", sum := "d95f3850d17ca32ba8b50dc1010118687545c1ac6459fd7d4af8af0f5bce4762", func := "seedcorn/seedcornlaw06.KeysClash", spec := "keysClash", inPlace := ["internal/abi.NoEscape", "internal/bytealg.MakeNoZero"], unfollowed := true, recurses := true, named := ["seedcorn/digest.turns", "seedcorn/onetime.stepMark"], apart := false, laid := [("seedcorn/digest.turns", laid_seedcorn_digest_turns), ("seedcorn/onetime.stepMark", laid_seedcorn_onetime_stepMark)] }
def KeysClashSaid : Prop := keysClashRow.holds Tryd.pinned (OpenSpec.ofChange keysClashSpec)

/-- ITS FALSE NEIGHBOUR: 'it returns false'. Refute it at one input. -/
def keysClashWrong : ChangeSpec := { name := "keysClash", fn := fun _ => fun
  | [d] => { results := [.lit (.bool false)], args := [d] }
  | _ => none }
def KeysClashWrongFalsely : Prop := keysClashRow.holds Tryd.pinned (OpenSpec.ofChange keysClashWrong)

/-- 'seedcornlaw06.KeysPlaces': WHATEVER THE INPUT: true; the input reads as it did. -/
def keysPlacesSpec : ChangeSpec := { name := "keysPlaces", fn := fun _ => fun
  | [d1, d2, d3] => { results := [.lit (.bool true)], args := [d1, d2, d3] }
  | _ => none }
def keysPlacesRow : OpenClaim := { program := "ytfbefenagnlnfaadoor", sum := "d95f3850d17ca32ba8b50dc1010118687545c1ac6459fd7d4af8af0f5bce4762", func := "seedcorn/seedcornlaw06.KeysPlaces", spec := "keysPlaces", inPlace := ["internal/abi.NoEscape", "internal/bytealg.MakeNoZero"], unfollowed := true, recurses := true, named := ["seedcorn/digest.turns", "seedcorn/onetime.stepMark"], apart := false, laid := [("seedcorn/digest.turns", laid_seedcorn_digest_turns), ("seedcorn/onetime.stepMark", laid_seedcorn_onetime_stepMark)] }
def KeysPlacesSaid : Prop := keysPlacesRow.holds Tryd.pinned (OpenSpec.ofChange keysPlacesSpec)

/-- ITS FALSE NEIGHBOUR: 'it returns false'. Refute it at one input. -/
def keysPlacesWrong : ChangeSpec := { name := "keysPlaces", fn := fun _ => fun
  | [d1, d2, d3] => { results := [.lit (.bool false)], args := [d1, d2, d3] }
  | _ => none }
def KeysPlacesWrongFalsely : Prop := keysPlacesRow.holds Tryd.pinned (OpenSpec.ofChange keysPlacesWrong)

/- THE SECOND FORM. 'bulk': how many values and letters a reading holds, each counted each time it is reached (what is shared counts as often as it is met; a slice's spare places count too). A statement '..UptoSaid' is the law's where the arguments, and the package variables that the reading takes, are together of bulk at most 1048576: NARROWER than '..Said'. Prove '..Said' where nothing that the law and all that it calls make is longer than what came in: it says more and counts as full. Else prove '..UptoSaid'. A law counts once. -/
mutual
def uptoBulk {H : Type} : DataW H → Nat
  | .lit (.string bytes) => bytes.length + 1
  | .lit _ => 1
  | .nil => 1
  | .ptr d => uptoBulk d + 1
  | .slice elems spare => uptoBulkAll elems + uptoBulkAll spare + 1
  | .agg parts => uptoBulkAll parts + 1
  | .iface _ d => uptoBulk d + 1
  | .map entries => uptoBulkEntries entries + 1
  | .held _ => 1
def uptoBulkAll {H : Type} : List (DataW H) → Nat
  | [] => 0
  | d :: r => uptoBulk d + uptoBulkAll r
def uptoBulkEntries {H : Type} : List (Lit × DataW H) → Nat
  | [] => 0
  | x :: r => uptoBulkEntry x + uptoBulkEntries r
def uptoBulkEntry {H : Type} : Lit × DataW H → Nat
  | (.string bytes, d) => bytes.length + uptoBulk d + 1
  | (_, d) => uptoBulk d + 1
 end
def uptoSmall : (H : Type) → List (DataW H) → Bool := fun _ ds => decide (uptoBulkAll ds ≤ 1048576)
def OpenSpec.upto (s : _root_.Go.ChangeSpec) : _root_.Go.OpenSpec := { _root_.Go.OpenSpec.ofChange s with cond := some uptoSmall }

/-- 'seedcornlaw06.KeysPublic', WHERE WHAT IT READS IS OF BULK AT MOST 1048576: true; the input reads as it did. -/
def keysPublicUptoRow : OpenClaim := { program := "ytfbefenagnlnfaadoor", sum := "d95f3850d17ca32ba8b50dc1010118687545c1ac6459fd7d4af8af0f5bce4762", func := "seedcorn/seedcornlaw06.KeysPublic", spec := "keysPublic", inPlace := ["internal/abi.NoEscape", "internal/bytealg.MakeNoZero"], unfollowed := true, recurses := true, named := ["seedcorn/digest.turns", "seedcorn/onetime.stepMark"], apart := false, laid := [("seedcorn/digest.turns", laid_seedcorn_digest_turns), ("seedcorn/onetime.stepMark", laid_seedcorn_onetime_stepMark)], narrowed := true }
def KeysPublicUptoSaid : Prop := keysPublicUptoRow.holds Tryd.pinned (OpenSpec.upto keysPublicSpec)

/-- 'seedcornlaw06.KeysSigns', WHERE WHAT IT READS IS OF BULK AT MOST 1048576: true; the input reads as it did. -/
def keysSignsUptoRow : OpenClaim := { program := "ytfbefenagnlnfaadoor", sum := "d95f3850d17ca32ba8b50dc1010118687545c1ac6459fd7d4af8af0f5bce4762", func := "seedcorn/seedcornlaw06.KeysSigns", spec := "keysSigns", inPlace := ["internal/abi.NoEscape", "internal/bytealg.MakeNoZero"], unfollowed := true, recurses := true, named := ["seedcorn/digest.turns", "seedcorn/onetime.stepMark"], apart := false, laid := [("seedcorn/digest.turns", laid_seedcorn_digest_turns), ("seedcorn/onetime.stepMark", laid_seedcorn_onetime_stepMark)], narrowed := true }
def KeysSignsUptoSaid : Prop := keysSignsUptoRow.holds Tryd.pinned (OpenSpec.upto keysSignsSpec)

/-- 'seedcornlaw06.KeysCheck', WHERE WHAT IT READS IS OF BULK AT MOST 1048576: true; the input reads as it did. -/
def keysCheckUptoRow : OpenClaim := { program := "ytfbefenagnlnfaadoor", sum := "d95f3850d17ca32ba8b50dc1010118687545c1ac6459fd7d4af8af0f5bce4762", func := "seedcorn/seedcornlaw06.KeysCheck", spec := "keysCheck", inPlace := ["internal/abi.NoEscape", "internal/bytealg.MakeNoZero"], unfollowed := true, recurses := true, named := ["seedcorn/digest.turns", "seedcorn/onetime.stepMark"], apart := false, laid := [("seedcorn/digest.turns", laid_seedcorn_digest_turns), ("seedcorn/onetime.stepMark", laid_seedcorn_onetime_stepMark)], narrowed := true }
def KeysCheckUptoSaid : Prop := keysCheckUptoRow.holds Tryd.pinned (OpenSpec.upto keysCheckSpec)

/-- 'seedcornlaw06.KeysUses', WHERE WHAT IT READS IS OF BULK AT MOST 1048576: true; the input reads as it did. -/
def keysUsesUptoRow : OpenClaim := { program := "ytfbefenagnlnfaadoor", sum := "d95f3850d17ca32ba8b50dc1010118687545c1ac6459fd7d4af8af0f5bce4762", func := "seedcorn/seedcornlaw06.KeysUses", spec := "keysUses", inPlace := ["internal/abi.NoEscape", "internal/bytealg.MakeNoZero"], unfollowed := true, recurses := true, named := ["seedcorn/digest.turns", "seedcorn/onetime.stepMark"], apart := false, laid := [("seedcorn/digest.turns", laid_seedcorn_digest_turns), ("seedcorn/onetime.stepMark", laid_seedcorn_onetime_stepMark)], narrowed := true }
def KeysUsesUptoSaid : Prop := keysUsesUptoRow.holds Tryd.pinned (OpenSpec.upto keysUsesSpec)

/-- 'seedcornlaw06.KeysRow', WHERE WHAT IT READS IS OF BULK AT MOST 1048576: true; the input reads as it did. -/
def keysRowUptoRow : OpenClaim := { program := "ytfbefenagnlnfaadoor", sum := "d95f3850d17ca32ba8b50dc1010118687545c1ac6459fd7d4af8af0f5bce4762", func := "seedcorn/seedcornlaw06.KeysRow", spec := "keysRow", inPlace := ["internal/abi.NoEscape", "internal/bytealg.MakeNoZero"], unfollowed := true, recurses := true, named := ["seedcorn/digest.turns", "seedcorn/onetime.stepMark"], apart := false, laid := [("seedcorn/digest.turns", laid_seedcorn_digest_turns), ("seedcorn/onetime.stepMark", laid_seedcorn_onetime_stepMark)], narrowed := true }
def KeysRowUptoSaid : Prop := keysRowUptoRow.holds Tryd.pinned (OpenSpec.upto keysRowSpec)

/-- 'seedcornlaw06.KeysClash', WHERE WHAT IT READS IS OF BULK AT MOST 1048576: true; the input reads as it did. -/
def keysClashUptoRow : OpenClaim := { program := "ytfbefenagnlnfaadoor", sum := "d95f3850d17ca32ba8b50dc1010118687545c1ac6459fd7d4af8af0f5bce4762", func := "seedcorn/seedcornlaw06.KeysClash", spec := "keysClash", inPlace := ["internal/abi.NoEscape", "internal/bytealg.MakeNoZero"], unfollowed := true, recurses := true, named := ["seedcorn/digest.turns", "seedcorn/onetime.stepMark"], apart := false, laid := [("seedcorn/digest.turns", laid_seedcorn_digest_turns), ("seedcorn/onetime.stepMark", laid_seedcorn_onetime_stepMark)], narrowed := true }
def KeysClashUptoSaid : Prop := keysClashUptoRow.holds Tryd.pinned (OpenSpec.upto keysClashSpec)

/-- 'seedcornlaw06.KeysPlaces', WHERE WHAT IT READS IS OF BULK AT MOST 1048576: true; the input reads as it did. -/
def keysPlacesUptoRow : OpenClaim := { program := "ytfbefenagnlnfaadoor", sum := "d95f3850d17ca32ba8b50dc1010118687545c1ac6459fd7d4af8af0f5bce4762", func := "seedcorn/seedcornlaw06.KeysPlaces", spec := "keysPlaces", inPlace := ["internal/abi.NoEscape", "internal/bytealg.MakeNoZero"], unfollowed := true, recurses := true, named := ["seedcorn/digest.turns", "seedcorn/onetime.stepMark"], apart := false, laid := [("seedcorn/digest.turns", laid_seedcorn_digest_turns), ("seedcorn/onetime.stepMark", laid_seedcorn_onetime_stepMark)], narrowed := true }
def KeysPlacesUptoSaid : Prop := keysPlacesUptoRow.holds Tryd.pinned (OpenSpec.upto keysPlacesSpec)

end Rows
end Go.Proofs.YtfbefenagnlnfaaDoor
