/-
  NARROWER THAN 'FOR EVERY INPUT', by the rows' own cells (each row's printed sentence says how): OnetimeSteps: laid · OnetimeKeys: laid · OnetimeHolds: laid · OnetimeReaches: laid · OnetimeUnlike: laid · OnetimeGives: laid · OnetimeAhead: laid.
  DERIVED. THE GIVEN ROWS OF THIS SEAT. 7 by the template 'for every input the law returns true; each argument reads behind the call as it read before'; 0 by the template 'total and deterministic' (their statements: YtnobnnbckehikaaDoorTotals.lean).
  GIVEN WITH THE SEED: the statements are not yours to turn. If you find one false, say at which input.
  Laid BY PROGRAM, IN A SANDBOX (cutbox-rows.mjs): the forced cells as the released guide's own fill.sh prints them over the translation d5d249cf6651c26e… (all of the seat's roots in one cut). By AI agents, Wed Nov 11 2026. No macro, syntax, notation, axiom, sorry.
-/
import Derived.Test.YtnobnnbckehikaaDoorChecked
import GoSem.Claim
import GoSem.ClaimJoined
import GoSem.ClaimMapViews
import Derived.JoinedTies
import Derived.KernelRfl
namespace Go.Proofs.YtnobnnbckehikaaDoor
/- THE CELL 'sum', in the pinned program and in every row, IS THE sha256 OF THE DUMP (.gsa) THAT YtnobnnbckehikaaDoorProg.lean LOADS. Nothing in Lean hashes anything: it is a label: what it is worth is what the hold of that sum in a sandbox is worth. -/
noncomputable def Tryd.pinned : Pinned := { name := "ytnobnnbckehikaadoor", sum := "d5d249cf6651c26e9e62ce8c79ce4fdb0d3e771dcdd7909974996d39905bd428", checked := Tryd.checked }
namespace Rows
def none {H : Type} : Left H := { results := [], args := [] }

/- WHAT THE LISTED PACKAGE-LEVEL VARIABLES READ AS WHEN THE CALL BEGINS. Each datum BY PROGRAM (the guide's laid-datum.mjs) off the statement by which the dump's own 'gosem.cut.vars' lays the variable. In a bare row this is a premise. The card (YtnobnnbckehikaaDoorCards.lean) ties it to the program's text. -/
def laid_seedcorn_digest_turns {H : Type} : DataW H := .agg [.lit (.int .i64 7), .lit (.int .i64 9), .lit (.int .i64 13), .lit (.int .i64 18)]
def laid_seedcorn_onetime_stepMark {H : Type} : DataW H := .agg [.lit (.int .u32 0), .lit (.int .u32 0), .lit (.int .u32 0), .lit (.int .u32 1)]

/-- 'seedcornlaw05.OnetimeSteps': WHATEVER THE INPUT: true; the input reads as it did. -/
def onetimeStepsSpec : ChangeSpec := { name := "onetimeSteps", fn := fun _ => fun
  | [d] => { results := [.lit (.bool true)], args := [d] }
  | _ => none }
def onetimeStepsRow : OpenClaim := { program := "ytnobnnbckehikaadoor", sum := "d5d249cf6651c26e9e62ce8c79ce4fdb0d3e771dcdd7909974996d39905bd428", func := "seedcorn/seedcornlaw05.OnetimeSteps", spec := "onetimeSteps", unfollowed := true, recurses := true, named := ["seedcorn/digest.turns", "seedcorn/onetime.stepMark"], apart := false, laid := [("seedcorn/digest.turns", laid_seedcorn_digest_turns), ("seedcorn/onetime.stepMark", laid_seedcorn_onetime_stepMark)] }
def OnetimeStepsSaid : Prop := onetimeStepsRow.holds Tryd.pinned (OpenSpec.ofChange onetimeStepsSpec)

/-- ITS FALSE NEIGHBOUR: 'it returns false'. Refute it at one input. -/
def onetimeStepsWrong : ChangeSpec := { name := "onetimeSteps", fn := fun _ => fun
  | [d] => { results := [.lit (.bool false)], args := [d] }
  | _ => none }
def OnetimeStepsWrongFalsely : Prop := onetimeStepsRow.holds Tryd.pinned (OpenSpec.ofChange onetimeStepsWrong)

/-- 'seedcornlaw05.OnetimeKeys': WHATEVER THE INPUT: true; the input reads as it did. -/
def onetimeKeysSpec : ChangeSpec := { name := "onetimeKeys", fn := fun _ => fun
  | [d1, d2] => { results := [.lit (.bool true)], args := [d1, d2] }
  | _ => none }
def onetimeKeysRow : OpenClaim := { program := "ytnobnnbckehikaadoor", sum := "d5d249cf6651c26e9e62ce8c79ce4fdb0d3e771dcdd7909974996d39905bd428", func := "seedcorn/seedcornlaw05.OnetimeKeys", spec := "onetimeKeys", unfollowed := true, recurses := true, named := ["seedcorn/digest.turns", "seedcorn/onetime.stepMark"], apart := false, laid := [("seedcorn/digest.turns", laid_seedcorn_digest_turns), ("seedcorn/onetime.stepMark", laid_seedcorn_onetime_stepMark)] }
def OnetimeKeysSaid : Prop := onetimeKeysRow.holds Tryd.pinned (OpenSpec.ofChange onetimeKeysSpec)

/-- ITS FALSE NEIGHBOUR: 'it returns false'. Refute it at one input. -/
def onetimeKeysWrong : ChangeSpec := { name := "onetimeKeys", fn := fun _ => fun
  | [d1, d2] => { results := [.lit (.bool false)], args := [d1, d2] }
  | _ => none }
def OnetimeKeysWrongFalsely : Prop := onetimeKeysRow.holds Tryd.pinned (OpenSpec.ofChange onetimeKeysWrong)

/-- 'seedcornlaw05.OnetimeHolds': WHATEVER THE INPUT: true; the input reads as it did. -/
def onetimeHoldsSpec : ChangeSpec := { name := "onetimeHolds", fn := fun _ => fun
  | [d1, d2] => { results := [.lit (.bool true)], args := [d1, d2] }
  | _ => none }
def onetimeHoldsRow : OpenClaim := { program := "ytnobnnbckehikaadoor", sum := "d5d249cf6651c26e9e62ce8c79ce4fdb0d3e771dcdd7909974996d39905bd428", func := "seedcorn/seedcornlaw05.OnetimeHolds", spec := "onetimeHolds", unfollowed := true, recurses := true, named := ["seedcorn/digest.turns", "seedcorn/onetime.stepMark"], apart := false, laid := [("seedcorn/digest.turns", laid_seedcorn_digest_turns), ("seedcorn/onetime.stepMark", laid_seedcorn_onetime_stepMark)] }
def OnetimeHoldsSaid : Prop := onetimeHoldsRow.holds Tryd.pinned (OpenSpec.ofChange onetimeHoldsSpec)

/-- ITS FALSE NEIGHBOUR: 'it returns false'. Refute it at one input. -/
def onetimeHoldsWrong : ChangeSpec := { name := "onetimeHolds", fn := fun _ => fun
  | [d1, d2] => { results := [.lit (.bool false)], args := [d1, d2] }
  | _ => none }
def OnetimeHoldsWrongFalsely : Prop := onetimeHoldsRow.holds Tryd.pinned (OpenSpec.ofChange onetimeHoldsWrong)

/-- 'seedcornlaw05.OnetimeReaches': WHATEVER THE INPUT: true; the input reads as it did. -/
def onetimeReachesSpec : ChangeSpec := { name := "onetimeReaches", fn := fun _ => fun
  | [d1, d2, d3] => { results := [.lit (.bool true)], args := [d1, d2, d3] }
  | _ => none }
def onetimeReachesRow : OpenClaim := { program := "ytnobnnbckehikaadoor", sum := "d5d249cf6651c26e9e62ce8c79ce4fdb0d3e771dcdd7909974996d39905bd428", func := "seedcorn/seedcornlaw05.OnetimeReaches", spec := "onetimeReaches", unfollowed := true, recurses := true, named := ["seedcorn/digest.turns", "seedcorn/onetime.stepMark"], apart := false, laid := [("seedcorn/digest.turns", laid_seedcorn_digest_turns), ("seedcorn/onetime.stepMark", laid_seedcorn_onetime_stepMark)] }
def OnetimeReachesSaid : Prop := onetimeReachesRow.holds Tryd.pinned (OpenSpec.ofChange onetimeReachesSpec)

/-- ITS FALSE NEIGHBOUR: 'it returns false'. Refute it at one input. -/
def onetimeReachesWrong : ChangeSpec := { name := "onetimeReaches", fn := fun _ => fun
  | [d1, d2, d3] => { results := [.lit (.bool false)], args := [d1, d2, d3] }
  | _ => none }
def OnetimeReachesWrongFalsely : Prop := onetimeReachesRow.holds Tryd.pinned (OpenSpec.ofChange onetimeReachesWrong)

/-- 'seedcornlaw05.OnetimeUnlike': WHATEVER THE INPUT: true; the input reads as it did. -/
def onetimeUnlikeSpec : ChangeSpec := { name := "onetimeUnlike", fn := fun _ => fun
  | [d1, d2] => { results := [.lit (.bool true)], args := [d1, d2] }
  | _ => none }
def onetimeUnlikeRow : OpenClaim := { program := "ytnobnnbckehikaadoor", sum := "d5d249cf6651c26e9e62ce8c79ce4fdb0d3e771dcdd7909974996d39905bd428", func := "seedcorn/seedcornlaw05.OnetimeUnlike", spec := "onetimeUnlike", unfollowed := true, recurses := true, named := ["seedcorn/digest.turns", "seedcorn/onetime.stepMark"], apart := false, laid := [("seedcorn/digest.turns", laid_seedcorn_digest_turns), ("seedcorn/onetime.stepMark", laid_seedcorn_onetime_stepMark)] }
def OnetimeUnlikeSaid : Prop := onetimeUnlikeRow.holds Tryd.pinned (OpenSpec.ofChange onetimeUnlikeSpec)

/-- ITS FALSE NEIGHBOUR: 'it returns false'. Refute it at one input. -/
def onetimeUnlikeWrong : ChangeSpec := { name := "onetimeUnlike", fn := fun _ => fun
  | [d1, d2] => { results := [.lit (.bool false)], args := [d1, d2] }
  | _ => none }
def OnetimeUnlikeWrongFalsely : Prop := onetimeUnlikeRow.holds Tryd.pinned (OpenSpec.ofChange onetimeUnlikeWrong)

/-- 'seedcornlaw05.OnetimeGives': WHATEVER THE INPUT: true; the input reads as it did. -/
def onetimeGivesSpec : ChangeSpec := { name := "onetimeGives", fn := fun _ => fun
  | [d1, d2, d3] => { results := [.lit (.bool true)], args := [d1, d2, d3] }
  | _ => none }
def onetimeGivesRow : OpenClaim := { program := "ytnobnnbckehikaadoor", sum := "d5d249cf6651c26e9e62ce8c79ce4fdb0d3e771dcdd7909974996d39905bd428", func := "seedcorn/seedcornlaw05.OnetimeGives", spec := "onetimeGives", unfollowed := true, recurses := true, named := ["seedcorn/digest.turns", "seedcorn/onetime.stepMark"], apart := false, laid := [("seedcorn/digest.turns", laid_seedcorn_digest_turns), ("seedcorn/onetime.stepMark", laid_seedcorn_onetime_stepMark)] }
def OnetimeGivesSaid : Prop := onetimeGivesRow.holds Tryd.pinned (OpenSpec.ofChange onetimeGivesSpec)

/-- ITS FALSE NEIGHBOUR: 'it returns false'. Refute it at one input. -/
def onetimeGivesWrong : ChangeSpec := { name := "onetimeGives", fn := fun _ => fun
  | [d1, d2, d3] => { results := [.lit (.bool false)], args := [d1, d2, d3] }
  | _ => none }
def OnetimeGivesWrongFalsely : Prop := onetimeGivesRow.holds Tryd.pinned (OpenSpec.ofChange onetimeGivesWrong)

/-- 'seedcornlaw05.OnetimeAhead': WHATEVER THE INPUT: true; the input reads as it did. -/
def onetimeAheadSpec : ChangeSpec := { name := "onetimeAhead", fn := fun _ => fun
  | [d] => { results := [.lit (.bool true)], args := [d] }
  | _ => none }
def onetimeAheadRow : OpenClaim := { program := "ytnobnnbckehikaadoor", sum := "d5d249cf6651c26e9e62ce8c79ce4fdb0d3e771dcdd7909974996d39905bd428", func := "seedcorn/seedcornlaw05.OnetimeAhead", spec := "onetimeAhead", unfollowed := true, recurses := true, named := ["seedcorn/digest.turns", "seedcorn/onetime.stepMark"], apart := false, laid := [("seedcorn/digest.turns", laid_seedcorn_digest_turns), ("seedcorn/onetime.stepMark", laid_seedcorn_onetime_stepMark)] }
def OnetimeAheadSaid : Prop := onetimeAheadRow.holds Tryd.pinned (OpenSpec.ofChange onetimeAheadSpec)

/-- ITS FALSE NEIGHBOUR: 'it returns false'. Refute it at one input. -/
def onetimeAheadWrong : ChangeSpec := { name := "onetimeAhead", fn := fun _ => fun
  | [d] => { results := [.lit (.bool false)], args := [d] }
  | _ => none }
def OnetimeAheadWrongFalsely : Prop := onetimeAheadRow.holds Tryd.pinned (OpenSpec.ofChange onetimeAheadWrong)

/- THE SECOND FORM. 'bulk': how many values and letters a reading holds, each counted each time it is reached (what is shared counts as often as it is met; a slice's spare places count too). A statement '..UptoSaid' is the law's where the arguments, and the package variables that the reading takes, are together of bulk at most 1048576: NARROWER than '..Said'. Prove '..Said' where nothing that the law and all that it calls make is longer than what came in: it says more and counts as full. Else prove '..UptoSaid'. A law counts once. -/
mutual
def uptoBulk {H : Type} : DataW H → Nat
  | .lit (.string bytes) => bytes.length + 1
  | .lit _ => 1
  | .nil => 1
  | .ptr d => uptoBulk d + 1
  | .slice elems spare => uptoBulkAll elems + uptoBulkAll spare + 1
  | .agg parts => uptoBulkAll parts + 1
  | .iface _ d => uptoBulk d + 1
  | .map entries => uptoBulkEntries entries + 1
  | .held _ => 1
def uptoBulkAll {H : Type} : List (DataW H) → Nat
  | [] => 0
  | d :: r => uptoBulk d + uptoBulkAll r
def uptoBulkEntries {H : Type} : List (Lit × DataW H) → Nat
  | [] => 0
  | x :: r => uptoBulkEntry x + uptoBulkEntries r
def uptoBulkEntry {H : Type} : Lit × DataW H → Nat
  | (.string bytes, d) => bytes.length + uptoBulk d + 1
  | (_, d) => uptoBulk d + 1
 end
def uptoSmall : (H : Type) → List (DataW H) → Bool := fun _ ds => decide (uptoBulkAll ds ≤ 1048576)
def OpenSpec.upto (s : _root_.Go.ChangeSpec) : _root_.Go.OpenSpec := { _root_.Go.OpenSpec.ofChange s with cond := some uptoSmall }

/-- 'seedcornlaw05.OnetimeSteps', WHERE WHAT IT READS IS OF BULK AT MOST 1048576: true; the input reads as it did. -/
def onetimeStepsUptoRow : OpenClaim := { program := "ytnobnnbckehikaadoor", sum := "d5d249cf6651c26e9e62ce8c79ce4fdb0d3e771dcdd7909974996d39905bd428", func := "seedcorn/seedcornlaw05.OnetimeSteps", spec := "onetimeSteps", unfollowed := true, recurses := true, named := ["seedcorn/digest.turns", "seedcorn/onetime.stepMark"], apart := false, laid := [("seedcorn/digest.turns", laid_seedcorn_digest_turns), ("seedcorn/onetime.stepMark", laid_seedcorn_onetime_stepMark)], narrowed := true }
def OnetimeStepsUptoSaid : Prop := onetimeStepsUptoRow.holds Tryd.pinned (OpenSpec.upto onetimeStepsSpec)

/-- 'seedcornlaw05.OnetimeKeys', WHERE WHAT IT READS IS OF BULK AT MOST 1048576: true; the input reads as it did. -/
def onetimeKeysUptoRow : OpenClaim := { program := "ytnobnnbckehikaadoor", sum := "d5d249cf6651c26e9e62ce8c79ce4fdb0d3e771dcdd7909974996d39905bd428", func := "seedcorn/seedcornlaw05.OnetimeKeys", spec := "onetimeKeys", unfollowed := true, recurses := true, named := ["seedcorn/digest.turns", "seedcorn/onetime.stepMark"], apart := false, laid := [("seedcorn/digest.turns", laid_seedcorn_digest_turns), ("seedcorn/onetime.stepMark", laid_seedcorn_onetime_stepMark)], narrowed := true }
def OnetimeKeysUptoSaid : Prop := onetimeKeysUptoRow.holds Tryd.pinned (OpenSpec.upto onetimeKeysSpec)

/-- 'seedcornlaw05.OnetimeHolds', WHERE WHAT IT READS IS OF BULK AT MOST 1048576: true; the input reads as it did. -/
def onetimeHoldsUptoRow : OpenClaim := { program := "ytnobnnbckehikaadoor", sum := "d5d249cf6651c26e9e62ce8c79ce4fdb0d3e771dcdd7909974996d39905bd428", func := "seedcorn/seedcornlaw05.OnetimeHolds", spec := "onetimeHolds", unfollowed := true, recurses := true, named := ["seedcorn/digest.turns", "seedcorn/onetime.stepMark"], apart := false, laid := [("seedcorn/digest.turns", laid_seedcorn_digest_turns), ("seedcorn/onetime.stepMark", laid_seedcorn_onetime_stepMark)], narrowed := true }
def OnetimeHoldsUptoSaid : Prop := onetimeHoldsUptoRow.holds Tryd.pinned (OpenSpec.upto onetimeHoldsSpec)

/-- 'seedcornlaw05.OnetimeReaches', WHERE WHAT IT READS IS OF BULK AT MOST 1048576: true; the input reads as it did. -/
def onetimeReachesUptoRow : OpenClaim := { program := "ytnobnnbckehikaadoor", sum := "d5d249cf6651c26e9e62ce8c79ce4fdb0d3e771dcdd7909974996d39905bd428", func := "seedcorn/seedcornlaw05.OnetimeReaches", spec := "onetimeReaches", unfollowed := true, recurses := true, named := ["seedcorn/digest.turns", "seedcorn/onetime.stepMark"], apart := false, laid := [("seedcorn/digest.turns", laid_seedcorn_digest_turns), ("seedcorn/onetime.stepMark", laid_seedcorn_onetime_stepMark)], narrowed := true }
def OnetimeReachesUptoSaid : Prop := onetimeReachesUptoRow.holds Tryd.pinned (OpenSpec.upto onetimeReachesSpec)

/-- 'seedcornlaw05.OnetimeUnlike', WHERE WHAT IT READS IS OF BULK AT MOST 1048576: true; the input reads as it did. -/
def onetimeUnlikeUptoRow : OpenClaim := { program := "ytnobnnbckehikaadoor", sum := "d5d249cf6651c26e9e62ce8c79ce4fdb0d3e771dcdd7909974996d39905bd428", func := "seedcorn/seedcornlaw05.OnetimeUnlike", spec := "onetimeUnlike", unfollowed := true, recurses := true, named := ["seedcorn/digest.turns", "seedcorn/onetime.stepMark"], apart := false, laid := [("seedcorn/digest.turns", laid_seedcorn_digest_turns), ("seedcorn/onetime.stepMark", laid_seedcorn_onetime_stepMark)], narrowed := true }
def OnetimeUnlikeUptoSaid : Prop := onetimeUnlikeUptoRow.holds Tryd.pinned (OpenSpec.upto onetimeUnlikeSpec)

/-- 'seedcornlaw05.OnetimeGives', WHERE WHAT IT READS IS OF BULK AT MOST 1048576: true; the input reads as it did. -/
def onetimeGivesUptoRow : OpenClaim := { program := "ytnobnnbckehikaadoor", sum := "d5d249cf6651c26e9e62ce8c79ce4fdb0d3e771dcdd7909974996d39905bd428", func := "seedcorn/seedcornlaw05.OnetimeGives", spec := "onetimeGives", unfollowed := true, recurses := true, named := ["seedcorn/digest.turns", "seedcorn/onetime.stepMark"], apart := false, laid := [("seedcorn/digest.turns", laid_seedcorn_digest_turns), ("seedcorn/onetime.stepMark", laid_seedcorn_onetime_stepMark)], narrowed := true }
def OnetimeGivesUptoSaid : Prop := onetimeGivesUptoRow.holds Tryd.pinned (OpenSpec.upto onetimeGivesSpec)

/-- 'seedcornlaw05.OnetimeAhead', WHERE WHAT IT READS IS OF BULK AT MOST 1048576: true; the input reads as it did. -/
def onetimeAheadUptoRow : OpenClaim := { program := "ytnobnnbckehikaadoor", sum := "d5d249cf6651c26e9e62ce8c79ce4fdb0d3e771dcdd7909974996d39905bd428", func := "seedcorn/seedcornlaw05.OnetimeAhead", spec := "onetimeAhead", unfollowed := true, recurses := true, named := ["seedcorn/digest.turns", "seedcorn/onetime.stepMark"], apart := false, laid := [("seedcorn/digest.turns", laid_seedcorn_digest_turns), ("seedcorn/onetime.stepMark", laid_seedcorn_onetime_stepMark)], narrowed := true }
def OnetimeAheadUptoSaid : Prop := onetimeAheadUptoRow.holds Tryd.pinned (OpenSpec.upto onetimeAheadSpec)

end Rows
end Go.Proofs.YtnobnnbckehikaaDoor
