/-
  NARROWER THAN 'FOR EVERY INPUT', by the rows' own cells (each row's printed sentence says how): InstCodes: laid · InstReads: laid · InstNames: laid · InstApart: laid · InstFields: laid · InstCounts: laid.
  DERIVED. THE GIVEN ROWS OF THIS SEAT. 6 by the template 'for every input the law returns true; each argument reads behind the call as it read before'; 0 by the template 'total and deterministic' (their statements: YtihgkmjlefaaoaaDoorTotals.lean).
  GIVEN WITH THE SEED: the statements are not yours to turn. If you find one false, say at which input.
  Laid BY PROGRAM, IN A SANDBOX (cutbox-rows.mjs): the forced cells as the released guide's own fill.sh prints them over the translation 936388e9b3f98040… (all of the seat's roots in one cut). By AI agents, Wed Nov 11 2026. No macro, syntax, notation, axiom, sorry.
-/
import Derived.Test.YtihgkmjlefaaoaaDoorChecked
import GoSem.Claim
import GoSem.ClaimJoined
import GoSem.ClaimMapViews
import Derived.JoinedTies
import Derived.KernelRfl
namespace Go.Proofs.YtihgkmjlefaaoaaDoor
/- THE CELL 'sum', in the pinned program and in every row, IS THE sha256 OF THE DUMP (.gsa) THAT YtihgkmjlefaaoaaDoorProg.lean LOADS. Nothing in Lean hashes anything: it is a label: what it is worth is what the hold of that sum in a sandbox is worth. -/
noncomputable def Tryd.pinned : Pinned := { name := "ytihgkmjlefaaoaadoor", sum := "936388e9b3f9804070d1ebdad2176ce29ed5478d7dcd694d08961ba8c74b423a", checked := Tryd.checked }
namespace Rows
def none {H : Type} : Left H := { results := [], args := [] }

/- WHAT THE LISTED PACKAGE-LEVEL VARIABLES READ AS WHEN THE CALL BEGINS. Each datum BY PROGRAM (the guide's laid-datum.mjs) off the statement by which the dump's own 'gosem.cut.vars' lays the variable. In a bare row this is a premise. The card (YtihgkmjlefaaoaaDoorCards.lean) ties it to the program's text. -/
def laid_math_bits_deBruijn32tab {H : Type} : DataW H := .agg [.lit (.int .u8 0), .lit (.int .u8 1), .lit (.int .u8 28), .lit (.int .u8 2), .lit (.int .u8 29), .lit (.int .u8 14), .lit (.int .u8 24), .lit (.int .u8 3), .lit (.int .u8 30), .lit (.int .u8 22), .lit (.int .u8 20), .lit (.int .u8 15), .lit (.int .u8 25), .lit (.int .u8 17), .lit (.int .u8 4), .lit (.int .u8 8), .lit (.int .u8 31), .lit (.int .u8 27), .lit (.int .u8 13), .lit (.int .u8 23), .lit (.int .u8 21), .lit (.int .u8 19), .lit (.int .u8 16), .lit (.int .u8 7), .lit (.int .u8 26), .lit (.int .u8 12), .lit (.int .u8 18), .lit (.int .u8 6), .lit (.int .u8 11), .lit (.int .u8 5), .lit (.int .u8 10), .lit (.int .u8 9)]
def laid_math_bits_deBruijn64tab {H : Type} : DataW H := .agg [.lit (.int .u8 0), .lit (.int .u8 1), .lit (.int .u8 56), .lit (.int .u8 2), .lit (.int .u8 57), .lit (.int .u8 49), .lit (.int .u8 28), .lit (.int .u8 3), .lit (.int .u8 61), .lit (.int .u8 58), .lit (.int .u8 42), .lit (.int .u8 50), .lit (.int .u8 38), .lit (.int .u8 29), .lit (.int .u8 17), .lit (.int .u8 4), .lit (.int .u8 62), .lit (.int .u8 47), .lit (.int .u8 59), .lit (.int .u8 36), .lit (.int .u8 45), .lit (.int .u8 43), .lit (.int .u8 51), .lit (.int .u8 22), .lit (.int .u8 53), .lit (.int .u8 39), .lit (.int .u8 33), .lit (.int .u8 30), .lit (.int .u8 24), .lit (.int .u8 18), .lit (.int .u8 12), .lit (.int .u8 5), .lit (.int .u8 63), .lit (.int .u8 55), .lit (.int .u8 48), .lit (.int .u8 27), .lit (.int .u8 60), .lit (.int .u8 41), .lit (.int .u8 37), .lit (.int .u8 16), .lit (.int .u8 46), .lit (.int .u8 35), .lit (.int .u8 44), .lit (.int .u8 21), .lit (.int .u8 52), .lit (.int .u8 32), .lit (.int .u8 23), .lit (.int .u8 11), .lit (.int .u8 54), .lit (.int .u8 26), .lit (.int .u8 40), .lit (.int .u8 15), .lit (.int .u8 34), .lit (.int .u8 20), .lit (.int .u8 31), .lit (.int .u8 10), .lit (.int .u8 25), .lit (.int .u8 14), .lit (.int .u8 19), .lit (.int .u8 9), .lit (.int .u8 13), .lit (.int .u8 8), .lit (.int .u8 7), .lit (.int .u8 6)]
def laid_internal_strconv_uint64pow10 {H : Type} : DataW H := .agg [.lit (.int .u64 1), .lit (.int .u64 10), .lit (.int .u64 100), .lit (.int .u64 1000), .lit (.int .u64 10000), .lit (.int .u64 100000), .lit (.int .u64 1000000), .lit (.int .u64 10000000), .lit (.int .u64 100000000), .lit (.int .u64 1000000000), .lit (.int .u64 10000000000), .lit (.int .u64 100000000000), .lit (.int .u64 1000000000000), .lit (.int .u64 10000000000000), .lit (.int .u64 100000000000000), .lit (.int .u64 1000000000000000), .lit (.int .u64 10000000000000000), .lit (.int .u64 100000000000000000), .lit (.int .u64 1000000000000000000), .lit (.int .u64 10000000000000000000)]
def laid_seedcorn_inst_operations {H : Type} : DataW H := .agg [.agg [.lit (.string []), .lit (.int .i64 0), .lit (.int .i64 0), .lit (.int .i64 0)], .agg [.lit (.string [108, 105]), .lit (.int .i64 15), .lit (.int .i64 0), .lit (.int .i64 65535)], .agg [.lit (.string [108, 117, 105]), .lit (.int .i64 15), .lit (.int .i64 0), .lit (.int .i64 65535)], .agg [.lit (.string [109, 111, 118]), .lit (.int .i64 15), .lit (.int .i64 15), .lit (.int .i64 0)], .agg [.lit (.string [97, 100, 100]), .lit (.int .i64 15), .lit (.int .i64 15), .lit (.int .i64 15)], .agg [.lit (.string [115, 117, 98]), .lit (.int .i64 15), .lit (.int .i64 15), .lit (.int .i64 15)], .agg [.lit (.string [109, 117, 108]), .lit (.int .i64 15), .lit (.int .i64 15), .lit (.int .i64 15)], .agg [.lit (.string [100, 105, 118]), .lit (.int .i64 15), .lit (.int .i64 15), .lit (.int .i64 15)], .agg [.lit (.string [109, 111, 100]), .lit (.int .i64 15), .lit (.int .i64 15), .lit (.int .i64 15)], .agg [.lit (.string [97, 110, 100]), .lit (.int .i64 15), .lit (.int .i64 15), .lit (.int .i64 15)], .agg [.lit (.string [111, 114]), .lit (.int .i64 15), .lit (.int .i64 15), .lit (.int .i64 15)], .agg [.lit (.string [120, 111, 114]), .lit (.int .i64 15), .lit (.int .i64 15), .lit (.int .i64 15)], .agg [.lit (.string [115, 104, 108]), .lit (.int .i64 15), .lit (.int .i64 15), .lit (.int .i64 15)], .agg [.lit (.string [115, 104, 114]), .lit (.int .i64 15), .lit (.int .i64 15), .lit (.int .i64 15)], .agg [.lit (.string [108, 116]), .lit (.int .i64 15), .lit (.int .i64 15), .lit (.int .i64 15)], .agg [.lit (.string [101, 113]), .lit (.int .i64 15), .lit (.int .i64 15), .lit (.int .i64 15)], .agg [.lit (.string [108, 100]), .lit (.int .i64 15), .lit (.int .i64 15), .lit (.int .i64 65535)], .agg [.lit (.string [115, 116]), .lit (.int .i64 15), .lit (.int .i64 15), .lit (.int .i64 65535)], .agg [.lit (.string [106, 109, 112]), .lit (.int .i64 0), .lit (.int .i64 0), .lit (.int .i64 65535)], .agg [.lit (.string [106, 122]), .lit (.int .i64 15), .lit (.int .i64 0), .lit (.int .i64 65535)], .agg [.lit (.string [106, 110, 122]), .lit (.int .i64 15), .lit (.int .i64 0), .lit (.int .i64 65535)], .agg [.lit (.string [99, 97, 108, 108]), .lit (.int .i64 15), .lit (.int .i64 0), .lit (.int .i64 65535)], .agg [.lit (.string [114, 101, 116]), .lit (.int .i64 15), .lit (.int .i64 0), .lit (.int .i64 0)], .agg [.lit (.string [103, 101, 116]), .lit (.int .i64 15), .lit (.int .i64 0), .lit (.int .i64 0)], .agg [.lit (.string [112, 117, 116]), .lit (.int .i64 15), .lit (.int .i64 0), .lit (.int .i64 0)], .agg [.lit (.string [99, 104, 107]), .lit (.int .i64 15), .lit (.int .i64 0), .lit (.int .i64 65535)], .agg [.lit (.string [104, 97, 108, 116]), .lit (.int .i64 0), .lit (.int .i64 0), .lit (.int .i64 0)], .agg [.lit (.string [108, 100, 99]), .lit (.int .i64 15), .lit (.int .i64 15), .lit (.int .i64 65535)]]

/-- 'seedcornlaw07.InstCodes': WHATEVER THE INPUT: true; the input reads as it did. -/
def instCodesSpec : ChangeSpec := { name := "instCodes", fn := fun _ => fun
  | [d] => { results := [.lit (.bool true)], args := [d] }
  | _ => none }
def instCodesRow : OpenClaim := { program := "ytihgkmjlefaaoaadoor", sum := "936388e9b3f9804070d1ebdad2176ce29ed5478d7dcd694d08961ba8c74b423a", func := "seedcorn/seedcornlaw07.InstCodes", spec := "instCodes", inPlace := ["internal/abi.NoEscape", "internal/bytealg.MakeNoZero"], named := ["seedcorn/inst.operations", "internal/strconv.uint64pow10", "math/bits.deBruijn32tab", "math/bits.deBruijn64tab"], apart := false, laid := [("math/bits.deBruijn32tab", laid_math_bits_deBruijn32tab), ("math/bits.deBruijn64tab", laid_math_bits_deBruijn64tab), ("internal/strconv.uint64pow10", laid_internal_strconv_uint64pow10), ("seedcorn/inst.operations", laid_seedcorn_inst_operations)] }
def InstCodesSaid : Prop := instCodesRow.holds Tryd.pinned (OpenSpec.ofChange instCodesSpec)

/-- ITS FALSE NEIGHBOUR: 'it returns false'. Refute it at one input. -/
def instCodesWrong : ChangeSpec := { name := "instCodes", fn := fun _ => fun
  | [d] => { results := [.lit (.bool false)], args := [d] }
  | _ => none }
def InstCodesWrongFalsely : Prop := instCodesRow.holds Tryd.pinned (OpenSpec.ofChange instCodesWrong)

/-- 'seedcornlaw07.InstReads': WHATEVER THE INPUT: true; the input reads as it did. -/
def instReadsSpec : ChangeSpec := { name := "instReads", fn := fun _ => fun
  | [d] => { results := [.lit (.bool true)], args := [d] }
  | _ => none }
def instReadsRow : OpenClaim := { program := "ytihgkmjlefaaoaadoor", sum := "936388e9b3f9804070d1ebdad2176ce29ed5478d7dcd694d08961ba8c74b423a", func := "seedcorn/seedcornlaw07.InstReads", spec := "instReads", inPlace := ["internal/abi.NoEscape", "internal/bytealg.MakeNoZero"], named := ["seedcorn/inst.operations", "internal/strconv.uint64pow10", "math/bits.deBruijn32tab", "math/bits.deBruijn64tab"], apart := false, laid := [("math/bits.deBruijn32tab", laid_math_bits_deBruijn32tab), ("math/bits.deBruijn64tab", laid_math_bits_deBruijn64tab), ("internal/strconv.uint64pow10", laid_internal_strconv_uint64pow10), ("seedcorn/inst.operations", laid_seedcorn_inst_operations)] }
def InstReadsSaid : Prop := instReadsRow.holds Tryd.pinned (OpenSpec.ofChange instReadsSpec)

/-- ITS FALSE NEIGHBOUR: 'it returns false'. Refute it at one input. -/
def instReadsWrong : ChangeSpec := { name := "instReads", fn := fun _ => fun
  | [d] => { results := [.lit (.bool false)], args := [d] }
  | _ => none }
def InstReadsWrongFalsely : Prop := instReadsRow.holds Tryd.pinned (OpenSpec.ofChange instReadsWrong)

/-- 'seedcornlaw07.InstNames': WHATEVER THE INPUT: true; the input reads as it did. -/
def instNamesSpec : ChangeSpec := { name := "instNames", fn := fun _ => fun
  | [d1, d2] => { results := [.lit (.bool true)], args := [d1, d2] }
  | _ => none }
def instNamesRow : OpenClaim := { program := "ytihgkmjlefaaoaadoor", sum := "936388e9b3f9804070d1ebdad2176ce29ed5478d7dcd694d08961ba8c74b423a", func := "seedcorn/seedcornlaw07.InstNames", spec := "instNames", inPlace := ["internal/abi.NoEscape", "internal/bytealg.MakeNoZero"], named := ["seedcorn/inst.operations", "internal/strconv.uint64pow10", "math/bits.deBruijn32tab", "math/bits.deBruijn64tab"], apart := false, laid := [("math/bits.deBruijn32tab", laid_math_bits_deBruijn32tab), ("math/bits.deBruijn64tab", laid_math_bits_deBruijn64tab), ("internal/strconv.uint64pow10", laid_internal_strconv_uint64pow10), ("seedcorn/inst.operations", laid_seedcorn_inst_operations)] }
def InstNamesSaid : Prop := instNamesRow.holds Tryd.pinned (OpenSpec.ofChange instNamesSpec)

/-- ITS FALSE NEIGHBOUR: 'it returns false'. Refute it at one input. -/
def instNamesWrong : ChangeSpec := { name := "instNames", fn := fun _ => fun
  | [d1, d2] => { results := [.lit (.bool false)], args := [d1, d2] }
  | _ => none }
def InstNamesWrongFalsely : Prop := instNamesRow.holds Tryd.pinned (OpenSpec.ofChange instNamesWrong)

/-- 'seedcornlaw07.InstApart': WHATEVER THE INPUT: true; the input reads as it did. -/
def instApartSpec : ChangeSpec := { name := "instApart", fn := fun _ => fun
  | [d1, d2] => { results := [.lit (.bool true)], args := [d1, d2] }
  | _ => none }
def instApartRow : OpenClaim := { program := "ytihgkmjlefaaoaadoor", sum := "936388e9b3f9804070d1ebdad2176ce29ed5478d7dcd694d08961ba8c74b423a", func := "seedcorn/seedcornlaw07.InstApart", spec := "instApart", inPlace := ["internal/abi.NoEscape", "internal/bytealg.MakeNoZero"], named := ["seedcorn/inst.operations", "internal/strconv.uint64pow10", "math/bits.deBruijn32tab", "math/bits.deBruijn64tab"], apart := false, laid := [("math/bits.deBruijn32tab", laid_math_bits_deBruijn32tab), ("math/bits.deBruijn64tab", laid_math_bits_deBruijn64tab), ("internal/strconv.uint64pow10", laid_internal_strconv_uint64pow10), ("seedcorn/inst.operations", laid_seedcorn_inst_operations)] }
def InstApartSaid : Prop := instApartRow.holds Tryd.pinned (OpenSpec.ofChange instApartSpec)

/-- ITS FALSE NEIGHBOUR: 'it returns false'. Refute it at one input. -/
def instApartWrong : ChangeSpec := { name := "instApart", fn := fun _ => fun
  | [d1, d2] => { results := [.lit (.bool false)], args := [d1, d2] }
  | _ => none }
def InstApartWrongFalsely : Prop := instApartRow.holds Tryd.pinned (OpenSpec.ofChange instApartWrong)

/-- 'seedcornlaw07.InstFields': WHATEVER THE INPUT: true; the input reads as it did. -/
def instFieldsSpec : ChangeSpec := { name := "instFields", fn := fun _ => fun
  | [d1, d2] => { results := [.lit (.bool true)], args := [d1, d2] }
  | _ => none }
def instFieldsRow : OpenClaim := { program := "ytihgkmjlefaaoaadoor", sum := "936388e9b3f9804070d1ebdad2176ce29ed5478d7dcd694d08961ba8c74b423a", func := "seedcorn/seedcornlaw07.InstFields", spec := "instFields", inPlace := ["internal/abi.NoEscape", "internal/bytealg.MakeNoZero"], named := ["seedcorn/inst.operations", "internal/strconv.uint64pow10", "math/bits.deBruijn32tab", "math/bits.deBruijn64tab"], apart := false, laid := [("math/bits.deBruijn32tab", laid_math_bits_deBruijn32tab), ("math/bits.deBruijn64tab", laid_math_bits_deBruijn64tab), ("internal/strconv.uint64pow10", laid_internal_strconv_uint64pow10), ("seedcorn/inst.operations", laid_seedcorn_inst_operations)] }
def InstFieldsSaid : Prop := instFieldsRow.holds Tryd.pinned (OpenSpec.ofChange instFieldsSpec)

/-- ITS FALSE NEIGHBOUR: 'it returns false'. Refute it at one input. -/
def instFieldsWrong : ChangeSpec := { name := "instFields", fn := fun _ => fun
  | [d1, d2] => { results := [.lit (.bool false)], args := [d1, d2] }
  | _ => none }
def InstFieldsWrongFalsely : Prop := instFieldsRow.holds Tryd.pinned (OpenSpec.ofChange instFieldsWrong)

/-- 'seedcornlaw07.InstCounts': WHATEVER THE INPUT: true; the input reads as it did. -/
def instCountsSpec : ChangeSpec := { name := "instCounts", fn := fun _ => fun
  | [d] => { results := [.lit (.bool true)], args := [d] }
  | _ => none }
def instCountsRow : OpenClaim := { program := "ytihgkmjlefaaoaadoor", sum := "936388e9b3f9804070d1ebdad2176ce29ed5478d7dcd694d08961ba8c74b423a", func := "seedcorn/seedcornlaw07.InstCounts", spec := "instCounts", inPlace := ["internal/abi.NoEscape", "internal/bytealg.MakeNoZero"], named := ["seedcorn/inst.operations", "internal/strconv.uint64pow10", "math/bits.deBruijn32tab", "math/bits.deBruijn64tab"], apart := false, laid := [("math/bits.deBruijn32tab", laid_math_bits_deBruijn32tab), ("math/bits.deBruijn64tab", laid_math_bits_deBruijn64tab), ("internal/strconv.uint64pow10", laid_internal_strconv_uint64pow10), ("seedcorn/inst.operations", laid_seedcorn_inst_operations)] }
def InstCountsSaid : Prop := instCountsRow.holds Tryd.pinned (OpenSpec.ofChange instCountsSpec)

/-- ITS FALSE NEIGHBOUR: 'it returns false'. Refute it at one input. -/
def instCountsWrong : ChangeSpec := { name := "instCounts", fn := fun _ => fun
  | [d] => { results := [.lit (.bool false)], args := [d] }
  | _ => none }
def InstCountsWrongFalsely : Prop := instCountsRow.holds Tryd.pinned (OpenSpec.ofChange instCountsWrong)

/- THE SECOND FORM. 'bulk': how many values and letters a reading holds, each counted each time it is reached (what is shared counts as often as it is met; a slice's spare places count too). A statement '..UptoSaid' is the law's where the arguments, and the package variables that the reading takes, are together of bulk at most 1048576: NARROWER than '..Said'. Prove '..Said' where nothing that the law and all that it calls make is longer than what came in: it says more and counts as full. Else prove '..UptoSaid'. A law counts once. -/
mutual
def uptoBulk {H : Type} : DataW H → Nat
  | .lit (.string bytes) => bytes.length + 1
  | .lit _ => 1
  | .nil => 1
  | .ptr d => uptoBulk d + 1
  | .slice elems spare => uptoBulkAll elems + uptoBulkAll spare + 1
  | .agg parts => uptoBulkAll parts + 1
  | .iface _ d => uptoBulk d + 1
  | .map entries => uptoBulkEntries entries + 1
  | .held _ => 1
def uptoBulkAll {H : Type} : List (DataW H) → Nat
  | [] => 0
  | d :: r => uptoBulk d + uptoBulkAll r
def uptoBulkEntries {H : Type} : List (Lit × DataW H) → Nat
  | [] => 0
  | x :: r => uptoBulkEntry x + uptoBulkEntries r
def uptoBulkEntry {H : Type} : Lit × DataW H → Nat
  | (.string bytes, d) => bytes.length + uptoBulk d + 1
  | (_, d) => uptoBulk d + 1
 end
def uptoSmall : (H : Type) → List (DataW H) → Bool := fun _ ds => decide (uptoBulkAll ds ≤ 1048576)
def OpenSpec.upto (s : _root_.Go.ChangeSpec) : _root_.Go.OpenSpec := { _root_.Go.OpenSpec.ofChange s with cond := some uptoSmall }

/-- 'seedcornlaw07.InstCodes', WHERE WHAT IT READS IS OF BULK AT MOST 1048576: true; the input reads as it did. -/
def instCodesUptoRow : OpenClaim := { program := "ytihgkmjlefaaoaadoor", sum := "936388e9b3f9804070d1ebdad2176ce29ed5478d7dcd694d08961ba8c74b423a", func := "seedcorn/seedcornlaw07.InstCodes", spec := "instCodes", inPlace := ["internal/abi.NoEscape", "internal/bytealg.MakeNoZero"], named := ["seedcorn/inst.operations", "internal/strconv.uint64pow10", "math/bits.deBruijn32tab", "math/bits.deBruijn64tab"], apart := false, laid := [("math/bits.deBruijn32tab", laid_math_bits_deBruijn32tab), ("math/bits.deBruijn64tab", laid_math_bits_deBruijn64tab), ("internal/strconv.uint64pow10", laid_internal_strconv_uint64pow10), ("seedcorn/inst.operations", laid_seedcorn_inst_operations)], narrowed := true }
def InstCodesUptoSaid : Prop := instCodesUptoRow.holds Tryd.pinned (OpenSpec.upto instCodesSpec)

/-- 'seedcornlaw07.InstReads', WHERE WHAT IT READS IS OF BULK AT MOST 1048576: true; the input reads as it did. -/
def instReadsUptoRow : OpenClaim := { program := "ytihgkmjlefaaoaadoor", sum := "936388e9b3f9804070d1ebdad2176ce29ed5478d7dcd694d08961ba8c74b423a", func := "seedcorn/seedcornlaw07.InstReads", spec := "instReads", inPlace := ["internal/abi.NoEscape", "internal/bytealg.MakeNoZero"], named := ["seedcorn/inst.operations", "internal/strconv.uint64pow10", "math/bits.deBruijn32tab", "math/bits.deBruijn64tab"], apart := false, laid := [("math/bits.deBruijn32tab", laid_math_bits_deBruijn32tab), ("math/bits.deBruijn64tab", laid_math_bits_deBruijn64tab), ("internal/strconv.uint64pow10", laid_internal_strconv_uint64pow10), ("seedcorn/inst.operations", laid_seedcorn_inst_operations)], narrowed := true }
def InstReadsUptoSaid : Prop := instReadsUptoRow.holds Tryd.pinned (OpenSpec.upto instReadsSpec)

/-- 'seedcornlaw07.InstNames', WHERE WHAT IT READS IS OF BULK AT MOST 1048576: true; the input reads as it did. -/
def instNamesUptoRow : OpenClaim := { program := "ytihgkmjlefaaoaadoor", sum := "936388e9b3f9804070d1ebdad2176ce29ed5478d7dcd694d08961ba8c74b423a", func := "seedcorn/seedcornlaw07.InstNames", spec := "instNames", inPlace := ["internal/abi.NoEscape", "internal/bytealg.MakeNoZero"], named := ["seedcorn/inst.operations", "internal/strconv.uint64pow10", "math/bits.deBruijn32tab", "math/bits.deBruijn64tab"], apart := false, laid := [("math/bits.deBruijn32tab", laid_math_bits_deBruijn32tab), ("math/bits.deBruijn64tab", laid_math_bits_deBruijn64tab), ("internal/strconv.uint64pow10", laid_internal_strconv_uint64pow10), ("seedcorn/inst.operations", laid_seedcorn_inst_operations)], narrowed := true }
def InstNamesUptoSaid : Prop := instNamesUptoRow.holds Tryd.pinned (OpenSpec.upto instNamesSpec)

/-- 'seedcornlaw07.InstApart', WHERE WHAT IT READS IS OF BULK AT MOST 1048576: true; the input reads as it did. -/
def instApartUptoRow : OpenClaim := { program := "ytihgkmjlefaaoaadoor", sum := "936388e9b3f9804070d1ebdad2176ce29ed5478d7dcd694d08961ba8c74b423a", func := "seedcorn/seedcornlaw07.InstApart", spec := "instApart", inPlace := ["internal/abi.NoEscape", "internal/bytealg.MakeNoZero"], named := ["seedcorn/inst.operations", "internal/strconv.uint64pow10", "math/bits.deBruijn32tab", "math/bits.deBruijn64tab"], apart := false, laid := [("math/bits.deBruijn32tab", laid_math_bits_deBruijn32tab), ("math/bits.deBruijn64tab", laid_math_bits_deBruijn64tab), ("internal/strconv.uint64pow10", laid_internal_strconv_uint64pow10), ("seedcorn/inst.operations", laid_seedcorn_inst_operations)], narrowed := true }
def InstApartUptoSaid : Prop := instApartUptoRow.holds Tryd.pinned (OpenSpec.upto instApartSpec)

/-- 'seedcornlaw07.InstFields', WHERE WHAT IT READS IS OF BULK AT MOST 1048576: true; the input reads as it did. -/
def instFieldsUptoRow : OpenClaim := { program := "ytihgkmjlefaaoaadoor", sum := "936388e9b3f9804070d1ebdad2176ce29ed5478d7dcd694d08961ba8c74b423a", func := "seedcorn/seedcornlaw07.InstFields", spec := "instFields", inPlace := ["internal/abi.NoEscape", "internal/bytealg.MakeNoZero"], named := ["seedcorn/inst.operations", "internal/strconv.uint64pow10", "math/bits.deBruijn32tab", "math/bits.deBruijn64tab"], apart := false, laid := [("math/bits.deBruijn32tab", laid_math_bits_deBruijn32tab), ("math/bits.deBruijn64tab", laid_math_bits_deBruijn64tab), ("internal/strconv.uint64pow10", laid_internal_strconv_uint64pow10), ("seedcorn/inst.operations", laid_seedcorn_inst_operations)], narrowed := true }
def InstFieldsUptoSaid : Prop := instFieldsUptoRow.holds Tryd.pinned (OpenSpec.upto instFieldsSpec)

/-- 'seedcornlaw07.InstCounts', WHERE WHAT IT READS IS OF BULK AT MOST 1048576: true; the input reads as it did. -/
def instCountsUptoRow : OpenClaim := { program := "ytihgkmjlefaaoaadoor", sum := "936388e9b3f9804070d1ebdad2176ce29ed5478d7dcd694d08961ba8c74b423a", func := "seedcorn/seedcornlaw07.InstCounts", spec := "instCounts", inPlace := ["internal/abi.NoEscape", "internal/bytealg.MakeNoZero"], named := ["seedcorn/inst.operations", "internal/strconv.uint64pow10", "math/bits.deBruijn32tab", "math/bits.deBruijn64tab"], apart := false, laid := [("math/bits.deBruijn32tab", laid_math_bits_deBruijn32tab), ("math/bits.deBruijn64tab", laid_math_bits_deBruijn64tab), ("internal/strconv.uint64pow10", laid_internal_strconv_uint64pow10), ("seedcorn/inst.operations", laid_seedcorn_inst_operations)], narrowed := true }
def InstCountsUptoSaid : Prop := instCountsUptoRow.holds Tryd.pinned (OpenSpec.upto instCountsSpec)

end Rows
end Go.Proofs.YtihgkmjlefaaoaaDoor
