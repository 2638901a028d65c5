/-
  NARROWER THAN 'FOR EVERY INPUT', by the rows' own cells (each row's printed sentence says how): FnFedBy: laid · FnParentLine: laid · FnPathLines: laid · FnBelowLine: laid · FnLineFlow: laid · FnFeedFlow: laid · FnOverloads: laid · FnNetGood: laid.
  DERIVED. THE GIVEN ROWS OF THIS SEAT. 8 by the template 'for every input the law returns true; each argument reads behind the call as it read before'; 0 by the template 'total and deterministic' (their statements: YtbhlkcnkijihcaaDoorTotals.lean).
  GIVEN WITH THE SEED: the statements are not yours to turn. If you find one false, say at which input.
  Laid BY PROGRAM, IN A SANDBOX (cutbox-rows.mjs): the forced cells as the released guide's own fill.sh prints them over the translation 25362645fec7114c… (all of the seat's roots in one cut). By AI agents, Wed Nov 11 2026. No macro, syntax, notation, axiom, sorry.
-/
import Derived.Test.YtbhlkcnkijihcaaDoorChecked
import GoSem.Claim
import GoSem.ClaimJoined
import GoSem.ClaimMapViews
import Derived.JoinedTies
import Derived.KernelRfl
namespace Go.Proofs.YtbhlkcnkijihcaaDoor
/- THE CELL 'sum', in the pinned program and in every row, IS THE sha256 OF THE DUMP (.gsa) THAT YtbhlkcnkijihcaaDoorProg.lean LOADS. Nothing in Lean hashes anything: it is a label: what it is worth is what the hold of that sum in a sandbox is worth. -/
noncomputable def Tryd.pinned : Pinned := { name := "ytbhlkcnkijihcaadoor", sum := "25362645fec7114cf57ef20c420457a8a2e6e2f26c19eccc46a82371daf36bc2", checked := Tryd.checked }
namespace Rows
def none {H : Type} : Left H := { results := [], args := [] }

/- WHAT THE LISTED PACKAGE-LEVEL VARIABLES READ AS WHEN THE CALL BEGINS. Each datum BY PROGRAM (the guide's laid-datum.mjs) off the statement by which the dump's own 'gosem.cut.vars' lays the variable. In a bare row this is a premise. The card (YtbhlkcnkijihcaaDoorCards.lean) ties it to the program's text. -/
def laid_math_bits_deBruijn32tab {H : Type} : DataW H := .agg [.lit (.int .u8 0), .lit (.int .u8 1), .lit (.int .u8 28), .lit (.int .u8 2), .lit (.int .u8 29), .lit (.int .u8 14), .lit (.int .u8 24), .lit (.int .u8 3), .lit (.int .u8 30), .lit (.int .u8 22), .lit (.int .u8 20), .lit (.int .u8 15), .lit (.int .u8 25), .lit (.int .u8 17), .lit (.int .u8 4), .lit (.int .u8 8), .lit (.int .u8 31), .lit (.int .u8 27), .lit (.int .u8 13), .lit (.int .u8 23), .lit (.int .u8 21), .lit (.int .u8 19), .lit (.int .u8 16), .lit (.int .u8 7), .lit (.int .u8 26), .lit (.int .u8 12), .lit (.int .u8 18), .lit (.int .u8 6), .lit (.int .u8 11), .lit (.int .u8 5), .lit (.int .u8 10), .lit (.int .u8 9)]
def laid_math_bits_deBruijn64tab {H : Type} : DataW H := .agg [.lit (.int .u8 0), .lit (.int .u8 1), .lit (.int .u8 56), .lit (.int .u8 2), .lit (.int .u8 57), .lit (.int .u8 49), .lit (.int .u8 28), .lit (.int .u8 3), .lit (.int .u8 61), .lit (.int .u8 58), .lit (.int .u8 42), .lit (.int .u8 50), .lit (.int .u8 38), .lit (.int .u8 29), .lit (.int .u8 17), .lit (.int .u8 4), .lit (.int .u8 62), .lit (.int .u8 47), .lit (.int .u8 59), .lit (.int .u8 36), .lit (.int .u8 45), .lit (.int .u8 43), .lit (.int .u8 51), .lit (.int .u8 22), .lit (.int .u8 53), .lit (.int .u8 39), .lit (.int .u8 33), .lit (.int .u8 30), .lit (.int .u8 24), .lit (.int .u8 18), .lit (.int .u8 12), .lit (.int .u8 5), .lit (.int .u8 63), .lit (.int .u8 55), .lit (.int .u8 48), .lit (.int .u8 27), .lit (.int .u8 60), .lit (.int .u8 41), .lit (.int .u8 37), .lit (.int .u8 16), .lit (.int .u8 46), .lit (.int .u8 35), .lit (.int .u8 44), .lit (.int .u8 21), .lit (.int .u8 52), .lit (.int .u8 32), .lit (.int .u8 23), .lit (.int .u8 11), .lit (.int .u8 54), .lit (.int .u8 26), .lit (.int .u8 40), .lit (.int .u8 15), .lit (.int .u8 34), .lit (.int .u8 20), .lit (.int .u8 31), .lit (.int .u8 10), .lit (.int .u8 25), .lit (.int .u8 14), .lit (.int .u8 19), .lit (.int .u8 9), .lit (.int .u8 13), .lit (.int .u8 8), .lit (.int .u8 7), .lit (.int .u8 6)]
def laid_internal_strconv_uint64pow10 {H : Type} : DataW H := .agg [.lit (.int .u64 1), .lit (.int .u64 10), .lit (.int .u64 100), .lit (.int .u64 1000), .lit (.int .u64 10000), .lit (.int .u64 100000), .lit (.int .u64 1000000), .lit (.int .u64 10000000), .lit (.int .u64 100000000), .lit (.int .u64 1000000000), .lit (.int .u64 10000000000), .lit (.int .u64 100000000000), .lit (.int .u64 1000000000000), .lit (.int .u64 10000000000000), .lit (.int .u64 100000000000000), .lit (.int .u64 1000000000000000), .lit (.int .u64 10000000000000000), .lit (.int .u64 100000000000000000), .lit (.int .u64 1000000000000000000), .lit (.int .u64 10000000000000000000)]

/-- 'laws.FnFedBy': WHATEVER THE INPUT: true; the input reads as it did. -/
def fnFedBySpec : ChangeSpec := { name := "fnFedBy", fn := fun _ => fun
  | [d] => { results := [.lit (.bool true)], args := [d] }
  | _ => none }
def fnFedByRow : OpenClaim := { program := "ytbhlkcnkijihcaadoor", sum := "25362645fec7114cf57ef20c420457a8a2e6e2f26c19eccc46a82371daf36bc2", func := "loop.example/powercontrol/laws.FnFedBy", spec := "fnFedBy", unfollowed := true, recurses := true, named := ["internal/strconv.uint64pow10", "math/bits.deBruijn32tab", "math/bits.deBruijn64tab"], apart := false, laid := [("math/bits.deBruijn32tab", laid_math_bits_deBruijn32tab), ("math/bits.deBruijn64tab", laid_math_bits_deBruijn64tab), ("internal/strconv.uint64pow10", laid_internal_strconv_uint64pow10)] }
def FnFedBySaid : Prop := fnFedByRow.holds Tryd.pinned (OpenSpec.ofChange fnFedBySpec)

/-- ITS FALSE NEIGHBOUR: 'it returns false'. Refute it at one input. -/
def fnFedByWrong : ChangeSpec := { name := "fnFedBy", fn := fun _ => fun
  | [d] => { results := [.lit (.bool false)], args := [d] }
  | _ => none }
def FnFedByWrongFalsely : Prop := fnFedByRow.holds Tryd.pinned (OpenSpec.ofChange fnFedByWrong)

/-- 'laws.FnParentLine': WHATEVER THE INPUT: true; the input reads as it did. -/
def fnParentLineSpec : ChangeSpec := { name := "fnParentLine", fn := fun _ => fun
  | [d] => { results := [.lit (.bool true)], args := [d] }
  | _ => none }
def fnParentLineRow : OpenClaim := { program := "ytbhlkcnkijihcaadoor", sum := "25362645fec7114cf57ef20c420457a8a2e6e2f26c19eccc46a82371daf36bc2", func := "loop.example/powercontrol/laws.FnParentLine", spec := "fnParentLine", unfollowed := true, recurses := true, named := ["internal/strconv.uint64pow10", "math/bits.deBruijn32tab", "math/bits.deBruijn64tab"], apart := false, laid := [("math/bits.deBruijn32tab", laid_math_bits_deBruijn32tab), ("math/bits.deBruijn64tab", laid_math_bits_deBruijn64tab), ("internal/strconv.uint64pow10", laid_internal_strconv_uint64pow10)] }
def FnParentLineSaid : Prop := fnParentLineRow.holds Tryd.pinned (OpenSpec.ofChange fnParentLineSpec)

/-- ITS FALSE NEIGHBOUR: 'it returns false'. Refute it at one input. -/
def fnParentLineWrong : ChangeSpec := { name := "fnParentLine", fn := fun _ => fun
  | [d] => { results := [.lit (.bool false)], args := [d] }
  | _ => none }
def FnParentLineWrongFalsely : Prop := fnParentLineRow.holds Tryd.pinned (OpenSpec.ofChange fnParentLineWrong)

/-- 'laws.FnPathLines': WHATEVER THE INPUT: true; the input reads as it did. -/
def fnPathLinesSpec : ChangeSpec := { name := "fnPathLines", fn := fun _ => fun
  | [d] => { results := [.lit (.bool true)], args := [d] }
  | _ => none }
def fnPathLinesRow : OpenClaim := { program := "ytbhlkcnkijihcaadoor", sum := "25362645fec7114cf57ef20c420457a8a2e6e2f26c19eccc46a82371daf36bc2", func := "loop.example/powercontrol/laws.FnPathLines", spec := "fnPathLines", unfollowed := true, recurses := true, named := ["internal/strconv.uint64pow10", "math/bits.deBruijn32tab", "math/bits.deBruijn64tab"], apart := false, laid := [("math/bits.deBruijn32tab", laid_math_bits_deBruijn32tab), ("math/bits.deBruijn64tab", laid_math_bits_deBruijn64tab), ("internal/strconv.uint64pow10", laid_internal_strconv_uint64pow10)] }
def FnPathLinesSaid : Prop := fnPathLinesRow.holds Tryd.pinned (OpenSpec.ofChange fnPathLinesSpec)

/-- ITS FALSE NEIGHBOUR: 'it returns false'. Refute it at one input. -/
def fnPathLinesWrong : ChangeSpec := { name := "fnPathLines", fn := fun _ => fun
  | [d] => { results := [.lit (.bool false)], args := [d] }
  | _ => none }
def FnPathLinesWrongFalsely : Prop := fnPathLinesRow.holds Tryd.pinned (OpenSpec.ofChange fnPathLinesWrong)

/-- 'laws.FnBelowLine': WHATEVER THE INPUT: true; the input reads as it did. -/
def fnBelowLineSpec : ChangeSpec := { name := "fnBelowLine", fn := fun _ => fun
  | [d] => { results := [.lit (.bool true)], args := [d] }
  | _ => none }
def fnBelowLineRow : OpenClaim := { program := "ytbhlkcnkijihcaadoor", sum := "25362645fec7114cf57ef20c420457a8a2e6e2f26c19eccc46a82371daf36bc2", func := "loop.example/powercontrol/laws.FnBelowLine", spec := "fnBelowLine", unfollowed := true, recurses := true, named := ["internal/strconv.uint64pow10", "math/bits.deBruijn32tab", "math/bits.deBruijn64tab"], apart := false, laid := [("math/bits.deBruijn32tab", laid_math_bits_deBruijn32tab), ("math/bits.deBruijn64tab", laid_math_bits_deBruijn64tab), ("internal/strconv.uint64pow10", laid_internal_strconv_uint64pow10)] }
def FnBelowLineSaid : Prop := fnBelowLineRow.holds Tryd.pinned (OpenSpec.ofChange fnBelowLineSpec)

/-- ITS FALSE NEIGHBOUR: 'it returns false'. Refute it at one input. -/
def fnBelowLineWrong : ChangeSpec := { name := "fnBelowLine", fn := fun _ => fun
  | [d] => { results := [.lit (.bool false)], args := [d] }
  | _ => none }
def FnBelowLineWrongFalsely : Prop := fnBelowLineRow.holds Tryd.pinned (OpenSpec.ofChange fnBelowLineWrong)

/-- 'laws.FnLineFlow': WHATEVER THE INPUT: true; the input reads as it did. -/
def fnLineFlowSpec : ChangeSpec := { name := "fnLineFlow", fn := fun _ => fun
  | [d] => { results := [.lit (.bool true)], args := [d] }
  | _ => none }
def fnLineFlowRow : OpenClaim := { program := "ytbhlkcnkijihcaadoor", sum := "25362645fec7114cf57ef20c420457a8a2e6e2f26c19eccc46a82371daf36bc2", func := "loop.example/powercontrol/laws.FnLineFlow", spec := "fnLineFlow", unfollowed := true, recurses := true, named := ["internal/strconv.uint64pow10", "math/bits.deBruijn32tab", "math/bits.deBruijn64tab"], apart := false, laid := [("math/bits.deBruijn32tab", laid_math_bits_deBruijn32tab), ("math/bits.deBruijn64tab", laid_math_bits_deBruijn64tab), ("internal/strconv.uint64pow10", laid_internal_strconv_uint64pow10)] }
def FnLineFlowSaid : Prop := fnLineFlowRow.holds Tryd.pinned (OpenSpec.ofChange fnLineFlowSpec)

/-- ITS FALSE NEIGHBOUR: 'it returns false'. Refute it at one input. -/
def fnLineFlowWrong : ChangeSpec := { name := "fnLineFlow", fn := fun _ => fun
  | [d] => { results := [.lit (.bool false)], args := [d] }
  | _ => none }
def FnLineFlowWrongFalsely : Prop := fnLineFlowRow.holds Tryd.pinned (OpenSpec.ofChange fnLineFlowWrong)

/-- 'laws.FnFeedFlow': WHATEVER THE INPUT: true; the input reads as it did. -/
def fnFeedFlowSpec : ChangeSpec := { name := "fnFeedFlow", fn := fun _ => fun
  | [d] => { results := [.lit (.bool true)], args := [d] }
  | _ => none }
def fnFeedFlowRow : OpenClaim := { program := "ytbhlkcnkijihcaadoor", sum := "25362645fec7114cf57ef20c420457a8a2e6e2f26c19eccc46a82371daf36bc2", func := "loop.example/powercontrol/laws.FnFeedFlow", spec := "fnFeedFlow", unfollowed := true, recurses := true, named := ["internal/strconv.uint64pow10", "math/bits.deBruijn32tab", "math/bits.deBruijn64tab"], apart := false, laid := [("math/bits.deBruijn32tab", laid_math_bits_deBruijn32tab), ("math/bits.deBruijn64tab", laid_math_bits_deBruijn64tab), ("internal/strconv.uint64pow10", laid_internal_strconv_uint64pow10)] }
def FnFeedFlowSaid : Prop := fnFeedFlowRow.holds Tryd.pinned (OpenSpec.ofChange fnFeedFlowSpec)

/-- ITS FALSE NEIGHBOUR: 'it returns false'. Refute it at one input. -/
def fnFeedFlowWrong : ChangeSpec := { name := "fnFeedFlow", fn := fun _ => fun
  | [d] => { results := [.lit (.bool false)], args := [d] }
  | _ => none }
def FnFeedFlowWrongFalsely : Prop := fnFeedFlowRow.holds Tryd.pinned (OpenSpec.ofChange fnFeedFlowWrong)

/-- 'laws.FnOverloads': WHATEVER THE INPUT: true; the input reads as it did. -/
def fnOverloadsSpec : ChangeSpec := { name := "fnOverloads", fn := fun _ => fun
  | [d] => { results := [.lit (.bool true)], args := [d] }
  | _ => none }
def fnOverloadsRow : OpenClaim := { program := "ytbhlkcnkijihcaadoor", sum := "25362645fec7114cf57ef20c420457a8a2e6e2f26c19eccc46a82371daf36bc2", func := "loop.example/powercontrol/laws.FnOverloads", spec := "fnOverloads", unfollowed := true, recurses := true, named := ["internal/strconv.uint64pow10", "math/bits.deBruijn32tab", "math/bits.deBruijn64tab"], apart := false, laid := [("math/bits.deBruijn32tab", laid_math_bits_deBruijn32tab), ("math/bits.deBruijn64tab", laid_math_bits_deBruijn64tab), ("internal/strconv.uint64pow10", laid_internal_strconv_uint64pow10)] }
def FnOverloadsSaid : Prop := fnOverloadsRow.holds Tryd.pinned (OpenSpec.ofChange fnOverloadsSpec)

/-- ITS FALSE NEIGHBOUR: 'it returns false'. Refute it at one input. -/
def fnOverloadsWrong : ChangeSpec := { name := "fnOverloads", fn := fun _ => fun
  | [d] => { results := [.lit (.bool false)], args := [d] }
  | _ => none }
def FnOverloadsWrongFalsely : Prop := fnOverloadsRow.holds Tryd.pinned (OpenSpec.ofChange fnOverloadsWrong)

/-- 'laws.FnNetGood': WHATEVER THE INPUT: true; the input reads as it did. -/
def fnNetGoodSpec : ChangeSpec := { name := "fnNetGood", fn := fun _ => fun
  | [d] => { results := [.lit (.bool true)], args := [d] }
  | _ => none }
def fnNetGoodRow : OpenClaim := { program := "ytbhlkcnkijihcaadoor", sum := "25362645fec7114cf57ef20c420457a8a2e6e2f26c19eccc46a82371daf36bc2", func := "loop.example/powercontrol/laws.FnNetGood", spec := "fnNetGood", unfollowed := true, recurses := true, named := ["internal/strconv.uint64pow10", "math/bits.deBruijn32tab", "math/bits.deBruijn64tab"], apart := false, laid := [("math/bits.deBruijn32tab", laid_math_bits_deBruijn32tab), ("math/bits.deBruijn64tab", laid_math_bits_deBruijn64tab), ("internal/strconv.uint64pow10", laid_internal_strconv_uint64pow10)] }
def FnNetGoodSaid : Prop := fnNetGoodRow.holds Tryd.pinned (OpenSpec.ofChange fnNetGoodSpec)

/-- ITS FALSE NEIGHBOUR: 'it returns false'. Refute it at one input. -/
def fnNetGoodWrong : ChangeSpec := { name := "fnNetGood", fn := fun _ => fun
  | [d] => { results := [.lit (.bool false)], args := [d] }
  | _ => none }
def FnNetGoodWrongFalsely : Prop := fnNetGoodRow.holds Tryd.pinned (OpenSpec.ofChange fnNetGoodWrong)

/- THE SECOND FORM. 'bulk': how many values and letters a reading holds, each counted each time it is reached (what is shared counts as often as it is met; a slice's spare places count too). A statement '..UptoSaid' is the law's where the arguments, and the package variables that the reading takes, are together of bulk at most 1048576: NARROWER than '..Said'. Prove '..Said' where nothing that the law and all that it calls make is longer than what came in: it says more and counts as full. Else prove '..UptoSaid'. A law counts once. -/
mutual
def uptoBulk {H : Type} : DataW H → Nat
  | .lit (.string bytes) => bytes.length + 1
  | .lit _ => 1
  | .nil => 1
  | .ptr d => uptoBulk d + 1
  | .slice elems spare => uptoBulkAll elems + uptoBulkAll spare + 1
  | .agg parts => uptoBulkAll parts + 1
  | .iface _ d => uptoBulk d + 1
  | .map entries => uptoBulkEntries entries + 1
  | .held _ => 1
def uptoBulkAll {H : Type} : List (DataW H) → Nat
  | [] => 0
  | d :: r => uptoBulk d + uptoBulkAll r
def uptoBulkEntries {H : Type} : List (Lit × DataW H) → Nat
  | [] => 0
  | x :: r => uptoBulkEntry x + uptoBulkEntries r
def uptoBulkEntry {H : Type} : Lit × DataW H → Nat
  | (.string bytes, d) => bytes.length + uptoBulk d + 1
  | (_, d) => uptoBulk d + 1
 end
def uptoSmall : (H : Type) → List (DataW H) → Bool := fun _ ds => decide (uptoBulkAll ds ≤ 1048576)
def OpenSpec.upto (s : _root_.Go.ChangeSpec) : _root_.Go.OpenSpec := { _root_.Go.OpenSpec.ofChange s with cond := some uptoSmall }

/-- 'laws.FnFedBy', WHERE WHAT IT READS IS OF BULK AT MOST 1048576: true; the input reads as it did. -/
def fnFedByUptoRow : OpenClaim := { program := "ytbhlkcnkijihcaadoor", sum := "25362645fec7114cf57ef20c420457a8a2e6e2f26c19eccc46a82371daf36bc2", func := "loop.example/powercontrol/laws.FnFedBy", spec := "fnFedBy", unfollowed := true, recurses := true, named := ["internal/strconv.uint64pow10", "math/bits.deBruijn32tab", "math/bits.deBruijn64tab"], apart := false, laid := [("math/bits.deBruijn32tab", laid_math_bits_deBruijn32tab), ("math/bits.deBruijn64tab", laid_math_bits_deBruijn64tab), ("internal/strconv.uint64pow10", laid_internal_strconv_uint64pow10)], narrowed := true }
def FnFedByUptoSaid : Prop := fnFedByUptoRow.holds Tryd.pinned (OpenSpec.upto fnFedBySpec)

/-- 'laws.FnParentLine', WHERE WHAT IT READS IS OF BULK AT MOST 1048576: true; the input reads as it did. -/
def fnParentLineUptoRow : OpenClaim := { program := "ytbhlkcnkijihcaadoor", sum := "25362645fec7114cf57ef20c420457a8a2e6e2f26c19eccc46a82371daf36bc2", func := "loop.example/powercontrol/laws.FnParentLine", spec := "fnParentLine", unfollowed := true, recurses := true, named := ["internal/strconv.uint64pow10", "math/bits.deBruijn32tab", "math/bits.deBruijn64tab"], apart := false, laid := [("math/bits.deBruijn32tab", laid_math_bits_deBruijn32tab), ("math/bits.deBruijn64tab", laid_math_bits_deBruijn64tab), ("internal/strconv.uint64pow10", laid_internal_strconv_uint64pow10)], narrowed := true }
def FnParentLineUptoSaid : Prop := fnParentLineUptoRow.holds Tryd.pinned (OpenSpec.upto fnParentLineSpec)

/-- 'laws.FnPathLines', WHERE WHAT IT READS IS OF BULK AT MOST 1048576: true; the input reads as it did. -/
def fnPathLinesUptoRow : OpenClaim := { program := "ytbhlkcnkijihcaadoor", sum := "25362645fec7114cf57ef20c420457a8a2e6e2f26c19eccc46a82371daf36bc2", func := "loop.example/powercontrol/laws.FnPathLines", spec := "fnPathLines", unfollowed := true, recurses := true, named := ["internal/strconv.uint64pow10", "math/bits.deBruijn32tab", "math/bits.deBruijn64tab"], apart := false, laid := [("math/bits.deBruijn32tab", laid_math_bits_deBruijn32tab), ("math/bits.deBruijn64tab", laid_math_bits_deBruijn64tab), ("internal/strconv.uint64pow10", laid_internal_strconv_uint64pow10)], narrowed := true }
def FnPathLinesUptoSaid : Prop := fnPathLinesUptoRow.holds Tryd.pinned (OpenSpec.upto fnPathLinesSpec)

/-- 'laws.FnBelowLine', WHERE WHAT IT READS IS OF BULK AT MOST 1048576: true; the input reads as it did. -/
def fnBelowLineUptoRow : OpenClaim := { program := "ytbhlkcnkijihcaadoor", sum := "25362645fec7114cf57ef20c420457a8a2e6e2f26c19eccc46a82371daf36bc2", func := "loop.example/powercontrol/laws.FnBelowLine", spec := "fnBelowLine", unfollowed := true, recurses := true, named := ["internal/strconv.uint64pow10", "math/bits.deBruijn32tab", "math/bits.deBruijn64tab"], apart := false, laid := [("math/bits.deBruijn32tab", laid_math_bits_deBruijn32tab), ("math/bits.deBruijn64tab", laid_math_bits_deBruijn64tab), ("internal/strconv.uint64pow10", laid_internal_strconv_uint64pow10)], narrowed := true }
def FnBelowLineUptoSaid : Prop := fnBelowLineUptoRow.holds Tryd.pinned (OpenSpec.upto fnBelowLineSpec)

/-- 'laws.FnLineFlow', WHERE WHAT IT READS IS OF BULK AT MOST 1048576: true; the input reads as it did. -/
def fnLineFlowUptoRow : OpenClaim := { program := "ytbhlkcnkijihcaadoor", sum := "25362645fec7114cf57ef20c420457a8a2e6e2f26c19eccc46a82371daf36bc2", func := "loop.example/powercontrol/laws.FnLineFlow", spec := "fnLineFlow", unfollowed := true, recurses := true, named := ["internal/strconv.uint64pow10", "math/bits.deBruijn32tab", "math/bits.deBruijn64tab"], apart := false, laid := [("math/bits.deBruijn32tab", laid_math_bits_deBruijn32tab), ("math/bits.deBruijn64tab", laid_math_bits_deBruijn64tab), ("internal/strconv.uint64pow10", laid_internal_strconv_uint64pow10)], narrowed := true }
def FnLineFlowUptoSaid : Prop := fnLineFlowUptoRow.holds Tryd.pinned (OpenSpec.upto fnLineFlowSpec)

/-- 'laws.FnFeedFlow', WHERE WHAT IT READS IS OF BULK AT MOST 1048576: true; the input reads as it did. -/
def fnFeedFlowUptoRow : OpenClaim := { program := "ytbhlkcnkijihcaadoor", sum := "25362645fec7114cf57ef20c420457a8a2e6e2f26c19eccc46a82371daf36bc2", func := "loop.example/powercontrol/laws.FnFeedFlow", spec := "fnFeedFlow", unfollowed := true, recurses := true, named := ["internal/strconv.uint64pow10", "math/bits.deBruijn32tab", "math/bits.deBruijn64tab"], apart := false, laid := [("math/bits.deBruijn32tab", laid_math_bits_deBruijn32tab), ("math/bits.deBruijn64tab", laid_math_bits_deBruijn64tab), ("internal/strconv.uint64pow10", laid_internal_strconv_uint64pow10)], narrowed := true }
def FnFeedFlowUptoSaid : Prop := fnFeedFlowUptoRow.holds Tryd.pinned (OpenSpec.upto fnFeedFlowSpec)

/-- 'laws.FnOverloads', WHERE WHAT IT READS IS OF BULK AT MOST 1048576: true; the input reads as it did. -/
def fnOverloadsUptoRow : OpenClaim := { program := "ytbhlkcnkijihcaadoor", sum := "25362645fec7114cf57ef20c420457a8a2e6e2f26c19eccc46a82371daf36bc2", func := "loop.example/powercontrol/laws.FnOverloads", spec := "fnOverloads", unfollowed := true, recurses := true, named := ["internal/strconv.uint64pow10", "math/bits.deBruijn32tab", "math/bits.deBruijn64tab"], apart := false, laid := [("math/bits.deBruijn32tab", laid_math_bits_deBruijn32tab), ("math/bits.deBruijn64tab", laid_math_bits_deBruijn64tab), ("internal/strconv.uint64pow10", laid_internal_strconv_uint64pow10)], narrowed := true }
def FnOverloadsUptoSaid : Prop := fnOverloadsUptoRow.holds Tryd.pinned (OpenSpec.upto fnOverloadsSpec)

/-- 'laws.FnNetGood', WHERE WHAT IT READS IS OF BULK AT MOST 1048576: true; the input reads as it did. -/
def fnNetGoodUptoRow : OpenClaim := { program := "ytbhlkcnkijihcaadoor", sum := "25362645fec7114cf57ef20c420457a8a2e6e2f26c19eccc46a82371daf36bc2", func := "loop.example/powercontrol/laws.FnNetGood", spec := "fnNetGood", unfollowed := true, recurses := true, named := ["internal/strconv.uint64pow10", "math/bits.deBruijn32tab", "math/bits.deBruijn64tab"], apart := false, laid := [("math/bits.deBruijn32tab", laid_math_bits_deBruijn32tab), ("math/bits.deBruijn64tab", laid_math_bits_deBruijn64tab), ("internal/strconv.uint64pow10", laid_internal_strconv_uint64pow10)], narrowed := true }
def FnNetGoodUptoSaid : Prop := fnNetGoodUptoRow.holds Tryd.pinned (OpenSpec.upto fnNetGoodSpec)

end Rows
end Go.Proofs.YtbhlkcnkijihcaaDoor
