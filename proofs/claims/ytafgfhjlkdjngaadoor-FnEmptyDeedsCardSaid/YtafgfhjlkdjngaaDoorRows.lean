/-
  NARROWER THAN 'FOR EVERY INPUT', by the rows' own cells (each row's printed sentence says how): FnBarsRun: laid · FnWorkValid: laid · FnWorkHeld: laid · FnWorkDo: laid · FnWorkRun: laid · FnWorkClose: laid · FnExactWorkDo: laid · FnExactWorkRun: laid · FnMoveDeeds: laid · FnEmptyDeeds: laid.
  DERIVED. THE GIVEN ROWS OF THIS SEAT. 10 by the template 'for every input the law returns true; each argument reads behind the call as it read before'; 0 by the template 'total and deterministic' (their statements: YtafgfhjlkdjngaaDoorTotals.lean).
  GIVEN WITH THE SEED: the statements are not yours to turn. If you find one false, say at which input.
  Laid BY PROGRAM, IN A SANDBOX (cutbox-rows.mjs): the forced cells as the released guide's own fill.sh prints them over the translation 50cde8e1c2a12b69… (all of the seat's roots in one cut). By AI agents, Wed Nov 11 2026. No macro, syntax, notation, axiom, sorry.
-/
import Derived.Test.YtafgfhjlkdjngaaDoorChecked
import GoSem.Claim
import GoSem.ClaimJoined
import GoSem.ClaimMapViews
import Derived.JoinedTies
import Derived.KernelRfl
namespace Go.Proofs.YtafgfhjlkdjngaaDoor
/- THE CELL 'sum', in the pinned program and in every row, IS THE sha256 OF THE DUMP (.gsa) THAT YtafgfhjlkdjngaaDoorProg.lean LOADS. Nothing in Lean hashes anything: it is a label: what it is worth is what the hold of that sum in a sandbox is worth. -/
noncomputable def Tryd.pinned : Pinned := { name := "ytafgfhjlkdjngaadoor", sum := "50cde8e1c2a12b699d0b1e3673951587ab7cb395e83e83454e7c409db8e9d1a2", checked := Tryd.checked }
namespace Rows
def none {H : Type} : Left H := { results := [], args := [] }

/- WHAT THE LISTED PACKAGE-LEVEL VARIABLES READ AS WHEN THE CALL BEGINS. Each datum BY PROGRAM (the guide's laid-datum.mjs) off the statement by which the dump's own 'gosem.cut.vars' lays the variable. In a bare row this is a premise. The card (YtafgfhjlkdjngaaDoorCards.lean) ties it to the program's text. -/
def laid_math_bits_deBruijn32tab {H : Type} : DataW H := .agg [.lit (.int .u8 0), .lit (.int .u8 1), .lit (.int .u8 28), .lit (.int .u8 2), .lit (.int .u8 29), .lit (.int .u8 14), .lit (.int .u8 24), .lit (.int .u8 3), .lit (.int .u8 30), .lit (.int .u8 22), .lit (.int .u8 20), .lit (.int .u8 15), .lit (.int .u8 25), .lit (.int .u8 17), .lit (.int .u8 4), .lit (.int .u8 8), .lit (.int .u8 31), .lit (.int .u8 27), .lit (.int .u8 13), .lit (.int .u8 23), .lit (.int .u8 21), .lit (.int .u8 19), .lit (.int .u8 16), .lit (.int .u8 7), .lit (.int .u8 26), .lit (.int .u8 12), .lit (.int .u8 18), .lit (.int .u8 6), .lit (.int .u8 11), .lit (.int .u8 5), .lit (.int .u8 10), .lit (.int .u8 9)]
def laid_math_bits_deBruijn64tab {H : Type} : DataW H := .agg [.lit (.int .u8 0), .lit (.int .u8 1), .lit (.int .u8 56), .lit (.int .u8 2), .lit (.int .u8 57), .lit (.int .u8 49), .lit (.int .u8 28), .lit (.int .u8 3), .lit (.int .u8 61), .lit (.int .u8 58), .lit (.int .u8 42), .lit (.int .u8 50), .lit (.int .u8 38), .lit (.int .u8 29), .lit (.int .u8 17), .lit (.int .u8 4), .lit (.int .u8 62), .lit (.int .u8 47), .lit (.int .u8 59), .lit (.int .u8 36), .lit (.int .u8 45), .lit (.int .u8 43), .lit (.int .u8 51), .lit (.int .u8 22), .lit (.int .u8 53), .lit (.int .u8 39), .lit (.int .u8 33), .lit (.int .u8 30), .lit (.int .u8 24), .lit (.int .u8 18), .lit (.int .u8 12), .lit (.int .u8 5), .lit (.int .u8 63), .lit (.int .u8 55), .lit (.int .u8 48), .lit (.int .u8 27), .lit (.int .u8 60), .lit (.int .u8 41), .lit (.int .u8 37), .lit (.int .u8 16), .lit (.int .u8 46), .lit (.int .u8 35), .lit (.int .u8 44), .lit (.int .u8 21), .lit (.int .u8 52), .lit (.int .u8 32), .lit (.int .u8 23), .lit (.int .u8 11), .lit (.int .u8 54), .lit (.int .u8 26), .lit (.int .u8 40), .lit (.int .u8 15), .lit (.int .u8 34), .lit (.int .u8 20), .lit (.int .u8 31), .lit (.int .u8 10), .lit (.int .u8 25), .lit (.int .u8 14), .lit (.int .u8 19), .lit (.int .u8 9), .lit (.int .u8 13), .lit (.int .u8 8), .lit (.int .u8 7), .lit (.int .u8 6)]
def laid_internal_strconv_uint64pow10 {H : Type} : DataW H := .agg [.lit (.int .u64 1), .lit (.int .u64 10), .lit (.int .u64 100), .lit (.int .u64 1000), .lit (.int .u64 10000), .lit (.int .u64 100000), .lit (.int .u64 1000000), .lit (.int .u64 10000000), .lit (.int .u64 100000000), .lit (.int .u64 1000000000), .lit (.int .u64 10000000000), .lit (.int .u64 100000000000), .lit (.int .u64 1000000000000), .lit (.int .u64 10000000000000), .lit (.int .u64 100000000000000), .lit (.int .u64 1000000000000000), .lit (.int .u64 10000000000000000), .lit (.int .u64 100000000000000000), .lit (.int .u64 1000000000000000000), .lit (.int .u64 10000000000000000000)]
def laid_loop_example_powercontrol_impl_workRules {H : Type} : DataW H := .agg [.agg [.lit (.int .i64 0), .lit (.int .i64 1), .lit (.int .i64 0)], .agg [.lit (.int .i64 1), .lit (.int .i64 0), .lit (.int .i64 0)], .agg [.lit (.int .i64 0), .lit (.int .i64 2), .lit (.int .i64 0)], .agg [.lit (.int .i64 2), .lit (.int .i64 0), .lit (.int .i64 1)], .agg [.lit (.int .i64 2), .lit (.int .i64 2), .lit (.int .i64 2)], .agg [.lit (.int .i64 2), .lit (.int .i64 2), .lit (.int .i64 3)]]

/-- 'laws.FnBarsRun': WHATEVER THE INPUT: true; the input reads as it did. -/
def fnBarsRunSpec : ChangeSpec := { name := "fnBarsRun", fn := fun _ => fun
  | [d] => { results := [.lit (.bool true)], args := [d] }
  | _ => none }
def fnBarsRunRow : OpenClaim := { program := "ytafgfhjlkdjngaadoor", sum := "50cde8e1c2a12b699d0b1e3673951587ab7cb395e83e83454e7c409db8e9d1a2", func := "loop.example/powercontrol/laws.FnBarsRun", spec := "fnBarsRun", unfollowed := true, recurses := true, named := ["internal/strconv.uint64pow10", "math/bits.deBruijn32tab", "math/bits.deBruijn64tab"], apart := false, laid := [("math/bits.deBruijn32tab", laid_math_bits_deBruijn32tab), ("math/bits.deBruijn64tab", laid_math_bits_deBruijn64tab), ("internal/strconv.uint64pow10", laid_internal_strconv_uint64pow10)] }
def FnBarsRunSaid : Prop := fnBarsRunRow.holds Tryd.pinned (OpenSpec.ofChange fnBarsRunSpec)

/-- ITS FALSE NEIGHBOUR: 'it returns false'. Refute it at one input. -/
def fnBarsRunWrong : ChangeSpec := { name := "fnBarsRun", fn := fun _ => fun
  | [d] => { results := [.lit (.bool false)], args := [d] }
  | _ => none }
def FnBarsRunWrongFalsely : Prop := fnBarsRunRow.holds Tryd.pinned (OpenSpec.ofChange fnBarsRunWrong)

/-- 'laws.FnWorkValid': WHATEVER THE INPUT: true; the input reads as it did. -/
def fnWorkValidSpec : ChangeSpec := { name := "fnWorkValid", fn := fun _ => fun
  | [d] => { results := [.lit (.bool true)], args := [d] }
  | _ => none }
def fnWorkValidRow : OpenClaim := { program := "ytafgfhjlkdjngaadoor", sum := "50cde8e1c2a12b699d0b1e3673951587ab7cb395e83e83454e7c409db8e9d1a2", func := "loop.example/powercontrol/laws.FnWorkValid", spec := "fnWorkValid", named := ["internal/strconv.uint64pow10", "math/bits.deBruijn32tab", "math/bits.deBruijn64tab"], apart := false, laid := [("math/bits.deBruijn32tab", laid_math_bits_deBruijn32tab), ("math/bits.deBruijn64tab", laid_math_bits_deBruijn64tab), ("internal/strconv.uint64pow10", laid_internal_strconv_uint64pow10)] }
def FnWorkValidSaid : Prop := fnWorkValidRow.holds Tryd.pinned (OpenSpec.ofChange fnWorkValidSpec)

/-- ITS FALSE NEIGHBOUR: 'it returns false'. Refute it at one input. -/
def fnWorkValidWrong : ChangeSpec := { name := "fnWorkValid", fn := fun _ => fun
  | [d] => { results := [.lit (.bool false)], args := [d] }
  | _ => none }
def FnWorkValidWrongFalsely : Prop := fnWorkValidRow.holds Tryd.pinned (OpenSpec.ofChange fnWorkValidWrong)

/-- 'laws.FnWorkHeld': WHATEVER THE INPUT: true; the input reads as it did. -/
def fnWorkHeldSpec : ChangeSpec := { name := "fnWorkHeld", vars := ["loop.example/powercontrol/impl.workRules"], fn := fun _ => fun
  | [d, g1] => { results := [.lit (.bool true)], args := [d], vars := [g1] }
  | _ => none }
def fnWorkHeldRow : OpenClaim := { program := "ytafgfhjlkdjngaadoor", sum := "50cde8e1c2a12b699d0b1e3673951587ab7cb395e83e83454e7c409db8e9d1a2", func := "loop.example/powercontrol/laws.FnWorkHeld", spec := "fnWorkHeld", named := ["loop.example/powercontrol/impl.workRules", "internal/strconv.uint64pow10", "math/bits.deBruijn32tab", "math/bits.deBruijn64tab"], apart := false, laid := [("math/bits.deBruijn32tab", laid_math_bits_deBruijn32tab), ("math/bits.deBruijn64tab", laid_math_bits_deBruijn64tab), ("internal/strconv.uint64pow10", laid_internal_strconv_uint64pow10), ("loop.example/powercontrol/impl.workRules", laid_loop_example_powercontrol_impl_workRules)] }
def FnWorkHeldSaid : Prop := fnWorkHeldRow.holds Tryd.pinned (OpenSpec.ofChange fnWorkHeldSpec)

/-- ITS FALSE NEIGHBOUR: 'it returns false'. Refute it at one input. -/
def fnWorkHeldWrong : ChangeSpec := { name := "fnWorkHeld", vars := ["loop.example/powercontrol/impl.workRules"], fn := fun _ => fun
  | [d, g1] => { results := [.lit (.bool false)], args := [d], vars := [g1] }
  | _ => none }
def FnWorkHeldWrongFalsely : Prop := fnWorkHeldRow.holds Tryd.pinned (OpenSpec.ofChange fnWorkHeldWrong)

/-- 'laws.FnWorkDo': WHATEVER THE INPUT: true; the input reads as it did. -/
def fnWorkDoSpec : ChangeSpec := { name := "fnWorkDo", vars := ["loop.example/powercontrol/impl.workRules"], fn := fun _ => fun
  | [d, g1] => { results := [.lit (.bool true)], args := [d], vars := [g1] }
  | _ => none }
def fnWorkDoRow : OpenClaim := { program := "ytafgfhjlkdjngaadoor", sum := "50cde8e1c2a12b699d0b1e3673951587ab7cb395e83e83454e7c409db8e9d1a2", func := "loop.example/powercontrol/laws.FnWorkDo", spec := "fnWorkDo", named := ["loop.example/powercontrol/impl.workRules", "internal/strconv.uint64pow10", "math/bits.deBruijn32tab", "math/bits.deBruijn64tab"], apart := false, laid := [("math/bits.deBruijn32tab", laid_math_bits_deBruijn32tab), ("math/bits.deBruijn64tab", laid_math_bits_deBruijn64tab), ("internal/strconv.uint64pow10", laid_internal_strconv_uint64pow10), ("loop.example/powercontrol/impl.workRules", laid_loop_example_powercontrol_impl_workRules)] }
def FnWorkDoSaid : Prop := fnWorkDoRow.holds Tryd.pinned (OpenSpec.ofChange fnWorkDoSpec)

/-- ITS FALSE NEIGHBOUR: 'it returns false'. Refute it at one input. -/
def fnWorkDoWrong : ChangeSpec := { name := "fnWorkDo", vars := ["loop.example/powercontrol/impl.workRules"], fn := fun _ => fun
  | [d, g1] => { results := [.lit (.bool false)], args := [d], vars := [g1] }
  | _ => none }
def FnWorkDoWrongFalsely : Prop := fnWorkDoRow.holds Tryd.pinned (OpenSpec.ofChange fnWorkDoWrong)

/-- 'laws.FnWorkRun': WHATEVER THE INPUT: true; the input reads as it did. -/
def fnWorkRunSpec : ChangeSpec := { name := "fnWorkRun", vars := ["loop.example/powercontrol/impl.workRules"], fn := fun _ => fun
  | [d, g1] => { results := [.lit (.bool true)], args := [d], vars := [g1] }
  | _ => none }
def fnWorkRunRow : OpenClaim := { program := "ytafgfhjlkdjngaadoor", sum := "50cde8e1c2a12b699d0b1e3673951587ab7cb395e83e83454e7c409db8e9d1a2", func := "loop.example/powercontrol/laws.FnWorkRun", spec := "fnWorkRun", unfollowed := true, recurses := true, named := ["loop.example/powercontrol/impl.workRules", "internal/strconv.uint64pow10", "math/bits.deBruijn32tab", "math/bits.deBruijn64tab"], apart := false, laid := [("math/bits.deBruijn32tab", laid_math_bits_deBruijn32tab), ("math/bits.deBruijn64tab", laid_math_bits_deBruijn64tab), ("internal/strconv.uint64pow10", laid_internal_strconv_uint64pow10), ("loop.example/powercontrol/impl.workRules", laid_loop_example_powercontrol_impl_workRules)] }
def FnWorkRunSaid : Prop := fnWorkRunRow.holds Tryd.pinned (OpenSpec.ofChange fnWorkRunSpec)

/-- ITS FALSE NEIGHBOUR: 'it returns false'. Refute it at one input. -/
def fnWorkRunWrong : ChangeSpec := { name := "fnWorkRun", vars := ["loop.example/powercontrol/impl.workRules"], fn := fun _ => fun
  | [d, g1] => { results := [.lit (.bool false)], args := [d], vars := [g1] }
  | _ => none }
def FnWorkRunWrongFalsely : Prop := fnWorkRunRow.holds Tryd.pinned (OpenSpec.ofChange fnWorkRunWrong)

/-- 'laws.FnWorkClose': WHATEVER THE INPUT: true; the input reads as it did. -/
def fnWorkCloseSpec : ChangeSpec := { name := "fnWorkClose", vars := ["loop.example/powercontrol/impl.workRules"], fn := fun _ => fun
  | [d, g1] => { results := [.lit (.bool true)], args := [d], vars := [g1] }
  | _ => none }
def fnWorkCloseRow : OpenClaim := { program := "ytafgfhjlkdjngaadoor", sum := "50cde8e1c2a12b699d0b1e3673951587ab7cb395e83e83454e7c409db8e9d1a2", func := "loop.example/powercontrol/laws.FnWorkClose", spec := "fnWorkClose", unfollowed := true, recurses := true, named := ["internal/strconv.uint64pow10", "math/bits.deBruijn32tab", "math/bits.deBruijn64tab", "loop.example/powercontrol/impl.workRules"], apart := false, laid := [("math/bits.deBruijn32tab", laid_math_bits_deBruijn32tab), ("math/bits.deBruijn64tab", laid_math_bits_deBruijn64tab), ("internal/strconv.uint64pow10", laid_internal_strconv_uint64pow10), ("loop.example/powercontrol/impl.workRules", laid_loop_example_powercontrol_impl_workRules)] }
def FnWorkCloseSaid : Prop := fnWorkCloseRow.holds Tryd.pinned (OpenSpec.ofChange fnWorkCloseSpec)

/-- ITS FALSE NEIGHBOUR: 'it returns false'. Refute it at one input. -/
def fnWorkCloseWrong : ChangeSpec := { name := "fnWorkClose", vars := ["loop.example/powercontrol/impl.workRules"], fn := fun _ => fun
  | [d, g1] => { results := [.lit (.bool false)], args := [d], vars := [g1] }
  | _ => none }
def FnWorkCloseWrongFalsely : Prop := fnWorkCloseRow.holds Tryd.pinned (OpenSpec.ofChange fnWorkCloseWrong)

/-- 'laws.FnExactWorkDo': WHATEVER THE INPUT: true; the input reads as it did. -/
def fnExactWorkDoSpec : ChangeSpec := { name := "fnExactWorkDo", vars := ["loop.example/powercontrol/impl.workRules"], fn := fun _ => fun
  | [d1, d2, g1] => { results := [.lit (.bool true)], args := [d1, d2], vars := [g1] }
  | _ => none }
def fnExactWorkDoRow : OpenClaim := { program := "ytafgfhjlkdjngaadoor", sum := "50cde8e1c2a12b699d0b1e3673951587ab7cb395e83e83454e7c409db8e9d1a2", func := "loop.example/powercontrol/laws.FnExactWorkDo", spec := "fnExactWorkDo", named := ["loop.example/powercontrol/impl.workRules"], apart := false, laid := [("loop.example/powercontrol/impl.workRules", laid_loop_example_powercontrol_impl_workRules)] }
def FnExactWorkDoSaid : Prop := fnExactWorkDoRow.holds Tryd.pinned (OpenSpec.ofChange fnExactWorkDoSpec)

/-- ITS FALSE NEIGHBOUR: 'it returns false'. Refute it at one input. -/
def fnExactWorkDoWrong : ChangeSpec := { name := "fnExactWorkDo", vars := ["loop.example/powercontrol/impl.workRules"], fn := fun _ => fun
  | [d1, d2, g1] => { results := [.lit (.bool false)], args := [d1, d2], vars := [g1] }
  | _ => none }
def FnExactWorkDoWrongFalsely : Prop := fnExactWorkDoRow.holds Tryd.pinned (OpenSpec.ofChange fnExactWorkDoWrong)

/-- 'laws.FnExactWorkRun': WHATEVER THE INPUT: true; the input reads as it did. -/
def fnExactWorkRunSpec : ChangeSpec := { name := "fnExactWorkRun", vars := ["loop.example/powercontrol/impl.workRules"], fn := fun _ => fun
  | [d1, d2, g1] => { results := [.lit (.bool true)], args := [d1, d2], vars := [g1] }
  | _ => none }
def fnExactWorkRunRow : OpenClaim := { program := "ytafgfhjlkdjngaadoor", sum := "50cde8e1c2a12b699d0b1e3673951587ab7cb395e83e83454e7c409db8e9d1a2", func := "loop.example/powercontrol/laws.FnExactWorkRun", spec := "fnExactWorkRun", unfollowed := true, recurses := true, named := ["loop.example/powercontrol/impl.workRules"], apart := false, laid := [("loop.example/powercontrol/impl.workRules", laid_loop_example_powercontrol_impl_workRules)] }
def FnExactWorkRunSaid : Prop := fnExactWorkRunRow.holds Tryd.pinned (OpenSpec.ofChange fnExactWorkRunSpec)

/-- ITS FALSE NEIGHBOUR: 'it returns false'. Refute it at one input. -/
def fnExactWorkRunWrong : ChangeSpec := { name := "fnExactWorkRun", vars := ["loop.example/powercontrol/impl.workRules"], fn := fun _ => fun
  | [d1, d2, g1] => { results := [.lit (.bool false)], args := [d1, d2], vars := [g1] }
  | _ => none }
def FnExactWorkRunWrongFalsely : Prop := fnExactWorkRunRow.holds Tryd.pinned (OpenSpec.ofChange fnExactWorkRunWrong)

/-- 'laws.FnMoveDeeds': WHATEVER THE INPUT: true; the input reads as it did. -/
def fnMoveDeedsSpec : ChangeSpec := { name := "fnMoveDeeds", fn := fun _ => fun
  | [d] => { results := [.lit (.bool true)], args := [d] }
  | _ => none }
def fnMoveDeedsRow : OpenClaim := { program := "ytafgfhjlkdjngaadoor", sum := "50cde8e1c2a12b699d0b1e3673951587ab7cb395e83e83454e7c409db8e9d1a2", func := "loop.example/powercontrol/laws.FnMoveDeeds", spec := "fnMoveDeeds", unfollowed := true, recurses := true, named := ["internal/strconv.uint64pow10", "math/bits.deBruijn32tab", "math/bits.deBruijn64tab"], apart := false, laid := [("math/bits.deBruijn32tab", laid_math_bits_deBruijn32tab), ("math/bits.deBruijn64tab", laid_math_bits_deBruijn64tab), ("internal/strconv.uint64pow10", laid_internal_strconv_uint64pow10)] }
def FnMoveDeedsSaid : Prop := fnMoveDeedsRow.holds Tryd.pinned (OpenSpec.ofChange fnMoveDeedsSpec)

/-- ITS FALSE NEIGHBOUR: 'it returns false'. Refute it at one input. -/
def fnMoveDeedsWrong : ChangeSpec := { name := "fnMoveDeeds", fn := fun _ => fun
  | [d] => { results := [.lit (.bool false)], args := [d] }
  | _ => none }
def FnMoveDeedsWrongFalsely : Prop := fnMoveDeedsRow.holds Tryd.pinned (OpenSpec.ofChange fnMoveDeedsWrong)

/-- 'laws.FnEmptyDeeds': WHATEVER THE INPUT: true; the input reads as it did. -/
def fnEmptyDeedsSpec : ChangeSpec := { name := "fnEmptyDeeds", fn := fun _ => fun
  | [d] => { results := [.lit (.bool true)], args := [d] }
  | _ => none }
def fnEmptyDeedsRow : OpenClaim := { program := "ytafgfhjlkdjngaadoor", sum := "50cde8e1c2a12b699d0b1e3673951587ab7cb395e83e83454e7c409db8e9d1a2", func := "loop.example/powercontrol/laws.FnEmptyDeeds", spec := "fnEmptyDeeds", unfollowed := true, recurses := true, named := ["internal/strconv.uint64pow10", "math/bits.deBruijn32tab", "math/bits.deBruijn64tab"], apart := false, laid := [("math/bits.deBruijn32tab", laid_math_bits_deBruijn32tab), ("math/bits.deBruijn64tab", laid_math_bits_deBruijn64tab), ("internal/strconv.uint64pow10", laid_internal_strconv_uint64pow10)] }
def FnEmptyDeedsSaid : Prop := fnEmptyDeedsRow.holds Tryd.pinned (OpenSpec.ofChange fnEmptyDeedsSpec)

/-- ITS FALSE NEIGHBOUR: 'it returns false'. Refute it at one input. -/
def fnEmptyDeedsWrong : ChangeSpec := { name := "fnEmptyDeeds", fn := fun _ => fun
  | [d] => { results := [.lit (.bool false)], args := [d] }
  | _ => none }
def FnEmptyDeedsWrongFalsely : Prop := fnEmptyDeedsRow.holds Tryd.pinned (OpenSpec.ofChange fnEmptyDeedsWrong)

/- THE SECOND FORM. 'bulk': how many values and letters a reading holds, each counted each time it is reached (what is shared counts as often as it is met; a slice's spare places count too). A statement '..UptoSaid' is the law's where the arguments, and the package variables that the reading takes, are together of bulk at most 1048576: NARROWER than '..Said'. Prove '..Said' where nothing that the law and all that it calls make is longer than what came in: it says more and counts as full. Else prove '..UptoSaid'. A law counts once. -/
mutual
def uptoBulk {H : Type} : DataW H → Nat
  | .lit (.string bytes) => bytes.length + 1
  | .lit _ => 1
  | .nil => 1
  | .ptr d => uptoBulk d + 1
  | .slice elems spare => uptoBulkAll elems + uptoBulkAll spare + 1
  | .agg parts => uptoBulkAll parts + 1
  | .iface _ d => uptoBulk d + 1
  | .map entries => uptoBulkEntries entries + 1
  | .held _ => 1
def uptoBulkAll {H : Type} : List (DataW H) → Nat
  | [] => 0
  | d :: r => uptoBulk d + uptoBulkAll r
def uptoBulkEntries {H : Type} : List (Lit × DataW H) → Nat
  | [] => 0
  | x :: r => uptoBulkEntry x + uptoBulkEntries r
def uptoBulkEntry {H : Type} : Lit × DataW H → Nat
  | (.string bytes, d) => bytes.length + uptoBulk d + 1
  | (_, d) => uptoBulk d + 1
 end
def uptoSmall : (H : Type) → List (DataW H) → Bool := fun _ ds => decide (uptoBulkAll ds ≤ 1048576)
def OpenSpec.upto (s : _root_.Go.ChangeSpec) : _root_.Go.OpenSpec := { _root_.Go.OpenSpec.ofChange s with cond := some uptoSmall }

/-- 'laws.FnBarsRun', WHERE WHAT IT READS IS OF BULK AT MOST 1048576: true; the input reads as it did. -/
def fnBarsRunUptoRow : OpenClaim := { program := "ytafgfhjlkdjngaadoor", sum := "50cde8e1c2a12b699d0b1e3673951587ab7cb395e83e83454e7c409db8e9d1a2", func := "loop.example/powercontrol/laws.FnBarsRun", spec := "fnBarsRun", unfollowed := true, recurses := true, named := ["internal/strconv.uint64pow10", "math/bits.deBruijn32tab", "math/bits.deBruijn64tab"], apart := false, laid := [("math/bits.deBruijn32tab", laid_math_bits_deBruijn32tab), ("math/bits.deBruijn64tab", laid_math_bits_deBruijn64tab), ("internal/strconv.uint64pow10", laid_internal_strconv_uint64pow10)], narrowed := true }
def FnBarsRunUptoSaid : Prop := fnBarsRunUptoRow.holds Tryd.pinned (OpenSpec.upto fnBarsRunSpec)

/-- 'laws.FnWorkValid', WHERE WHAT IT READS IS OF BULK AT MOST 1048576: true; the input reads as it did. -/
def fnWorkValidUptoRow : OpenClaim := { program := "ytafgfhjlkdjngaadoor", sum := "50cde8e1c2a12b699d0b1e3673951587ab7cb395e83e83454e7c409db8e9d1a2", func := "loop.example/powercontrol/laws.FnWorkValid", spec := "fnWorkValid", named := ["internal/strconv.uint64pow10", "math/bits.deBruijn32tab", "math/bits.deBruijn64tab"], apart := false, laid := [("math/bits.deBruijn32tab", laid_math_bits_deBruijn32tab), ("math/bits.deBruijn64tab", laid_math_bits_deBruijn64tab), ("internal/strconv.uint64pow10", laid_internal_strconv_uint64pow10)], narrowed := true }
def FnWorkValidUptoSaid : Prop := fnWorkValidUptoRow.holds Tryd.pinned (OpenSpec.upto fnWorkValidSpec)

/-- 'laws.FnWorkHeld', WHERE WHAT IT READS IS OF BULK AT MOST 1048576: true; the input reads as it did. -/
def fnWorkHeldUptoRow : OpenClaim := { program := "ytafgfhjlkdjngaadoor", sum := "50cde8e1c2a12b699d0b1e3673951587ab7cb395e83e83454e7c409db8e9d1a2", func := "loop.example/powercontrol/laws.FnWorkHeld", spec := "fnWorkHeld", named := ["loop.example/powercontrol/impl.workRules", "internal/strconv.uint64pow10", "math/bits.deBruijn32tab", "math/bits.deBruijn64tab"], apart := false, laid := [("math/bits.deBruijn32tab", laid_math_bits_deBruijn32tab), ("math/bits.deBruijn64tab", laid_math_bits_deBruijn64tab), ("internal/strconv.uint64pow10", laid_internal_strconv_uint64pow10), ("loop.example/powercontrol/impl.workRules", laid_loop_example_powercontrol_impl_workRules)], narrowed := true }
def FnWorkHeldUptoSaid : Prop := fnWorkHeldUptoRow.holds Tryd.pinned (OpenSpec.upto fnWorkHeldSpec)

/-- 'laws.FnWorkDo', WHERE WHAT IT READS IS OF BULK AT MOST 1048576: true; the input reads as it did. -/
def fnWorkDoUptoRow : OpenClaim := { program := "ytafgfhjlkdjngaadoor", sum := "50cde8e1c2a12b699d0b1e3673951587ab7cb395e83e83454e7c409db8e9d1a2", func := "loop.example/powercontrol/laws.FnWorkDo", spec := "fnWorkDo", named := ["loop.example/powercontrol/impl.workRules", "internal/strconv.uint64pow10", "math/bits.deBruijn32tab", "math/bits.deBruijn64tab"], apart := false, laid := [("math/bits.deBruijn32tab", laid_math_bits_deBruijn32tab), ("math/bits.deBruijn64tab", laid_math_bits_deBruijn64tab), ("internal/strconv.uint64pow10", laid_internal_strconv_uint64pow10), ("loop.example/powercontrol/impl.workRules", laid_loop_example_powercontrol_impl_workRules)], narrowed := true }
def FnWorkDoUptoSaid : Prop := fnWorkDoUptoRow.holds Tryd.pinned (OpenSpec.upto fnWorkDoSpec)

/-- 'laws.FnWorkRun', WHERE WHAT IT READS IS OF BULK AT MOST 1048576: true; the input reads as it did. -/
def fnWorkRunUptoRow : OpenClaim := { program := "ytafgfhjlkdjngaadoor", sum := "50cde8e1c2a12b699d0b1e3673951587ab7cb395e83e83454e7c409db8e9d1a2", func := "loop.example/powercontrol/laws.FnWorkRun", spec := "fnWorkRun", unfollowed := true, recurses := true, named := ["loop.example/powercontrol/impl.workRules", "internal/strconv.uint64pow10", "math/bits.deBruijn32tab", "math/bits.deBruijn64tab"], apart := false, laid := [("math/bits.deBruijn32tab", laid_math_bits_deBruijn32tab), ("math/bits.deBruijn64tab", laid_math_bits_deBruijn64tab), ("internal/strconv.uint64pow10", laid_internal_strconv_uint64pow10), ("loop.example/powercontrol/impl.workRules", laid_loop_example_powercontrol_impl_workRules)], narrowed := true }
def FnWorkRunUptoSaid : Prop := fnWorkRunUptoRow.holds Tryd.pinned (OpenSpec.upto fnWorkRunSpec)

/-- 'laws.FnWorkClose', WHERE WHAT IT READS IS OF BULK AT MOST 1048576: true; the input reads as it did. -/
def fnWorkCloseUptoRow : OpenClaim := { program := "ytafgfhjlkdjngaadoor", sum := "50cde8e1c2a12b699d0b1e3673951587ab7cb395e83e83454e7c409db8e9d1a2", func := "loop.example/powercontrol/laws.FnWorkClose", spec := "fnWorkClose", unfollowed := true, recurses := true, named := ["internal/strconv.uint64pow10", "math/bits.deBruijn32tab", "math/bits.deBruijn64tab", "loop.example/powercontrol/impl.workRules"], apart := false, laid := [("math/bits.deBruijn32tab", laid_math_bits_deBruijn32tab), ("math/bits.deBruijn64tab", laid_math_bits_deBruijn64tab), ("internal/strconv.uint64pow10", laid_internal_strconv_uint64pow10), ("loop.example/powercontrol/impl.workRules", laid_loop_example_powercontrol_impl_workRules)], narrowed := true }
def FnWorkCloseUptoSaid : Prop := fnWorkCloseUptoRow.holds Tryd.pinned (OpenSpec.upto fnWorkCloseSpec)

/-- 'laws.FnExactWorkDo', WHERE WHAT IT READS IS OF BULK AT MOST 1048576: true; the input reads as it did. -/
def fnExactWorkDoUptoRow : OpenClaim := { program := "ytafgfhjlkdjngaadoor", sum := "50cde8e1c2a12b699d0b1e3673951587ab7cb395e83e83454e7c409db8e9d1a2", func := "loop.example/powercontrol/laws.FnExactWorkDo", spec := "fnExactWorkDo", named := ["loop.example/powercontrol/impl.workRules"], apart := false, laid := [("loop.example/powercontrol/impl.workRules", laid_loop_example_powercontrol_impl_workRules)], narrowed := true }
def FnExactWorkDoUptoSaid : Prop := fnExactWorkDoUptoRow.holds Tryd.pinned (OpenSpec.upto fnExactWorkDoSpec)

/-- 'laws.FnExactWorkRun', WHERE WHAT IT READS IS OF BULK AT MOST 1048576: true; the input reads as it did. -/
def fnExactWorkRunUptoRow : OpenClaim := { program := "ytafgfhjlkdjngaadoor", sum := "50cde8e1c2a12b699d0b1e3673951587ab7cb395e83e83454e7c409db8e9d1a2", func := "loop.example/powercontrol/laws.FnExactWorkRun", spec := "fnExactWorkRun", unfollowed := true, recurses := true, named := ["loop.example/powercontrol/impl.workRules"], apart := false, laid := [("loop.example/powercontrol/impl.workRules", laid_loop_example_powercontrol_impl_workRules)], narrowed := true }
def FnExactWorkRunUptoSaid : Prop := fnExactWorkRunUptoRow.holds Tryd.pinned (OpenSpec.upto fnExactWorkRunSpec)

/-- 'laws.FnMoveDeeds', WHERE WHAT IT READS IS OF BULK AT MOST 1048576: true; the input reads as it did. -/
def fnMoveDeedsUptoRow : OpenClaim := { program := "ytafgfhjlkdjngaadoor", sum := "50cde8e1c2a12b699d0b1e3673951587ab7cb395e83e83454e7c409db8e9d1a2", func := "loop.example/powercontrol/laws.FnMoveDeeds", spec := "fnMoveDeeds", unfollowed := true, recurses := true, named := ["internal/strconv.uint64pow10", "math/bits.deBruijn32tab", "math/bits.deBruijn64tab"], apart := false, laid := [("math/bits.deBruijn32tab", laid_math_bits_deBruijn32tab), ("math/bits.deBruijn64tab", laid_math_bits_deBruijn64tab), ("internal/strconv.uint64pow10", laid_internal_strconv_uint64pow10)], narrowed := true }
def FnMoveDeedsUptoSaid : Prop := fnMoveDeedsUptoRow.holds Tryd.pinned (OpenSpec.upto fnMoveDeedsSpec)

/-- 'laws.FnEmptyDeeds', WHERE WHAT IT READS IS OF BULK AT MOST 1048576: true; the input reads as it did. -/
def fnEmptyDeedsUptoRow : OpenClaim := { program := "ytafgfhjlkdjngaadoor", sum := "50cde8e1c2a12b699d0b1e3673951587ab7cb395e83e83454e7c409db8e9d1a2", func := "loop.example/powercontrol/laws.FnEmptyDeeds", spec := "fnEmptyDeeds", unfollowed := true, recurses := true, named := ["internal/strconv.uint64pow10", "math/bits.deBruijn32tab", "math/bits.deBruijn64tab"], apart := false, laid := [("math/bits.deBruijn32tab", laid_math_bits_deBruijn32tab), ("math/bits.deBruijn64tab", laid_math_bits_deBruijn64tab), ("internal/strconv.uint64pow10", laid_internal_strconv_uint64pow10)], narrowed := true }
def FnEmptyDeedsUptoSaid : Prop := fnEmptyDeedsUptoRow.holds Tryd.pinned (OpenSpec.upto fnEmptyDeedsSpec)

end Rows
end Go.Proofs.YtafgfhjlkdjngaaDoor
