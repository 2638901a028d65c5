/-
  NARROWER THAN 'FOR EVERY INPUT', by the rows' own cells (each row's printed sentence says how): FnBaySafe: laid · FnBayMay: laid · FnBayDo: laid · FnBayRun: laid · FnBayPlan: laid · FnExactBayMay: laid · FnExactBayDo: laid · FnExactBayRun: laid · FnExactBayPlan: laid.
  DERIVED. THE GIVEN ROWS OF THIS SEAT. 9 by the template 'for every input the law returns true; each argument reads behind the call as it read before'; 0 by the template 'total and deterministic' (their statements: YtapbmpodimdkpaaDoorTotals.lean).
  GIVEN WITH THE SEED: the statements are not yours to turn. If you find one false, say at which input.
  Laid BY PROGRAM, IN A SANDBOX (cutbox-rows.mjs): the forced cells as the released guide's own fill.sh prints them over the translation 04cf8c33fea28ec4… (all of the seat's roots in one cut). By AI agents, Wed Nov 11 2026. No macro, syntax, notation, axiom, sorry.
-/
import Derived.Test.YtapbmpodimdkpaaDoorChecked
import GoSem.Claim
import GoSem.ClaimJoined
import GoSem.ClaimMapViews
import Derived.JoinedTies
import Derived.KernelRfl
namespace Go.Proofs.YtapbmpodimdkpaaDoor
/- THE CELL 'sum', in the pinned program and in every row, IS THE sha256 OF THE DUMP (.gsa) THAT YtapbmpodimdkpaaDoorProg.lean LOADS. Nothing in Lean hashes anything: it is a label: what it is worth is what the hold of that sum in a sandbox is worth. -/
noncomputable def Tryd.pinned : Pinned := { name := "ytapbmpodimdkpaadoor", sum := "04cf8c33fea28ec43bc82a4c0936910f356d40d284fcba00d4366f777511a957", checked := Tryd.checked }
namespace Rows
def none {H : Type} : Left H := { results := [], args := [] }

/- WHAT THE LISTED PACKAGE-LEVEL VARIABLES READ AS WHEN THE CALL BEGINS. Each datum BY PROGRAM (the guide's laid-datum.mjs) off the statement by which the dump's own 'gosem.cut.vars' lays the variable. In a bare row this is a premise. The card (YtapbmpodimdkpaaDoorCards.lean) ties it to the program's text. -/
def laid_math_bits_deBruijn32tab {H : Type} : DataW H := .agg [.lit (.int .u8 0), .lit (.int .u8 1), .lit (.int .u8 28), .lit (.int .u8 2), .lit (.int .u8 29), .lit (.int .u8 14), .lit (.int .u8 24), .lit (.int .u8 3), .lit (.int .u8 30), .lit (.int .u8 22), .lit (.int .u8 20), .lit (.int .u8 15), .lit (.int .u8 25), .lit (.int .u8 17), .lit (.int .u8 4), .lit (.int .u8 8), .lit (.int .u8 31), .lit (.int .u8 27), .lit (.int .u8 13), .lit (.int .u8 23), .lit (.int .u8 21), .lit (.int .u8 19), .lit (.int .u8 16), .lit (.int .u8 7), .lit (.int .u8 26), .lit (.int .u8 12), .lit (.int .u8 18), .lit (.int .u8 6), .lit (.int .u8 11), .lit (.int .u8 5), .lit (.int .u8 10), .lit (.int .u8 9)]
def laid_math_bits_deBruijn64tab {H : Type} : DataW H := .agg [.lit (.int .u8 0), .lit (.int .u8 1), .lit (.int .u8 56), .lit (.int .u8 2), .lit (.int .u8 57), .lit (.int .u8 49), .lit (.int .u8 28), .lit (.int .u8 3), .lit (.int .u8 61), .lit (.int .u8 58), .lit (.int .u8 42), .lit (.int .u8 50), .lit (.int .u8 38), .lit (.int .u8 29), .lit (.int .u8 17), .lit (.int .u8 4), .lit (.int .u8 62), .lit (.int .u8 47), .lit (.int .u8 59), .lit (.int .u8 36), .lit (.int .u8 45), .lit (.int .u8 43), .lit (.int .u8 51), .lit (.int .u8 22), .lit (.int .u8 53), .lit (.int .u8 39), .lit (.int .u8 33), .lit (.int .u8 30), .lit (.int .u8 24), .lit (.int .u8 18), .lit (.int .u8 12), .lit (.int .u8 5), .lit (.int .u8 63), .lit (.int .u8 55), .lit (.int .u8 48), .lit (.int .u8 27), .lit (.int .u8 60), .lit (.int .u8 41), .lit (.int .u8 37), .lit (.int .u8 16), .lit (.int .u8 46), .lit (.int .u8 35), .lit (.int .u8 44), .lit (.int .u8 21), .lit (.int .u8 52), .lit (.int .u8 32), .lit (.int .u8 23), .lit (.int .u8 11), .lit (.int .u8 54), .lit (.int .u8 26), .lit (.int .u8 40), .lit (.int .u8 15), .lit (.int .u8 34), .lit (.int .u8 20), .lit (.int .u8 31), .lit (.int .u8 10), .lit (.int .u8 25), .lit (.int .u8 14), .lit (.int .u8 19), .lit (.int .u8 9), .lit (.int .u8 13), .lit (.int .u8 8), .lit (.int .u8 7), .lit (.int .u8 6)]
def laid_internal_strconv_uint64pow10 {H : Type} : DataW H := .agg [.lit (.int .u64 1), .lit (.int .u64 10), .lit (.int .u64 100), .lit (.int .u64 1000), .lit (.int .u64 10000), .lit (.int .u64 100000), .lit (.int .u64 1000000), .lit (.int .u64 10000000), .lit (.int .u64 100000000), .lit (.int .u64 1000000000), .lit (.int .u64 10000000000), .lit (.int .u64 100000000000), .lit (.int .u64 1000000000000), .lit (.int .u64 10000000000000), .lit (.int .u64 100000000000000), .lit (.int .u64 1000000000000000), .lit (.int .u64 10000000000000000), .lit (.int .u64 100000000000000000), .lit (.int .u64 1000000000000000000), .lit (.int .u64 10000000000000000000)]
def laid_loop_example_powercontrol_impl_mustBeOpen {H : Type} : DataW H := .agg [.nil, .nil, .slice [.lit (.int .i64 0)] [], .slice [.lit (.int .i64 0)] [], .slice [.lit (.int .i64 0)] [], .slice [.lit (.int .i64 0), .lit (.int .i64 3)] [], .nil, .slice [.lit (.int .i64 2)] []]

/-- 'laws.FnBaySafe': WHATEVER THE INPUT: true; the input reads as it did. -/
def fnBaySafeSpec : ChangeSpec := { name := "fnBaySafe", fn := fun _ => fun
  | [d] => { results := [.lit (.bool true)], args := [d] }
  | _ => none }
def fnBaySafeRow : OpenClaim := { program := "ytapbmpodimdkpaadoor", sum := "04cf8c33fea28ec43bc82a4c0936910f356d40d284fcba00d4366f777511a957", func := "loop.example/powercontrol/laws.FnBaySafe", spec := "fnBaySafe", named := ["internal/strconv.uint64pow10", "math/bits.deBruijn32tab", "math/bits.deBruijn64tab"], plainKeys := false, apart := false, laid := [("math/bits.deBruijn32tab", laid_math_bits_deBruijn32tab), ("math/bits.deBruijn64tab", laid_math_bits_deBruijn64tab), ("internal/strconv.uint64pow10", laid_internal_strconv_uint64pow10)] }
def FnBaySafeSaid : Prop := fnBaySafeRow.holds Tryd.pinned (OpenSpec.ofChange fnBaySafeSpec)

/-- ITS FALSE NEIGHBOUR: 'it returns false'. Refute it at one input. -/
def fnBaySafeWrong : ChangeSpec := { name := "fnBaySafe", fn := fun _ => fun
  | [d] => { results := [.lit (.bool false)], args := [d] }
  | _ => none }
def FnBaySafeWrongFalsely : Prop := fnBaySafeRow.holds Tryd.pinned (OpenSpec.ofChange fnBaySafeWrong)

/-- 'laws.FnBayMay': WHATEVER THE INPUT: true; the input reads as it did. -/
def fnBayMaySpec : ChangeSpec := { name := "fnBayMay", vars := ["loop.example/powercontrol/impl.mustBeOpen"], fn := fun _ => fun
  | [d, g1] => { results := [.lit (.bool true)], args := [d], vars := [g1] }
  | _ => none }
def fnBayMayRow : OpenClaim := { program := "ytapbmpodimdkpaadoor", sum := "04cf8c33fea28ec43bc82a4c0936910f356d40d284fcba00d4366f777511a957", func := "loop.example/powercontrol/laws.FnBayMay", spec := "fnBayMay", named := ["loop.example/powercontrol/impl.mustBeOpen", "internal/strconv.uint64pow10", "math/bits.deBruijn32tab", "math/bits.deBruijn64tab"], plainKeys := false, apart := false, laid := [("math/bits.deBruijn32tab", laid_math_bits_deBruijn32tab), ("math/bits.deBruijn64tab", laid_math_bits_deBruijn64tab), ("internal/strconv.uint64pow10", laid_internal_strconv_uint64pow10), ("loop.example/powercontrol/impl.mustBeOpen", laid_loop_example_powercontrol_impl_mustBeOpen)] }
def FnBayMaySaid : Prop := fnBayMayRow.holds Tryd.pinned (OpenSpec.ofChange fnBayMaySpec)

/-- ITS FALSE NEIGHBOUR: 'it returns false'. Refute it at one input. -/
def fnBayMayWrong : ChangeSpec := { name := "fnBayMay", vars := ["loop.example/powercontrol/impl.mustBeOpen"], fn := fun _ => fun
  | [d, g1] => { results := [.lit (.bool false)], args := [d], vars := [g1] }
  | _ => none }
def FnBayMayWrongFalsely : Prop := fnBayMayRow.holds Tryd.pinned (OpenSpec.ofChange fnBayMayWrong)

/-- 'laws.FnBayDo': WHATEVER THE INPUT: true; the input reads as it did. -/
def fnBayDoSpec : ChangeSpec := { name := "fnBayDo", vars := ["loop.example/powercontrol/impl.mustBeOpen"], fn := fun _ => fun
  | [d, g1] => { results := [.lit (.bool true)], args := [d], vars := [g1] }
  | _ => none }
def fnBayDoRow : OpenClaim := { program := "ytapbmpodimdkpaadoor", sum := "04cf8c33fea28ec43bc82a4c0936910f356d40d284fcba00d4366f777511a957", func := "loop.example/powercontrol/laws.FnBayDo", spec := "fnBayDo", named := ["loop.example/powercontrol/impl.mustBeOpen", "internal/strconv.uint64pow10", "math/bits.deBruijn32tab", "math/bits.deBruijn64tab"], plainKeys := false, apart := false, laid := [("math/bits.deBruijn32tab", laid_math_bits_deBruijn32tab), ("math/bits.deBruijn64tab", laid_math_bits_deBruijn64tab), ("internal/strconv.uint64pow10", laid_internal_strconv_uint64pow10), ("loop.example/powercontrol/impl.mustBeOpen", laid_loop_example_powercontrol_impl_mustBeOpen)] }
def FnBayDoSaid : Prop := fnBayDoRow.holds Tryd.pinned (OpenSpec.ofChange fnBayDoSpec)

/-- ITS FALSE NEIGHBOUR: 'it returns false'. Refute it at one input. -/
def fnBayDoWrong : ChangeSpec := { name := "fnBayDo", vars := ["loop.example/powercontrol/impl.mustBeOpen"], fn := fun _ => fun
  | [d, g1] => { results := [.lit (.bool false)], args := [d], vars := [g1] }
  | _ => none }
def FnBayDoWrongFalsely : Prop := fnBayDoRow.holds Tryd.pinned (OpenSpec.ofChange fnBayDoWrong)

/-- 'laws.FnBayRun': WHATEVER THE INPUT: true; the input reads as it did. -/
def fnBayRunSpec : ChangeSpec := { name := "fnBayRun", vars := ["loop.example/powercontrol/impl.mustBeOpen"], fn := fun _ => fun
  | [d, g1] => { results := [.lit (.bool true)], args := [d], vars := [g1] }
  | _ => none }
def fnBayRunRow : OpenClaim := { program := "ytapbmpodimdkpaadoor", sum := "04cf8c33fea28ec43bc82a4c0936910f356d40d284fcba00d4366f777511a957", func := "loop.example/powercontrol/laws.FnBayRun", spec := "fnBayRun", named := ["loop.example/powercontrol/impl.mustBeOpen", "internal/strconv.uint64pow10", "math/bits.deBruijn32tab", "math/bits.deBruijn64tab"], plainKeys := false, apart := false, laid := [("math/bits.deBruijn32tab", laid_math_bits_deBruijn32tab), ("math/bits.deBruijn64tab", laid_math_bits_deBruijn64tab), ("internal/strconv.uint64pow10", laid_internal_strconv_uint64pow10), ("loop.example/powercontrol/impl.mustBeOpen", laid_loop_example_powercontrol_impl_mustBeOpen)] }
def FnBayRunSaid : Prop := fnBayRunRow.holds Tryd.pinned (OpenSpec.ofChange fnBayRunSpec)

/-- ITS FALSE NEIGHBOUR: 'it returns false'. Refute it at one input. -/
def fnBayRunWrong : ChangeSpec := { name := "fnBayRun", vars := ["loop.example/powercontrol/impl.mustBeOpen"], fn := fun _ => fun
  | [d, g1] => { results := [.lit (.bool false)], args := [d], vars := [g1] }
  | _ => none }
def FnBayRunWrongFalsely : Prop := fnBayRunRow.holds Tryd.pinned (OpenSpec.ofChange fnBayRunWrong)

/-- 'laws.FnBayPlan': WHATEVER THE INPUT: true; the input reads as it did. -/
def fnBayPlanSpec : ChangeSpec := { name := "fnBayPlan", vars := ["loop.example/powercontrol/impl.mustBeOpen"], fn := fun _ => fun
  | [d1, d2, g1] => { results := [.lit (.bool true)], args := [d1, d2], vars := [g1] }
  | _ => none }
def fnBayPlanRow : OpenClaim := { program := "ytapbmpodimdkpaadoor", sum := "04cf8c33fea28ec43bc82a4c0936910f356d40d284fcba00d4366f777511a957", func := "loop.example/powercontrol/laws.FnBayPlan", spec := "fnBayPlan", unfollowed := true, recurses := true, named := ["loop.example/powercontrol/impl.mustBeOpen", "internal/strconv.uint64pow10", "math/bits.deBruijn32tab", "math/bits.deBruijn64tab"], plainKeys := false, apart := false, laid := [("math/bits.deBruijn32tab", laid_math_bits_deBruijn32tab), ("math/bits.deBruijn64tab", laid_math_bits_deBruijn64tab), ("internal/strconv.uint64pow10", laid_internal_strconv_uint64pow10), ("loop.example/powercontrol/impl.mustBeOpen", laid_loop_example_powercontrol_impl_mustBeOpen)] }
def FnBayPlanSaid : Prop := fnBayPlanRow.holds Tryd.pinned (OpenSpec.ofChange fnBayPlanSpec)

/-- ITS FALSE NEIGHBOUR: 'it returns false'. Refute it at one input. -/
def fnBayPlanWrong : ChangeSpec := { name := "fnBayPlan", vars := ["loop.example/powercontrol/impl.mustBeOpen"], fn := fun _ => fun
  | [d1, d2, g1] => { results := [.lit (.bool false)], args := [d1, d2], vars := [g1] }
  | _ => none }
def FnBayPlanWrongFalsely : Prop := fnBayPlanRow.holds Tryd.pinned (OpenSpec.ofChange fnBayPlanWrong)

/-- 'laws.FnExactBayMay': WHATEVER THE INPUT: true; the input reads as it did. -/
def fnExactBayMaySpec : ChangeSpec := { name := "fnExactBayMay", vars := ["loop.example/powercontrol/impl.mustBeOpen"], fn := fun _ => fun
  | [d1, d2, g1] => { results := [.lit (.bool true)], args := [d1, d2], vars := [g1] }
  | _ => none }
def fnExactBayMayRow : OpenClaim := { program := "ytapbmpodimdkpaadoor", sum := "04cf8c33fea28ec43bc82a4c0936910f356d40d284fcba00d4366f777511a957", func := "loop.example/powercontrol/laws.FnExactBayMay", spec := "fnExactBayMay", named := ["loop.example/powercontrol/impl.mustBeOpen"], plainKeys := false, apart := false, laid := [("loop.example/powercontrol/impl.mustBeOpen", laid_loop_example_powercontrol_impl_mustBeOpen)] }
def FnExactBayMaySaid : Prop := fnExactBayMayRow.holds Tryd.pinned (OpenSpec.ofChange fnExactBayMaySpec)

/-- ITS FALSE NEIGHBOUR: 'it returns false'. Refute it at one input. -/
def fnExactBayMayWrong : ChangeSpec := { name := "fnExactBayMay", vars := ["loop.example/powercontrol/impl.mustBeOpen"], fn := fun _ => fun
  | [d1, d2, g1] => { results := [.lit (.bool false)], args := [d1, d2], vars := [g1] }
  | _ => none }
def FnExactBayMayWrongFalsely : Prop := fnExactBayMayRow.holds Tryd.pinned (OpenSpec.ofChange fnExactBayMayWrong)

/-- 'laws.FnExactBayDo': WHATEVER THE INPUT: true; the input reads as it did. -/
def fnExactBayDoSpec : ChangeSpec := { name := "fnExactBayDo", vars := ["loop.example/powercontrol/impl.mustBeOpen"], fn := fun _ => fun
  | [d1, d2, g1] => { results := [.lit (.bool true)], args := [d1, d2], vars := [g1] }
  | _ => none }
def fnExactBayDoRow : OpenClaim := { program := "ytapbmpodimdkpaadoor", sum := "04cf8c33fea28ec43bc82a4c0936910f356d40d284fcba00d4366f777511a957", func := "loop.example/powercontrol/laws.FnExactBayDo", spec := "fnExactBayDo", named := ["loop.example/powercontrol/impl.mustBeOpen"], plainKeys := false, apart := false, laid := [("loop.example/powercontrol/impl.mustBeOpen", laid_loop_example_powercontrol_impl_mustBeOpen)] }
def FnExactBayDoSaid : Prop := fnExactBayDoRow.holds Tryd.pinned (OpenSpec.ofChange fnExactBayDoSpec)

/-- ITS FALSE NEIGHBOUR: 'it returns false'. Refute it at one input. -/
def fnExactBayDoWrong : ChangeSpec := { name := "fnExactBayDo", vars := ["loop.example/powercontrol/impl.mustBeOpen"], fn := fun _ => fun
  | [d1, d2, g1] => { results := [.lit (.bool false)], args := [d1, d2], vars := [g1] }
  | _ => none }
def FnExactBayDoWrongFalsely : Prop := fnExactBayDoRow.holds Tryd.pinned (OpenSpec.ofChange fnExactBayDoWrong)

/-- 'laws.FnExactBayRun': WHATEVER THE INPUT: true; the input reads as it did. -/
def fnExactBayRunSpec : ChangeSpec := { name := "fnExactBayRun", vars := ["loop.example/powercontrol/impl.mustBeOpen"], fn := fun _ => fun
  | [d1, d2, g1] => { results := [.lit (.bool true)], args := [d1, d2], vars := [g1] }
  | _ => none }
def fnExactBayRunRow : OpenClaim := { program := "ytapbmpodimdkpaadoor", sum := "04cf8c33fea28ec43bc82a4c0936910f356d40d284fcba00d4366f777511a957", func := "loop.example/powercontrol/laws.FnExactBayRun", spec := "fnExactBayRun", named := ["loop.example/powercontrol/impl.mustBeOpen"], plainKeys := false, apart := false, laid := [("loop.example/powercontrol/impl.mustBeOpen", laid_loop_example_powercontrol_impl_mustBeOpen)] }
def FnExactBayRunSaid : Prop := fnExactBayRunRow.holds Tryd.pinned (OpenSpec.ofChange fnExactBayRunSpec)

/-- ITS FALSE NEIGHBOUR: 'it returns false'. Refute it at one input. -/
def fnExactBayRunWrong : ChangeSpec := { name := "fnExactBayRun", vars := ["loop.example/powercontrol/impl.mustBeOpen"], fn := fun _ => fun
  | [d1, d2, g1] => { results := [.lit (.bool false)], args := [d1, d2], vars := [g1] }
  | _ => none }
def FnExactBayRunWrongFalsely : Prop := fnExactBayRunRow.holds Tryd.pinned (OpenSpec.ofChange fnExactBayRunWrong)

/-- 'laws.FnExactBayPlan': WHATEVER THE INPUT: true; the input reads as it did. -/
def fnExactBayPlanSpec : ChangeSpec := { name := "fnExactBayPlan", vars := ["loop.example/powercontrol/impl.mustBeOpen"], fn := fun _ => fun
  | [d1, d2, g1] => { results := [.lit (.bool true)], args := [d1, d2], vars := [g1] }
  | _ => none }
def fnExactBayPlanRow : OpenClaim := { program := "ytapbmpodimdkpaadoor", sum := "04cf8c33fea28ec43bc82a4c0936910f356d40d284fcba00d4366f777511a957", func := "loop.example/powercontrol/laws.FnExactBayPlan", spec := "fnExactBayPlan", unfollowed := true, recurses := true, named := ["loop.example/powercontrol/impl.mustBeOpen"], plainKeys := false, apart := false, laid := [("loop.example/powercontrol/impl.mustBeOpen", laid_loop_example_powercontrol_impl_mustBeOpen)] }
def FnExactBayPlanSaid : Prop := fnExactBayPlanRow.holds Tryd.pinned (OpenSpec.ofChange fnExactBayPlanSpec)

/-- ITS FALSE NEIGHBOUR: 'it returns false'. Refute it at one input. -/
def fnExactBayPlanWrong : ChangeSpec := { name := "fnExactBayPlan", vars := ["loop.example/powercontrol/impl.mustBeOpen"], fn := fun _ => fun
  | [d1, d2, g1] => { results := [.lit (.bool false)], args := [d1, d2], vars := [g1] }
  | _ => none }
def FnExactBayPlanWrongFalsely : Prop := fnExactBayPlanRow.holds Tryd.pinned (OpenSpec.ofChange fnExactBayPlanWrong)

/- THE SECOND FORM. 'bulk': how many values and letters a reading holds, each counted each time it is reached (what is shared counts as often as it is met; a slice's spare places count too). A statement '..UptoSaid' is the law's where the arguments, and the package variables that the reading takes, are together of bulk at most 1048576: NARROWER than '..Said'. Prove '..Said' where nothing that the law and all that it calls make is longer than what came in: it says more and counts as full. Else prove '..UptoSaid'. A law counts once. -/
mutual
def uptoBulk {H : Type} : DataW H → Nat
  | .lit (.string bytes) => bytes.length + 1
  | .lit _ => 1
  | .nil => 1
  | .ptr d => uptoBulk d + 1
  | .slice elems spare => uptoBulkAll elems + uptoBulkAll spare + 1
  | .agg parts => uptoBulkAll parts + 1
  | .iface _ d => uptoBulk d + 1
  | .map entries => uptoBulkEntries entries + 1
  | .held _ => 1
def uptoBulkAll {H : Type} : List (DataW H) → Nat
  | [] => 0
  | d :: r => uptoBulk d + uptoBulkAll r
def uptoBulkEntries {H : Type} : List (Lit × DataW H) → Nat
  | [] => 0
  | x :: r => uptoBulkEntry x + uptoBulkEntries r
def uptoBulkEntry {H : Type} : Lit × DataW H → Nat
  | (.string bytes, d) => bytes.length + uptoBulk d + 1
  | (_, d) => uptoBulk d + 1
 end
def uptoSmall : (H : Type) → List (DataW H) → Bool := fun _ ds => decide (uptoBulkAll ds ≤ 1048576)
def OpenSpec.upto (s : _root_.Go.ChangeSpec) : _root_.Go.OpenSpec := { _root_.Go.OpenSpec.ofChange s with cond := some uptoSmall }

/-- 'laws.FnBaySafe', WHERE WHAT IT READS IS OF BULK AT MOST 1048576: true; the input reads as it did. -/
def fnBaySafeUptoRow : OpenClaim := { program := "ytapbmpodimdkpaadoor", sum := "04cf8c33fea28ec43bc82a4c0936910f356d40d284fcba00d4366f777511a957", func := "loop.example/powercontrol/laws.FnBaySafe", spec := "fnBaySafe", named := ["internal/strconv.uint64pow10", "math/bits.deBruijn32tab", "math/bits.deBruijn64tab"], plainKeys := false, apart := false, laid := [("math/bits.deBruijn32tab", laid_math_bits_deBruijn32tab), ("math/bits.deBruijn64tab", laid_math_bits_deBruijn64tab), ("internal/strconv.uint64pow10", laid_internal_strconv_uint64pow10)], narrowed := true }
def FnBaySafeUptoSaid : Prop := fnBaySafeUptoRow.holds Tryd.pinned (OpenSpec.upto fnBaySafeSpec)

/-- 'laws.FnBayMay', WHERE WHAT IT READS IS OF BULK AT MOST 1048576: true; the input reads as it did. -/
def fnBayMayUptoRow : OpenClaim := { program := "ytapbmpodimdkpaadoor", sum := "04cf8c33fea28ec43bc82a4c0936910f356d40d284fcba00d4366f777511a957", func := "loop.example/powercontrol/laws.FnBayMay", spec := "fnBayMay", named := ["loop.example/powercontrol/impl.mustBeOpen", "internal/strconv.uint64pow10", "math/bits.deBruijn32tab", "math/bits.deBruijn64tab"], plainKeys := false, apart := false, laid := [("math/bits.deBruijn32tab", laid_math_bits_deBruijn32tab), ("math/bits.deBruijn64tab", laid_math_bits_deBruijn64tab), ("internal/strconv.uint64pow10", laid_internal_strconv_uint64pow10), ("loop.example/powercontrol/impl.mustBeOpen", laid_loop_example_powercontrol_impl_mustBeOpen)], narrowed := true }
def FnBayMayUptoSaid : Prop := fnBayMayUptoRow.holds Tryd.pinned (OpenSpec.upto fnBayMaySpec)

/-- 'laws.FnBayDo', WHERE WHAT IT READS IS OF BULK AT MOST 1048576: true; the input reads as it did. -/
def fnBayDoUptoRow : OpenClaim := { program := "ytapbmpodimdkpaadoor", sum := "04cf8c33fea28ec43bc82a4c0936910f356d40d284fcba00d4366f777511a957", func := "loop.example/powercontrol/laws.FnBayDo", spec := "fnBayDo", named := ["loop.example/powercontrol/impl.mustBeOpen", "internal/strconv.uint64pow10", "math/bits.deBruijn32tab", "math/bits.deBruijn64tab"], plainKeys := false, apart := false, laid := [("math/bits.deBruijn32tab", laid_math_bits_deBruijn32tab), ("math/bits.deBruijn64tab", laid_math_bits_deBruijn64tab), ("internal/strconv.uint64pow10", laid_internal_strconv_uint64pow10), ("loop.example/powercontrol/impl.mustBeOpen", laid_loop_example_powercontrol_impl_mustBeOpen)], narrowed := true }
def FnBayDoUptoSaid : Prop := fnBayDoUptoRow.holds Tryd.pinned (OpenSpec.upto fnBayDoSpec)

/-- 'laws.FnBayRun', WHERE WHAT IT READS IS OF BULK AT MOST 1048576: true; the input reads as it did. -/
def fnBayRunUptoRow : OpenClaim := { program := "ytapbmpodimdkpaadoor", sum := "04cf8c33fea28ec43bc82a4c0936910f356d40d284fcba00d4366f777511a957", func := "loop.example/powercontrol/laws.FnBayRun", spec := "fnBayRun", named := ["loop.example/powercontrol/impl.mustBeOpen", "internal/strconv.uint64pow10", "math/bits.deBruijn32tab", "math/bits.deBruijn64tab"], plainKeys := false, apart := false, laid := [("math/bits.deBruijn32tab", laid_math_bits_deBruijn32tab), ("math/bits.deBruijn64tab", laid_math_bits_deBruijn64tab), ("internal/strconv.uint64pow10", laid_internal_strconv_uint64pow10), ("loop.example/powercontrol/impl.mustBeOpen", laid_loop_example_powercontrol_impl_mustBeOpen)], narrowed := true }
def FnBayRunUptoSaid : Prop := fnBayRunUptoRow.holds Tryd.pinned (OpenSpec.upto fnBayRunSpec)

/-- 'laws.FnBayPlan', WHERE WHAT IT READS IS OF BULK AT MOST 1048576: true; the input reads as it did. -/
def fnBayPlanUptoRow : OpenClaim := { program := "ytapbmpodimdkpaadoor", sum := "04cf8c33fea28ec43bc82a4c0936910f356d40d284fcba00d4366f777511a957", func := "loop.example/powercontrol/laws.FnBayPlan", spec := "fnBayPlan", unfollowed := true, recurses := true, named := ["loop.example/powercontrol/impl.mustBeOpen", "internal/strconv.uint64pow10", "math/bits.deBruijn32tab", "math/bits.deBruijn64tab"], plainKeys := false, apart := false, laid := [("math/bits.deBruijn32tab", laid_math_bits_deBruijn32tab), ("math/bits.deBruijn64tab", laid_math_bits_deBruijn64tab), ("internal/strconv.uint64pow10", laid_internal_strconv_uint64pow10), ("loop.example/powercontrol/impl.mustBeOpen", laid_loop_example_powercontrol_impl_mustBeOpen)], narrowed := true }
def FnBayPlanUptoSaid : Prop := fnBayPlanUptoRow.holds Tryd.pinned (OpenSpec.upto fnBayPlanSpec)

/-- 'laws.FnExactBayMay', WHERE WHAT IT READS IS OF BULK AT MOST 1048576: true; the input reads as it did. -/
def fnExactBayMayUptoRow : OpenClaim := { program := "ytapbmpodimdkpaadoor", sum := "04cf8c33fea28ec43bc82a4c0936910f356d40d284fcba00d4366f777511a957", func := "loop.example/powercontrol/laws.FnExactBayMay", spec := "fnExactBayMay", named := ["loop.example/powercontrol/impl.mustBeOpen"], plainKeys := false, apart := false, laid := [("loop.example/powercontrol/impl.mustBeOpen", laid_loop_example_powercontrol_impl_mustBeOpen)], narrowed := true }
def FnExactBayMayUptoSaid : Prop := fnExactBayMayUptoRow.holds Tryd.pinned (OpenSpec.upto fnExactBayMaySpec)

/-- 'laws.FnExactBayDo', WHERE WHAT IT READS IS OF BULK AT MOST 1048576: true; the input reads as it did. -/
def fnExactBayDoUptoRow : OpenClaim := { program := "ytapbmpodimdkpaadoor", sum := "04cf8c33fea28ec43bc82a4c0936910f356d40d284fcba00d4366f777511a957", func := "loop.example/powercontrol/laws.FnExactBayDo", spec := "fnExactBayDo", named := ["loop.example/powercontrol/impl.mustBeOpen"], plainKeys := false, apart := false, laid := [("loop.example/powercontrol/impl.mustBeOpen", laid_loop_example_powercontrol_impl_mustBeOpen)], narrowed := true }
def FnExactBayDoUptoSaid : Prop := fnExactBayDoUptoRow.holds Tryd.pinned (OpenSpec.upto fnExactBayDoSpec)

/-- 'laws.FnExactBayRun', WHERE WHAT IT READS IS OF BULK AT MOST 1048576: true; the input reads as it did. -/
def fnExactBayRunUptoRow : OpenClaim := { program := "ytapbmpodimdkpaadoor", sum := "04cf8c33fea28ec43bc82a4c0936910f356d40d284fcba00d4366f777511a957", func := "loop.example/powercontrol/laws.FnExactBayRun", spec := "fnExactBayRun", named := ["loop.example/powercontrol/impl.mustBeOpen"], plainKeys := false, apart := false, laid := [("loop.example/powercontrol/impl.mustBeOpen", laid_loop_example_powercontrol_impl_mustBeOpen)], narrowed := true }
def FnExactBayRunUptoSaid : Prop := fnExactBayRunUptoRow.holds Tryd.pinned (OpenSpec.upto fnExactBayRunSpec)

/-- 'laws.FnExactBayPlan', WHERE WHAT IT READS IS OF BULK AT MOST 1048576: true; the input reads as it did. -/
def fnExactBayPlanUptoRow : OpenClaim := { program := "ytapbmpodimdkpaadoor", sum := "04cf8c33fea28ec43bc82a4c0936910f356d40d284fcba00d4366f777511a957", func := "loop.example/powercontrol/laws.FnExactBayPlan", spec := "fnExactBayPlan", unfollowed := true, recurses := true, named := ["loop.example/powercontrol/impl.mustBeOpen"], plainKeys := false, apart := false, laid := [("loop.example/powercontrol/impl.mustBeOpen", laid_loop_example_powercontrol_impl_mustBeOpen)], narrowed := true }
def FnExactBayPlanUptoSaid : Prop := fnExactBayPlanUptoRow.holds Tryd.pinned (OpenSpec.upto fnExactBayPlanSpec)

end Rows
end Go.Proofs.YtapbmpodimdkpaaDoor
