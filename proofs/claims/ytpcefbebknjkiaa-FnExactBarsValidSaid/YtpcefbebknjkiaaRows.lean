/-
  No cell of these rows narrows 'for every input' (looked for: loops, veiled, ifaces, maps, wideKeys, modest, calm, conditions, laid).
  DERIVED. THE GIVEN ROWS OF THIS SEAT. 5 by the template 'for every input the law returns true; each argument reads behind the call as it read before'; 0 by the template 'total and deterministic' (their statements: YtpcefbebknjkiaaTotals.lean).
  GIVEN WITH THE SEED: the statements are not yours to turn. If you find one false, say at which input.
  Laid BY PROGRAM, IN A SANDBOX (cutbox-rows.mjs): the forced cells as the released guide's own fill.sh prints them over the translation a1257b90c88879db… (all of the seat's roots in one cut). By AI agents, Wed Nov 11 2026. No macro, syntax, notation, axiom, sorry.
-/
import Derived.Test.YtpcefbebknjkiaaChecked
import GoSem.Claim
import GoSem.ClaimJoined
import GoSem.ClaimMapViews
import Derived.JoinedTies
import Derived.KernelRfl
namespace Go.Proofs.Ytpcefbebknjkiaa
/- THE CELL 'sum', in the pinned program and in every row, IS THE sha256 OF THE DUMP (.gsa) THAT YtpcefbebknjkiaaProg.lean LOADS. Nothing in Lean hashes anything: it is a label: what it is worth is what the hold of that sum in a sandbox is worth. -/
noncomputable def Try.pinned : Pinned := { name := "ytpcefbebknjkiaa", sum := "a1257b90c88879db7d62f6efb3e7d6d02f930a05dbc144d598ffefcd762f475f", checked := Try.checked }
namespace Rows
def none {H : Type} : Left H := { results := [], args := [] }

/-- 'laws.FnExactBarsValid': WHATEVER THE INPUT: true; the input reads as it did. -/
def fnExactBarsValidSpec : ChangeSpec := { name := "fnExactBarsValid", fn := fun _ => fun
  | [d] => { results := [.lit (.bool true)], args := [d] }
  | _ => none }
def fnExactBarsValidRow : OpenClaim := { program := "ytpcefbebknjkiaa", sum := "a1257b90c88879db7d62f6efb3e7d6d02f930a05dbc144d598ffefcd762f475f", func := "loop.example/powercontrol/laws.FnExactBarsValid", spec := "fnExactBarsValid", apart := false }
def FnExactBarsValidSaid : Prop := fnExactBarsValidRow.holds Try.pinned (OpenSpec.ofChange fnExactBarsValidSpec)

/-- ITS FALSE NEIGHBOUR: 'it returns false'. Refute it at one input. -/
def fnExactBarsValidWrong : ChangeSpec := { name := "fnExactBarsValid", fn := fun _ => fun
  | [d] => { results := [.lit (.bool false)], args := [d] }
  | _ => none }
def FnExactBarsValidWrongFalsely : Prop := fnExactBarsValidRow.holds Try.pinned (OpenSpec.ofChange fnExactBarsValidWrong)

/-- 'laws.FnExactBarsDo': WHATEVER THE INPUT: true; the input reads as it did. -/
def fnExactBarsDoSpec : ChangeSpec := { name := "fnExactBarsDo", fn := fun _ => fun
  | [d1, d2] => { results := [.lit (.bool true)], args := [d1, d2] }
  | _ => none }
def fnExactBarsDoRow : OpenClaim := { program := "ytpcefbebknjkiaa", sum := "a1257b90c88879db7d62f6efb3e7d6d02f930a05dbc144d598ffefcd762f475f", func := "loop.example/powercontrol/laws.FnExactBarsDo", spec := "fnExactBarsDo", apart := false }
def FnExactBarsDoSaid : Prop := fnExactBarsDoRow.holds Try.pinned (OpenSpec.ofChange fnExactBarsDoSpec)

/-- ITS FALSE NEIGHBOUR: 'it returns false'. Refute it at one input. -/
def fnExactBarsDoWrong : ChangeSpec := { name := "fnExactBarsDo", fn := fun _ => fun
  | [d1, d2] => { results := [.lit (.bool false)], args := [d1, d2] }
  | _ => none }
def FnExactBarsDoWrongFalsely : Prop := fnExactBarsDoRow.holds Try.pinned (OpenSpec.ofChange fnExactBarsDoWrong)

/-- 'laws.FnExactBarsRun': WHATEVER THE INPUT: true; the input reads as it did. -/
def fnExactBarsRunSpec : ChangeSpec := { name := "fnExactBarsRun", fn := fun _ => fun
  | [d1, d2] => { results := [.lit (.bool true)], args := [d1, d2] }
  | _ => none }
def fnExactBarsRunRow : OpenClaim := { program := "ytpcefbebknjkiaa", sum := "a1257b90c88879db7d62f6efb3e7d6d02f930a05dbc144d598ffefcd762f475f", func := "loop.example/powercontrol/laws.FnExactBarsRun", spec := "fnExactBarsRun", apart := false }
def FnExactBarsRunSaid : Prop := fnExactBarsRunRow.holds Try.pinned (OpenSpec.ofChange fnExactBarsRunSpec)

/-- ITS FALSE NEIGHBOUR: 'it returns false'. Refute it at one input. -/
def fnExactBarsRunWrong : ChangeSpec := { name := "fnExactBarsRun", fn := fun _ => fun
  | [d1, d2] => { results := [.lit (.bool false)], args := [d1, d2] }
  | _ => none }
def FnExactBarsRunWrongFalsely : Prop := fnExactBarsRunRow.holds Try.pinned (OpenSpec.ofChange fnExactBarsRunWrong)

/-- 'laws.FnExactMoveDeeds': WHATEVER THE INPUT: true; the input reads as it did. -/
def fnExactMoveDeedsSpec : ChangeSpec := { name := "fnExactMoveDeeds", fn := fun _ => fun
  | [d1, d2, d3] => { results := [.lit (.bool true)], args := [d1, d2, d3] }
  | _ => none }
def fnExactMoveDeedsRow : OpenClaim := { program := "ytpcefbebknjkiaa", sum := "a1257b90c88879db7d62f6efb3e7d6d02f930a05dbc144d598ffefcd762f475f", func := "loop.example/powercontrol/laws.FnExactMoveDeeds", spec := "fnExactMoveDeeds", apart := false }
def FnExactMoveDeedsSaid : Prop := fnExactMoveDeedsRow.holds Try.pinned (OpenSpec.ofChange fnExactMoveDeedsSpec)

/-- ITS FALSE NEIGHBOUR: 'it returns false'. Refute it at one input. -/
def fnExactMoveDeedsWrong : ChangeSpec := { name := "fnExactMoveDeeds", fn := fun _ => fun
  | [d1, d2, d3] => { results := [.lit (.bool false)], args := [d1, d2, d3] }
  | _ => none }
def FnExactMoveDeedsWrongFalsely : Prop := fnExactMoveDeedsRow.holds Try.pinned (OpenSpec.ofChange fnExactMoveDeedsWrong)

/-- 'laws.FnExactEmptyDeeds': WHATEVER THE INPUT: true; the input reads as it did. -/
def fnExactEmptyDeedsSpec : ChangeSpec := { name := "fnExactEmptyDeeds", fn := fun _ => fun
  | [d1, d2] => { results := [.lit (.bool true)], args := [d1, d2] }
  | _ => none }
def fnExactEmptyDeedsRow : OpenClaim := { program := "ytpcefbebknjkiaa", sum := "a1257b90c88879db7d62f6efb3e7d6d02f930a05dbc144d598ffefcd762f475f", func := "loop.example/powercontrol/laws.FnExactEmptyDeeds", spec := "fnExactEmptyDeeds", apart := false }
def FnExactEmptyDeedsSaid : Prop := fnExactEmptyDeedsRow.holds Try.pinned (OpenSpec.ofChange fnExactEmptyDeedsSpec)

/-- ITS FALSE NEIGHBOUR: 'it returns false'. Refute it at one input. -/
def fnExactEmptyDeedsWrong : ChangeSpec := { name := "fnExactEmptyDeeds", fn := fun _ => fun
  | [d1, d2] => { results := [.lit (.bool false)], args := [d1, d2] }
  | _ => none }
def FnExactEmptyDeedsWrongFalsely : Prop := fnExactEmptyDeedsRow.holds Try.pinned (OpenSpec.ofChange fnExactEmptyDeedsWrong)

/- THE SECOND FORM. 'bulk': how many values and letters a reading holds, each counted each time it is reached (what is shared counts as often as it is met; a slice's spare places count too). A statement '..UptoSaid' is the law's where the arguments, and the package variables that the reading takes, are together of bulk at most 1048576: NARROWER than '..Said'. Prove '..Said' where nothing that the law and all that it calls make is longer than what came in: it says more and counts as full. Else prove '..UptoSaid'. A law counts once. -/
mutual
def uptoBulk {H : Type} : DataW H → Nat
  | .lit (.string bytes) => bytes.length + 1
  | .lit _ => 1
  | .nil => 1
  | .ptr d => uptoBulk d + 1
  | .slice elems spare => uptoBulkAll elems + uptoBulkAll spare + 1
  | .agg parts => uptoBulkAll parts + 1
  | .iface _ d => uptoBulk d + 1
  | .map entries => uptoBulkEntries entries + 1
  | .held _ => 1
def uptoBulkAll {H : Type} : List (DataW H) → Nat
  | [] => 0
  | d :: r => uptoBulk d + uptoBulkAll r
def uptoBulkEntries {H : Type} : List (Lit × DataW H) → Nat
  | [] => 0
  | x :: r => uptoBulkEntry x + uptoBulkEntries r
def uptoBulkEntry {H : Type} : Lit × DataW H → Nat
  | (.string bytes, d) => bytes.length + uptoBulk d + 1
  | (_, d) => uptoBulk d + 1
 end
def uptoSmall : (H : Type) → List (DataW H) → Bool := fun _ ds => decide (uptoBulkAll ds ≤ 1048576)
def OpenSpec.upto (s : _root_.Go.ChangeSpec) : _root_.Go.OpenSpec := { _root_.Go.OpenSpec.ofChange s with cond := some uptoSmall }

/-- 'laws.FnExactBarsValid', WHERE WHAT IT READS IS OF BULK AT MOST 1048576: true; the input reads as it did. -/
def fnExactBarsValidUptoRow : OpenClaim := { program := "ytpcefbebknjkiaa", sum := "a1257b90c88879db7d62f6efb3e7d6d02f930a05dbc144d598ffefcd762f475f", func := "loop.example/powercontrol/laws.FnExactBarsValid", spec := "fnExactBarsValid", apart := false, narrowed := true }
def FnExactBarsValidUptoSaid : Prop := fnExactBarsValidUptoRow.holds Try.pinned (OpenSpec.upto fnExactBarsValidSpec)

/-- 'laws.FnExactBarsDo', WHERE WHAT IT READS IS OF BULK AT MOST 1048576: true; the input reads as it did. -/
def fnExactBarsDoUptoRow : OpenClaim := { program := "ytpcefbebknjkiaa", sum := "a1257b90c88879db7d62f6efb3e7d6d02f930a05dbc144d598ffefcd762f475f", func := "loop.example/powercontrol/laws.FnExactBarsDo", spec := "fnExactBarsDo", apart := false, narrowed := true }
def FnExactBarsDoUptoSaid : Prop := fnExactBarsDoUptoRow.holds Try.pinned (OpenSpec.upto fnExactBarsDoSpec)

/-- 'laws.FnExactBarsRun', WHERE WHAT IT READS IS OF BULK AT MOST 1048576: true; the input reads as it did. -/
def fnExactBarsRunUptoRow : OpenClaim := { program := "ytpcefbebknjkiaa", sum := "a1257b90c88879db7d62f6efb3e7d6d02f930a05dbc144d598ffefcd762f475f", func := "loop.example/powercontrol/laws.FnExactBarsRun", spec := "fnExactBarsRun", apart := false, narrowed := true }
def FnExactBarsRunUptoSaid : Prop := fnExactBarsRunUptoRow.holds Try.pinned (OpenSpec.upto fnExactBarsRunSpec)

/-- 'laws.FnExactMoveDeeds', WHERE WHAT IT READS IS OF BULK AT MOST 1048576: true; the input reads as it did. -/
def fnExactMoveDeedsUptoRow : OpenClaim := { program := "ytpcefbebknjkiaa", sum := "a1257b90c88879db7d62f6efb3e7d6d02f930a05dbc144d598ffefcd762f475f", func := "loop.example/powercontrol/laws.FnExactMoveDeeds", spec := "fnExactMoveDeeds", apart := false, narrowed := true }
def FnExactMoveDeedsUptoSaid : Prop := fnExactMoveDeedsUptoRow.holds Try.pinned (OpenSpec.upto fnExactMoveDeedsSpec)

/-- 'laws.FnExactEmptyDeeds', WHERE WHAT IT READS IS OF BULK AT MOST 1048576: true; the input reads as it did. -/
def fnExactEmptyDeedsUptoRow : OpenClaim := { program := "ytpcefbebknjkiaa", sum := "a1257b90c88879db7d62f6efb3e7d6d02f930a05dbc144d598ffefcd762f475f", func := "loop.example/powercontrol/laws.FnExactEmptyDeeds", spec := "fnExactEmptyDeeds", apart := false, narrowed := true }
def FnExactEmptyDeedsUptoSaid : Prop := fnExactEmptyDeedsUptoRow.holds Try.pinned (OpenSpec.upto fnExactEmptyDeedsSpec)

end Rows
end Go.Proofs.Ytpcefbebknjkiaa
