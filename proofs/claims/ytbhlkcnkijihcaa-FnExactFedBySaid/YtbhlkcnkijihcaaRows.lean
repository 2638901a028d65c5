/-
  No cell of these rows narrows 'for every input' (looked for: loops, veiled, ifaces, maps, wideKeys, modest, calm, conditions, laid).
  DERIVED. THE GIVEN ROWS OF THIS SEAT. 8 by the template 'for every input the law returns true; each argument reads behind the call as it read before'; 0 by the template 'total and deterministic' (their statements: YtbhlkcnkijihcaaTotals.lean).
  GIVEN WITH THE SEED: the statements are not yours to turn. If you find one false, say at which input.
  Laid BY PROGRAM, IN A SANDBOX (cutbox-rows.mjs): the forced cells as the released guide's own fill.sh prints them over the translation 995fd758e8b5f62e… (all of the seat's roots in one cut). By AI agents, Wed Nov 11 2026. No macro, syntax, notation, axiom, sorry.
-/
import Derived.Test.YtbhlkcnkijihcaaChecked
import GoSem.Claim
import GoSem.ClaimJoined
import GoSem.ClaimMapViews
import Derived.JoinedTies
import Derived.KernelRfl
namespace Go.Proofs.Ytbhlkcnkijihcaa
/- THE CELL 'sum', in the pinned program and in every row, IS THE sha256 OF THE DUMP (.gsa) THAT YtbhlkcnkijihcaaProg.lean LOADS. Nothing in Lean hashes anything: it is a label: what it is worth is what the hold of that sum in a sandbox is worth. -/
noncomputable def Try.pinned : Pinned := { name := "ytbhlkcnkijihcaa", sum := "995fd758e8b5f62e064d51c1a0cadac9b6e7adf190278751c6edd9377ff50749", checked := Try.checked }
namespace Rows
def none {H : Type} : Left H := { results := [], args := [] }

/-- 'laws.FnExactFedBy': WHATEVER THE INPUT: true; the input reads as it did. -/
def fnExactFedBySpec : ChangeSpec := { name := "fnExactFedBy", fn := fun _ => fun
  | [d1, d2, d3, d4] => { results := [.lit (.bool true)], args := [d1, d2, d3, d4] }
  | _ => none }
def fnExactFedByRow : OpenClaim := { program := "ytbhlkcnkijihcaa", sum := "995fd758e8b5f62e064d51c1a0cadac9b6e7adf190278751c6edd9377ff50749", func := "loop.example/powercontrol/laws.FnExactFedBy", spec := "fnExactFedBy", unfollowed := true, recurses := true, apart := false }
def FnExactFedBySaid : Prop := fnExactFedByRow.holds Try.pinned (OpenSpec.ofChange fnExactFedBySpec)

/-- ITS FALSE NEIGHBOUR: 'it returns false'. Refute it at one input. -/
def fnExactFedByWrong : ChangeSpec := { name := "fnExactFedBy", fn := fun _ => fun
  | [d1, d2, d3, d4] => { results := [.lit (.bool false)], args := [d1, d2, d3, d4] }
  | _ => none }
def FnExactFedByWrongFalsely : Prop := fnExactFedByRow.holds Try.pinned (OpenSpec.ofChange fnExactFedByWrong)

/-- 'laws.FnExactParentLine': WHATEVER THE INPUT: true; the input reads as it did. -/
def fnExactParentLineSpec : ChangeSpec := { name := "fnExactParentLine", fn := fun _ => fun
  | [d1, d2, d3, d4] => { results := [.lit (.bool true)], args := [d1, d2, d3, d4] }
  | _ => none }
def fnExactParentLineRow : OpenClaim := { program := "ytbhlkcnkijihcaa", sum := "995fd758e8b5f62e064d51c1a0cadac9b6e7adf190278751c6edd9377ff50749", func := "loop.example/powercontrol/laws.FnExactParentLine", spec := "fnExactParentLine", unfollowed := true, recurses := true, apart := false }
def FnExactParentLineSaid : Prop := fnExactParentLineRow.holds Try.pinned (OpenSpec.ofChange fnExactParentLineSpec)

/-- ITS FALSE NEIGHBOUR: 'it returns false'. Refute it at one input. -/
def fnExactParentLineWrong : ChangeSpec := { name := "fnExactParentLine", fn := fun _ => fun
  | [d1, d2, d3, d4] => { results := [.lit (.bool false)], args := [d1, d2, d3, d4] }
  | _ => none }
def FnExactParentLineWrongFalsely : Prop := fnExactParentLineRow.holds Try.pinned (OpenSpec.ofChange fnExactParentLineWrong)

/-- 'laws.FnExactPathLines': WHATEVER THE INPUT: true; the input reads as it did. -/
def fnExactPathLinesSpec : ChangeSpec := { name := "fnExactPathLines", fn := fun _ => fun
  | [d1, d2, d3, d4] => { results := [.lit (.bool true)], args := [d1, d2, d3, d4] }
  | _ => none }
def fnExactPathLinesRow : OpenClaim := { program := "ytbhlkcnkijihcaa", sum := "995fd758e8b5f62e064d51c1a0cadac9b6e7adf190278751c6edd9377ff50749", func := "loop.example/powercontrol/laws.FnExactPathLines", spec := "fnExactPathLines", unfollowed := true, recurses := true, apart := false }
def FnExactPathLinesSaid : Prop := fnExactPathLinesRow.holds Try.pinned (OpenSpec.ofChange fnExactPathLinesSpec)

/-- ITS FALSE NEIGHBOUR: 'it returns false'. Refute it at one input. -/
def fnExactPathLinesWrong : ChangeSpec := { name := "fnExactPathLines", fn := fun _ => fun
  | [d1, d2, d3, d4] => { results := [.lit (.bool false)], args := [d1, d2, d3, d4] }
  | _ => none }
def FnExactPathLinesWrongFalsely : Prop := fnExactPathLinesRow.holds Try.pinned (OpenSpec.ofChange fnExactPathLinesWrong)

/-- 'laws.FnExactBelowLine': WHATEVER THE INPUT: true; the input reads as it did. -/
def fnExactBelowLineSpec : ChangeSpec := { name := "fnExactBelowLine", fn := fun _ => fun
  | [d1, d2, d3, d4] => { results := [.lit (.bool true)], args := [d1, d2, d3, d4] }
  | _ => none }
def fnExactBelowLineRow : OpenClaim := { program := "ytbhlkcnkijihcaa", sum := "995fd758e8b5f62e064d51c1a0cadac9b6e7adf190278751c6edd9377ff50749", func := "loop.example/powercontrol/laws.FnExactBelowLine", spec := "fnExactBelowLine", unfollowed := true, recurses := true, apart := false }
def FnExactBelowLineSaid : Prop := fnExactBelowLineRow.holds Try.pinned (OpenSpec.ofChange fnExactBelowLineSpec)

/-- ITS FALSE NEIGHBOUR: 'it returns false'. Refute it at one input. -/
def fnExactBelowLineWrong : ChangeSpec := { name := "fnExactBelowLine", fn := fun _ => fun
  | [d1, d2, d3, d4] => { results := [.lit (.bool false)], args := [d1, d2, d3, d4] }
  | _ => none }
def FnExactBelowLineWrongFalsely : Prop := fnExactBelowLineRow.holds Try.pinned (OpenSpec.ofChange fnExactBelowLineWrong)

/-- 'laws.FnExactLineFlow': WHATEVER THE INPUT: true; the input reads as it did. -/
def fnExactLineFlowSpec : ChangeSpec := { name := "fnExactLineFlow", fn := fun _ => fun
  | [d1, d2, d3, d4] => { results := [.lit (.bool true)], args := [d1, d2, d3, d4] }
  | _ => none }
def fnExactLineFlowRow : OpenClaim := { program := "ytbhlkcnkijihcaa", sum := "995fd758e8b5f62e064d51c1a0cadac9b6e7adf190278751c6edd9377ff50749", func := "loop.example/powercontrol/laws.FnExactLineFlow", spec := "fnExactLineFlow", unfollowed := true, recurses := true, apart := false }
def FnExactLineFlowSaid : Prop := fnExactLineFlowRow.holds Try.pinned (OpenSpec.ofChange fnExactLineFlowSpec)

/-- ITS FALSE NEIGHBOUR: 'it returns false'. Refute it at one input. -/
def fnExactLineFlowWrong : ChangeSpec := { name := "fnExactLineFlow", fn := fun _ => fun
  | [d1, d2, d3, d4] => { results := [.lit (.bool false)], args := [d1, d2, d3, d4] }
  | _ => none }
def FnExactLineFlowWrongFalsely : Prop := fnExactLineFlowRow.holds Try.pinned (OpenSpec.ofChange fnExactLineFlowWrong)

/-- 'laws.FnExactFeedFlow': WHATEVER THE INPUT: true; the input reads as it did. -/
def fnExactFeedFlowSpec : ChangeSpec := { name := "fnExactFeedFlow", fn := fun _ => fun
  | [d1, d2, d3, d4] => { results := [.lit (.bool true)], args := [d1, d2, d3, d4] }
  | _ => none }
def fnExactFeedFlowRow : OpenClaim := { program := "ytbhlkcnkijihcaa", sum := "995fd758e8b5f62e064d51c1a0cadac9b6e7adf190278751c6edd9377ff50749", func := "loop.example/powercontrol/laws.FnExactFeedFlow", spec := "fnExactFeedFlow", unfollowed := true, recurses := true, apart := false }
def FnExactFeedFlowSaid : Prop := fnExactFeedFlowRow.holds Try.pinned (OpenSpec.ofChange fnExactFeedFlowSpec)

/-- ITS FALSE NEIGHBOUR: 'it returns false'. Refute it at one input. -/
def fnExactFeedFlowWrong : ChangeSpec := { name := "fnExactFeedFlow", fn := fun _ => fun
  | [d1, d2, d3, d4] => { results := [.lit (.bool false)], args := [d1, d2, d3, d4] }
  | _ => none }
def FnExactFeedFlowWrongFalsely : Prop := fnExactFeedFlowRow.holds Try.pinned (OpenSpec.ofChange fnExactFeedFlowWrong)

/-- 'laws.FnExactOverloads': WHATEVER THE INPUT: true; the input reads as it did. -/
def fnExactOverloadsSpec : ChangeSpec := { name := "fnExactOverloads", fn := fun _ => fun
  | [d1, d2, d3] => { results := [.lit (.bool true)], args := [d1, d2, d3] }
  | _ => none }
def fnExactOverloadsRow : OpenClaim := { program := "ytbhlkcnkijihcaa", sum := "995fd758e8b5f62e064d51c1a0cadac9b6e7adf190278751c6edd9377ff50749", func := "loop.example/powercontrol/laws.FnExactOverloads", spec := "fnExactOverloads", unfollowed := true, recurses := true, apart := false }
def FnExactOverloadsSaid : Prop := fnExactOverloadsRow.holds Try.pinned (OpenSpec.ofChange fnExactOverloadsSpec)

/-- ITS FALSE NEIGHBOUR: 'it returns false'. Refute it at one input. -/
def fnExactOverloadsWrong : ChangeSpec := { name := "fnExactOverloads", fn := fun _ => fun
  | [d1, d2, d3] => { results := [.lit (.bool false)], args := [d1, d2, d3] }
  | _ => none }
def FnExactOverloadsWrongFalsely : Prop := fnExactOverloadsRow.holds Try.pinned (OpenSpec.ofChange fnExactOverloadsWrong)

/-- 'laws.FnExactNetGood': WHATEVER THE INPUT: true; the input reads as it did. -/
def fnExactNetGoodSpec : ChangeSpec := { name := "fnExactNetGood", fn := fun _ => fun
  | [d1, d2, d3] => { results := [.lit (.bool true)], args := [d1, d2, d3] }
  | _ => none }
def fnExactNetGoodRow : OpenClaim := { program := "ytbhlkcnkijihcaa", sum := "995fd758e8b5f62e064d51c1a0cadac9b6e7adf190278751c6edd9377ff50749", func := "loop.example/powercontrol/laws.FnExactNetGood", spec := "fnExactNetGood", unfollowed := true, recurses := true, apart := false }
def FnExactNetGoodSaid : Prop := fnExactNetGoodRow.holds Try.pinned (OpenSpec.ofChange fnExactNetGoodSpec)

/-- ITS FALSE NEIGHBOUR: 'it returns false'. Refute it at one input. -/
def fnExactNetGoodWrong : ChangeSpec := { name := "fnExactNetGood", fn := fun _ => fun
  | [d1, d2, d3] => { results := [.lit (.bool false)], args := [d1, d2, d3] }
  | _ => none }
def FnExactNetGoodWrongFalsely : Prop := fnExactNetGoodRow.holds Try.pinned (OpenSpec.ofChange fnExactNetGoodWrong)

/- THE SECOND FORM. 'bulk': how many values and letters a reading holds, each counted each time it is reached (what is shared counts as often as it is met; a slice's spare places count too). A statement '..UptoSaid' is the law's where the arguments, and the package variables that the reading takes, are together of bulk at most 1048576: NARROWER than '..Said'. Prove '..Said' where nothing that the law and all that it calls make is longer than what came in: it says more and counts as full. Else prove '..UptoSaid'. A law counts once. -/
mutual
def uptoBulk {H : Type} : DataW H → Nat
  | .lit (.string bytes) => bytes.length + 1
  | .lit _ => 1
  | .nil => 1
  | .ptr d => uptoBulk d + 1
  | .slice elems spare => uptoBulkAll elems + uptoBulkAll spare + 1
  | .agg parts => uptoBulkAll parts + 1
  | .iface _ d => uptoBulk d + 1
  | .map entries => uptoBulkEntries entries + 1
  | .held _ => 1
def uptoBulkAll {H : Type} : List (DataW H) → Nat
  | [] => 0
  | d :: r => uptoBulk d + uptoBulkAll r
def uptoBulkEntries {H : Type} : List (Lit × DataW H) → Nat
  | [] => 0
  | x :: r => uptoBulkEntry x + uptoBulkEntries r
def uptoBulkEntry {H : Type} : Lit × DataW H → Nat
  | (.string bytes, d) => bytes.length + uptoBulk d + 1
  | (_, d) => uptoBulk d + 1
 end
def uptoSmall : (H : Type) → List (DataW H) → Bool := fun _ ds => decide (uptoBulkAll ds ≤ 1048576)
def OpenSpec.upto (s : _root_.Go.ChangeSpec) : _root_.Go.OpenSpec := { _root_.Go.OpenSpec.ofChange s with cond := some uptoSmall }

/-- 'laws.FnExactFedBy', WHERE WHAT IT READS IS OF BULK AT MOST 1048576: true; the input reads as it did. -/
def fnExactFedByUptoRow : OpenClaim := { program := "ytbhlkcnkijihcaa", sum := "995fd758e8b5f62e064d51c1a0cadac9b6e7adf190278751c6edd9377ff50749", func := "loop.example/powercontrol/laws.FnExactFedBy", spec := "fnExactFedBy", unfollowed := true, recurses := true, apart := false, narrowed := true }
def FnExactFedByUptoSaid : Prop := fnExactFedByUptoRow.holds Try.pinned (OpenSpec.upto fnExactFedBySpec)

/-- 'laws.FnExactParentLine', WHERE WHAT IT READS IS OF BULK AT MOST 1048576: true; the input reads as it did. -/
def fnExactParentLineUptoRow : OpenClaim := { program := "ytbhlkcnkijihcaa", sum := "995fd758e8b5f62e064d51c1a0cadac9b6e7adf190278751c6edd9377ff50749", func := "loop.example/powercontrol/laws.FnExactParentLine", spec := "fnExactParentLine", unfollowed := true, recurses := true, apart := false, narrowed := true }
def FnExactParentLineUptoSaid : Prop := fnExactParentLineUptoRow.holds Try.pinned (OpenSpec.upto fnExactParentLineSpec)

/-- 'laws.FnExactPathLines', WHERE WHAT IT READS IS OF BULK AT MOST 1048576: true; the input reads as it did. -/
def fnExactPathLinesUptoRow : OpenClaim := { program := "ytbhlkcnkijihcaa", sum := "995fd758e8b5f62e064d51c1a0cadac9b6e7adf190278751c6edd9377ff50749", func := "loop.example/powercontrol/laws.FnExactPathLines", spec := "fnExactPathLines", unfollowed := true, recurses := true, apart := false, narrowed := true }
def FnExactPathLinesUptoSaid : Prop := fnExactPathLinesUptoRow.holds Try.pinned (OpenSpec.upto fnExactPathLinesSpec)

/-- 'laws.FnExactBelowLine', WHERE WHAT IT READS IS OF BULK AT MOST 1048576: true; the input reads as it did. -/
def fnExactBelowLineUptoRow : OpenClaim := { program := "ytbhlkcnkijihcaa", sum := "995fd758e8b5f62e064d51c1a0cadac9b6e7adf190278751c6edd9377ff50749", func := "loop.example/powercontrol/laws.FnExactBelowLine", spec := "fnExactBelowLine", unfollowed := true, recurses := true, apart := false, narrowed := true }
def FnExactBelowLineUptoSaid : Prop := fnExactBelowLineUptoRow.holds Try.pinned (OpenSpec.upto fnExactBelowLineSpec)

/-- 'laws.FnExactLineFlow', WHERE WHAT IT READS IS OF BULK AT MOST 1048576: true; the input reads as it did. -/
def fnExactLineFlowUptoRow : OpenClaim := { program := "ytbhlkcnkijihcaa", sum := "995fd758e8b5f62e064d51c1a0cadac9b6e7adf190278751c6edd9377ff50749", func := "loop.example/powercontrol/laws.FnExactLineFlow", spec := "fnExactLineFlow", unfollowed := true, recurses := true, apart := false, narrowed := true }
def FnExactLineFlowUptoSaid : Prop := fnExactLineFlowUptoRow.holds Try.pinned (OpenSpec.upto fnExactLineFlowSpec)

/-- 'laws.FnExactFeedFlow', WHERE WHAT IT READS IS OF BULK AT MOST 1048576: true; the input reads as it did. -/
def fnExactFeedFlowUptoRow : OpenClaim := { program := "ytbhlkcnkijihcaa", sum := "995fd758e8b5f62e064d51c1a0cadac9b6e7adf190278751c6edd9377ff50749", func := "loop.example/powercontrol/laws.FnExactFeedFlow", spec := "fnExactFeedFlow", unfollowed := true, recurses := true, apart := false, narrowed := true }
def FnExactFeedFlowUptoSaid : Prop := fnExactFeedFlowUptoRow.holds Try.pinned (OpenSpec.upto fnExactFeedFlowSpec)

/-- 'laws.FnExactOverloads', WHERE WHAT IT READS IS OF BULK AT MOST 1048576: true; the input reads as it did. -/
def fnExactOverloadsUptoRow : OpenClaim := { program := "ytbhlkcnkijihcaa", sum := "995fd758e8b5f62e064d51c1a0cadac9b6e7adf190278751c6edd9377ff50749", func := "loop.example/powercontrol/laws.FnExactOverloads", spec := "fnExactOverloads", unfollowed := true, recurses := true, apart := false, narrowed := true }
def FnExactOverloadsUptoSaid : Prop := fnExactOverloadsUptoRow.holds Try.pinned (OpenSpec.upto fnExactOverloadsSpec)

/-- 'laws.FnExactNetGood', WHERE WHAT IT READS IS OF BULK AT MOST 1048576: true; the input reads as it did. -/
def fnExactNetGoodUptoRow : OpenClaim := { program := "ytbhlkcnkijihcaa", sum := "995fd758e8b5f62e064d51c1a0cadac9b6e7adf190278751c6edd9377ff50749", func := "loop.example/powercontrol/laws.FnExactNetGood", spec := "fnExactNetGood", unfollowed := true, recurses := true, apart := false, narrowed := true }
def FnExactNetGoodUptoSaid : Prop := fnExactNetGoodUptoRow.holds Try.pinned (OpenSpec.upto fnExactNetGoodSpec)

end Rows
end Go.Proofs.Ytbhlkcnkijihcaa
