/-
  No cell of these rows narrows 'for every input' (looked for: loops, veiled, ifaces, maps, wideKeys, modest, calm, conditions, laid).
  DERIVED. THE GIVEN ROWS OF THIS SEAT. 5 by the template 'for every input the law returns true; each argument reads behind the call as it read before'; 0 by the template 'total and deterministic' (their statements: YtobbmnbkjeoheaaTotals.lean).
  GIVEN WITH THE SEED: the statements are not yours to turn. If you find one false, say at which input.
  Laid BY PROGRAM, IN A SANDBOX (cutbox-rows.mjs): the forced cells as the released guide's own fill.sh prints them over the translation 772653837740cc4e… (all of the seat's roots in one cut). By AI agents, Wed Nov 11 2026. No macro, syntax, notation, axiom, sorry.
-/
import Derived.Test.YtobbmnbkjeoheaaChecked
import GoSem.Claim
import GoSem.ClaimJoined
import GoSem.ClaimMapViews
import Derived.JoinedTies
import Derived.KernelRfl
namespace Go.Proofs.Ytobbmnbkjeoheaa
/- THE CELL 'sum', in the pinned program and in every row, IS THE sha256 OF THE DUMP (.gsa) THAT YtobbmnbkjeoheaaProg.lean LOADS. Nothing in Lean hashes anything: it is a label: what it is worth is what the hold of that sum in a sandbox is worth. -/
noncomputable def Try.pinned : Pinned := { name := "ytobbmnbkjeoheaa", sum := "772653837740cc4ec297eec9c7a421b1b562809185ef59c926de2f08ae4b1dcd", checked := Try.checked }
namespace Rows
def none {H : Type} : Left H := { results := [], args := [] }

/-- 'laws.FnExactBusesValid': WHATEVER THE INPUT: true; the input reads as it did. -/
def fnExactBusesValidSpec : ChangeSpec := { name := "fnExactBusesValid", fn := fun _ => fun
  | [d1, d2] => { results := [.lit (.bool true)], args := [d1, d2] }
  | _ => none }
def fnExactBusesValidRow : OpenClaim := { program := "ytobbmnbkjeoheaa", sum := "772653837740cc4ec297eec9c7a421b1b562809185ef59c926de2f08ae4b1dcd", func := "loop.example/powercontrol/laws.FnExactBusesValid", spec := "fnExactBusesValid", apart := false }
def FnExactBusesValidSaid : Prop := fnExactBusesValidRow.holds Try.pinned (OpenSpec.ofChange fnExactBusesValidSpec)

/-- ITS FALSE NEIGHBOUR: 'it returns false'. Refute it at one input. -/
def fnExactBusesValidWrong : ChangeSpec := { name := "fnExactBusesValid", fn := fun _ => fun
  | [d1, d2] => { results := [.lit (.bool false)], args := [d1, d2] }
  | _ => none }
def FnExactBusesValidWrongFalsely : Prop := fnExactBusesValidRow.holds Try.pinned (OpenSpec.ofChange fnExactBusesValidWrong)

/-- 'laws.FnExactIslandFeed': WHATEVER THE INPUT: true; the input reads as it did. -/
def fnExactIslandFeedSpec : ChangeSpec := { name := "fnExactIslandFeed", fn := fun _ => fun
  | [d1, d2, d3, d4] => { results := [.lit (.bool true)], args := [d1, d2, d3, d4] }
  | _ => none }
def fnExactIslandFeedRow : OpenClaim := { program := "ytobbmnbkjeoheaa", sum := "772653837740cc4ec297eec9c7a421b1b562809185ef59c926de2f08ae4b1dcd", func := "loop.example/powercontrol/laws.FnExactIslandFeed", spec := "fnExactIslandFeed", apart := false }
def FnExactIslandFeedSaid : Prop := fnExactIslandFeedRow.holds Try.pinned (OpenSpec.ofChange fnExactIslandFeedSpec)

/-- ITS FALSE NEIGHBOUR: 'it returns false'. Refute it at one input. -/
def fnExactIslandFeedWrong : ChangeSpec := { name := "fnExactIslandFeed", fn := fun _ => fun
  | [d1, d2, d3, d4] => { results := [.lit (.bool false)], args := [d1, d2, d3, d4] }
  | _ => none }
def FnExactIslandFeedWrongFalsely : Prop := fnExactIslandFeedRow.holds Try.pinned (OpenSpec.ofChange fnExactIslandFeedWrong)

/-- 'laws.FnExactIslandLoad': WHATEVER THE INPUT: true; the input reads as it did. -/
def fnExactIslandLoadSpec : ChangeSpec := { name := "fnExactIslandLoad", fn := fun _ => fun
  | [d1, d2, d3, d4] => { results := [.lit (.bool true)], args := [d1, d2, d3, d4] }
  | _ => none }
def fnExactIslandLoadRow : OpenClaim := { program := "ytobbmnbkjeoheaa", sum := "772653837740cc4ec297eec9c7a421b1b562809185ef59c926de2f08ae4b1dcd", func := "loop.example/powercontrol/laws.FnExactIslandLoad", spec := "fnExactIslandLoad", apart := false }
def FnExactIslandLoadSaid : Prop := fnExactIslandLoadRow.holds Try.pinned (OpenSpec.ofChange fnExactIslandLoadSpec)

/-- ITS FALSE NEIGHBOUR: 'it returns false'. Refute it at one input. -/
def fnExactIslandLoadWrong : ChangeSpec := { name := "fnExactIslandLoad", fn := fun _ => fun
  | [d1, d2, d3, d4] => { results := [.lit (.bool false)], args := [d1, d2, d3, d4] }
  | _ => none }
def FnExactIslandLoadWrongFalsely : Prop := fnExactIslandLoadRow.holds Try.pinned (OpenSpec.ofChange fnExactIslandLoadWrong)

/-- 'laws.FnExactAliveBuses': WHATEVER THE INPUT: true; the input reads as it did. -/
def fnExactAliveBusesSpec : ChangeSpec := { name := "fnExactAliveBuses", fn := fun _ => fun
  | [d1, d2, d3] => { results := [.lit (.bool true)], args := [d1, d2, d3] }
  | _ => none }
def fnExactAliveBusesRow : OpenClaim := { program := "ytobbmnbkjeoheaa", sum := "772653837740cc4ec297eec9c7a421b1b562809185ef59c926de2f08ae4b1dcd", func := "loop.example/powercontrol/laws.FnExactAliveBuses", spec := "fnExactAliveBuses", apart := false }
def FnExactAliveBusesSaid : Prop := fnExactAliveBusesRow.holds Try.pinned (OpenSpec.ofChange fnExactAliveBusesSpec)

/-- ITS FALSE NEIGHBOUR: 'it returns false'. Refute it at one input. -/
def fnExactAliveBusesWrong : ChangeSpec := { name := "fnExactAliveBuses", fn := fun _ => fun
  | [d1, d2, d3] => { results := [.lit (.bool false)], args := [d1, d2, d3] }
  | _ => none }
def FnExactAliveBusesWrongFalsely : Prop := fnExactAliveBusesRow.holds Try.pinned (OpenSpec.ofChange fnExactAliveBusesWrong)

/-- 'laws.FnExactServedLoad': WHATEVER THE INPUT: true; the input reads as it did. -/
def fnExactServedLoadSpec : ChangeSpec := { name := "fnExactServedLoad", fn := fun _ => fun
  | [d1, d2, d3] => { results := [.lit (.bool true)], args := [d1, d2, d3] }
  | _ => none }
def fnExactServedLoadRow : OpenClaim := { program := "ytobbmnbkjeoheaa", sum := "772653837740cc4ec297eec9c7a421b1b562809185ef59c926de2f08ae4b1dcd", func := "loop.example/powercontrol/laws.FnExactServedLoad", spec := "fnExactServedLoad", apart := false }
def FnExactServedLoadSaid : Prop := fnExactServedLoadRow.holds Try.pinned (OpenSpec.ofChange fnExactServedLoadSpec)

/-- ITS FALSE NEIGHBOUR: 'it returns false'. Refute it at one input. -/
def fnExactServedLoadWrong : ChangeSpec := { name := "fnExactServedLoad", fn := fun _ => fun
  | [d1, d2, d3] => { results := [.lit (.bool false)], args := [d1, d2, d3] }
  | _ => none }
def FnExactServedLoadWrongFalsely : Prop := fnExactServedLoadRow.holds Try.pinned (OpenSpec.ofChange fnExactServedLoadWrong)

/- THE SECOND FORM. 'bulk': how many values and letters a reading holds, each counted each time it is reached (what is shared counts as often as it is met; a slice's spare places count too). A statement '..UptoSaid' is the law's where the arguments, and the package variables that the reading takes, are together of bulk at most 1048576: NARROWER than '..Said'. Prove '..Said' where nothing that the law and all that it calls make is longer than what came in: it says more and counts as full. Else prove '..UptoSaid'. A law counts once. -/
mutual
def uptoBulk {H : Type} : DataW H → Nat
  | .lit (.string bytes) => bytes.length + 1
  | .lit _ => 1
  | .nil => 1
  | .ptr d => uptoBulk d + 1
  | .slice elems spare => uptoBulkAll elems + uptoBulkAll spare + 1
  | .agg parts => uptoBulkAll parts + 1
  | .iface _ d => uptoBulk d + 1
  | .map entries => uptoBulkEntries entries + 1
  | .held _ => 1
def uptoBulkAll {H : Type} : List (DataW H) → Nat
  | [] => 0
  | d :: r => uptoBulk d + uptoBulkAll r
def uptoBulkEntries {H : Type} : List (Lit × DataW H) → Nat
  | [] => 0
  | x :: r => uptoBulkEntry x + uptoBulkEntries r
def uptoBulkEntry {H : Type} : Lit × DataW H → Nat
  | (.string bytes, d) => bytes.length + uptoBulk d + 1
  | (_, d) => uptoBulk d + 1
 end
def uptoSmall : (H : Type) → List (DataW H) → Bool := fun _ ds => decide (uptoBulkAll ds ≤ 1048576)
def OpenSpec.upto (s : _root_.Go.ChangeSpec) : _root_.Go.OpenSpec := { _root_.Go.OpenSpec.ofChange s with cond := some uptoSmall }

/-- 'laws.FnExactBusesValid', WHERE WHAT IT READS IS OF BULK AT MOST 1048576: true; the input reads as it did. -/
def fnExactBusesValidUptoRow : OpenClaim := { program := "ytobbmnbkjeoheaa", sum := "772653837740cc4ec297eec9c7a421b1b562809185ef59c926de2f08ae4b1dcd", func := "loop.example/powercontrol/laws.FnExactBusesValid", spec := "fnExactBusesValid", apart := false, narrowed := true }
def FnExactBusesValidUptoSaid : Prop := fnExactBusesValidUptoRow.holds Try.pinned (OpenSpec.upto fnExactBusesValidSpec)

/-- 'laws.FnExactIslandFeed', WHERE WHAT IT READS IS OF BULK AT MOST 1048576: true; the input reads as it did. -/
def fnExactIslandFeedUptoRow : OpenClaim := { program := "ytobbmnbkjeoheaa", sum := "772653837740cc4ec297eec9c7a421b1b562809185ef59c926de2f08ae4b1dcd", func := "loop.example/powercontrol/laws.FnExactIslandFeed", spec := "fnExactIslandFeed", apart := false, narrowed := true }
def FnExactIslandFeedUptoSaid : Prop := fnExactIslandFeedUptoRow.holds Try.pinned (OpenSpec.upto fnExactIslandFeedSpec)

/-- 'laws.FnExactIslandLoad', WHERE WHAT IT READS IS OF BULK AT MOST 1048576: true; the input reads as it did. -/
def fnExactIslandLoadUptoRow : OpenClaim := { program := "ytobbmnbkjeoheaa", sum := "772653837740cc4ec297eec9c7a421b1b562809185ef59c926de2f08ae4b1dcd", func := "loop.example/powercontrol/laws.FnExactIslandLoad", spec := "fnExactIslandLoad", apart := false, narrowed := true }
def FnExactIslandLoadUptoSaid : Prop := fnExactIslandLoadUptoRow.holds Try.pinned (OpenSpec.upto fnExactIslandLoadSpec)

/-- 'laws.FnExactAliveBuses', WHERE WHAT IT READS IS OF BULK AT MOST 1048576: true; the input reads as it did. -/
def fnExactAliveBusesUptoRow : OpenClaim := { program := "ytobbmnbkjeoheaa", sum := "772653837740cc4ec297eec9c7a421b1b562809185ef59c926de2f08ae4b1dcd", func := "loop.example/powercontrol/laws.FnExactAliveBuses", spec := "fnExactAliveBuses", apart := false, narrowed := true }
def FnExactAliveBusesUptoSaid : Prop := fnExactAliveBusesUptoRow.holds Try.pinned (OpenSpec.upto fnExactAliveBusesSpec)

/-- 'laws.FnExactServedLoad', WHERE WHAT IT READS IS OF BULK AT MOST 1048576: true; the input reads as it did. -/
def fnExactServedLoadUptoRow : OpenClaim := { program := "ytobbmnbkjeoheaa", sum := "772653837740cc4ec297eec9c7a421b1b562809185ef59c926de2f08ae4b1dcd", func := "loop.example/powercontrol/laws.FnExactServedLoad", spec := "fnExactServedLoad", apart := false, narrowed := true }
def FnExactServedLoadUptoSaid : Prop := fnExactServedLoadUptoRow.holds Try.pinned (OpenSpec.upto fnExactServedLoadSpec)

end Rows
end Go.Proofs.Ytobbmnbkjeoheaa
