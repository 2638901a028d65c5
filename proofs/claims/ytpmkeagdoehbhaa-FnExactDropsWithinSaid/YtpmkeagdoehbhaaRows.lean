/-
  No cell of these rows narrows 'for every input' (looked for: loops, veiled, ifaces, maps, wideKeys, modest, calm, conditions, laid).
  DERIVED. THE GIVEN ROWS OF THIS SEAT. 4 by the template 'for every input the law returns true; each argument reads behind the call as it read before'; 0 by the template 'total and deterministic' (their statements: YtpmkeagdoehbhaaTotals.lean).
  GIVEN WITH THE SEED: the statements are not yours to turn. If you find one false, say at which input.
  Laid BY PROGRAM, IN A SANDBOX (cutbox-rows.mjs): the forced cells as the released guide's own fill.sh prints them over the translation 3bbe0eca241af4ed… (all of the seat's roots in one cut). By AI agents, Wed Nov 11 2026. No macro, syntax, notation, axiom, sorry.
-/
import Derived.Test.YtpmkeagdoehbhaaChecked
import GoSem.Claim
import GoSem.ClaimJoined
import GoSem.ClaimMapViews
import Derived.JoinedTies
import Derived.KernelRfl
namespace Go.Proofs.Ytpmkeagdoehbhaa
/- THE CELL 'sum', in the pinned program and in every row, IS THE sha256 OF THE DUMP (.gsa) THAT YtpmkeagdoehbhaaProg.lean LOADS. Nothing in Lean hashes anything: it is a label: what it is worth is what the hold of that sum in a sandbox is worth. -/
noncomputable def Try.pinned : Pinned := { name := "ytpmkeagdoehbhaa", sum := "3bbe0eca241af4ed81cea92bff5b3aab7ada0339f9fe4a76e970e2d8d35430bd", checked := Try.checked }
namespace Rows
def none {H : Type} : Left H := { results := [], args := [] }

/-- 'laws.FnExactDropAt': WHATEVER THE INPUT: true; the input reads as it did. -/
def fnExactDropAtSpec : ChangeSpec := { name := "fnExactDropAt", fn := fun _ => fun
  | [d1, d2, d3, d4, d5] => { results := [.lit (.bool true)], args := [d1, d2, d3, d4, d5] }
  | _ => none }
def fnExactDropAtRow : OpenClaim := { program := "ytpmkeagdoehbhaa", sum := "3bbe0eca241af4ed81cea92bff5b3aab7ada0339f9fe4a76e970e2d8d35430bd", func := "loop.example/powercontrol/laws.FnExactDropAt", spec := "fnExactDropAt", unfollowed := true, recurses := true, apart := false }
def FnExactDropAtSaid : Prop := fnExactDropAtRow.holds Try.pinned (OpenSpec.ofChange fnExactDropAtSpec)

/-- ITS FALSE NEIGHBOUR: 'it returns false'. Refute it at one input. -/
def fnExactDropAtWrong : ChangeSpec := { name := "fnExactDropAt", fn := fun _ => fun
  | [d1, d2, d3, d4, d5] => { results := [.lit (.bool false)], args := [d1, d2, d3, d4, d5] }
  | _ => none }
def FnExactDropAtWrongFalsely : Prop := fnExactDropAtRow.holds Try.pinned (OpenSpec.ofChange fnExactDropAtWrong)

/-- 'laws.FnExactWorstBus': WHATEVER THE INPUT: true; the input reads as it did. -/
def fnExactWorstBusSpec : ChangeSpec := { name := "fnExactWorstBus", fn := fun _ => fun
  | [d1, d2, d3, d4] => { results := [.lit (.bool true)], args := [d1, d2, d3, d4] }
  | _ => none }
def fnExactWorstBusRow : OpenClaim := { program := "ytpmkeagdoehbhaa", sum := "3bbe0eca241af4ed81cea92bff5b3aab7ada0339f9fe4a76e970e2d8d35430bd", func := "loop.example/powercontrol/laws.FnExactWorstBus", spec := "fnExactWorstBus", unfollowed := true, recurses := true, apart := false }
def FnExactWorstBusSaid : Prop := fnExactWorstBusRow.holds Try.pinned (OpenSpec.ofChange fnExactWorstBusSpec)

/-- ITS FALSE NEIGHBOUR: 'it returns false'. Refute it at one input. -/
def fnExactWorstBusWrong : ChangeSpec := { name := "fnExactWorstBus", fn := fun _ => fun
  | [d1, d2, d3, d4] => { results := [.lit (.bool false)], args := [d1, d2, d3, d4] }
  | _ => none }
def FnExactWorstBusWrongFalsely : Prop := fnExactWorstBusRow.holds Try.pinned (OpenSpec.ofChange fnExactWorstBusWrong)

/-- 'laws.FnExactDropsWithin': WHATEVER THE INPUT: true; the input reads as it did. -/
def fnExactDropsWithinSpec : ChangeSpec := { name := "fnExactDropsWithin", fn := fun _ => fun
  | [d1, d2, d3, d4, d5] => { results := [.lit (.bool true)], args := [d1, d2, d3, d4, d5] }
  | _ => none }
def fnExactDropsWithinRow : OpenClaim := { program := "ytpmkeagdoehbhaa", sum := "3bbe0eca241af4ed81cea92bff5b3aab7ada0339f9fe4a76e970e2d8d35430bd", func := "loop.example/powercontrol/laws.FnExactDropsWithin", spec := "fnExactDropsWithin", unfollowed := true, recurses := true, apart := false }
def FnExactDropsWithinSaid : Prop := fnExactDropsWithinRow.holds Try.pinned (OpenSpec.ofChange fnExactDropsWithinSpec)

/-- ITS FALSE NEIGHBOUR: 'it returns false'. Refute it at one input. -/
def fnExactDropsWithinWrong : ChangeSpec := { name := "fnExactDropsWithin", fn := fun _ => fun
  | [d1, d2, d3, d4, d5] => { results := [.lit (.bool false)], args := [d1, d2, d3, d4, d5] }
  | _ => none }
def FnExactDropsWithinWrongFalsely : Prop := fnExactDropsWithinRow.holds Try.pinned (OpenSpec.ofChange fnExactDropsWithinWrong)

/-- 'laws.FnExactRoomAt': WHATEVER THE INPUT: true; the input reads as it did. -/
def fnExactRoomAtSpec : ChangeSpec := { name := "fnExactRoomAt", fn := fun _ => fun
  | [d1, d2, d3, d4, d5, d6] => { results := [.lit (.bool true)], args := [d1, d2, d3, d4, d5, d6] }
  | _ => none }
def fnExactRoomAtRow : OpenClaim := { program := "ytpmkeagdoehbhaa", sum := "3bbe0eca241af4ed81cea92bff5b3aab7ada0339f9fe4a76e970e2d8d35430bd", func := "loop.example/powercontrol/laws.FnExactRoomAt", spec := "fnExactRoomAt", unfollowed := true, recurses := true, apart := false }
def FnExactRoomAtSaid : Prop := fnExactRoomAtRow.holds Try.pinned (OpenSpec.ofChange fnExactRoomAtSpec)

/-- ITS FALSE NEIGHBOUR: 'it returns false'. Refute it at one input. -/
def fnExactRoomAtWrong : ChangeSpec := { name := "fnExactRoomAt", fn := fun _ => fun
  | [d1, d2, d3, d4, d5, d6] => { results := [.lit (.bool false)], args := [d1, d2, d3, d4, d5, d6] }
  | _ => none }
def FnExactRoomAtWrongFalsely : Prop := fnExactRoomAtRow.holds Try.pinned (OpenSpec.ofChange fnExactRoomAtWrong)

/- THE SECOND FORM. 'bulk': how many values and letters a reading holds, each counted each time it is reached (what is shared counts as often as it is met; a slice's spare places count too). A statement '..UptoSaid' is the law's where the arguments, and the package variables that the reading takes, are together of bulk at most 1048576: NARROWER than '..Said'. Prove '..Said' where nothing that the law and all that it calls make is longer than what came in: it says more and counts as full. Else prove '..UptoSaid'. A law counts once. -/
mutual
def uptoBulk {H : Type} : DataW H → Nat
  | .lit (.string bytes) => bytes.length + 1
  | .lit _ => 1
  | .nil => 1
  | .ptr d => uptoBulk d + 1
  | .slice elems spare => uptoBulkAll elems + uptoBulkAll spare + 1
  | .agg parts => uptoBulkAll parts + 1
  | .iface _ d => uptoBulk d + 1
  | .map entries => uptoBulkEntries entries + 1
  | .held _ => 1
def uptoBulkAll {H : Type} : List (DataW H) → Nat
  | [] => 0
  | d :: r => uptoBulk d + uptoBulkAll r
def uptoBulkEntries {H : Type} : List (Lit × DataW H) → Nat
  | [] => 0
  | x :: r => uptoBulkEntry x + uptoBulkEntries r
def uptoBulkEntry {H : Type} : Lit × DataW H → Nat
  | (.string bytes, d) => bytes.length + uptoBulk d + 1
  | (_, d) => uptoBulk d + 1
 end
def uptoSmall : (H : Type) → List (DataW H) → Bool := fun _ ds => decide (uptoBulkAll ds ≤ 1048576)
def OpenSpec.upto (s : _root_.Go.ChangeSpec) : _root_.Go.OpenSpec := { _root_.Go.OpenSpec.ofChange s with cond := some uptoSmall }

/-- 'laws.FnExactDropAt', WHERE WHAT IT READS IS OF BULK AT MOST 1048576: true; the input reads as it did. -/
def fnExactDropAtUptoRow : OpenClaim := { program := "ytpmkeagdoehbhaa", sum := "3bbe0eca241af4ed81cea92bff5b3aab7ada0339f9fe4a76e970e2d8d35430bd", func := "loop.example/powercontrol/laws.FnExactDropAt", spec := "fnExactDropAt", unfollowed := true, recurses := true, apart := false, narrowed := true }
def FnExactDropAtUptoSaid : Prop := fnExactDropAtUptoRow.holds Try.pinned (OpenSpec.upto fnExactDropAtSpec)

/-- 'laws.FnExactWorstBus', WHERE WHAT IT READS IS OF BULK AT MOST 1048576: true; the input reads as it did. -/
def fnExactWorstBusUptoRow : OpenClaim := { program := "ytpmkeagdoehbhaa", sum := "3bbe0eca241af4ed81cea92bff5b3aab7ada0339f9fe4a76e970e2d8d35430bd", func := "loop.example/powercontrol/laws.FnExactWorstBus", spec := "fnExactWorstBus", unfollowed := true, recurses := true, apart := false, narrowed := true }
def FnExactWorstBusUptoSaid : Prop := fnExactWorstBusUptoRow.holds Try.pinned (OpenSpec.upto fnExactWorstBusSpec)

/-- 'laws.FnExactDropsWithin', WHERE WHAT IT READS IS OF BULK AT MOST 1048576: true; the input reads as it did. -/
def fnExactDropsWithinUptoRow : OpenClaim := { program := "ytpmkeagdoehbhaa", sum := "3bbe0eca241af4ed81cea92bff5b3aab7ada0339f9fe4a76e970e2d8d35430bd", func := "loop.example/powercontrol/laws.FnExactDropsWithin", spec := "fnExactDropsWithin", unfollowed := true, recurses := true, apart := false, narrowed := true }
def FnExactDropsWithinUptoSaid : Prop := fnExactDropsWithinUptoRow.holds Try.pinned (OpenSpec.upto fnExactDropsWithinSpec)

/-- 'laws.FnExactRoomAt', WHERE WHAT IT READS IS OF BULK AT MOST 1048576: true; the input reads as it did. -/
def fnExactRoomAtUptoRow : OpenClaim := { program := "ytpmkeagdoehbhaa", sum := "3bbe0eca241af4ed81cea92bff5b3aab7ada0339f9fe4a76e970e2d8d35430bd", func := "loop.example/powercontrol/laws.FnExactRoomAt", spec := "fnExactRoomAt", unfollowed := true, recurses := true, apart := false, narrowed := true }
def FnExactRoomAtUptoSaid : Prop := fnExactRoomAtUptoRow.holds Try.pinned (OpenSpec.upto fnExactRoomAtSpec)

end Rows
end Go.Proofs.Ytpmkeagdoehbhaa
