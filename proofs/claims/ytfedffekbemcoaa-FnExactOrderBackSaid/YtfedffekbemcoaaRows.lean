/-
  No cell of these rows narrows 'for every input' (looked for: loops, veiled, ifaces, maps, wideKeys, modest, calm, conditions, laid).
  DERIVED. THE GIVEN ROWS OF THIS SEAT. 4 by the template 'for every input the law returns true; each argument reads behind the call as it read before'; 0 by the template 'total and deterministic' (their statements: YtfedffekbemcoaaTotals.lean).
  GIVEN WITH THE SEED: the statements are not yours to turn. If you find one false, say at which input.
  Laid BY PROGRAM, IN A SANDBOX (cutbox-rows.mjs): the forced cells as the released guide's own fill.sh prints them over the translation 133d0f1f083e6cdc… (all of the seat's roots in one cut). By AI agents, Wed Nov 11 2026. No macro, syntax, notation, axiom, sorry.
-/
import Derived.Test.YtfedffekbemcoaaChecked
import GoSem.Claim
import GoSem.ClaimJoined
import GoSem.ClaimMapViews
import Derived.JoinedTies
import Derived.KernelRfl
namespace Go.Proofs.Ytfedffekbemcoaa
/- THE CELL 'sum', in the pinned program and in every row, IS THE sha256 OF THE DUMP (.gsa) THAT YtfedffekbemcoaaProg.lean LOADS. Nothing in Lean hashes anything: it is a label: what it is worth is what the hold of that sum in a sandbox is worth. -/
noncomputable def Try.pinned : Pinned := { name := "ytfedffekbemcoaa", sum := "133d0f1f083e6cdc4378dc7b5efd07f58c0d35f6c52439e41a8fb71fac5e633c", checked := Try.checked }
namespace Rows
def none {H : Type} : Left H := { results := [], args := [] }

/-- 'laws.FnExactOrderValid': WHATEVER THE INPUT: true; the input reads as it did. -/
def fnExactOrderValidSpec : ChangeSpec := { name := "fnExactOrderValid", fn := fun _ => fun
  | [d] => { results := [.lit (.bool true)], args := [d] }
  | _ => none }
def fnExactOrderValidRow : OpenClaim := { program := "ytfedffekbemcoaa", sum := "133d0f1f083e6cdc4378dc7b5efd07f58c0d35f6c52439e41a8fb71fac5e633c", func := "loop.example/powercontrol/laws.FnExactOrderValid", spec := "fnExactOrderValid", apart := false }
def FnExactOrderValidSaid : Prop := fnExactOrderValidRow.holds Try.pinned (OpenSpec.ofChange fnExactOrderValidSpec)

/-- ITS FALSE NEIGHBOUR: 'it returns false'. Refute it at one input. -/
def fnExactOrderValidWrong : ChangeSpec := { name := "fnExactOrderValid", fn := fun _ => fun
  | [d] => { results := [.lit (.bool false)], args := [d] }
  | _ => none }
def FnExactOrderValidWrongFalsely : Prop := fnExactOrderValidRow.holds Try.pinned (OpenSpec.ofChange fnExactOrderValidWrong)

/-- 'laws.FnExactOrderTo': WHATEVER THE INPUT: true; the input reads as it did. -/
def fnExactOrderToSpec : ChangeSpec := { name := "fnExactOrderTo", fn := fun _ => fun
  | [d1, d2] => { results := [.lit (.bool true)], args := [d1, d2] }
  | _ => none }
def fnExactOrderToRow : OpenClaim := { program := "ytfedffekbemcoaa", sum := "133d0f1f083e6cdc4378dc7b5efd07f58c0d35f6c52439e41a8fb71fac5e633c", func := "loop.example/powercontrol/laws.FnExactOrderTo", spec := "fnExactOrderTo", apart := false }
def FnExactOrderToSaid : Prop := fnExactOrderToRow.holds Try.pinned (OpenSpec.ofChange fnExactOrderToSpec)

/-- ITS FALSE NEIGHBOUR: 'it returns false'. Refute it at one input. -/
def fnExactOrderToWrong : ChangeSpec := { name := "fnExactOrderTo", fn := fun _ => fun
  | [d1, d2] => { results := [.lit (.bool false)], args := [d1, d2] }
  | _ => none }
def FnExactOrderToWrongFalsely : Prop := fnExactOrderToRow.holds Try.pinned (OpenSpec.ofChange fnExactOrderToWrong)

/-- 'laws.FnExactOrderRun': WHATEVER THE INPUT: true; the input reads as it did. -/
def fnExactOrderRunSpec : ChangeSpec := { name := "fnExactOrderRun", fn := fun _ => fun
  | [d1, d2, d3] => { results := [.lit (.bool true)], args := [d1, d2, d3] }
  | _ => none }
def fnExactOrderRunRow : OpenClaim := { program := "ytfedffekbemcoaa", sum := "133d0f1f083e6cdc4378dc7b5efd07f58c0d35f6c52439e41a8fb71fac5e633c", func := "loop.example/powercontrol/laws.FnExactOrderRun", spec := "fnExactOrderRun", apart := false }
def FnExactOrderRunSaid : Prop := fnExactOrderRunRow.holds Try.pinned (OpenSpec.ofChange fnExactOrderRunSpec)

/-- ITS FALSE NEIGHBOUR: 'it returns false'. Refute it at one input. -/
def fnExactOrderRunWrong : ChangeSpec := { name := "fnExactOrderRun", fn := fun _ => fun
  | [d1, d2, d3] => { results := [.lit (.bool false)], args := [d1, d2, d3] }
  | _ => none }
def FnExactOrderRunWrongFalsely : Prop := fnExactOrderRunRow.holds Try.pinned (OpenSpec.ofChange fnExactOrderRunWrong)

/-- 'laws.FnExactOrderBack': WHATEVER THE INPUT: true; the input reads as it did. -/
def fnExactOrderBackSpec : ChangeSpec := { name := "fnExactOrderBack", fn := fun _ => fun
  | [d] => { results := [.lit (.bool true)], args := [d] }
  | _ => none }
def fnExactOrderBackRow : OpenClaim := { program := "ytfedffekbemcoaa", sum := "133d0f1f083e6cdc4378dc7b5efd07f58c0d35f6c52439e41a8fb71fac5e633c", func := "loop.example/powercontrol/laws.FnExactOrderBack", spec := "fnExactOrderBack", unfollowed := true, recurses := true, apart := false }
def FnExactOrderBackSaid : Prop := fnExactOrderBackRow.holds Try.pinned (OpenSpec.ofChange fnExactOrderBackSpec)

/-- ITS FALSE NEIGHBOUR: 'it returns false'. Refute it at one input. -/
def fnExactOrderBackWrong : ChangeSpec := { name := "fnExactOrderBack", fn := fun _ => fun
  | [d] => { results := [.lit (.bool false)], args := [d] }
  | _ => none }
def FnExactOrderBackWrongFalsely : Prop := fnExactOrderBackRow.holds Try.pinned (OpenSpec.ofChange fnExactOrderBackWrong)

/- THE SECOND FORM. 'bulk': how many values and letters a reading holds, each counted each time it is reached (what is shared counts as often as it is met; a slice's spare places count too). A statement '..UptoSaid' is the law's where the arguments, and the package variables that the reading takes, are together of bulk at most 1048576: NARROWER than '..Said'. Prove '..Said' where nothing that the law and all that it calls make is longer than what came in: it says more and counts as full. Else prove '..UptoSaid'. A law counts once. -/
mutual
def uptoBulk {H : Type} : DataW H → Nat
  | .lit (.string bytes) => bytes.length + 1
  | .lit _ => 1
  | .nil => 1
  | .ptr d => uptoBulk d + 1
  | .slice elems spare => uptoBulkAll elems + uptoBulkAll spare + 1
  | .agg parts => uptoBulkAll parts + 1
  | .iface _ d => uptoBulk d + 1
  | .map entries => uptoBulkEntries entries + 1
  | .held _ => 1
def uptoBulkAll {H : Type} : List (DataW H) → Nat
  | [] => 0
  | d :: r => uptoBulk d + uptoBulkAll r
def uptoBulkEntries {H : Type} : List (Lit × DataW H) → Nat
  | [] => 0
  | x :: r => uptoBulkEntry x + uptoBulkEntries r
def uptoBulkEntry {H : Type} : Lit × DataW H → Nat
  | (.string bytes, d) => bytes.length + uptoBulk d + 1
  | (_, d) => uptoBulk d + 1
 end
def uptoSmall : (H : Type) → List (DataW H) → Bool := fun _ ds => decide (uptoBulkAll ds ≤ 1048576)
def OpenSpec.upto (s : _root_.Go.ChangeSpec) : _root_.Go.OpenSpec := { _root_.Go.OpenSpec.ofChange s with cond := some uptoSmall }

/-- 'laws.FnExactOrderValid', WHERE WHAT IT READS IS OF BULK AT MOST 1048576: true; the input reads as it did. -/
def fnExactOrderValidUptoRow : OpenClaim := { program := "ytfedffekbemcoaa", sum := "133d0f1f083e6cdc4378dc7b5efd07f58c0d35f6c52439e41a8fb71fac5e633c", func := "loop.example/powercontrol/laws.FnExactOrderValid", spec := "fnExactOrderValid", apart := false, narrowed := true }
def FnExactOrderValidUptoSaid : Prop := fnExactOrderValidUptoRow.holds Try.pinned (OpenSpec.upto fnExactOrderValidSpec)

/-- 'laws.FnExactOrderTo', WHERE WHAT IT READS IS OF BULK AT MOST 1048576: true; the input reads as it did. -/
def fnExactOrderToUptoRow : OpenClaim := { program := "ytfedffekbemcoaa", sum := "133d0f1f083e6cdc4378dc7b5efd07f58c0d35f6c52439e41a8fb71fac5e633c", func := "loop.example/powercontrol/laws.FnExactOrderTo", spec := "fnExactOrderTo", apart := false, narrowed := true }
def FnExactOrderToUptoSaid : Prop := fnExactOrderToUptoRow.holds Try.pinned (OpenSpec.upto fnExactOrderToSpec)

/-- 'laws.FnExactOrderRun', WHERE WHAT IT READS IS OF BULK AT MOST 1048576: true; the input reads as it did. -/
def fnExactOrderRunUptoRow : OpenClaim := { program := "ytfedffekbemcoaa", sum := "133d0f1f083e6cdc4378dc7b5efd07f58c0d35f6c52439e41a8fb71fac5e633c", func := "loop.example/powercontrol/laws.FnExactOrderRun", spec := "fnExactOrderRun", apart := false, narrowed := true }
def FnExactOrderRunUptoSaid : Prop := fnExactOrderRunUptoRow.holds Try.pinned (OpenSpec.upto fnExactOrderRunSpec)

/-- 'laws.FnExactOrderBack', WHERE WHAT IT READS IS OF BULK AT MOST 1048576: true; the input reads as it did. -/
def fnExactOrderBackUptoRow : OpenClaim := { program := "ytfedffekbemcoaa", sum := "133d0f1f083e6cdc4378dc7b5efd07f58c0d35f6c52439e41a8fb71fac5e633c", func := "loop.example/powercontrol/laws.FnExactOrderBack", spec := "fnExactOrderBack", unfollowed := true, recurses := true, apart := false, narrowed := true }
def FnExactOrderBackUptoSaid : Prop := fnExactOrderBackUptoRow.holds Try.pinned (OpenSpec.upto fnExactOrderBackSpec)

end Rows
end Go.Proofs.Ytfedffekbemcoaa
