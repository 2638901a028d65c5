/-
  No cell of these rows narrows 'for every input' (looked for: loops, veiled, ifaces, maps, wideKeys, modest, calm, conditions, laid).
  DERIVED. THE GIVEN ROWS OF THIS SEAT. 6 by the template 'for every input the law returns true; each argument reads behind the call as it read before'; 0 by the template 'total and deterministic' (their statements: YtcgbigbbonlgfaaTotals.lean).
  GIVEN WITH THE SEED: the statements are not yours to turn. If you find one false, say at which input.
  Laid BY PROGRAM, IN A SANDBOX (cutbox-rows.mjs): the forced cells as the released guide's own fill.sh prints them over the translation 7fd1cd1d9c055b64… (all of the seat's roots in one cut). By AI agents, Wed Nov 11 2026. No macro, syntax, notation, axiom, sorry.
-/
import Derived.Test.YtcgbigbbonlgfaaChecked
import GoSem.Claim
import GoSem.ClaimJoined
import GoSem.ClaimMapViews
import Derived.JoinedTies
import Derived.KernelRfl
namespace Go.Proofs.Ytcgbigbbonlgfaa
/- THE CELL 'sum', in the pinned program and in every row, IS THE sha256 OF THE DUMP (.gsa) THAT YtcgbigbbonlgfaaProg.lean LOADS. Nothing in Lean hashes anything: it is a label: what it is worth is what the hold of that sum in a sandbox is worth. -/
noncomputable def Try.pinned : Pinned := { name := "ytcgbigbbonlgfaa", sum := "7fd1cd1d9c055b6402799996ccb526c10beaf3aaed468182695975f434f82f52", checked := Try.checked }
namespace Rows
def none {H : Type} : Left H := { results := [], args := [] }

/-- 'laws.FnExactStateValid': WHATEVER THE INPUT: true; the input reads as it did. -/
def fnExactStateValidSpec : ChangeSpec := { name := "fnExactStateValid", fn := fun _ => fun
  | [d1, d2] => { results := [.lit (.bool true)], args := [d1, d2] }
  | _ => none }
def fnExactStateValidRow : OpenClaim := { program := "ytcgbigbbonlgfaa", sum := "7fd1cd1d9c055b6402799996ccb526c10beaf3aaed468182695975f434f82f52", func := "loop.example/powercontrol/laws.FnExactStateValid", spec := "fnExactStateValid", apart := false }
def FnExactStateValidSaid : Prop := fnExactStateValidRow.holds Try.pinned (OpenSpec.ofChange fnExactStateValidSpec)

/-- ITS FALSE NEIGHBOUR: 'it returns false'. Refute it at one input. -/
def fnExactStateValidWrong : ChangeSpec := { name := "fnExactStateValid", fn := fun _ => fun
  | [d1, d2] => { results := [.lit (.bool false)], args := [d1, d2] }
  | _ => none }
def FnExactStateValidWrongFalsely : Prop := fnExactStateValidRow.holds Try.pinned (OpenSpec.ofChange fnExactStateValidWrong)

/-- 'laws.FnExactStateNumber': WHATEVER THE INPUT: true; the input reads as it did. -/
def fnExactStateNumberSpec : ChangeSpec := { name := "fnExactStateNumber", fn := fun _ => fun
  | [d] => { results := [.lit (.bool true)], args := [d] }
  | _ => none }
def fnExactStateNumberRow : OpenClaim := { program := "ytcgbigbbonlgfaa", sum := "7fd1cd1d9c055b6402799996ccb526c10beaf3aaed468182695975f434f82f52", func := "loop.example/powercontrol/laws.FnExactStateNumber", spec := "fnExactStateNumber", apart := false }
def FnExactStateNumberSaid : Prop := fnExactStateNumberRow.holds Try.pinned (OpenSpec.ofChange fnExactStateNumberSpec)

/-- ITS FALSE NEIGHBOUR: 'it returns false'. Refute it at one input. -/
def fnExactStateNumberWrong : ChangeSpec := { name := "fnExactStateNumber", fn := fun _ => fun
  | [d] => { results := [.lit (.bool false)], args := [d] }
  | _ => none }
def FnExactStateNumberWrongFalsely : Prop := fnExactStateNumberRow.holds Try.pinned (OpenSpec.ofChange fnExactStateNumberWrong)

/-- 'laws.FnExactStateOf': WHATEVER THE INPUT: true; the input reads as it did. -/
def fnExactStateOfSpec : ChangeSpec := { name := "fnExactStateOf", fn := fun _ => fun
  | [d1, d2] => { results := [.lit (.bool true)], args := [d1, d2] }
  | _ => none }
def fnExactStateOfRow : OpenClaim := { program := "ytcgbigbbonlgfaa", sum := "7fd1cd1d9c055b6402799996ccb526c10beaf3aaed468182695975f434f82f52", func := "loop.example/powercontrol/laws.FnExactStateOf", spec := "fnExactStateOf", apart := false }
def FnExactStateOfSaid : Prop := fnExactStateOfRow.holds Try.pinned (OpenSpec.ofChange fnExactStateOfSpec)

/-- ITS FALSE NEIGHBOUR: 'it returns false'. Refute it at one input. -/
def fnExactStateOfWrong : ChangeSpec := { name := "fnExactStateOf", fn := fun _ => fun
  | [d1, d2] => { results := [.lit (.bool false)], args := [d1, d2] }
  | _ => none }
def FnExactStateOfWrongFalsely : Prop := fnExactStateOfRow.holds Try.pinned (OpenSpec.ofChange fnExactStateOfWrong)

/-- 'laws.FnExactSwitchLine': WHATEVER THE INPUT: true; the input reads as it did. -/
def fnExactSwitchLineSpec : ChangeSpec := { name := "fnExactSwitchLine", fn := fun _ => fun
  | [d1, d2, d3, d4] => { results := [.lit (.bool true)], args := [d1, d2, d3, d4] }
  | _ => none }
def fnExactSwitchLineRow : OpenClaim := { program := "ytcgbigbbonlgfaa", sum := "7fd1cd1d9c055b6402799996ccb526c10beaf3aaed468182695975f434f82f52", func := "loop.example/powercontrol/laws.FnExactSwitchLine", spec := "fnExactSwitchLine", apart := false }
def FnExactSwitchLineSaid : Prop := fnExactSwitchLineRow.holds Try.pinned (OpenSpec.ofChange fnExactSwitchLineSpec)

/-- ITS FALSE NEIGHBOUR: 'it returns false'. Refute it at one input. -/
def fnExactSwitchLineWrong : ChangeSpec := { name := "fnExactSwitchLine", fn := fun _ => fun
  | [d1, d2, d3, d4] => { results := [.lit (.bool false)], args := [d1, d2, d3, d4] }
  | _ => none }
def FnExactSwitchLineWrongFalsely : Prop := fnExactSwitchLineRow.holds Try.pinned (OpenSpec.ofChange fnExactSwitchLineWrong)

/-- 'laws.FnExactChanges': WHATEVER THE INPUT: true; the input reads as it did. -/
def fnExactChangesSpec : ChangeSpec := { name := "fnExactChanges", fn := fun _ => fun
  | [d1, d2] => { results := [.lit (.bool true)], args := [d1, d2] }
  | _ => none }
def fnExactChangesRow : OpenClaim := { program := "ytcgbigbbonlgfaa", sum := "7fd1cd1d9c055b6402799996ccb526c10beaf3aaed468182695975f434f82f52", func := "loop.example/powercontrol/laws.FnExactChanges", spec := "fnExactChanges", apart := false }
def FnExactChangesSaid : Prop := fnExactChangesRow.holds Try.pinned (OpenSpec.ofChange fnExactChangesSpec)

/-- ITS FALSE NEIGHBOUR: 'it returns false'. Refute it at one input. -/
def fnExactChangesWrong : ChangeSpec := { name := "fnExactChanges", fn := fun _ => fun
  | [d1, d2] => { results := [.lit (.bool false)], args := [d1, d2] }
  | _ => none }
def FnExactChangesWrongFalsely : Prop := fnExactChangesRow.holds Try.pinned (OpenSpec.ofChange fnExactChangesWrong)

/-- 'laws.FnExactChangeAll': WHATEVER THE INPUT: true; the input reads as it did. -/
def fnExactChangeAllSpec : ChangeSpec := { name := "fnExactChangeAll", fn := fun _ => fun
  | [d1, d2] => { results := [.lit (.bool true)], args := [d1, d2] }
  | _ => none }
def fnExactChangeAllRow : OpenClaim := { program := "ytcgbigbbonlgfaa", sum := "7fd1cd1d9c055b6402799996ccb526c10beaf3aaed468182695975f434f82f52", func := "loop.example/powercontrol/laws.FnExactChangeAll", spec := "fnExactChangeAll", apart := false }
def FnExactChangeAllSaid : Prop := fnExactChangeAllRow.holds Try.pinned (OpenSpec.ofChange fnExactChangeAllSpec)

/-- ITS FALSE NEIGHBOUR: 'it returns false'. Refute it at one input. -/
def fnExactChangeAllWrong : ChangeSpec := { name := "fnExactChangeAll", fn := fun _ => fun
  | [d1, d2] => { results := [.lit (.bool false)], args := [d1, d2] }
  | _ => none }
def FnExactChangeAllWrongFalsely : Prop := fnExactChangeAllRow.holds Try.pinned (OpenSpec.ofChange fnExactChangeAllWrong)

/- THE SECOND FORM. 'bulk': how many values and letters a reading holds, each counted each time it is reached (what is shared counts as often as it is met; a slice's spare places count too). A statement '..UptoSaid' is the law's where the arguments, and the package variables that the reading takes, are together of bulk at most 1048576: NARROWER than '..Said'. Prove '..Said' where nothing that the law and all that it calls make is longer than what came in: it says more and counts as full. Else prove '..UptoSaid'. A law counts once. -/
mutual
def uptoBulk {H : Type} : DataW H → Nat
  | .lit (.string bytes) => bytes.length + 1
  | .lit _ => 1
  | .nil => 1
  | .ptr d => uptoBulk d + 1
  | .slice elems spare => uptoBulkAll elems + uptoBulkAll spare + 1
  | .agg parts => uptoBulkAll parts + 1
  | .iface _ d => uptoBulk d + 1
  | .map entries => uptoBulkEntries entries + 1
  | .held _ => 1
def uptoBulkAll {H : Type} : List (DataW H) → Nat
  | [] => 0
  | d :: r => uptoBulk d + uptoBulkAll r
def uptoBulkEntries {H : Type} : List (Lit × DataW H) → Nat
  | [] => 0
  | x :: r => uptoBulkEntry x + uptoBulkEntries r
def uptoBulkEntry {H : Type} : Lit × DataW H → Nat
  | (.string bytes, d) => bytes.length + uptoBulk d + 1
  | (_, d) => uptoBulk d + 1
 end
def uptoSmall : (H : Type) → List (DataW H) → Bool := fun _ ds => decide (uptoBulkAll ds ≤ 1048576)
def OpenSpec.upto (s : _root_.Go.ChangeSpec) : _root_.Go.OpenSpec := { _root_.Go.OpenSpec.ofChange s with cond := some uptoSmall }

/-- 'laws.FnExactStateValid', WHERE WHAT IT READS IS OF BULK AT MOST 1048576: true; the input reads as it did. -/
def fnExactStateValidUptoRow : OpenClaim := { program := "ytcgbigbbonlgfaa", sum := "7fd1cd1d9c055b6402799996ccb526c10beaf3aaed468182695975f434f82f52", func := "loop.example/powercontrol/laws.FnExactStateValid", spec := "fnExactStateValid", apart := false, narrowed := true }
def FnExactStateValidUptoSaid : Prop := fnExactStateValidUptoRow.holds Try.pinned (OpenSpec.upto fnExactStateValidSpec)

/-- 'laws.FnExactStateNumber', WHERE WHAT IT READS IS OF BULK AT MOST 1048576: true; the input reads as it did. -/
def fnExactStateNumberUptoRow : OpenClaim := { program := "ytcgbigbbonlgfaa", sum := "7fd1cd1d9c055b6402799996ccb526c10beaf3aaed468182695975f434f82f52", func := "loop.example/powercontrol/laws.FnExactStateNumber", spec := "fnExactStateNumber", apart := false, narrowed := true }
def FnExactStateNumberUptoSaid : Prop := fnExactStateNumberUptoRow.holds Try.pinned (OpenSpec.upto fnExactStateNumberSpec)

/-- 'laws.FnExactStateOf', WHERE WHAT IT READS IS OF BULK AT MOST 1048576: true; the input reads as it did. -/
def fnExactStateOfUptoRow : OpenClaim := { program := "ytcgbigbbonlgfaa", sum := "7fd1cd1d9c055b6402799996ccb526c10beaf3aaed468182695975f434f82f52", func := "loop.example/powercontrol/laws.FnExactStateOf", spec := "fnExactStateOf", apart := false, narrowed := true }
def FnExactStateOfUptoSaid : Prop := fnExactStateOfUptoRow.holds Try.pinned (OpenSpec.upto fnExactStateOfSpec)

/-- 'laws.FnExactSwitchLine', WHERE WHAT IT READS IS OF BULK AT MOST 1048576: true; the input reads as it did. -/
def fnExactSwitchLineUptoRow : OpenClaim := { program := "ytcgbigbbonlgfaa", sum := "7fd1cd1d9c055b6402799996ccb526c10beaf3aaed468182695975f434f82f52", func := "loop.example/powercontrol/laws.FnExactSwitchLine", spec := "fnExactSwitchLine", apart := false, narrowed := true }
def FnExactSwitchLineUptoSaid : Prop := fnExactSwitchLineUptoRow.holds Try.pinned (OpenSpec.upto fnExactSwitchLineSpec)

/-- 'laws.FnExactChanges', WHERE WHAT IT READS IS OF BULK AT MOST 1048576: true; the input reads as it did. -/
def fnExactChangesUptoRow : OpenClaim := { program := "ytcgbigbbonlgfaa", sum := "7fd1cd1d9c055b6402799996ccb526c10beaf3aaed468182695975f434f82f52", func := "loop.example/powercontrol/laws.FnExactChanges", spec := "fnExactChanges", apart := false, narrowed := true }
def FnExactChangesUptoSaid : Prop := fnExactChangesUptoRow.holds Try.pinned (OpenSpec.upto fnExactChangesSpec)

/-- 'laws.FnExactChangeAll', WHERE WHAT IT READS IS OF BULK AT MOST 1048576: true; the input reads as it did. -/
def fnExactChangeAllUptoRow : OpenClaim := { program := "ytcgbigbbonlgfaa", sum := "7fd1cd1d9c055b6402799996ccb526c10beaf3aaed468182695975f434f82f52", func := "loop.example/powercontrol/laws.FnExactChangeAll", spec := "fnExactChangeAll", apart := false, narrowed := true }
def FnExactChangeAllUptoSaid : Prop := fnExactChangeAllUptoRow.holds Try.pinned (OpenSpec.upto fnExactChangeAllSpec)

end Rows
end Go.Proofs.Ytcgbigbbonlgfaa
