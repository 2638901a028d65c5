/-
  DERIVED. GIVEN WITH THE SEED: THE CARDS: each row of YtlofhkhfomhdaaaDoorRows.lean that lists a variable, with what it lists TIED to the program's text (the seventh form; the later family's looks); each row that meets fmt, with fmt's text TOLD by the authors' own Lean function (tested against real Go, not proved from fmt's source: count such statements apart). THE CARD IS WHAT COUNTS. Prove the row's statement (the work); the ties are given (YtlofhkhfomhdaaaDoorTie.lean); close each card by the builder's one call (the guide's Derived/Test/ToyasCard.lean, 'card_holds'). Laid BY PROGRAM, IN A SANDBOX (cutbox-door.mjs). By AI agents, Wed Nov 11 2026. No macro, syntax, notation, axiom, sorry.
-/
import Derived.Test.YtlofhkhfomhdaaaDoorRows
import GoSem.ClaimSeven
namespace Go.Proofs.YtlofhkhfomhdaaaDoor
namespace Rows

/-- THE TIED CARD OF 'laws.FnReached'. -/
def fnReachedCard : Claim7 := { stood := { row := fnReachedRow, standIns := [], harness := (true, "59a3f9dddf175e15bff09e64465b543d4f3a4bd4f92a65f84e027885fb7ab600"), looks := false }, kinds := [], alts := [], laidByText := true, laidKinds := [.data, .data, .data], laidTests := true, laidLooks := .later }
def FnReachedCardSaid : Prop := Claim7.holds Tryd.pinned (.plain (OpenSpec.ofChange fnReachedSpec)) fnReachedCard

/-- THE TIED CARD OF 'laws.FnIslandNumbers'. -/
def fnIslandNumbersCard : Claim7 := { stood := { row := fnIslandNumbersRow, standIns := [], harness := (true, "59a3f9dddf175e15bff09e64465b543d4f3a4bd4f92a65f84e027885fb7ab600"), looks := false }, kinds := [], alts := [], laidByText := true, laidKinds := [.data, .data, .data], laidTests := true, laidLooks := .later }
def FnIslandNumbersCardSaid : Prop := Claim7.holds Tryd.pinned (.plain (OpenSpec.ofChange fnIslandNumbersSpec)) fnIslandNumbersCard

/-- THE TIED CARD OF 'laws.FnIslandsOf'. -/
def fnIslandsOfCard : Claim7 := { stood := { row := fnIslandsOfRow, standIns := [], harness := (true, "59a3f9dddf175e15bff09e64465b543d4f3a4bd4f92a65f84e027885fb7ab600"), looks := false }, kinds := [], alts := [], laidByText := true, laidKinds := [.data, .data, .data], laidTests := true, laidLooks := .later }
def FnIslandsOfCardSaid : Prop := Claim7.holds Tryd.pinned (.plain (OpenSpec.ofChange fnIslandsOfSpec)) fnIslandsOfCard

/-- THE TIED CARD OF 'laws.FnSameIsland'. -/
def fnSameIslandCard : Claim7 := { stood := { row := fnSameIslandRow, standIns := [], harness := (true, "59a3f9dddf175e15bff09e64465b543d4f3a4bd4f92a65f84e027885fb7ab600"), looks := false }, kinds := [], alts := [], laidByText := true, laidKinds := [.data, .data, .data], laidTests := true, laidLooks := .later }
def FnSameIslandCardSaid : Prop := Claim7.holds Tryd.pinned (.plain (OpenSpec.ofChange fnSameIslandSpec)) fnSameIslandCard

/-- THE TIED CARD OF 'laws.FnCycleLines'. -/
def fnCycleLinesCard : Claim7 := { stood := { row := fnCycleLinesRow, standIns := [], harness := (true, "59a3f9dddf175e15bff09e64465b543d4f3a4bd4f92a65f84e027885fb7ab600"), looks := false }, kinds := [], alts := [], laidByText := true, laidKinds := [.data, .data, .data], laidTests := true, laidLooks := .later }
def FnCycleLinesCardSaid : Prop := Claim7.holds Tryd.pinned (.plain (OpenSpec.ofChange fnCycleLinesSpec)) fnCycleLinesCard

/-- THE TIED CARD OF 'laws.FnBridgeLines'. -/
def fnBridgeLinesCard : Claim7 := { stood := { row := fnBridgeLinesRow, standIns := [], harness := (true, "59a3f9dddf175e15bff09e64465b543d4f3a4bd4f92a65f84e027885fb7ab600"), looks := false }, kinds := [], alts := [], laidByText := true, laidKinds := [.data, .data, .data], laidTests := true, laidLooks := .later }
def FnBridgeLinesCardSaid : Prop := Claim7.holds Tryd.pinned (.plain (OpenSpec.ofChange fnBridgeLinesSpec)) fnBridgeLinesCard

/-- THE TIED CARD OF 'laws.FnHasCycle'. -/
def fnHasCycleCard : Claim7 := { stood := { row := fnHasCycleRow, standIns := [], harness := (true, "59a3f9dddf175e15bff09e64465b543d4f3a4bd4f92a65f84e027885fb7ab600"), looks := false }, kinds := [], alts := [], laidByText := true, laidKinds := [.data, .data, .data], laidTests := true, laidLooks := .later }
def FnHasCycleCardSaid : Prop := Claim7.holds Tryd.pinned (.plain (OpenSpec.ofChange fnHasCycleSpec)) fnHasCycleCard

/-- THE TIED CARD OF 'laws.FnSpanningLines'. -/
def fnSpanningLinesCard : Claim7 := { stood := { row := fnSpanningLinesRow, standIns := [], harness := (true, "59a3f9dddf175e15bff09e64465b543d4f3a4bd4f92a65f84e027885fb7ab600"), looks := false }, kinds := [], alts := [], laidByText := true, laidKinds := [.data, .data, .data], laidTests := true, laidLooks := .later }
def FnSpanningLinesCardSaid : Prop := Claim7.holds Tryd.pinned (.plain (OpenSpec.ofChange fnSpanningLinesSpec)) fnSpanningLinesCard

/-- THE SECOND FORM's CARD OF 'laws.FnReached'. -/
def fnReachedUptoCard : Claim7 := { stood := { row := fnReachedUptoRow, standIns := [], harness := (true, "59a3f9dddf175e15bff09e64465b543d4f3a4bd4f92a65f84e027885fb7ab600"), looks := false }, kinds := [], alts := [], laidByText := true, laidKinds := [.data, .data, .data], laidTests := true, laidLooks := .later }
def FnReachedUptoCardSaid : Prop := Claim7.holds Tryd.pinned (.plain (OpenSpec.upto fnReachedSpec)) fnReachedUptoCard

/-- THE SECOND FORM's CARD OF 'laws.FnIslandNumbers'. -/
def fnIslandNumbersUptoCard : Claim7 := { stood := { row := fnIslandNumbersUptoRow, standIns := [], harness := (true, "59a3f9dddf175e15bff09e64465b543d4f3a4bd4f92a65f84e027885fb7ab600"), looks := false }, kinds := [], alts := [], laidByText := true, laidKinds := [.data, .data, .data], laidTests := true, laidLooks := .later }
def FnIslandNumbersUptoCardSaid : Prop := Claim7.holds Tryd.pinned (.plain (OpenSpec.upto fnIslandNumbersSpec)) fnIslandNumbersUptoCard

/-- THE SECOND FORM's CARD OF 'laws.FnIslandsOf'. -/
def fnIslandsOfUptoCard : Claim7 := { stood := { row := fnIslandsOfUptoRow, standIns := [], harness := (true, "59a3f9dddf175e15bff09e64465b543d4f3a4bd4f92a65f84e027885fb7ab600"), looks := false }, kinds := [], alts := [], laidByText := true, laidKinds := [.data, .data, .data], laidTests := true, laidLooks := .later }
def FnIslandsOfUptoCardSaid : Prop := Claim7.holds Tryd.pinned (.plain (OpenSpec.upto fnIslandsOfSpec)) fnIslandsOfUptoCard

/-- THE SECOND FORM's CARD OF 'laws.FnSameIsland'. -/
def fnSameIslandUptoCard : Claim7 := { stood := { row := fnSameIslandUptoRow, standIns := [], harness := (true, "59a3f9dddf175e15bff09e64465b543d4f3a4bd4f92a65f84e027885fb7ab600"), looks := false }, kinds := [], alts := [], laidByText := true, laidKinds := [.data, .data, .data], laidTests := true, laidLooks := .later }
def FnSameIslandUptoCardSaid : Prop := Claim7.holds Tryd.pinned (.plain (OpenSpec.upto fnSameIslandSpec)) fnSameIslandUptoCard

/-- THE SECOND FORM's CARD OF 'laws.FnCycleLines'. -/
def fnCycleLinesUptoCard : Claim7 := { stood := { row := fnCycleLinesUptoRow, standIns := [], harness := (true, "59a3f9dddf175e15bff09e64465b543d4f3a4bd4f92a65f84e027885fb7ab600"), looks := false }, kinds := [], alts := [], laidByText := true, laidKinds := [.data, .data, .data], laidTests := true, laidLooks := .later }
def FnCycleLinesUptoCardSaid : Prop := Claim7.holds Tryd.pinned (.plain (OpenSpec.upto fnCycleLinesSpec)) fnCycleLinesUptoCard

/-- THE SECOND FORM's CARD OF 'laws.FnBridgeLines'. -/
def fnBridgeLinesUptoCard : Claim7 := { stood := { row := fnBridgeLinesUptoRow, standIns := [], harness := (true, "59a3f9dddf175e15bff09e64465b543d4f3a4bd4f92a65f84e027885fb7ab600"), looks := false }, kinds := [], alts := [], laidByText := true, laidKinds := [.data, .data, .data], laidTests := true, laidLooks := .later }
def FnBridgeLinesUptoCardSaid : Prop := Claim7.holds Tryd.pinned (.plain (OpenSpec.upto fnBridgeLinesSpec)) fnBridgeLinesUptoCard

/-- THE SECOND FORM's CARD OF 'laws.FnHasCycle'. -/
def fnHasCycleUptoCard : Claim7 := { stood := { row := fnHasCycleUptoRow, standIns := [], harness := (true, "59a3f9dddf175e15bff09e64465b543d4f3a4bd4f92a65f84e027885fb7ab600"), looks := false }, kinds := [], alts := [], laidByText := true, laidKinds := [.data, .data, .data], laidTests := true, laidLooks := .later }
def FnHasCycleUptoCardSaid : Prop := Claim7.holds Tryd.pinned (.plain (OpenSpec.upto fnHasCycleSpec)) fnHasCycleUptoCard

/-- THE SECOND FORM's CARD OF 'laws.FnSpanningLines'. -/
def fnSpanningLinesUptoCard : Claim7 := { stood := { row := fnSpanningLinesUptoRow, standIns := [], harness := (true, "59a3f9dddf175e15bff09e64465b543d4f3a4bd4f92a65f84e027885fb7ab600"), looks := false }, kinds := [], alts := [], laidByText := true, laidKinds := [.data, .data, .data], laidTests := true, laidLooks := .later }
def FnSpanningLinesUptoCardSaid : Prop := Claim7.holds Tryd.pinned (.plain (OpenSpec.upto fnSpanningLinesSpec)) fnSpanningLinesUptoCard
end Rows
end Go.Proofs.YtlofhkhfomhdaaaDoor
