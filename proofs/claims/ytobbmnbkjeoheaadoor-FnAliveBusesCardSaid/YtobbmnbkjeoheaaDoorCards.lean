/-
  DERIVED. GIVEN WITH THE SEED: THE CARDS: each row of YtobbmnbkjeoheaaDoorRows.lean that lists a variable, with what it lists TIED to the program's text (the seventh form; the later family's looks); each row that meets fmt, with fmt's text TOLD by the authors' own Lean function (tested against real Go, not proved from fmt's source: count such statements apart). THE CARD IS WHAT COUNTS. Prove the row's statement (the work); the ties are given (YtobbmnbkjeoheaaDoorTie.lean); close each card by the builder's one call (the guide's Derived/Test/ToyasCard.lean, 'card_holds'). Laid BY PROGRAM, IN A SANDBOX (cutbox-door.mjs). By AI agents, Wed Nov 11 2026. No macro, syntax, notation, axiom, sorry.
-/
import Derived.Test.YtobbmnbkjeoheaaDoorRows
import GoSem.ClaimSeven
namespace Go.Proofs.YtobbmnbkjeoheaaDoor
namespace Rows

/-- THE TIED CARD OF 'laws.FnBusesValid'. -/
def fnBusesValidCard : Claim7 := { stood := { row := fnBusesValidRow, standIns := [], harness := (true, "4f4e3bc095151ff75acdc1e8163ca5c2c4d0e9c6d777ce27377de4384f5133fe"), looks := false }, kinds := [], alts := [], laidByText := true, laidKinds := [.data, .data, .data], laidTests := true, laidLooks := .later }
def FnBusesValidCardSaid : Prop := Claim7.holds Tryd.pinned (.plain (OpenSpec.ofChange fnBusesValidSpec)) fnBusesValidCard

/-- THE TIED CARD OF 'laws.FnIslandFeed'. -/
def fnIslandFeedCard : Claim7 := { stood := { row := fnIslandFeedRow, standIns := [], harness := (true, "4f4e3bc095151ff75acdc1e8163ca5c2c4d0e9c6d777ce27377de4384f5133fe"), looks := false }, kinds := [], alts := [], laidByText := true, laidKinds := [.data, .data, .data], laidTests := true, laidLooks := .later }
def FnIslandFeedCardSaid : Prop := Claim7.holds Tryd.pinned (.plain (OpenSpec.ofChange fnIslandFeedSpec)) fnIslandFeedCard

/-- THE TIED CARD OF 'laws.FnIslandLoad'. -/
def fnIslandLoadCard : Claim7 := { stood := { row := fnIslandLoadRow, standIns := [], harness := (true, "4f4e3bc095151ff75acdc1e8163ca5c2c4d0e9c6d777ce27377de4384f5133fe"), looks := false }, kinds := [], alts := [], laidByText := true, laidKinds := [.data, .data, .data], laidTests := true, laidLooks := .later }
def FnIslandLoadCardSaid : Prop := Claim7.holds Tryd.pinned (.plain (OpenSpec.ofChange fnIslandLoadSpec)) fnIslandLoadCard

/-- THE TIED CARD OF 'laws.FnAliveBuses'. -/
def fnAliveBusesCard : Claim7 := { stood := { row := fnAliveBusesRow, standIns := [], harness := (true, "4f4e3bc095151ff75acdc1e8163ca5c2c4d0e9c6d777ce27377de4384f5133fe"), looks := false }, kinds := [], alts := [], laidByText := true, laidKinds := [.data, .data, .data], laidTests := true, laidLooks := .later }
def FnAliveBusesCardSaid : Prop := Claim7.holds Tryd.pinned (.plain (OpenSpec.ofChange fnAliveBusesSpec)) fnAliveBusesCard

/-- THE TIED CARD OF 'laws.FnServedLoad'. -/
def fnServedLoadCard : Claim7 := { stood := { row := fnServedLoadRow, standIns := [], harness := (true, "4f4e3bc095151ff75acdc1e8163ca5c2c4d0e9c6d777ce27377de4384f5133fe"), looks := false }, kinds := [], alts := [], laidByText := true, laidKinds := [.data, .data, .data], laidTests := true, laidLooks := .later }
def FnServedLoadCardSaid : Prop := Claim7.holds Tryd.pinned (.plain (OpenSpec.ofChange fnServedLoadSpec)) fnServedLoadCard

/-- THE SECOND FORM's CARD OF 'laws.FnBusesValid'. -/
def fnBusesValidUptoCard : Claim7 := { stood := { row := fnBusesValidUptoRow, standIns := [], harness := (true, "4f4e3bc095151ff75acdc1e8163ca5c2c4d0e9c6d777ce27377de4384f5133fe"), looks := false }, kinds := [], alts := [], laidByText := true, laidKinds := [.data, .data, .data], laidTests := true, laidLooks := .later }
def FnBusesValidUptoCardSaid : Prop := Claim7.holds Tryd.pinned (.plain (OpenSpec.upto fnBusesValidSpec)) fnBusesValidUptoCard

/-- THE SECOND FORM's CARD OF 'laws.FnIslandFeed'. -/
def fnIslandFeedUptoCard : Claim7 := { stood := { row := fnIslandFeedUptoRow, standIns := [], harness := (true, "4f4e3bc095151ff75acdc1e8163ca5c2c4d0e9c6d777ce27377de4384f5133fe"), looks := false }, kinds := [], alts := [], laidByText := true, laidKinds := [.data, .data, .data], laidTests := true, laidLooks := .later }
def FnIslandFeedUptoCardSaid : Prop := Claim7.holds Tryd.pinned (.plain (OpenSpec.upto fnIslandFeedSpec)) fnIslandFeedUptoCard

/-- THE SECOND FORM's CARD OF 'laws.FnIslandLoad'. -/
def fnIslandLoadUptoCard : Claim7 := { stood := { row := fnIslandLoadUptoRow, standIns := [], harness := (true, "4f4e3bc095151ff75acdc1e8163ca5c2c4d0e9c6d777ce27377de4384f5133fe"), looks := false }, kinds := [], alts := [], laidByText := true, laidKinds := [.data, .data, .data], laidTests := true, laidLooks := .later }
def FnIslandLoadUptoCardSaid : Prop := Claim7.holds Tryd.pinned (.plain (OpenSpec.upto fnIslandLoadSpec)) fnIslandLoadUptoCard

/-- THE SECOND FORM's CARD OF 'laws.FnAliveBuses'. -/
def fnAliveBusesUptoCard : Claim7 := { stood := { row := fnAliveBusesUptoRow, standIns := [], harness := (true, "4f4e3bc095151ff75acdc1e8163ca5c2c4d0e9c6d777ce27377de4384f5133fe"), looks := false }, kinds := [], alts := [], laidByText := true, laidKinds := [.data, .data, .data], laidTests := true, laidLooks := .later }
def FnAliveBusesUptoCardSaid : Prop := Claim7.holds Tryd.pinned (.plain (OpenSpec.upto fnAliveBusesSpec)) fnAliveBusesUptoCard

/-- THE SECOND FORM's CARD OF 'laws.FnServedLoad'. -/
def fnServedLoadUptoCard : Claim7 := { stood := { row := fnServedLoadUptoRow, standIns := [], harness := (true, "4f4e3bc095151ff75acdc1e8163ca5c2c4d0e9c6d777ce27377de4384f5133fe"), looks := false }, kinds := [], alts := [], laidByText := true, laidKinds := [.data, .data, .data], laidTests := true, laidLooks := .later }
def FnServedLoadUptoCardSaid : Prop := Claim7.holds Tryd.pinned (.plain (OpenSpec.upto fnServedLoadSpec)) fnServedLoadUptoCard
end Rows
end Go.Proofs.YtobbmnbkjeoheaaDoor
