/-
  DERIVED. GIVEN WITH THE SEED: THE CARDS: each row of YtpcefbebknjkiaaDoorRows.lean that lists a variable, with what it lists TIED to the program's text (the seventh form; the later family's looks); each row that meets fmt, with fmt's text TOLD by the authors' own Lean function (tested against real Go, not proved from fmt's source: count such statements apart). THE CARD IS WHAT COUNTS. Prove the row's statement (the work); the ties are given (YtpcefbebknjkiaaDoorTie.lean); close each card by the builder's one call (the guide's Derived/Test/ToyasCard.lean, 'card_holds'). Laid BY PROGRAM, IN A SANDBOX (cutbox-door.mjs). By AI agents, Wed Nov 11 2026. No macro, syntax, notation, axiom, sorry.
-/
import Derived.Test.YtpcefbebknjkiaaDoorRows
import GoSem.ClaimSeven
namespace Go.Proofs.YtpcefbebknjkiaaDoor
namespace Rows

/-- THE TIED CARD OF 'laws.FnBarsValid'. -/
def fnBarsValidCard : Claim7 := { stood := { row := fnBarsValidRow, standIns := [], harness := (true, "ed46a3bc01d522ec20f9395847f61db20172709676a5c30ac06b884008b9f7bc"), looks := false }, kinds := [], alts := [], laidByText := true, laidKinds := [.data, .data, .data], laidTests := true, laidLooks := .later }
def FnBarsValidCardSaid : Prop := Claim7.holds Tryd.pinned (.plain (OpenSpec.ofChange fnBarsValidSpec)) fnBarsValidCard

/-- THE TIED CARD OF 'laws.FnBarsDo'. -/
def fnBarsDoCard : Claim7 := { stood := { row := fnBarsDoRow, standIns := [], harness := (true, "ed46a3bc01d522ec20f9395847f61db20172709676a5c30ac06b884008b9f7bc"), looks := false }, kinds := [], alts := [], laidByText := true, laidKinds := [.data, .data, .data], laidTests := true, laidLooks := .later }
def FnBarsDoCardSaid : Prop := Claim7.holds Tryd.pinned (.plain (OpenSpec.ofChange fnBarsDoSpec)) fnBarsDoCard

/-- THE TIED CARD OF 'laws.FnBarsRun'. -/
def fnBarsRunCard : Claim7 := { stood := { row := fnBarsRunRow, standIns := [], harness := (true, "ed46a3bc01d522ec20f9395847f61db20172709676a5c30ac06b884008b9f7bc"), looks := false }, kinds := [], alts := [], laidByText := true, laidKinds := [.data, .data, .data], laidTests := true, laidLooks := .later }
def FnBarsRunCardSaid : Prop := Claim7.holds Tryd.pinned (.plain (OpenSpec.ofChange fnBarsRunSpec)) fnBarsRunCard

/-- THE TIED CARD OF 'laws.FnMoveDeeds'. -/
def fnMoveDeedsCard : Claim7 := { stood := { row := fnMoveDeedsRow, standIns := [], harness := (true, "ed46a3bc01d522ec20f9395847f61db20172709676a5c30ac06b884008b9f7bc"), looks := false }, kinds := [], alts := [], laidByText := true, laidKinds := [.data, .data, .data], laidTests := true, laidLooks := .later }
def FnMoveDeedsCardSaid : Prop := Claim7.holds Tryd.pinned (.plain (OpenSpec.ofChange fnMoveDeedsSpec)) fnMoveDeedsCard

/-- THE TIED CARD OF 'laws.FnEmptyDeeds'. -/
def fnEmptyDeedsCard : Claim7 := { stood := { row := fnEmptyDeedsRow, standIns := [], harness := (true, "ed46a3bc01d522ec20f9395847f61db20172709676a5c30ac06b884008b9f7bc"), looks := false }, kinds := [], alts := [], laidByText := true, laidKinds := [.data, .data, .data], laidTests := true, laidLooks := .later }
def FnEmptyDeedsCardSaid : Prop := Claim7.holds Tryd.pinned (.plain (OpenSpec.ofChange fnEmptyDeedsSpec)) fnEmptyDeedsCard

/-- THE SECOND FORM's CARD OF 'laws.FnBarsValid'. -/
def fnBarsValidUptoCard : Claim7 := { stood := { row := fnBarsValidUptoRow, standIns := [], harness := (true, "ed46a3bc01d522ec20f9395847f61db20172709676a5c30ac06b884008b9f7bc"), looks := false }, kinds := [], alts := [], laidByText := true, laidKinds := [.data, .data, .data], laidTests := true, laidLooks := .later }
def FnBarsValidUptoCardSaid : Prop := Claim7.holds Tryd.pinned (.plain (OpenSpec.upto fnBarsValidSpec)) fnBarsValidUptoCard

/-- THE SECOND FORM's CARD OF 'laws.FnBarsDo'. -/
def fnBarsDoUptoCard : Claim7 := { stood := { row := fnBarsDoUptoRow, standIns := [], harness := (true, "ed46a3bc01d522ec20f9395847f61db20172709676a5c30ac06b884008b9f7bc"), looks := false }, kinds := [], alts := [], laidByText := true, laidKinds := [.data, .data, .data], laidTests := true, laidLooks := .later }
def FnBarsDoUptoCardSaid : Prop := Claim7.holds Tryd.pinned (.plain (OpenSpec.upto fnBarsDoSpec)) fnBarsDoUptoCard

/-- THE SECOND FORM's CARD OF 'laws.FnBarsRun'. -/
def fnBarsRunUptoCard : Claim7 := { stood := { row := fnBarsRunUptoRow, standIns := [], harness := (true, "ed46a3bc01d522ec20f9395847f61db20172709676a5c30ac06b884008b9f7bc"), looks := false }, kinds := [], alts := [], laidByText := true, laidKinds := [.data, .data, .data], laidTests := true, laidLooks := .later }
def FnBarsRunUptoCardSaid : Prop := Claim7.holds Tryd.pinned (.plain (OpenSpec.upto fnBarsRunSpec)) fnBarsRunUptoCard

/-- THE SECOND FORM's CARD OF 'laws.FnMoveDeeds'. -/
def fnMoveDeedsUptoCard : Claim7 := { stood := { row := fnMoveDeedsUptoRow, standIns := [], harness := (true, "ed46a3bc01d522ec20f9395847f61db20172709676a5c30ac06b884008b9f7bc"), looks := false }, kinds := [], alts := [], laidByText := true, laidKinds := [.data, .data, .data], laidTests := true, laidLooks := .later }
def FnMoveDeedsUptoCardSaid : Prop := Claim7.holds Tryd.pinned (.plain (OpenSpec.upto fnMoveDeedsSpec)) fnMoveDeedsUptoCard

/-- THE SECOND FORM's CARD OF 'laws.FnEmptyDeeds'. -/
def fnEmptyDeedsUptoCard : Claim7 := { stood := { row := fnEmptyDeedsUptoRow, standIns := [], harness := (true, "ed46a3bc01d522ec20f9395847f61db20172709676a5c30ac06b884008b9f7bc"), looks := false }, kinds := [], alts := [], laidByText := true, laidKinds := [.data, .data, .data], laidTests := true, laidLooks := .later }
def FnEmptyDeedsUptoCardSaid : Prop := Claim7.holds Tryd.pinned (.plain (OpenSpec.upto fnEmptyDeedsSpec)) fnEmptyDeedsUptoCard
end Rows
end Go.Proofs.YtpcefbebknjkiaaDoor
