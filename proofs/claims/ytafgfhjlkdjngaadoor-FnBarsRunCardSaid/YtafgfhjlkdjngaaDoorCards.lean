/-
  DERIVED. GIVEN WITH THE SEED: THE CARDS: each row of YtafgfhjlkdjngaaDoorRows.lean that lists a variable, with what it lists TIED to the program's text (the seventh form; the later family's looks); each row that meets fmt, with fmt's text TOLD by the authors' own Lean function (tested against real Go, not proved from fmt's source: count such statements apart). THE CARD IS WHAT COUNTS. Prove the row's statement (the work); the ties are given (YtafgfhjlkdjngaaDoorTie.lean); close each card by the builder's one call (the guide's Derived/Test/ToyasCard.lean, 'card_holds'). Laid BY PROGRAM, IN A SANDBOX (cutbox-door.mjs). By AI agents, Wed Nov 11 2026. No macro, syntax, notation, axiom, sorry.
-/
import Derived.Test.YtafgfhjlkdjngaaDoorRows
import GoSem.ClaimSeven
namespace Go.Proofs.YtafgfhjlkdjngaaDoor
namespace Rows

/-- THE TIED CARD OF 'laws.FnBarsRun'. -/
def fnBarsRunCard : Claim7 := { stood := { row := fnBarsRunRow, standIns := [], harness := (true, "e65f08ed8ece7eda475c643e7c5919a6ab5363dd2f2e7095321f7c640e79f53c"), looks := false }, kinds := [], alts := [], laidByText := true, laidKinds := [.data, .data, .data], laidTests := true, laidLooks := .later }
def FnBarsRunCardSaid : Prop := Claim7.holds Tryd.pinned (.plain (OpenSpec.ofChange fnBarsRunSpec)) fnBarsRunCard

/-- THE TIED CARD OF 'laws.FnWorkValid'. -/
def fnWorkValidCard : Claim7 := { stood := { row := fnWorkValidRow, standIns := [], harness := (true, "e65f08ed8ece7eda475c643e7c5919a6ab5363dd2f2e7095321f7c640e79f53c"), looks := false }, kinds := [], alts := [], laidByText := true, laidKinds := [.data, .data, .data], laidTests := true, laidLooks := .later }
def FnWorkValidCardSaid : Prop := Claim7.holds Tryd.pinned (.plain (OpenSpec.ofChange fnWorkValidSpec)) fnWorkValidCard

/-- THE TIED CARD OF 'laws.FnWorkHeld'. -/
def fnWorkHeldCard : Claim7 := { stood := { row := fnWorkHeldRow, standIns := [], harness := (true, "e65f08ed8ece7eda475c643e7c5919a6ab5363dd2f2e7095321f7c640e79f53c"), looks := false }, kinds := [], alts := [], laidByText := true, laidKinds := [.data, .data, .data, .data], laidTests := true, laidLooks := .later }
def FnWorkHeldCardSaid : Prop := Claim7.holds Tryd.pinned (.plain (OpenSpec.ofChange fnWorkHeldSpec)) fnWorkHeldCard

/-- THE TIED CARD OF 'laws.FnWorkDo'. -/
def fnWorkDoCard : Claim7 := { stood := { row := fnWorkDoRow, standIns := [], harness := (true, "e65f08ed8ece7eda475c643e7c5919a6ab5363dd2f2e7095321f7c640e79f53c"), looks := false }, kinds := [], alts := [], laidByText := true, laidKinds := [.data, .data, .data, .data], laidTests := true, laidLooks := .later }
def FnWorkDoCardSaid : Prop := Claim7.holds Tryd.pinned (.plain (OpenSpec.ofChange fnWorkDoSpec)) fnWorkDoCard

/-- THE TIED CARD OF 'laws.FnWorkRun'. -/
def fnWorkRunCard : Claim7 := { stood := { row := fnWorkRunRow, standIns := [], harness := (true, "e65f08ed8ece7eda475c643e7c5919a6ab5363dd2f2e7095321f7c640e79f53c"), looks := false }, kinds := [], alts := [], laidByText := true, laidKinds := [.data, .data, .data, .data], laidTests := true, laidLooks := .later }
def FnWorkRunCardSaid : Prop := Claim7.holds Tryd.pinned (.plain (OpenSpec.ofChange fnWorkRunSpec)) fnWorkRunCard

/-- THE TIED CARD OF 'laws.FnWorkClose'. -/
def fnWorkCloseCard : Claim7 := { stood := { row := fnWorkCloseRow, standIns := [], harness := (true, "e65f08ed8ece7eda475c643e7c5919a6ab5363dd2f2e7095321f7c640e79f53c"), looks := false }, kinds := [], alts := [], laidByText := true, laidKinds := [.data, .data, .data, .data], laidTests := true, laidLooks := .later }
def FnWorkCloseCardSaid : Prop := Claim7.holds Tryd.pinned (.plain (OpenSpec.ofChange fnWorkCloseSpec)) fnWorkCloseCard

/-- THE TIED CARD OF 'laws.FnExactWorkDo'. -/
def fnExactWorkDoCard : Claim7 := { stood := { row := fnExactWorkDoRow, standIns := [], harness := (true, "e65f08ed8ece7eda475c643e7c5919a6ab5363dd2f2e7095321f7c640e79f53c"), looks := false }, kinds := [], alts := [], laidByText := true, laidKinds := [.data], laidTests := true, laidLooks := .later }
def FnExactWorkDoCardSaid : Prop := Claim7.holds Tryd.pinned (.plain (OpenSpec.ofChange fnExactWorkDoSpec)) fnExactWorkDoCard

/-- THE TIED CARD OF 'laws.FnExactWorkRun'. -/
def fnExactWorkRunCard : Claim7 := { stood := { row := fnExactWorkRunRow, standIns := [], harness := (true, "e65f08ed8ece7eda475c643e7c5919a6ab5363dd2f2e7095321f7c640e79f53c"), looks := false }, kinds := [], alts := [], laidByText := true, laidKinds := [.data], laidTests := true, laidLooks := .later }
def FnExactWorkRunCardSaid : Prop := Claim7.holds Tryd.pinned (.plain (OpenSpec.ofChange fnExactWorkRunSpec)) fnExactWorkRunCard

/-- THE TIED CARD OF 'laws.FnMoveDeeds'. -/
def fnMoveDeedsCard : Claim7 := { stood := { row := fnMoveDeedsRow, standIns := [], harness := (true, "e65f08ed8ece7eda475c643e7c5919a6ab5363dd2f2e7095321f7c640e79f53c"), looks := false }, kinds := [], alts := [], laidByText := true, laidKinds := [.data, .data, .data], laidTests := true, laidLooks := .later }
def FnMoveDeedsCardSaid : Prop := Claim7.holds Tryd.pinned (.plain (OpenSpec.ofChange fnMoveDeedsSpec)) fnMoveDeedsCard

/-- THE TIED CARD OF 'laws.FnEmptyDeeds'. -/
def fnEmptyDeedsCard : Claim7 := { stood := { row := fnEmptyDeedsRow, standIns := [], harness := (true, "e65f08ed8ece7eda475c643e7c5919a6ab5363dd2f2e7095321f7c640e79f53c"), looks := false }, kinds := [], alts := [], laidByText := true, laidKinds := [.data, .data, .data], laidTests := true, laidLooks := .later }
def FnEmptyDeedsCardSaid : Prop := Claim7.holds Tryd.pinned (.plain (OpenSpec.ofChange fnEmptyDeedsSpec)) fnEmptyDeedsCard

/-- THE SECOND FORM's CARD OF 'laws.FnBarsRun'. -/
def fnBarsRunUptoCard : Claim7 := { stood := { row := fnBarsRunUptoRow, standIns := [], harness := (true, "e65f08ed8ece7eda475c643e7c5919a6ab5363dd2f2e7095321f7c640e79f53c"), looks := false }, kinds := [], alts := [], laidByText := true, laidKinds := [.data, .data, .data], laidTests := true, laidLooks := .later }
def FnBarsRunUptoCardSaid : Prop := Claim7.holds Tryd.pinned (.plain (OpenSpec.upto fnBarsRunSpec)) fnBarsRunUptoCard

/-- THE SECOND FORM's CARD OF 'laws.FnWorkValid'. -/
def fnWorkValidUptoCard : Claim7 := { stood := { row := fnWorkValidUptoRow, standIns := [], harness := (true, "e65f08ed8ece7eda475c643e7c5919a6ab5363dd2f2e7095321f7c640e79f53c"), looks := false }, kinds := [], alts := [], laidByText := true, laidKinds := [.data, .data, .data], laidTests := true, laidLooks := .later }
def FnWorkValidUptoCardSaid : Prop := Claim7.holds Tryd.pinned (.plain (OpenSpec.upto fnWorkValidSpec)) fnWorkValidUptoCard

/-- THE SECOND FORM's CARD OF 'laws.FnWorkHeld'. -/
def fnWorkHeldUptoCard : Claim7 := { stood := { row := fnWorkHeldUptoRow, standIns := [], harness := (true, "e65f08ed8ece7eda475c643e7c5919a6ab5363dd2f2e7095321f7c640e79f53c"), looks := false }, kinds := [], alts := [], laidByText := true, laidKinds := [.data, .data, .data, .data], laidTests := true, laidLooks := .later }
def FnWorkHeldUptoCardSaid : Prop := Claim7.holds Tryd.pinned (.plain (OpenSpec.upto fnWorkHeldSpec)) fnWorkHeldUptoCard

/-- THE SECOND FORM's CARD OF 'laws.FnWorkDo'. -/
def fnWorkDoUptoCard : Claim7 := { stood := { row := fnWorkDoUptoRow, standIns := [], harness := (true, "e65f08ed8ece7eda475c643e7c5919a6ab5363dd2f2e7095321f7c640e79f53c"), looks := false }, kinds := [], alts := [], laidByText := true, laidKinds := [.data, .data, .data, .data], laidTests := true, laidLooks := .later }
def FnWorkDoUptoCardSaid : Prop := Claim7.holds Tryd.pinned (.plain (OpenSpec.upto fnWorkDoSpec)) fnWorkDoUptoCard

/-- THE SECOND FORM's CARD OF 'laws.FnWorkRun'. -/
def fnWorkRunUptoCard : Claim7 := { stood := { row := fnWorkRunUptoRow, standIns := [], harness := (true, "e65f08ed8ece7eda475c643e7c5919a6ab5363dd2f2e7095321f7c640e79f53c"), looks := false }, kinds := [], alts := [], laidByText := true, laidKinds := [.data, .data, .data, .data], laidTests := true, laidLooks := .later }
def FnWorkRunUptoCardSaid : Prop := Claim7.holds Tryd.pinned (.plain (OpenSpec.upto fnWorkRunSpec)) fnWorkRunUptoCard

/-- THE SECOND FORM's CARD OF 'laws.FnWorkClose'. -/
def fnWorkCloseUptoCard : Claim7 := { stood := { row := fnWorkCloseUptoRow, standIns := [], harness := (true, "e65f08ed8ece7eda475c643e7c5919a6ab5363dd2f2e7095321f7c640e79f53c"), looks := false }, kinds := [], alts := [], laidByText := true, laidKinds := [.data, .data, .data, .data], laidTests := true, laidLooks := .later }
def FnWorkCloseUptoCardSaid : Prop := Claim7.holds Tryd.pinned (.plain (OpenSpec.upto fnWorkCloseSpec)) fnWorkCloseUptoCard

/-- THE SECOND FORM's CARD OF 'laws.FnExactWorkDo'. -/
def fnExactWorkDoUptoCard : Claim7 := { stood := { row := fnExactWorkDoUptoRow, standIns := [], harness := (true, "e65f08ed8ece7eda475c643e7c5919a6ab5363dd2f2e7095321f7c640e79f53c"), looks := false }, kinds := [], alts := [], laidByText := true, laidKinds := [.data], laidTests := true, laidLooks := .later }
def FnExactWorkDoUptoCardSaid : Prop := Claim7.holds Tryd.pinned (.plain (OpenSpec.upto fnExactWorkDoSpec)) fnExactWorkDoUptoCard

/-- THE SECOND FORM's CARD OF 'laws.FnExactWorkRun'. -/
def fnExactWorkRunUptoCard : Claim7 := { stood := { row := fnExactWorkRunUptoRow, standIns := [], harness := (true, "e65f08ed8ece7eda475c643e7c5919a6ab5363dd2f2e7095321f7c640e79f53c"), looks := false }, kinds := [], alts := [], laidByText := true, laidKinds := [.data], laidTests := true, laidLooks := .later }
def FnExactWorkRunUptoCardSaid : Prop := Claim7.holds Tryd.pinned (.plain (OpenSpec.upto fnExactWorkRunSpec)) fnExactWorkRunUptoCard

/-- THE SECOND FORM's CARD OF 'laws.FnMoveDeeds'. -/
def fnMoveDeedsUptoCard : Claim7 := { stood := { row := fnMoveDeedsUptoRow, standIns := [], harness := (true, "e65f08ed8ece7eda475c643e7c5919a6ab5363dd2f2e7095321f7c640e79f53c"), looks := false }, kinds := [], alts := [], laidByText := true, laidKinds := [.data, .data, .data], laidTests := true, laidLooks := .later }
def FnMoveDeedsUptoCardSaid : Prop := Claim7.holds Tryd.pinned (.plain (OpenSpec.upto fnMoveDeedsSpec)) fnMoveDeedsUptoCard

/-- THE SECOND FORM's CARD OF 'laws.FnEmptyDeeds'. -/
def fnEmptyDeedsUptoCard : Claim7 := { stood := { row := fnEmptyDeedsUptoRow, standIns := [], harness := (true, "e65f08ed8ece7eda475c643e7c5919a6ab5363dd2f2e7095321f7c640e79f53c"), looks := false }, kinds := [], alts := [], laidByText := true, laidKinds := [.data, .data, .data], laidTests := true, laidLooks := .later }
def FnEmptyDeedsUptoCardSaid : Prop := Claim7.holds Tryd.pinned (.plain (OpenSpec.upto fnEmptyDeedsSpec)) fnEmptyDeedsUptoCard
end Rows
end Go.Proofs.YtafgfhjlkdjngaaDoor
