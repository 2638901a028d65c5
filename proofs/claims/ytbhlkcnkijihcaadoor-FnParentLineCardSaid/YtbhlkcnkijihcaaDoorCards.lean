/-
  DERIVED. GIVEN WITH THE SEED: THE CARDS: each row of YtbhlkcnkijihcaaDoorRows.lean that lists a variable, with what it lists TIED to the program's text (the seventh form; the later family's looks); each row that meets fmt, with fmt's text TOLD by the authors' own Lean function (tested against real Go, not proved from fmt's source: count such statements apart). THE CARD IS WHAT COUNTS. Prove the row's statement (the work); the ties are given (YtbhlkcnkijihcaaDoorTie.lean); close each card by the builder's one call (the guide's Derived/Test/ToyasCard.lean, 'card_holds'). Laid BY PROGRAM, IN A SANDBOX (cutbox-door.mjs). By AI agents, Wed Nov 11 2026. No macro, syntax, notation, axiom, sorry.
-/
import Derived.Test.YtbhlkcnkijihcaaDoorRows
import GoSem.ClaimSeven
namespace Go.Proofs.YtbhlkcnkijihcaaDoor
namespace Rows

/-- THE TIED CARD OF 'laws.FnFedBy'. -/
def fnFedByCard : Claim7 := { stood := { row := fnFedByRow, standIns := [], harness := (true, "648ad24ffc37169ad6cf4d8b90ee58c9665dbfa8f10a9847f4b5d9af2b5905d5"), looks := false }, kinds := [], alts := [], laidByText := true, laidKinds := [.data, .data, .data], laidTests := true, laidLooks := .later }
def FnFedByCardSaid : Prop := Claim7.holds Tryd.pinned (.plain (OpenSpec.ofChange fnFedBySpec)) fnFedByCard

/-- THE TIED CARD OF 'laws.FnParentLine'. -/
def fnParentLineCard : Claim7 := { stood := { row := fnParentLineRow, standIns := [], harness := (true, "648ad24ffc37169ad6cf4d8b90ee58c9665dbfa8f10a9847f4b5d9af2b5905d5"), looks := false }, kinds := [], alts := [], laidByText := true, laidKinds := [.data, .data, .data], laidTests := true, laidLooks := .later }
def FnParentLineCardSaid : Prop := Claim7.holds Tryd.pinned (.plain (OpenSpec.ofChange fnParentLineSpec)) fnParentLineCard

/-- THE TIED CARD OF 'laws.FnPathLines'. -/
def fnPathLinesCard : Claim7 := { stood := { row := fnPathLinesRow, standIns := [], harness := (true, "648ad24ffc37169ad6cf4d8b90ee58c9665dbfa8f10a9847f4b5d9af2b5905d5"), looks := false }, kinds := [], alts := [], laidByText := true, laidKinds := [.data, .data, .data], laidTests := true, laidLooks := .later }
def FnPathLinesCardSaid : Prop := Claim7.holds Tryd.pinned (.plain (OpenSpec.ofChange fnPathLinesSpec)) fnPathLinesCard

/-- THE TIED CARD OF 'laws.FnBelowLine'. -/
def fnBelowLineCard : Claim7 := { stood := { row := fnBelowLineRow, standIns := [], harness := (true, "648ad24ffc37169ad6cf4d8b90ee58c9665dbfa8f10a9847f4b5d9af2b5905d5"), looks := false }, kinds := [], alts := [], laidByText := true, laidKinds := [.data, .data, .data], laidTests := true, laidLooks := .later }
def FnBelowLineCardSaid : Prop := Claim7.holds Tryd.pinned (.plain (OpenSpec.ofChange fnBelowLineSpec)) fnBelowLineCard

/-- THE TIED CARD OF 'laws.FnLineFlow'. -/
def fnLineFlowCard : Claim7 := { stood := { row := fnLineFlowRow, standIns := [], harness := (true, "648ad24ffc37169ad6cf4d8b90ee58c9665dbfa8f10a9847f4b5d9af2b5905d5"), looks := false }, kinds := [], alts := [], laidByText := true, laidKinds := [.data, .data, .data], laidTests := true, laidLooks := .later }
def FnLineFlowCardSaid : Prop := Claim7.holds Tryd.pinned (.plain (OpenSpec.ofChange fnLineFlowSpec)) fnLineFlowCard

/-- THE TIED CARD OF 'laws.FnFeedFlow'. -/
def fnFeedFlowCard : Claim7 := { stood := { row := fnFeedFlowRow, standIns := [], harness := (true, "648ad24ffc37169ad6cf4d8b90ee58c9665dbfa8f10a9847f4b5d9af2b5905d5"), looks := false }, kinds := [], alts := [], laidByText := true, laidKinds := [.data, .data, .data], laidTests := true, laidLooks := .later }
def FnFeedFlowCardSaid : Prop := Claim7.holds Tryd.pinned (.plain (OpenSpec.ofChange fnFeedFlowSpec)) fnFeedFlowCard

/-- THE TIED CARD OF 'laws.FnOverloads'. -/
def fnOverloadsCard : Claim7 := { stood := { row := fnOverloadsRow, standIns := [], harness := (true, "648ad24ffc37169ad6cf4d8b90ee58c9665dbfa8f10a9847f4b5d9af2b5905d5"), looks := false }, kinds := [], alts := [], laidByText := true, laidKinds := [.data, .data, .data], laidTests := true, laidLooks := .later }
def FnOverloadsCardSaid : Prop := Claim7.holds Tryd.pinned (.plain (OpenSpec.ofChange fnOverloadsSpec)) fnOverloadsCard

/-- THE TIED CARD OF 'laws.FnNetGood'. -/
def fnNetGoodCard : Claim7 := { stood := { row := fnNetGoodRow, standIns := [], harness := (true, "648ad24ffc37169ad6cf4d8b90ee58c9665dbfa8f10a9847f4b5d9af2b5905d5"), looks := false }, kinds := [], alts := [], laidByText := true, laidKinds := [.data, .data, .data], laidTests := true, laidLooks := .later }
def FnNetGoodCardSaid : Prop := Claim7.holds Tryd.pinned (.plain (OpenSpec.ofChange fnNetGoodSpec)) fnNetGoodCard

/-- THE SECOND FORM's CARD OF 'laws.FnFedBy'. -/
def fnFedByUptoCard : Claim7 := { stood := { row := fnFedByUptoRow, standIns := [], harness := (true, "648ad24ffc37169ad6cf4d8b90ee58c9665dbfa8f10a9847f4b5d9af2b5905d5"), looks := false }, kinds := [], alts := [], laidByText := true, laidKinds := [.data, .data, .data], laidTests := true, laidLooks := .later }
def FnFedByUptoCardSaid : Prop := Claim7.holds Tryd.pinned (.plain (OpenSpec.upto fnFedBySpec)) fnFedByUptoCard

/-- THE SECOND FORM's CARD OF 'laws.FnParentLine'. -/
def fnParentLineUptoCard : Claim7 := { stood := { row := fnParentLineUptoRow, standIns := [], harness := (true, "648ad24ffc37169ad6cf4d8b90ee58c9665dbfa8f10a9847f4b5d9af2b5905d5"), looks := false }, kinds := [], alts := [], laidByText := true, laidKinds := [.data, .data, .data], laidTests := true, laidLooks := .later }
def FnParentLineUptoCardSaid : Prop := Claim7.holds Tryd.pinned (.plain (OpenSpec.upto fnParentLineSpec)) fnParentLineUptoCard

/-- THE SECOND FORM's CARD OF 'laws.FnPathLines'. -/
def fnPathLinesUptoCard : Claim7 := { stood := { row := fnPathLinesUptoRow, standIns := [], harness := (true, "648ad24ffc37169ad6cf4d8b90ee58c9665dbfa8f10a9847f4b5d9af2b5905d5"), looks := false }, kinds := [], alts := [], laidByText := true, laidKinds := [.data, .data, .data], laidTests := true, laidLooks := .later }
def FnPathLinesUptoCardSaid : Prop := Claim7.holds Tryd.pinned (.plain (OpenSpec.upto fnPathLinesSpec)) fnPathLinesUptoCard

/-- THE SECOND FORM's CARD OF 'laws.FnBelowLine'. -/
def fnBelowLineUptoCard : Claim7 := { stood := { row := fnBelowLineUptoRow, standIns := [], harness := (true, "648ad24ffc37169ad6cf4d8b90ee58c9665dbfa8f10a9847f4b5d9af2b5905d5"), looks := false }, kinds := [], alts := [], laidByText := true, laidKinds := [.data, .data, .data], laidTests := true, laidLooks := .later }
def FnBelowLineUptoCardSaid : Prop := Claim7.holds Tryd.pinned (.plain (OpenSpec.upto fnBelowLineSpec)) fnBelowLineUptoCard

/-- THE SECOND FORM's CARD OF 'laws.FnLineFlow'. -/
def fnLineFlowUptoCard : Claim7 := { stood := { row := fnLineFlowUptoRow, standIns := [], harness := (true, "648ad24ffc37169ad6cf4d8b90ee58c9665dbfa8f10a9847f4b5d9af2b5905d5"), looks := false }, kinds := [], alts := [], laidByText := true, laidKinds := [.data, .data, .data], laidTests := true, laidLooks := .later }
def FnLineFlowUptoCardSaid : Prop := Claim7.holds Tryd.pinned (.plain (OpenSpec.upto fnLineFlowSpec)) fnLineFlowUptoCard

/-- THE SECOND FORM's CARD OF 'laws.FnFeedFlow'. -/
def fnFeedFlowUptoCard : Claim7 := { stood := { row := fnFeedFlowUptoRow, standIns := [], harness := (true, "648ad24ffc37169ad6cf4d8b90ee58c9665dbfa8f10a9847f4b5d9af2b5905d5"), looks := false }, kinds := [], alts := [], laidByText := true, laidKinds := [.data, .data, .data], laidTests := true, laidLooks := .later }
def FnFeedFlowUptoCardSaid : Prop := Claim7.holds Tryd.pinned (.plain (OpenSpec.upto fnFeedFlowSpec)) fnFeedFlowUptoCard

/-- THE SECOND FORM's CARD OF 'laws.FnOverloads'. -/
def fnOverloadsUptoCard : Claim7 := { stood := { row := fnOverloadsUptoRow, standIns := [], harness := (true, "648ad24ffc37169ad6cf4d8b90ee58c9665dbfa8f10a9847f4b5d9af2b5905d5"), looks := false }, kinds := [], alts := [], laidByText := true, laidKinds := [.data, .data, .data], laidTests := true, laidLooks := .later }
def FnOverloadsUptoCardSaid : Prop := Claim7.holds Tryd.pinned (.plain (OpenSpec.upto fnOverloadsSpec)) fnOverloadsUptoCard

/-- THE SECOND FORM's CARD OF 'laws.FnNetGood'. -/
def fnNetGoodUptoCard : Claim7 := { stood := { row := fnNetGoodUptoRow, standIns := [], harness := (true, "648ad24ffc37169ad6cf4d8b90ee58c9665dbfa8f10a9847f4b5d9af2b5905d5"), looks := false }, kinds := [], alts := [], laidByText := true, laidKinds := [.data, .data, .data], laidTests := true, laidLooks := .later }
def FnNetGoodUptoCardSaid : Prop := Claim7.holds Tryd.pinned (.plain (OpenSpec.upto fnNetGoodSpec)) fnNetGoodUptoCard
end Rows
end Go.Proofs.YtbhlkcnkijihcaaDoor
