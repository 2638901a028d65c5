/-
  DERIVED. GIVEN WITH THE SEED: THE CARDS: each row of YtcfnkjblhhmbeaaDoorRows.lean that lists a variable, with what it lists TIED to the program's text (the seventh form; the later family's looks); each row that meets fmt, with fmt's text TOLD by the authors' own Lean function (tested against real Go, not proved from fmt's source: count such statements apart). THE CARD IS WHAT COUNTS. Prove the row's statement (the work); the ties are given (YtcfnkjblhhmbeaaDoorTie.lean); close each card by the builder's one call (the guide's Derived/Test/ToyasCard.lean, 'card_holds'). Laid BY PROGRAM, IN A SANDBOX (cutbox-door.mjs). By AI agents, Wed Nov 11 2026. No macro, syntax, notation, axiom, sorry.
-/
import Derived.Test.YtcfnkjblhhmbeaaDoorRows
import GoSem.ClaimSeven
namespace Go.Proofs.YtcfnkjblhhmbeaaDoor
namespace Rows

/-- THE TIED CARD OF 'laws.FnRadial'. -/
def fnRadialCard : Claim7 := { stood := { row := fnRadialRow, standIns := [], harness := (true, "ece388af4de981689733a8815bd16c4503cfc9b037e3c3a022b1e35f48a750ba"), looks := false }, kinds := [], alts := [], laidByText := true, laidKinds := [.data, .data, .data], laidTests := true, laidLooks := .later }
def FnRadialCardSaid : Prop := Claim7.holds Tryd.pinned (.plain (OpenSpec.ofChange fnRadialSpec)) fnRadialCard

/-- THE TIED CARD OF 'laws.FnFedBy'. -/
def fnFedByCard : Claim7 := { stood := { row := fnFedByRow, standIns := [], harness := (true, "ece388af4de981689733a8815bd16c4503cfc9b037e3c3a022b1e35f48a750ba"), looks := false }, kinds := [], alts := [], laidByText := true, laidKinds := [.data, .data, .data], laidTests := true, laidLooks := .later }
def FnFedByCardSaid : Prop := Claim7.holds Tryd.pinned (.plain (OpenSpec.ofChange fnFedBySpec)) fnFedByCard

/-- THE TIED CARD OF 'laws.FnParentLine'. -/
def fnParentLineCard : Claim7 := { stood := { row := fnParentLineRow, standIns := [], harness := (true, "ece388af4de981689733a8815bd16c4503cfc9b037e3c3a022b1e35f48a750ba"), looks := false }, kinds := [], alts := [], laidByText := true, laidKinds := [.data, .data, .data], laidTests := true, laidLooks := .later }
def FnParentLineCardSaid : Prop := Claim7.holds Tryd.pinned (.plain (OpenSpec.ofChange fnParentLineSpec)) fnParentLineCard

/-- THE TIED CARD OF 'laws.FnPathLines'. -/
def fnPathLinesCard : Claim7 := { stood := { row := fnPathLinesRow, standIns := [], harness := (true, "ece388af4de981689733a8815bd16c4503cfc9b037e3c3a022b1e35f48a750ba"), looks := false }, kinds := [], alts := [], laidByText := true, laidKinds := [.data, .data, .data], laidTests := true, laidLooks := .later }
def FnPathLinesCardSaid : Prop := Claim7.holds Tryd.pinned (.plain (OpenSpec.ofChange fnPathLinesSpec)) fnPathLinesCard

/-- THE TIED CARD OF 'laws.FnBelowLine'. -/
def fnBelowLineCard : Claim7 := { stood := { row := fnBelowLineRow, standIns := [], harness := (true, "ece388af4de981689733a8815bd16c4503cfc9b037e3c3a022b1e35f48a750ba"), looks := false }, kinds := [], alts := [], laidByText := true, laidKinds := [.data, .data, .data], laidTests := true, laidLooks := .later }
def FnBelowLineCardSaid : Prop := Claim7.holds Tryd.pinned (.plain (OpenSpec.ofChange fnBelowLineSpec)) fnBelowLineCard

/-- THE SECOND FORM's CARD OF 'laws.FnRadial'. -/
def fnRadialUptoCard : Claim7 := { stood := { row := fnRadialUptoRow, standIns := [], harness := (true, "ece388af4de981689733a8815bd16c4503cfc9b037e3c3a022b1e35f48a750ba"), looks := false }, kinds := [], alts := [], laidByText := true, laidKinds := [.data, .data, .data], laidTests := true, laidLooks := .later }
def FnRadialUptoCardSaid : Prop := Claim7.holds Tryd.pinned (.plain (OpenSpec.upto fnRadialSpec)) fnRadialUptoCard

/-- THE SECOND FORM's CARD OF 'laws.FnFedBy'. -/
def fnFedByUptoCard : Claim7 := { stood := { row := fnFedByUptoRow, standIns := [], harness := (true, "ece388af4de981689733a8815bd16c4503cfc9b037e3c3a022b1e35f48a750ba"), looks := false }, kinds := [], alts := [], laidByText := true, laidKinds := [.data, .data, .data], laidTests := true, laidLooks := .later }
def FnFedByUptoCardSaid : Prop := Claim7.holds Tryd.pinned (.plain (OpenSpec.upto fnFedBySpec)) fnFedByUptoCard

/-- THE SECOND FORM's CARD OF 'laws.FnParentLine'. -/
def fnParentLineUptoCard : Claim7 := { stood := { row := fnParentLineUptoRow, standIns := [], harness := (true, "ece388af4de981689733a8815bd16c4503cfc9b037e3c3a022b1e35f48a750ba"), looks := false }, kinds := [], alts := [], laidByText := true, laidKinds := [.data, .data, .data], laidTests := true, laidLooks := .later }
def FnParentLineUptoCardSaid : Prop := Claim7.holds Tryd.pinned (.plain (OpenSpec.upto fnParentLineSpec)) fnParentLineUptoCard

/-- THE SECOND FORM's CARD OF 'laws.FnPathLines'. -/
def fnPathLinesUptoCard : Claim7 := { stood := { row := fnPathLinesUptoRow, standIns := [], harness := (true, "ece388af4de981689733a8815bd16c4503cfc9b037e3c3a022b1e35f48a750ba"), looks := false }, kinds := [], alts := [], laidByText := true, laidKinds := [.data, .data, .data], laidTests := true, laidLooks := .later }
def FnPathLinesUptoCardSaid : Prop := Claim7.holds Tryd.pinned (.plain (OpenSpec.upto fnPathLinesSpec)) fnPathLinesUptoCard

/-- THE SECOND FORM's CARD OF 'laws.FnBelowLine'. -/
def fnBelowLineUptoCard : Claim7 := { stood := { row := fnBelowLineUptoRow, standIns := [], harness := (true, "ece388af4de981689733a8815bd16c4503cfc9b037e3c3a022b1e35f48a750ba"), looks := false }, kinds := [], alts := [], laidByText := true, laidKinds := [.data, .data, .data], laidTests := true, laidLooks := .later }
def FnBelowLineUptoCardSaid : Prop := Claim7.holds Tryd.pinned (.plain (OpenSpec.upto fnBelowLineSpec)) fnBelowLineUptoCard
end Rows
end Go.Proofs.YtcfnkjblhhmbeaaDoor
