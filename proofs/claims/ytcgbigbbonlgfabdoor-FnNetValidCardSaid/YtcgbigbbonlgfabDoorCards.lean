/-
  DERIVED. GIVEN WITH THE SEED: THE CARDS: each row of YtcgbigbbonlgfabDoorRows.lean that lists a variable, with what it lists TIED to the program's text (the seventh form; the later family's looks); each row that meets fmt, with fmt's text TOLD by the authors' own Lean function (tested against real Go, not proved from fmt's source: count such statements apart). THE CARD IS WHAT COUNTS. Prove the row's statement (the work); the ties are given (YtcgbigbbonlgfabDoorTie.lean); close each card by the builder's one call (the guide's Derived/Test/ToyasCard.lean, 'card_holds'). Laid BY PROGRAM, IN A SANDBOX (cutbox-door.mjs). By AI agents, Wed Nov 11 2026. No macro, syntax, notation, axiom, sorry.
-/
import Derived.Test.YtcgbigbbonlgfabDoorRows
import GoSem.ClaimSeven
namespace Go.Proofs.YtcgbigbbonlgfabDoor
namespace Rows

/-- THE TIED CARD OF 'laws.FnNetValid'. -/
def fnNetValidCard : Claim7 := { stood := { row := fnNetValidRow, standIns := [], harness := (true, "d0532783a4c50e2f549b9b8ee0c68c57f3333366cb76302b11f594f3e681912c"), looks := true }, kinds := [], alts := [], laidByText := true, laidKinds := [.data, .data, .data], laidTests := true, laidLooks := .later }
def FnNetValidCardSaid : Prop := Claim7.holds Tryd.pinned (.plain (OpenSpec.ofChange fnNetValidSpec)) fnNetValidCard

/-- THE TIED CARD OF 'laws.FnNetText'. -/
def fnNetTextCard : Claim7 := { stood := { row := fnNetTextRow, standIns := [], harness := (true, "d0532783a4c50e2f549b9b8ee0c68c57f3333366cb76302b11f594f3e681912c"), looks := true }, kinds := [], alts := [], laidByText := true, laidKinds := [.data, .data, .data, .data, .sentinel, .sentinel, .pinned], laidTests := true, laidLooks := .later }
def FnNetTextCardSaid : Prop := Claim7.holds Tryd.pinned (.plain (OpenSpec.ofChange fnNetTextSpec)) fnNetTextCard

/-- THE TIED CARD OF 'laws.FnReadNet'. -/
def fnReadNetCard : Claim7 := { stood := { row := fnReadNetRow, standIns := [], harness := (true, "d0532783a4c50e2f549b9b8ee0c68c57f3333366cb76302b11f594f3e681912c"), looks := true }, kinds := [], alts := [], laidByText := true, laidKinds := [.data, .data, .data, .data, .sentinel, .sentinel, .pinned], laidTests := true, laidLooks := .later }
def FnReadNetCardSaid : Prop := Claim7.holds Tryd.pinned (.plain (OpenSpec.ofChange fnReadNetSpec)) fnReadNetCard

/-- THE TIED CARD OF 'laws.FnExactReadNet'. -/
def fnExactReadNetCard : Claim7 := { stood := { row := fnExactReadNetRow, standIns := [], harness := (true, "d0532783a4c50e2f549b9b8ee0c68c57f3333366cb76302b11f594f3e681912c"), looks := true }, kinds := [], alts := [], laidByText := true, laidKinds := [.data, .data, .data, .data, .sentinel, .sentinel, .pinned], laidTests := true, laidLooks := .later }
def FnExactReadNetCardSaid : Prop := Claim7.holds Tryd.pinned (.plain (OpenSpec.ofChange fnExactReadNetSpec)) fnExactReadNetCard

/-- THE SECOND FORM's CARD OF 'laws.FnNetValid'. -/
def fnNetValidUptoCard : Claim7 := { stood := { row := fnNetValidUptoRow, standIns := [], harness := (true, "d0532783a4c50e2f549b9b8ee0c68c57f3333366cb76302b11f594f3e681912c"), looks := true }, kinds := [], alts := [], laidByText := true, laidKinds := [.data, .data, .data], laidTests := true, laidLooks := .later }
def FnNetValidUptoCardSaid : Prop := Claim7.holds Tryd.pinned (.plain (OpenSpec.upto fnNetValidSpec)) fnNetValidUptoCard

/-- THE SECOND FORM's CARD OF 'laws.FnNetText'. -/
def fnNetTextUptoCard : Claim7 := { stood := { row := fnNetTextUptoRow, standIns := [], harness := (true, "d0532783a4c50e2f549b9b8ee0c68c57f3333366cb76302b11f594f3e681912c"), looks := true }, kinds := [], alts := [], laidByText := true, laidKinds := [.data, .data, .data, .data, .sentinel, .sentinel, .pinned], laidTests := true, laidLooks := .later }
def FnNetTextUptoCardSaid : Prop := Claim7.holds Tryd.pinned (.plain (OpenSpec.upto fnNetTextSpec)) fnNetTextUptoCard

/-- THE SECOND FORM's CARD OF 'laws.FnReadNet'. -/
def fnReadNetUptoCard : Claim7 := { stood := { row := fnReadNetUptoRow, standIns := [], harness := (true, "d0532783a4c50e2f549b9b8ee0c68c57f3333366cb76302b11f594f3e681912c"), looks := true }, kinds := [], alts := [], laidByText := true, laidKinds := [.data, .data, .data, .data, .sentinel, .sentinel, .pinned], laidTests := true, laidLooks := .later }
def FnReadNetUptoCardSaid : Prop := Claim7.holds Tryd.pinned (.plain (OpenSpec.upto fnReadNetSpec)) fnReadNetUptoCard

/-- THE SECOND FORM's CARD OF 'laws.FnExactReadNet'. -/
def fnExactReadNetUptoCard : Claim7 := { stood := { row := fnExactReadNetUptoRow, standIns := [], harness := (true, "d0532783a4c50e2f549b9b8ee0c68c57f3333366cb76302b11f594f3e681912c"), looks := true }, kinds := [], alts := [], laidByText := true, laidKinds := [.data, .data, .data, .data, .sentinel, .sentinel, .pinned], laidTests := true, laidLooks := .later }
def FnExactReadNetUptoCardSaid : Prop := Claim7.holds Tryd.pinned (.plain (OpenSpec.upto fnExactReadNetSpec)) fnExactReadNetUptoCard
end Rows
end Go.Proofs.YtcgbigbbonlgfabDoor
