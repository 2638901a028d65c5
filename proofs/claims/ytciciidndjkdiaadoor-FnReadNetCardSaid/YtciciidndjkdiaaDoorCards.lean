/-
  DERIVED. GIVEN WITH THE SEED: THE CARDS: each row of YtciciidndjkdiaaDoorRows.lean that lists a variable, with what it lists TIED to the program's text (the seventh form; the later family's looks); each row that meets fmt, with fmt's text TOLD by the authors' own Lean function (tested against real Go, not proved from fmt's source: count such statements apart). THE CARD IS WHAT COUNTS. Prove the row's statement (the work); the ties are given (YtciciidndjkdiaaDoorTie.lean); close each card by the builder's one call (the guide's Derived/Test/ToyasCard.lean, 'card_holds'). Laid BY PROGRAM, IN A SANDBOX (cutbox-door.mjs). By AI agents, Wed Nov 11 2026. No macro, syntax, notation, axiom, sorry.
-/
import Derived.Test.YtciciidndjkdiaaDoorRows
import GoSem.ClaimSeven
namespace Go.Proofs.YtciciidndjkdiaaDoor
namespace Rows

/-- THE TIED CARD OF 'laws.FnNetText'. -/
def fnNetTextCard : Claim7 := { stood := { row := fnNetTextRow, standIns := [], harness := (true, "bd33a9ed6b5d563e5f3daac7606713408746630fe8e2a36249dc83597bfeafb7"), looks := true }, kinds := [], alts := [], laidByText := true, laidKinds := [.data, .data, .data, .data, .sentinel, .sentinel, .pinned], laidTests := true, laidLooks := .later }
def FnNetTextCardSaid : Prop := Claim7.holds Tryd.pinned (.plain (OpenSpec.ofChange fnNetTextSpec)) fnNetTextCard

/-- THE TIED CARD OF 'laws.FnReadNet'. -/
def fnReadNetCard : Claim7 := { stood := { row := fnReadNetRow, standIns := [], harness := (true, "bd33a9ed6b5d563e5f3daac7606713408746630fe8e2a36249dc83597bfeafb7"), looks := true }, kinds := [], alts := [], laidByText := true, laidKinds := [.data, .data, .data, .data, .sentinel, .sentinel, .pinned], laidTests := true, laidLooks := .later }
def FnReadNetCardSaid : Prop := Claim7.holds Tryd.pinned (.plain (OpenSpec.ofChange fnReadNetSpec)) fnReadNetCard

/-- THE TIED CARD OF 'laws.FnStateValid'. -/
def fnStateValidCard : Claim7 := { stood := { row := fnStateValidRow, standIns := [], harness := (true, "bd33a9ed6b5d563e5f3daac7606713408746630fe8e2a36249dc83597bfeafb7"), looks := true }, kinds := [], alts := [], laidByText := true, laidKinds := [.data, .data, .data], laidTests := true, laidLooks := .later }
def FnStateValidCardSaid : Prop := Claim7.holds Tryd.pinned (.plain (OpenSpec.ofChange fnStateValidSpec)) fnStateValidCard

/-- THE TIED CARD OF 'laws.FnExactReadNet'. -/
def fnExactReadNetCard : Claim7 := { stood := { row := fnExactReadNetRow, standIns := [], harness := (true, "bd33a9ed6b5d563e5f3daac7606713408746630fe8e2a36249dc83597bfeafb7"), looks := true }, kinds := [], alts := [], laidByText := true, laidKinds := [.data, .data, .data, .data, .sentinel, .sentinel, .pinned], laidTests := true, laidLooks := .later }
def FnExactReadNetCardSaid : Prop := Claim7.holds Tryd.pinned (.plain (OpenSpec.ofChange fnExactReadNetSpec)) fnExactReadNetCard

/-- THE SECOND FORM's CARD OF 'laws.FnNetText'. -/
def fnNetTextUptoCard : Claim7 := { stood := { row := fnNetTextUptoRow, standIns := [], harness := (true, "bd33a9ed6b5d563e5f3daac7606713408746630fe8e2a36249dc83597bfeafb7"), looks := true }, kinds := [], alts := [], laidByText := true, laidKinds := [.data, .data, .data, .data, .sentinel, .sentinel, .pinned], laidTests := true, laidLooks := .later }
def FnNetTextUptoCardSaid : Prop := Claim7.holds Tryd.pinned (.plain (OpenSpec.upto fnNetTextSpec)) fnNetTextUptoCard

/-- THE SECOND FORM's CARD OF 'laws.FnReadNet'. -/
def fnReadNetUptoCard : Claim7 := { stood := { row := fnReadNetUptoRow, standIns := [], harness := (true, "bd33a9ed6b5d563e5f3daac7606713408746630fe8e2a36249dc83597bfeafb7"), looks := true }, kinds := [], alts := [], laidByText := true, laidKinds := [.data, .data, .data, .data, .sentinel, .sentinel, .pinned], laidTests := true, laidLooks := .later }
def FnReadNetUptoCardSaid : Prop := Claim7.holds Tryd.pinned (.plain (OpenSpec.upto fnReadNetSpec)) fnReadNetUptoCard

/-- THE SECOND FORM's CARD OF 'laws.FnStateValid'. -/
def fnStateValidUptoCard : Claim7 := { stood := { row := fnStateValidUptoRow, standIns := [], harness := (true, "bd33a9ed6b5d563e5f3daac7606713408746630fe8e2a36249dc83597bfeafb7"), looks := true }, kinds := [], alts := [], laidByText := true, laidKinds := [.data, .data, .data], laidTests := true, laidLooks := .later }
def FnStateValidUptoCardSaid : Prop := Claim7.holds Tryd.pinned (.plain (OpenSpec.upto fnStateValidSpec)) fnStateValidUptoCard

/-- THE SECOND FORM's CARD OF 'laws.FnExactReadNet'. -/
def fnExactReadNetUptoCard : Claim7 := { stood := { row := fnExactReadNetUptoRow, standIns := [], harness := (true, "bd33a9ed6b5d563e5f3daac7606713408746630fe8e2a36249dc83597bfeafb7"), looks := true }, kinds := [], alts := [], laidByText := true, laidKinds := [.data, .data, .data, .data, .sentinel, .sentinel, .pinned], laidTests := true, laidLooks := .later }
def FnExactReadNetUptoCardSaid : Prop := Claim7.holds Tryd.pinned (.plain (OpenSpec.upto fnExactReadNetSpec)) fnExactReadNetUptoCard
end Rows
end Go.Proofs.YtciciidndjkdiaaDoor
