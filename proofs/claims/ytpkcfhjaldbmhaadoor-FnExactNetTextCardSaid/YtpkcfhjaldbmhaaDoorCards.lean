/-
  DERIVED. GIVEN WITH THE SEED: THE CARDS: each row of YtpkcfhjaldbmhaaDoorRows.lean that lists a variable, with what it lists TIED to the program's text (the seventh form; the later family's looks); each row that meets fmt, with fmt's text TOLD by the authors' own Lean function (tested against real Go, not proved from fmt's source: count such statements apart). THE CARD IS WHAT COUNTS. Prove the row's statement (the work); the ties are given (YtpkcfhjaldbmhaaDoorTie.lean); close each card by the builder's one call (the guide's Derived/Test/ToyasCard.lean, 'card_holds'). Laid BY PROGRAM, IN A SANDBOX (cutbox-door.mjs). By AI agents, Wed Nov 11 2026. No macro, syntax, notation, axiom, sorry.
-/
import Derived.Test.YtpkcfhjaldbmhaaDoorRows
import GoSem.ClaimSeven
namespace Go.Proofs.YtpkcfhjaldbmhaaDoor
namespace Rows

/-- THE TIED CARD OF 'laws.FnNetValid'. -/
def fnNetValidCard : Claim7 := { stood := { row := fnNetValidRow, standIns := [], harness := (true, "ef5e878e4103c05de78802a27bdadce3ab3cc91bee111962212022c2338af48e"), looks := true }, kinds := [], alts := [], laidByText := true, laidKinds := [.data, .data, .data], laidTests := true, laidLooks := .later }
def FnNetValidCardSaid : Prop := Claim7.holds Tryd.pinned (.plain (OpenSpec.ofChange fnNetValidSpec)) fnNetValidCard

/-- THE TIED CARD OF 'laws.FnLinesAt'. -/
def fnLinesAtCard : Claim7 := { stood := { row := fnLinesAtRow, standIns := [], harness := (true, "ef5e878e4103c05de78802a27bdadce3ab3cc91bee111962212022c2338af48e"), looks := true }, kinds := [], alts := [], laidByText := true, laidKinds := [.data, .data, .data], laidTests := true, laidLooks := .later }
def FnLinesAtCardSaid : Prop := Claim7.holds Tryd.pinned (.plain (OpenSpec.ofChange fnLinesAtSpec)) fnLinesAtCard

/-- THE TIED CARD OF 'laws.FnOtherEnd'. -/
def fnOtherEndCard : Claim7 := { stood := { row := fnOtherEndRow, standIns := [], harness := (true, "ef5e878e4103c05de78802a27bdadce3ab3cc91bee111962212022c2338af48e"), looks := true }, kinds := [], alts := [], laidByText := true, laidKinds := [.data, .data, .data], laidTests := true, laidLooks := .later }
def FnOtherEndCardSaid : Prop := Claim7.holds Tryd.pinned (.plain (OpenSpec.ofChange fnOtherEndSpec)) fnOtherEndCard

/-- THE TIED CARD OF 'laws.FnLineBetween'. -/
def fnLineBetweenCard : Claim7 := { stood := { row := fnLineBetweenRow, standIns := [], harness := (true, "ef5e878e4103c05de78802a27bdadce3ab3cc91bee111962212022c2338af48e"), looks := true }, kinds := [], alts := [], laidByText := true, laidKinds := [.data, .data, .data], laidTests := true, laidLooks := .later }
def FnLineBetweenCardSaid : Prop := Claim7.holds Tryd.pinned (.plain (OpenSpec.ofChange fnLineBetweenSpec)) fnLineBetweenCard

/-- THE TIED CARD OF 'laws.FnNetText'. -/
def fnNetTextCard : Claim7 := { stood := { row := fnNetTextRow, standIns := [], harness := (true, "ef5e878e4103c05de78802a27bdadce3ab3cc91bee111962212022c2338af48e"), looks := true }, kinds := [], alts := [], laidByText := true, laidKinds := [.data, .data, .data, .data, .sentinel, .sentinel, .pinned], laidTests := true, laidLooks := .later }
def FnNetTextCardSaid : Prop := Claim7.holds Tryd.pinned (.plain (OpenSpec.ofChange fnNetTextSpec)) fnNetTextCard

/-- THE TIED CARD OF 'laws.FnReadNet'. -/
def fnReadNetCard : Claim7 := { stood := { row := fnReadNetRow, standIns := [], harness := (true, "ef5e878e4103c05de78802a27bdadce3ab3cc91bee111962212022c2338af48e"), looks := true }, kinds := [], alts := [], laidByText := true, laidKinds := [.data, .data, .data, .data, .sentinel, .sentinel, .pinned], laidTests := true, laidLooks := .later }
def FnReadNetCardSaid : Prop := Claim7.holds Tryd.pinned (.plain (OpenSpec.ofChange fnReadNetSpec)) fnReadNetCard

/-- THE TIED CARD OF 'laws.FnExactNetText'. -/
def fnExactNetTextCard : Claim7 := { stood := { row := fnExactNetTextRow, standIns := [], harness := (true, "ef5e878e4103c05de78802a27bdadce3ab3cc91bee111962212022c2338af48e"), looks := true }, kinds := [], alts := [], laidByText := true, laidKinds := [.data, .data, .data], laidTests := true, laidLooks := .later }
def FnExactNetTextCardSaid : Prop := Claim7.holds Tryd.pinned (.plain (OpenSpec.ofChange fnExactNetTextSpec)) fnExactNetTextCard

/-- THE TIED CARD OF 'laws.FnExactReadNet'. -/
def fnExactReadNetCard : Claim7 := { stood := { row := fnExactReadNetRow, standIns := [], harness := (true, "ef5e878e4103c05de78802a27bdadce3ab3cc91bee111962212022c2338af48e"), looks := true }, kinds := [], alts := [], laidByText := true, laidKinds := [.data, .data, .data, .data, .sentinel, .sentinel, .pinned], laidTests := true, laidLooks := .later }
def FnExactReadNetCardSaid : Prop := Claim7.holds Tryd.pinned (.plain (OpenSpec.ofChange fnExactReadNetSpec)) fnExactReadNetCard

/-- THE SECOND FORM's CARD OF 'laws.FnNetValid'. -/
def fnNetValidUptoCard : Claim7 := { stood := { row := fnNetValidUptoRow, standIns := [], harness := (true, "ef5e878e4103c05de78802a27bdadce3ab3cc91bee111962212022c2338af48e"), looks := true }, kinds := [], alts := [], laidByText := true, laidKinds := [.data, .data, .data], laidTests := true, laidLooks := .later }
def FnNetValidUptoCardSaid : Prop := Claim7.holds Tryd.pinned (.plain (OpenSpec.upto fnNetValidSpec)) fnNetValidUptoCard

/-- THE SECOND FORM's CARD OF 'laws.FnLinesAt'. -/
def fnLinesAtUptoCard : Claim7 := { stood := { row := fnLinesAtUptoRow, standIns := [], harness := (true, "ef5e878e4103c05de78802a27bdadce3ab3cc91bee111962212022c2338af48e"), looks := true }, kinds := [], alts := [], laidByText := true, laidKinds := [.data, .data, .data], laidTests := true, laidLooks := .later }
def FnLinesAtUptoCardSaid : Prop := Claim7.holds Tryd.pinned (.plain (OpenSpec.upto fnLinesAtSpec)) fnLinesAtUptoCard

/-- THE SECOND FORM's CARD OF 'laws.FnOtherEnd'. -/
def fnOtherEndUptoCard : Claim7 := { stood := { row := fnOtherEndUptoRow, standIns := [], harness := (true, "ef5e878e4103c05de78802a27bdadce3ab3cc91bee111962212022c2338af48e"), looks := true }, kinds := [], alts := [], laidByText := true, laidKinds := [.data, .data, .data], laidTests := true, laidLooks := .later }
def FnOtherEndUptoCardSaid : Prop := Claim7.holds Tryd.pinned (.plain (OpenSpec.upto fnOtherEndSpec)) fnOtherEndUptoCard

/-- THE SECOND FORM's CARD OF 'laws.FnLineBetween'. -/
def fnLineBetweenUptoCard : Claim7 := { stood := { row := fnLineBetweenUptoRow, standIns := [], harness := (true, "ef5e878e4103c05de78802a27bdadce3ab3cc91bee111962212022c2338af48e"), looks := true }, kinds := [], alts := [], laidByText := true, laidKinds := [.data, .data, .data], laidTests := true, laidLooks := .later }
def FnLineBetweenUptoCardSaid : Prop := Claim7.holds Tryd.pinned (.plain (OpenSpec.upto fnLineBetweenSpec)) fnLineBetweenUptoCard

/-- THE SECOND FORM's CARD OF 'laws.FnNetText'. -/
def fnNetTextUptoCard : Claim7 := { stood := { row := fnNetTextUptoRow, standIns := [], harness := (true, "ef5e878e4103c05de78802a27bdadce3ab3cc91bee111962212022c2338af48e"), looks := true }, kinds := [], alts := [], laidByText := true, laidKinds := [.data, .data, .data, .data, .sentinel, .sentinel, .pinned], laidTests := true, laidLooks := .later }
def FnNetTextUptoCardSaid : Prop := Claim7.holds Tryd.pinned (.plain (OpenSpec.upto fnNetTextSpec)) fnNetTextUptoCard

/-- THE SECOND FORM's CARD OF 'laws.FnReadNet'. -/
def fnReadNetUptoCard : Claim7 := { stood := { row := fnReadNetUptoRow, standIns := [], harness := (true, "ef5e878e4103c05de78802a27bdadce3ab3cc91bee111962212022c2338af48e"), looks := true }, kinds := [], alts := [], laidByText := true, laidKinds := [.data, .data, .data, .data, .sentinel, .sentinel, .pinned], laidTests := true, laidLooks := .later }
def FnReadNetUptoCardSaid : Prop := Claim7.holds Tryd.pinned (.plain (OpenSpec.upto fnReadNetSpec)) fnReadNetUptoCard

/-- THE SECOND FORM's CARD OF 'laws.FnExactNetText'. -/
def fnExactNetTextUptoCard : Claim7 := { stood := { row := fnExactNetTextUptoRow, standIns := [], harness := (true, "ef5e878e4103c05de78802a27bdadce3ab3cc91bee111962212022c2338af48e"), looks := true }, kinds := [], alts := [], laidByText := true, laidKinds := [.data, .data, .data], laidTests := true, laidLooks := .later }
def FnExactNetTextUptoCardSaid : Prop := Claim7.holds Tryd.pinned (.plain (OpenSpec.upto fnExactNetTextSpec)) fnExactNetTextUptoCard

/-- THE SECOND FORM's CARD OF 'laws.FnExactReadNet'. -/
def fnExactReadNetUptoCard : Claim7 := { stood := { row := fnExactReadNetUptoRow, standIns := [], harness := (true, "ef5e878e4103c05de78802a27bdadce3ab3cc91bee111962212022c2338af48e"), looks := true }, kinds := [], alts := [], laidByText := true, laidKinds := [.data, .data, .data, .data, .sentinel, .sentinel, .pinned], laidTests := true, laidLooks := .later }
def FnExactReadNetUptoCardSaid : Prop := Claim7.holds Tryd.pinned (.plain (OpenSpec.upto fnExactReadNetSpec)) fnExactReadNetUptoCard
end Rows
end Go.Proofs.YtpkcfhjaldbmhaaDoor
