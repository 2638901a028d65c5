/-
  DERIVED. GIVEN WITH THE SEED: THE CARDS: each row of YtcgbigbbonlgfaaDoorRows.lean that lists a variable, with what it lists TIED to the program's text (the seventh form; the later family's looks); each row that meets fmt, with fmt's text TOLD by the authors' own Lean function (tested against real Go, not proved from fmt's source: count such statements apart). THE CARD IS WHAT COUNTS. Prove the row's statement (the work); the ties are given (YtcgbigbbonlgfaaDoorTie.lean); close each card by the builder's one call (the guide's Derived/Test/ToyasCard.lean, 'card_holds'). Laid BY PROGRAM, IN A SANDBOX (cutbox-door.mjs). By AI agents, Wed Nov 11 2026. No macro, syntax, notation, axiom, sorry.
-/
import Derived.Test.YtcgbigbbonlgfaaDoorRows
import GoSem.ClaimSeven
namespace Go.Proofs.YtcgbigbbonlgfaaDoor
namespace Rows

/-- THE TIED CARD OF 'laws.FnStateValid'. -/
def fnStateValidCard : Claim7 := { stood := { row := fnStateValidRow, standIns := [], harness := (true, "52254a0a789a6c5df59623a717cd4c4fad701465a2b1d1dde40196c584380376"), looks := false }, kinds := [], alts := [], laidByText := true, laidKinds := [.data, .data, .data], laidTests := true, laidLooks := .later }
def FnStateValidCardSaid : Prop := Claim7.holds Tryd.pinned (.plain (OpenSpec.ofChange fnStateValidSpec)) fnStateValidCard

/-- THE TIED CARD OF 'laws.FnStateNumber'. -/
def fnStateNumberCard : Claim7 := { stood := { row := fnStateNumberRow, standIns := [], harness := (true, "52254a0a789a6c5df59623a717cd4c4fad701465a2b1d1dde40196c584380376"), looks := false }, kinds := [], alts := [], laidByText := true, laidKinds := [.data, .data, .data], laidTests := true, laidLooks := .later }
def FnStateNumberCardSaid : Prop := Claim7.holds Tryd.pinned (.plain (OpenSpec.ofChange fnStateNumberSpec)) fnStateNumberCard

/-- THE TIED CARD OF 'laws.FnStateOf'. -/
def fnStateOfCard : Claim7 := { stood := { row := fnStateOfRow, standIns := [], harness := (true, "52254a0a789a6c5df59623a717cd4c4fad701465a2b1d1dde40196c584380376"), looks := false }, kinds := [], alts := [], laidByText := true, laidKinds := [.data, .data, .data], laidTests := true, laidLooks := .later }
def FnStateOfCardSaid : Prop := Claim7.holds Tryd.pinned (.plain (OpenSpec.ofChange fnStateOfSpec)) fnStateOfCard

/-- THE TIED CARD OF 'laws.FnSwitchLine'. -/
def fnSwitchLineCard : Claim7 := { stood := { row := fnSwitchLineRow, standIns := [], harness := (true, "52254a0a789a6c5df59623a717cd4c4fad701465a2b1d1dde40196c584380376"), looks := false }, kinds := [], alts := [], laidByText := true, laidKinds := [.data, .data, .data], laidTests := true, laidLooks := .later }
def FnSwitchLineCardSaid : Prop := Claim7.holds Tryd.pinned (.plain (OpenSpec.ofChange fnSwitchLineSpec)) fnSwitchLineCard

/-- THE TIED CARD OF 'laws.FnChanges'. -/
def fnChangesCard : Claim7 := { stood := { row := fnChangesRow, standIns := [], harness := (true, "52254a0a789a6c5df59623a717cd4c4fad701465a2b1d1dde40196c584380376"), looks := false }, kinds := [], alts := [], laidByText := true, laidKinds := [.data, .data, .data], laidTests := true, laidLooks := .later }
def FnChangesCardSaid : Prop := Claim7.holds Tryd.pinned (.plain (OpenSpec.ofChange fnChangesSpec)) fnChangesCard

/-- THE TIED CARD OF 'laws.FnChangeAll'. -/
def fnChangeAllCard : Claim7 := { stood := { row := fnChangeAllRow, standIns := [], harness := (true, "52254a0a789a6c5df59623a717cd4c4fad701465a2b1d1dde40196c584380376"), looks := false }, kinds := [], alts := [], laidByText := true, laidKinds := [.data, .data, .data], laidTests := true, laidLooks := .later }
def FnChangeAllCardSaid : Prop := Claim7.holds Tryd.pinned (.plain (OpenSpec.ofChange fnChangeAllSpec)) fnChangeAllCard

/-- THE SECOND FORM's CARD OF 'laws.FnStateValid'. -/
def fnStateValidUptoCard : Claim7 := { stood := { row := fnStateValidUptoRow, standIns := [], harness := (true, "52254a0a789a6c5df59623a717cd4c4fad701465a2b1d1dde40196c584380376"), looks := false }, kinds := [], alts := [], laidByText := true, laidKinds := [.data, .data, .data], laidTests := true, laidLooks := .later }
def FnStateValidUptoCardSaid : Prop := Claim7.holds Tryd.pinned (.plain (OpenSpec.upto fnStateValidSpec)) fnStateValidUptoCard

/-- THE SECOND FORM's CARD OF 'laws.FnStateNumber'. -/
def fnStateNumberUptoCard : Claim7 := { stood := { row := fnStateNumberUptoRow, standIns := [], harness := (true, "52254a0a789a6c5df59623a717cd4c4fad701465a2b1d1dde40196c584380376"), looks := false }, kinds := [], alts := [], laidByText := true, laidKinds := [.data, .data, .data], laidTests := true, laidLooks := .later }
def FnStateNumberUptoCardSaid : Prop := Claim7.holds Tryd.pinned (.plain (OpenSpec.upto fnStateNumberSpec)) fnStateNumberUptoCard

/-- THE SECOND FORM's CARD OF 'laws.FnStateOf'. -/
def fnStateOfUptoCard : Claim7 := { stood := { row := fnStateOfUptoRow, standIns := [], harness := (true, "52254a0a789a6c5df59623a717cd4c4fad701465a2b1d1dde40196c584380376"), looks := false }, kinds := [], alts := [], laidByText := true, laidKinds := [.data, .data, .data], laidTests := true, laidLooks := .later }
def FnStateOfUptoCardSaid : Prop := Claim7.holds Tryd.pinned (.plain (OpenSpec.upto fnStateOfSpec)) fnStateOfUptoCard

/-- THE SECOND FORM's CARD OF 'laws.FnSwitchLine'. -/
def fnSwitchLineUptoCard : Claim7 := { stood := { row := fnSwitchLineUptoRow, standIns := [], harness := (true, "52254a0a789a6c5df59623a717cd4c4fad701465a2b1d1dde40196c584380376"), looks := false }, kinds := [], alts := [], laidByText := true, laidKinds := [.data, .data, .data], laidTests := true, laidLooks := .later }
def FnSwitchLineUptoCardSaid : Prop := Claim7.holds Tryd.pinned (.plain (OpenSpec.upto fnSwitchLineSpec)) fnSwitchLineUptoCard

/-- THE SECOND FORM's CARD OF 'laws.FnChanges'. -/
def fnChangesUptoCard : Claim7 := { stood := { row := fnChangesUptoRow, standIns := [], harness := (true, "52254a0a789a6c5df59623a717cd4c4fad701465a2b1d1dde40196c584380376"), looks := false }, kinds := [], alts := [], laidByText := true, laidKinds := [.data, .data, .data], laidTests := true, laidLooks := .later }
def FnChangesUptoCardSaid : Prop := Claim7.holds Tryd.pinned (.plain (OpenSpec.upto fnChangesSpec)) fnChangesUptoCard

/-- THE SECOND FORM's CARD OF 'laws.FnChangeAll'. -/
def fnChangeAllUptoCard : Claim7 := { stood := { row := fnChangeAllUptoRow, standIns := [], harness := (true, "52254a0a789a6c5df59623a717cd4c4fad701465a2b1d1dde40196c584380376"), looks := false }, kinds := [], alts := [], laidByText := true, laidKinds := [.data, .data, .data], laidTests := true, laidLooks := .later }
def FnChangeAllUptoCardSaid : Prop := Claim7.holds Tryd.pinned (.plain (OpenSpec.upto fnChangeAllSpec)) fnChangeAllUptoCard
end Rows
end Go.Proofs.YtcgbigbbonlgfaaDoor
