/-
  DERIVED. GIVEN WITH THE SEED: THE CARDS: each row of YtfedffekbemcoaaDoorRows.lean that lists a variable, with what it lists TIED to the program's text (the seventh form; the later family's looks); each row that meets fmt, with fmt's text TOLD by the authors' own Lean function (tested against real Go, not proved from fmt's source: count such statements apart). THE CARD IS WHAT COUNTS. Prove the row's statement (the work); the ties are given (YtfedffekbemcoaaDoorTie.lean); close each card by the builder's one call (the guide's Derived/Test/ToyasCard.lean, 'card_holds'). Laid BY PROGRAM, IN A SANDBOX (cutbox-door.mjs). By AI agents, Wed Nov 11 2026. No macro, syntax, notation, axiom, sorry.
-/
import Derived.Test.YtfedffekbemcoaaDoorRows
import GoSem.ClaimSeven
namespace Go.Proofs.YtfedffekbemcoaaDoor
namespace Rows

/-- THE TIED CARD OF 'laws.FnOrderValid'. -/
def fnOrderValidCard : Claim7 := { stood := { row := fnOrderValidRow, standIns := [], harness := (true, "5dcbe44b0ddde60f942545077f4416b626ba10836f1a41a722e0ef582df5be10"), looks := true }, kinds := [], alts := [], laidByText := true, laidKinds := [.data, .data, .data], laidTests := true, laidLooks := .later }
def FnOrderValidCardSaid : Prop := Claim7.holds Tryd.pinned (.plain (OpenSpec.ofChange fnOrderValidSpec)) fnOrderValidCard

/-- THE TIED CARD OF 'laws.FnOrderText'. -/
def fnOrderTextCard : Claim7 := { stood := { row := fnOrderTextRow, standIns := [], harness := (true, "5dcbe44b0ddde60f942545077f4416b626ba10836f1a41a722e0ef582df5be10"), looks := true }, kinds := [], alts := [], laidByText := true, laidKinds := [.data, .data, .data, .data, .sentinel, .sentinel, .pinned], laidTests := true, laidLooks := .later }
def FnOrderTextCardSaid : Prop := Claim7.holds Tryd.pinned (.plain (OpenSpec.ofChange fnOrderTextSpec)) fnOrderTextCard

/-- THE TIED CARD OF 'laws.FnReadOrder'. -/
def fnReadOrderCard : Claim7 := { stood := { row := fnReadOrderRow, standIns := [], harness := (true, "5dcbe44b0ddde60f942545077f4416b626ba10836f1a41a722e0ef582df5be10"), looks := true }, kinds := [], alts := [], laidByText := true, laidKinds := [.data, .data, .data, .data, .sentinel, .sentinel, .pinned], laidTests := true, laidLooks := .later }
def FnReadOrderCardSaid : Prop := Claim7.holds Tryd.pinned (.plain (OpenSpec.ofChange fnReadOrderSpec)) fnReadOrderCard

/-- THE TIED CARD OF 'laws.FnOrderTo'. -/
def fnOrderToCard : Claim7 := { stood := { row := fnOrderToRow, standIns := [], harness := (true, "5dcbe44b0ddde60f942545077f4416b626ba10836f1a41a722e0ef582df5be10"), looks := true }, kinds := [], alts := [], laidByText := true, laidKinds := [.data, .data, .data], laidTests := true, laidLooks := .later }
def FnOrderToCardSaid : Prop := Claim7.holds Tryd.pinned (.plain (OpenSpec.ofChange fnOrderToSpec)) fnOrderToCard

/-- THE TIED CARD OF 'laws.FnOrderRun'. -/
def fnOrderRunCard : Claim7 := { stood := { row := fnOrderRunRow, standIns := [], harness := (true, "5dcbe44b0ddde60f942545077f4416b626ba10836f1a41a722e0ef582df5be10"), looks := true }, kinds := [], alts := [], laidByText := true, laidKinds := [.data, .data, .data], laidTests := true, laidLooks := .later }
def FnOrderRunCardSaid : Prop := Claim7.holds Tryd.pinned (.plain (OpenSpec.ofChange fnOrderRunSpec)) fnOrderRunCard

/-- THE TIED CARD OF 'laws.FnOrderBack'. -/
def fnOrderBackCard : Claim7 := { stood := { row := fnOrderBackRow, standIns := [], harness := (true, "5dcbe44b0ddde60f942545077f4416b626ba10836f1a41a722e0ef582df5be10"), looks := true }, kinds := [], alts := [], laidByText := true, laidKinds := [.data, .data, .data], laidTests := true, laidLooks := .later }
def FnOrderBackCardSaid : Prop := Claim7.holds Tryd.pinned (.plain (OpenSpec.ofChange fnOrderBackSpec)) fnOrderBackCard

/-- THE TIED CARD OF 'laws.FnExactOrderText'. -/
def fnExactOrderTextCard : Claim7 := { stood := { row := fnExactOrderTextRow, standIns := [], harness := (true, "5dcbe44b0ddde60f942545077f4416b626ba10836f1a41a722e0ef582df5be10"), looks := true }, kinds := [], alts := [], laidByText := true, laidKinds := [.data, .data, .data], laidTests := true, laidLooks := .later }
def FnExactOrderTextCardSaid : Prop := Claim7.holds Tryd.pinned (.plain (OpenSpec.ofChange fnExactOrderTextSpec)) fnExactOrderTextCard

/-- THE TIED CARD OF 'laws.FnExactReadOrder'. -/
def fnExactReadOrderCard : Claim7 := { stood := { row := fnExactReadOrderRow, standIns := [], harness := (true, "5dcbe44b0ddde60f942545077f4416b626ba10836f1a41a722e0ef582df5be10"), looks := true }, kinds := [], alts := [], laidByText := true, laidKinds := [.data, .data, .data, .data, .sentinel, .sentinel, .pinned], laidTests := true, laidLooks := .later }
def FnExactReadOrderCardSaid : Prop := Claim7.holds Tryd.pinned (.plain (OpenSpec.ofChange fnExactReadOrderSpec)) fnExactReadOrderCard

/-- THE SECOND FORM's CARD OF 'laws.FnOrderValid'. -/
def fnOrderValidUptoCard : Claim7 := { stood := { row := fnOrderValidUptoRow, standIns := [], harness := (true, "5dcbe44b0ddde60f942545077f4416b626ba10836f1a41a722e0ef582df5be10"), looks := true }, kinds := [], alts := [], laidByText := true, laidKinds := [.data, .data, .data], laidTests := true, laidLooks := .later }
def FnOrderValidUptoCardSaid : Prop := Claim7.holds Tryd.pinned (.plain (OpenSpec.upto fnOrderValidSpec)) fnOrderValidUptoCard

/-- THE SECOND FORM's CARD OF 'laws.FnOrderText'. -/
def fnOrderTextUptoCard : Claim7 := { stood := { row := fnOrderTextUptoRow, standIns := [], harness := (true, "5dcbe44b0ddde60f942545077f4416b626ba10836f1a41a722e0ef582df5be10"), looks := true }, kinds := [], alts := [], laidByText := true, laidKinds := [.data, .data, .data, .data, .sentinel, .sentinel, .pinned], laidTests := true, laidLooks := .later }
def FnOrderTextUptoCardSaid : Prop := Claim7.holds Tryd.pinned (.plain (OpenSpec.upto fnOrderTextSpec)) fnOrderTextUptoCard

/-- THE SECOND FORM's CARD OF 'laws.FnReadOrder'. -/
def fnReadOrderUptoCard : Claim7 := { stood := { row := fnReadOrderUptoRow, standIns := [], harness := (true, "5dcbe44b0ddde60f942545077f4416b626ba10836f1a41a722e0ef582df5be10"), looks := true }, kinds := [], alts := [], laidByText := true, laidKinds := [.data, .data, .data, .data, .sentinel, .sentinel, .pinned], laidTests := true, laidLooks := .later }
def FnReadOrderUptoCardSaid : Prop := Claim7.holds Tryd.pinned (.plain (OpenSpec.upto fnReadOrderSpec)) fnReadOrderUptoCard

/-- THE SECOND FORM's CARD OF 'laws.FnOrderTo'. -/
def fnOrderToUptoCard : Claim7 := { stood := { row := fnOrderToUptoRow, standIns := [], harness := (true, "5dcbe44b0ddde60f942545077f4416b626ba10836f1a41a722e0ef582df5be10"), looks := true }, kinds := [], alts := [], laidByText := true, laidKinds := [.data, .data, .data], laidTests := true, laidLooks := .later }
def FnOrderToUptoCardSaid : Prop := Claim7.holds Tryd.pinned (.plain (OpenSpec.upto fnOrderToSpec)) fnOrderToUptoCard

/-- THE SECOND FORM's CARD OF 'laws.FnOrderRun'. -/
def fnOrderRunUptoCard : Claim7 := { stood := { row := fnOrderRunUptoRow, standIns := [], harness := (true, "5dcbe44b0ddde60f942545077f4416b626ba10836f1a41a722e0ef582df5be10"), looks := true }, kinds := [], alts := [], laidByText := true, laidKinds := [.data, .data, .data], laidTests := true, laidLooks := .later }
def FnOrderRunUptoCardSaid : Prop := Claim7.holds Tryd.pinned (.plain (OpenSpec.upto fnOrderRunSpec)) fnOrderRunUptoCard

/-- THE SECOND FORM's CARD OF 'laws.FnOrderBack'. -/
def fnOrderBackUptoCard : Claim7 := { stood := { row := fnOrderBackUptoRow, standIns := [], harness := (true, "5dcbe44b0ddde60f942545077f4416b626ba10836f1a41a722e0ef582df5be10"), looks := true }, kinds := [], alts := [], laidByText := true, laidKinds := [.data, .data, .data], laidTests := true, laidLooks := .later }
def FnOrderBackUptoCardSaid : Prop := Claim7.holds Tryd.pinned (.plain (OpenSpec.upto fnOrderBackSpec)) fnOrderBackUptoCard

/-- THE SECOND FORM's CARD OF 'laws.FnExactOrderText'. -/
def fnExactOrderTextUptoCard : Claim7 := { stood := { row := fnExactOrderTextUptoRow, standIns := [], harness := (true, "5dcbe44b0ddde60f942545077f4416b626ba10836f1a41a722e0ef582df5be10"), looks := true }, kinds := [], alts := [], laidByText := true, laidKinds := [.data, .data, .data], laidTests := true, laidLooks := .later }
def FnExactOrderTextUptoCardSaid : Prop := Claim7.holds Tryd.pinned (.plain (OpenSpec.upto fnExactOrderTextSpec)) fnExactOrderTextUptoCard

/-- THE SECOND FORM's CARD OF 'laws.FnExactReadOrder'. -/
def fnExactReadOrderUptoCard : Claim7 := { stood := { row := fnExactReadOrderUptoRow, standIns := [], harness := (true, "5dcbe44b0ddde60f942545077f4416b626ba10836f1a41a722e0ef582df5be10"), looks := true }, kinds := [], alts := [], laidByText := true, laidKinds := [.data, .data, .data, .data, .sentinel, .sentinel, .pinned], laidTests := true, laidLooks := .later }
def FnExactReadOrderUptoCardSaid : Prop := Claim7.holds Tryd.pinned (.plain (OpenSpec.upto fnExactReadOrderSpec)) fnExactReadOrderUptoCard
end Rows
end Go.Proofs.YtfedffekbemcoaaDoor
