/-
  DERIVED. GIVEN WITH THE SEED: THE CARDS: each row of YtapbmpodimdkpaaDoorRows.lean that lists a variable, with what it lists TIED to the program's text (the seventh form; the later family's looks); each row that meets fmt, with fmt's text TOLD by the authors' own Lean function (tested against real Go, not proved from fmt's source: count such statements apart). THE CARD IS WHAT COUNTS. Prove the row's statement (the work); the ties are given (YtapbmpodimdkpaaDoorTie.lean); close each card by the builder's one call (the guide's Derived/Test/ToyasCard.lean, 'card_holds'). Laid BY PROGRAM, IN A SANDBOX (cutbox-door.mjs). By AI agents, Wed Nov 11 2026. No macro, syntax, notation, axiom, sorry.
-/
import Derived.Test.YtapbmpodimdkpaaDoorRows
import GoSem.ClaimSeven
namespace Go.Proofs.YtapbmpodimdkpaaDoor
namespace Rows

/-- THE TIED CARD OF 'laws.FnBaySafe'. -/
def fnBaySafeCard : Claim7 := { stood := { row := fnBaySafeRow, standIns := [], harness := (true, "b75a011136de24b520924e17c81420ca395423b281e2bc2a67e62e4aaf539236"), looks := false }, kinds := [], alts := [], laidByText := true, laidKinds := [.data, .data, .data], laidTests := true, laidLooks := .later }
def FnBaySafeCardSaid : Prop := Claim7.holds Tryd.pinned (.plain (OpenSpec.ofChange fnBaySafeSpec)) fnBaySafeCard

/-- THE TIED CARD OF 'laws.FnBayMay'. -/
def fnBayMayCard : Claim7 := { stood := { row := fnBayMayRow, standIns := [], harness := (true, "b75a011136de24b520924e17c81420ca395423b281e2bc2a67e62e4aaf539236"), looks := false }, kinds := [], alts := [], laidByText := true, laidKinds := [.data, .data, .data, .data], laidTests := true, laidLooks := .later }
def FnBayMayCardSaid : Prop := Claim7.holds Tryd.pinned (.plain (OpenSpec.ofChange fnBayMaySpec)) fnBayMayCard

/-- THE TIED CARD OF 'laws.FnBayDo'. -/
def fnBayDoCard : Claim7 := { stood := { row := fnBayDoRow, standIns := [], harness := (true, "b75a011136de24b520924e17c81420ca395423b281e2bc2a67e62e4aaf539236"), looks := false }, kinds := [], alts := [], laidByText := true, laidKinds := [.data, .data, .data, .data], laidTests := true, laidLooks := .later }
def FnBayDoCardSaid : Prop := Claim7.holds Tryd.pinned (.plain (OpenSpec.ofChange fnBayDoSpec)) fnBayDoCard

/-- THE TIED CARD OF 'laws.FnBayRun'. -/
def fnBayRunCard : Claim7 := { stood := { row := fnBayRunRow, standIns := [], harness := (true, "b75a011136de24b520924e17c81420ca395423b281e2bc2a67e62e4aaf539236"), looks := false }, kinds := [], alts := [], laidByText := true, laidKinds := [.data, .data, .data, .data], laidTests := true, laidLooks := .later }
def FnBayRunCardSaid : Prop := Claim7.holds Tryd.pinned (.plain (OpenSpec.ofChange fnBayRunSpec)) fnBayRunCard

/-- THE TIED CARD OF 'laws.FnBayPlan'. -/
def fnBayPlanCard : Claim7 := { stood := { row := fnBayPlanRow, standIns := [], harness := (true, "b75a011136de24b520924e17c81420ca395423b281e2bc2a67e62e4aaf539236"), looks := false }, kinds := [], alts := [], laidByText := true, laidKinds := [.data, .data, .data, .data], laidTests := true, laidLooks := .later }
def FnBayPlanCardSaid : Prop := Claim7.holds Tryd.pinned (.plain (OpenSpec.ofChange fnBayPlanSpec)) fnBayPlanCard

/-- THE TIED CARD OF 'laws.FnExactBayMay'. -/
def fnExactBayMayCard : Claim7 := { stood := { row := fnExactBayMayRow, standIns := [], harness := (true, "b75a011136de24b520924e17c81420ca395423b281e2bc2a67e62e4aaf539236"), looks := false }, kinds := [], alts := [], laidByText := true, laidKinds := [.data], laidTests := true, laidLooks := .later }
def FnExactBayMayCardSaid : Prop := Claim7.holds Tryd.pinned (.plain (OpenSpec.ofChange fnExactBayMaySpec)) fnExactBayMayCard

/-- THE TIED CARD OF 'laws.FnExactBayDo'. -/
def fnExactBayDoCard : Claim7 := { stood := { row := fnExactBayDoRow, standIns := [], harness := (true, "b75a011136de24b520924e17c81420ca395423b281e2bc2a67e62e4aaf539236"), looks := false }, kinds := [], alts := [], laidByText := true, laidKinds := [.data], laidTests := true, laidLooks := .later }
def FnExactBayDoCardSaid : Prop := Claim7.holds Tryd.pinned (.plain (OpenSpec.ofChange fnExactBayDoSpec)) fnExactBayDoCard

/-- THE TIED CARD OF 'laws.FnExactBayRun'. -/
def fnExactBayRunCard : Claim7 := { stood := { row := fnExactBayRunRow, standIns := [], harness := (true, "b75a011136de24b520924e17c81420ca395423b281e2bc2a67e62e4aaf539236"), looks := false }, kinds := [], alts := [], laidByText := true, laidKinds := [.data], laidTests := true, laidLooks := .later }
def FnExactBayRunCardSaid : Prop := Claim7.holds Tryd.pinned (.plain (OpenSpec.ofChange fnExactBayRunSpec)) fnExactBayRunCard

/-- THE TIED CARD OF 'laws.FnExactBayPlan'. -/
def fnExactBayPlanCard : Claim7 := { stood := { row := fnExactBayPlanRow, standIns := [], harness := (true, "b75a011136de24b520924e17c81420ca395423b281e2bc2a67e62e4aaf539236"), looks := false }, kinds := [], alts := [], laidByText := true, laidKinds := [.data], laidTests := true, laidLooks := .later }
def FnExactBayPlanCardSaid : Prop := Claim7.holds Tryd.pinned (.plain (OpenSpec.ofChange fnExactBayPlanSpec)) fnExactBayPlanCard

/-- THE SECOND FORM's CARD OF 'laws.FnBaySafe'. -/
def fnBaySafeUptoCard : Claim7 := { stood := { row := fnBaySafeUptoRow, standIns := [], harness := (true, "b75a011136de24b520924e17c81420ca395423b281e2bc2a67e62e4aaf539236"), looks := false }, kinds := [], alts := [], laidByText := true, laidKinds := [.data, .data, .data], laidTests := true, laidLooks := .later }
def FnBaySafeUptoCardSaid : Prop := Claim7.holds Tryd.pinned (.plain (OpenSpec.upto fnBaySafeSpec)) fnBaySafeUptoCard

/-- THE SECOND FORM's CARD OF 'laws.FnBayMay'. -/
def fnBayMayUptoCard : Claim7 := { stood := { row := fnBayMayUptoRow, standIns := [], harness := (true, "b75a011136de24b520924e17c81420ca395423b281e2bc2a67e62e4aaf539236"), looks := false }, kinds := [], alts := [], laidByText := true, laidKinds := [.data, .data, .data, .data], laidTests := true, laidLooks := .later }
def FnBayMayUptoCardSaid : Prop := Claim7.holds Tryd.pinned (.plain (OpenSpec.upto fnBayMaySpec)) fnBayMayUptoCard

/-- THE SECOND FORM's CARD OF 'laws.FnBayDo'. -/
def fnBayDoUptoCard : Claim7 := { stood := { row := fnBayDoUptoRow, standIns := [], harness := (true, "b75a011136de24b520924e17c81420ca395423b281e2bc2a67e62e4aaf539236"), looks := false }, kinds := [], alts := [], laidByText := true, laidKinds := [.data, .data, .data, .data], laidTests := true, laidLooks := .later }
def FnBayDoUptoCardSaid : Prop := Claim7.holds Tryd.pinned (.plain (OpenSpec.upto fnBayDoSpec)) fnBayDoUptoCard

/-- THE SECOND FORM's CARD OF 'laws.FnBayRun'. -/
def fnBayRunUptoCard : Claim7 := { stood := { row := fnBayRunUptoRow, standIns := [], harness := (true, "b75a011136de24b520924e17c81420ca395423b281e2bc2a67e62e4aaf539236"), looks := false }, kinds := [], alts := [], laidByText := true, laidKinds := [.data, .data, .data, .data], laidTests := true, laidLooks := .later }
def FnBayRunUptoCardSaid : Prop := Claim7.holds Tryd.pinned (.plain (OpenSpec.upto fnBayRunSpec)) fnBayRunUptoCard

/-- THE SECOND FORM's CARD OF 'laws.FnBayPlan'. -/
def fnBayPlanUptoCard : Claim7 := { stood := { row := fnBayPlanUptoRow, standIns := [], harness := (true, "b75a011136de24b520924e17c81420ca395423b281e2bc2a67e62e4aaf539236"), looks := false }, kinds := [], alts := [], laidByText := true, laidKinds := [.data, .data, .data, .data], laidTests := true, laidLooks := .later }
def FnBayPlanUptoCardSaid : Prop := Claim7.holds Tryd.pinned (.plain (OpenSpec.upto fnBayPlanSpec)) fnBayPlanUptoCard

/-- THE SECOND FORM's CARD OF 'laws.FnExactBayMay'. -/
def fnExactBayMayUptoCard : Claim7 := { stood := { row := fnExactBayMayUptoRow, standIns := [], harness := (true, "b75a011136de24b520924e17c81420ca395423b281e2bc2a67e62e4aaf539236"), looks := false }, kinds := [], alts := [], laidByText := true, laidKinds := [.data], laidTests := true, laidLooks := .later }
def FnExactBayMayUptoCardSaid : Prop := Claim7.holds Tryd.pinned (.plain (OpenSpec.upto fnExactBayMaySpec)) fnExactBayMayUptoCard

/-- THE SECOND FORM's CARD OF 'laws.FnExactBayDo'. -/
def fnExactBayDoUptoCard : Claim7 := { stood := { row := fnExactBayDoUptoRow, standIns := [], harness := (true, "b75a011136de24b520924e17c81420ca395423b281e2bc2a67e62e4aaf539236"), looks := false }, kinds := [], alts := [], laidByText := true, laidKinds := [.data], laidTests := true, laidLooks := .later }
def FnExactBayDoUptoCardSaid : Prop := Claim7.holds Tryd.pinned (.plain (OpenSpec.upto fnExactBayDoSpec)) fnExactBayDoUptoCard

/-- THE SECOND FORM's CARD OF 'laws.FnExactBayRun'. -/
def fnExactBayRunUptoCard : Claim7 := { stood := { row := fnExactBayRunUptoRow, standIns := [], harness := (true, "b75a011136de24b520924e17c81420ca395423b281e2bc2a67e62e4aaf539236"), looks := false }, kinds := [], alts := [], laidByText := true, laidKinds := [.data], laidTests := true, laidLooks := .later }
def FnExactBayRunUptoCardSaid : Prop := Claim7.holds Tryd.pinned (.plain (OpenSpec.upto fnExactBayRunSpec)) fnExactBayRunUptoCard

/-- THE SECOND FORM's CARD OF 'laws.FnExactBayPlan'. -/
def fnExactBayPlanUptoCard : Claim7 := { stood := { row := fnExactBayPlanUptoRow, standIns := [], harness := (true, "b75a011136de24b520924e17c81420ca395423b281e2bc2a67e62e4aaf539236"), looks := false }, kinds := [], alts := [], laidByText := true, laidKinds := [.data], laidTests := true, laidLooks := .later }
def FnExactBayPlanUptoCardSaid : Prop := Claim7.holds Tryd.pinned (.plain (OpenSpec.upto fnExactBayPlanSpec)) fnExactBayPlanUptoCard
end Rows
end Go.Proofs.YtapbmpodimdkpaaDoor
