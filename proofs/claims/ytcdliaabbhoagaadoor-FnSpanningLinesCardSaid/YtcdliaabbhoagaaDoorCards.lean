/-
  DERIVED. GIVEN WITH THE SEED: THE CARDS: each row of YtcdliaabbhoagaaDoorRows.lean that lists a variable, with what it lists TIED to the program's text (the seventh form; the later family's looks); each row that meets fmt, with fmt's text TOLD by the authors' own Lean function (tested against real Go, not proved from fmt's source: count such statements apart). THE CARD IS WHAT COUNTS. Prove the row's statement (the work); the ties are given (YtcdliaabbhoagaaDoorTie.lean); close each card by the builder's one call (the guide's Derived/Test/ToyasCard.lean, 'card_holds'). Laid BY PROGRAM, IN A SANDBOX (cutbox-door.mjs). By AI agents, Wed Nov 11 2026. No macro, syntax, notation, axiom, sorry.
-/
import Derived.Test.YtcdliaabbhoagaaDoorRows
import GoSem.ClaimSeven
namespace Go.Proofs.YtcdliaabbhoagaaDoor
namespace Rows

/-- THE TIED CARD OF 'laws.FnHasCycle'. -/
def fnHasCycleCard : Claim7 := { stood := { row := fnHasCycleRow, standIns := [], harness := (true, "8622898982bcbfc2bd9a3c86ab606e9d6d49ab1808f1dd34f22cad44cb76ed15"), looks := false }, kinds := [], alts := [], laidByText := true, laidKinds := [.data, .data, .data], laidTests := true, laidLooks := .later }
def FnHasCycleCardSaid : Prop := Claim7.holds Tryd.pinned (.plain (OpenSpec.ofChange fnHasCycleSpec)) fnHasCycleCard

/-- THE TIED CARD OF 'laws.FnSpanningLines'. -/
def fnSpanningLinesCard : Claim7 := { stood := { row := fnSpanningLinesRow, standIns := [], harness := (true, "8622898982bcbfc2bd9a3c86ab606e9d6d49ab1808f1dd34f22cad44cb76ed15"), looks := false }, kinds := [], alts := [], laidByText := true, laidKinds := [.data, .data, .data], laidTests := true, laidLooks := .later }
def FnSpanningLinesCardSaid : Prop := Claim7.holds Tryd.pinned (.plain (OpenSpec.ofChange fnSpanningLinesSpec)) fnSpanningLinesCard

/-- THE SECOND FORM's CARD OF 'laws.FnHasCycle'. -/
def fnHasCycleUptoCard : Claim7 := { stood := { row := fnHasCycleUptoRow, standIns := [], harness := (true, "8622898982bcbfc2bd9a3c86ab606e9d6d49ab1808f1dd34f22cad44cb76ed15"), looks := false }, kinds := [], alts := [], laidByText := true, laidKinds := [.data, .data, .data], laidTests := true, laidLooks := .later }
def FnHasCycleUptoCardSaid : Prop := Claim7.holds Tryd.pinned (.plain (OpenSpec.upto fnHasCycleSpec)) fnHasCycleUptoCard

/-- THE SECOND FORM's CARD OF 'laws.FnSpanningLines'. -/
def fnSpanningLinesUptoCard : Claim7 := { stood := { row := fnSpanningLinesUptoRow, standIns := [], harness := (true, "8622898982bcbfc2bd9a3c86ab606e9d6d49ab1808f1dd34f22cad44cb76ed15"), looks := false }, kinds := [], alts := [], laidByText := true, laidKinds := [.data, .data, .data], laidTests := true, laidLooks := .later }
def FnSpanningLinesUptoCardSaid : Prop := Claim7.holds Tryd.pinned (.plain (OpenSpec.upto fnSpanningLinesSpec)) fnSpanningLinesUptoCard
end Rows
end Go.Proofs.YtcdliaabbhoagaaDoor
