/-
  DERIVED. GIVEN WITH THE SEED: THE CARDS: each row of YtpmkeagdoehbhaaDoorRows.lean that lists a variable, with what it lists TIED to the program's text (the seventh form; the later family's looks); each row that meets fmt, with fmt's text TOLD by the authors' own Lean function (tested against real Go, not proved from fmt's source: count such statements apart). THE CARD IS WHAT COUNTS. Prove the row's statement (the work); the ties are given (YtpmkeagdoehbhaaDoorTie.lean); close each card by the builder's one call (the guide's Derived/Test/ToyasCard.lean, 'card_holds'). Laid BY PROGRAM, IN A SANDBOX (cutbox-door.mjs). By AI agents, Wed Nov 11 2026. No macro, syntax, notation, axiom, sorry.
-/
import Derived.Test.YtpmkeagdoehbhaaDoorRows
import GoSem.ClaimSeven
namespace Go.Proofs.YtpmkeagdoehbhaaDoor
namespace Rows

/-- THE TIED CARD OF 'laws.FnDropAt'. -/
def fnDropAtCard : Claim7 := { stood := { row := fnDropAtRow, standIns := [], harness := (true, "b684981edb677c4e7488a5f77887478853d0277c3d888925f00ed2f313113ab4"), looks := false }, kinds := [], alts := [], laidByText := true, laidKinds := [.data, .data, .data], laidTests := true, laidLooks := .later }
def FnDropAtCardSaid : Prop := Claim7.holds Tryd.pinned (.plain (OpenSpec.ofChange fnDropAtSpec)) fnDropAtCard

/-- THE TIED CARD OF 'laws.FnWorstBus'. -/
def fnWorstBusCard : Claim7 := { stood := { row := fnWorstBusRow, standIns := [], harness := (true, "b684981edb677c4e7488a5f77887478853d0277c3d888925f00ed2f313113ab4"), looks := false }, kinds := [], alts := [], laidByText := true, laidKinds := [.data, .data, .data], laidTests := true, laidLooks := .later }
def FnWorstBusCardSaid : Prop := Claim7.holds Tryd.pinned (.plain (OpenSpec.ofChange fnWorstBusSpec)) fnWorstBusCard

/-- THE TIED CARD OF 'laws.FnDropsWithin'. -/
def fnDropsWithinCard : Claim7 := { stood := { row := fnDropsWithinRow, standIns := [], harness := (true, "b684981edb677c4e7488a5f77887478853d0277c3d888925f00ed2f313113ab4"), looks := false }, kinds := [], alts := [], laidByText := true, laidKinds := [.data, .data, .data], laidTests := true, laidLooks := .later }
def FnDropsWithinCardSaid : Prop := Claim7.holds Tryd.pinned (.plain (OpenSpec.ofChange fnDropsWithinSpec)) fnDropsWithinCard

/-- THE TIED CARD OF 'laws.FnRoomAt'. -/
def fnRoomAtCard : Claim7 := { stood := { row := fnRoomAtRow, standIns := [], harness := (true, "b684981edb677c4e7488a5f77887478853d0277c3d888925f00ed2f313113ab4"), looks := false }, kinds := [], alts := [], laidByText := true, laidKinds := [.data, .data, .data], laidTests := true, laidLooks := .later }
def FnRoomAtCardSaid : Prop := Claim7.holds Tryd.pinned (.plain (OpenSpec.ofChange fnRoomAtSpec)) fnRoomAtCard

/-- THE SECOND FORM's CARD OF 'laws.FnDropAt'. -/
def fnDropAtUptoCard : Claim7 := { stood := { row := fnDropAtUptoRow, standIns := [], harness := (true, "b684981edb677c4e7488a5f77887478853d0277c3d888925f00ed2f313113ab4"), looks := false }, kinds := [], alts := [], laidByText := true, laidKinds := [.data, .data, .data], laidTests := true, laidLooks := .later }
def FnDropAtUptoCardSaid : Prop := Claim7.holds Tryd.pinned (.plain (OpenSpec.upto fnDropAtSpec)) fnDropAtUptoCard

/-- THE SECOND FORM's CARD OF 'laws.FnWorstBus'. -/
def fnWorstBusUptoCard : Claim7 := { stood := { row := fnWorstBusUptoRow, standIns := [], harness := (true, "b684981edb677c4e7488a5f77887478853d0277c3d888925f00ed2f313113ab4"), looks := false }, kinds := [], alts := [], laidByText := true, laidKinds := [.data, .data, .data], laidTests := true, laidLooks := .later }
def FnWorstBusUptoCardSaid : Prop := Claim7.holds Tryd.pinned (.plain (OpenSpec.upto fnWorstBusSpec)) fnWorstBusUptoCard

/-- THE SECOND FORM's CARD OF 'laws.FnDropsWithin'. -/
def fnDropsWithinUptoCard : Claim7 := { stood := { row := fnDropsWithinUptoRow, standIns := [], harness := (true, "b684981edb677c4e7488a5f77887478853d0277c3d888925f00ed2f313113ab4"), looks := false }, kinds := [], alts := [], laidByText := true, laidKinds := [.data, .data, .data], laidTests := true, laidLooks := .later }
def FnDropsWithinUptoCardSaid : Prop := Claim7.holds Tryd.pinned (.plain (OpenSpec.upto fnDropsWithinSpec)) fnDropsWithinUptoCard

/-- THE SECOND FORM's CARD OF 'laws.FnRoomAt'. -/
def fnRoomAtUptoCard : Claim7 := { stood := { row := fnRoomAtUptoRow, standIns := [], harness := (true, "b684981edb677c4e7488a5f77887478853d0277c3d888925f00ed2f313113ab4"), looks := false }, kinds := [], alts := [], laidByText := true, laidKinds := [.data, .data, .data], laidTests := true, laidLooks := .later }
def FnRoomAtUptoCardSaid : Prop := Claim7.holds Tryd.pinned (.plain (OpenSpec.upto fnRoomAtSpec)) fnRoomAtUptoCard
end Rows
end Go.Proofs.YtpmkeagdoehbhaaDoor
