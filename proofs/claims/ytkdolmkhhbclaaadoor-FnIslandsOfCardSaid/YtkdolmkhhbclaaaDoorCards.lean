/-
  DERIVED. GIVEN WITH THE SEED: THE CARDS: each row of YtkdolmkhhbclaaaDoorRows.lean that lists a variable, with what it lists TIED to the program's text (the seventh form; the later family's looks); each row that meets fmt, with fmt's text TOLD by the authors' own Lean function (tested against real Go, not proved from fmt's source: count such statements apart). THE CARD IS WHAT COUNTS. Prove the row's statement (the work); the ties are given (YtkdolmkhhbclaaaDoorTie.lean); close each card by the builder's one call (the guide's Derived/Test/ToyasCard.lean, 'card_holds'). Laid BY PROGRAM, IN A SANDBOX (cutbox-door.mjs). By AI agents, Wed Nov 11 2026. No macro, syntax, notation, axiom, sorry.
-/
import Derived.Test.YtkdolmkhhbclaaaDoorRows
import GoSem.ClaimSeven
namespace Go.Proofs.YtkdolmkhhbclaaaDoor
namespace Rows

/-- THE TIED CARD OF 'laws.FnReached'. -/
def fnReachedCard : Claim7 := { stood := { row := fnReachedRow, standIns := [], harness := (true, "5ab356086b34e6e9d4bf7f46eb61a4872b6fc25f31a50c599486d2ec85f6aebb"), looks := false }, kinds := [], alts := [], laidByText := true, laidKinds := [.data, .data, .data], laidTests := true, laidLooks := .later }
def FnReachedCardSaid : Prop := Claim7.holds Tryd.pinned (.plain (OpenSpec.ofChange fnReachedSpec)) fnReachedCard

/-- THE TIED CARD OF 'laws.FnIslandNumbers'. -/
def fnIslandNumbersCard : Claim7 := { stood := { row := fnIslandNumbersRow, standIns := [], harness := (true, "5ab356086b34e6e9d4bf7f46eb61a4872b6fc25f31a50c599486d2ec85f6aebb"), looks := false }, kinds := [], alts := [], laidByText := true, laidKinds := [.data, .data, .data], laidTests := true, laidLooks := .later }
def FnIslandNumbersCardSaid : Prop := Claim7.holds Tryd.pinned (.plain (OpenSpec.ofChange fnIslandNumbersSpec)) fnIslandNumbersCard

/-- THE TIED CARD OF 'laws.FnIslandsOf'. -/
def fnIslandsOfCard : Claim7 := { stood := { row := fnIslandsOfRow, standIns := [], harness := (true, "5ab356086b34e6e9d4bf7f46eb61a4872b6fc25f31a50c599486d2ec85f6aebb"), looks := false }, kinds := [], alts := [], laidByText := true, laidKinds := [.data, .data, .data], laidTests := true, laidLooks := .later }
def FnIslandsOfCardSaid : Prop := Claim7.holds Tryd.pinned (.plain (OpenSpec.ofChange fnIslandsOfSpec)) fnIslandsOfCard

/-- THE TIED CARD OF 'laws.FnSameIsland'. -/
def fnSameIslandCard : Claim7 := { stood := { row := fnSameIslandRow, standIns := [], harness := (true, "5ab356086b34e6e9d4bf7f46eb61a4872b6fc25f31a50c599486d2ec85f6aebb"), looks := false }, kinds := [], alts := [], laidByText := true, laidKinds := [.data, .data, .data], laidTests := true, laidLooks := .later }
def FnSameIslandCardSaid : Prop := Claim7.holds Tryd.pinned (.plain (OpenSpec.ofChange fnSameIslandSpec)) fnSameIslandCard

/-- THE SECOND FORM's CARD OF 'laws.FnReached'. -/
def fnReachedUptoCard : Claim7 := { stood := { row := fnReachedUptoRow, standIns := [], harness := (true, "5ab356086b34e6e9d4bf7f46eb61a4872b6fc25f31a50c599486d2ec85f6aebb"), looks := false }, kinds := [], alts := [], laidByText := true, laidKinds := [.data, .data, .data], laidTests := true, laidLooks := .later }
def FnReachedUptoCardSaid : Prop := Claim7.holds Tryd.pinned (.plain (OpenSpec.upto fnReachedSpec)) fnReachedUptoCard

/-- THE SECOND FORM's CARD OF 'laws.FnIslandNumbers'. -/
def fnIslandNumbersUptoCard : Claim7 := { stood := { row := fnIslandNumbersUptoRow, standIns := [], harness := (true, "5ab356086b34e6e9d4bf7f46eb61a4872b6fc25f31a50c599486d2ec85f6aebb"), looks := false }, kinds := [], alts := [], laidByText := true, laidKinds := [.data, .data, .data], laidTests := true, laidLooks := .later }
def FnIslandNumbersUptoCardSaid : Prop := Claim7.holds Tryd.pinned (.plain (OpenSpec.upto fnIslandNumbersSpec)) fnIslandNumbersUptoCard

/-- THE SECOND FORM's CARD OF 'laws.FnIslandsOf'. -/
def fnIslandsOfUptoCard : Claim7 := { stood := { row := fnIslandsOfUptoRow, standIns := [], harness := (true, "5ab356086b34e6e9d4bf7f46eb61a4872b6fc25f31a50c599486d2ec85f6aebb"), looks := false }, kinds := [], alts := [], laidByText := true, laidKinds := [.data, .data, .data], laidTests := true, laidLooks := .later }
def FnIslandsOfUptoCardSaid : Prop := Claim7.holds Tryd.pinned (.plain (OpenSpec.upto fnIslandsOfSpec)) fnIslandsOfUptoCard

/-- THE SECOND FORM's CARD OF 'laws.FnSameIsland'. -/
def fnSameIslandUptoCard : Claim7 := { stood := { row := fnSameIslandUptoRow, standIns := [], harness := (true, "5ab356086b34e6e9d4bf7f46eb61a4872b6fc25f31a50c599486d2ec85f6aebb"), looks := false }, kinds := [], alts := [], laidByText := true, laidKinds := [.data, .data, .data], laidTests := true, laidLooks := .later }
def FnSameIslandUptoCardSaid : Prop := Claim7.holds Tryd.pinned (.plain (OpenSpec.upto fnSameIslandSpec)) fnSameIslandUptoCard
end Rows
end Go.Proofs.YtkdolmkhhbclaaaDoor
