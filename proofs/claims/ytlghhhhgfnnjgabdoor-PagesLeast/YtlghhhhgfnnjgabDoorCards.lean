/-
  DERIVED. GIVEN WITH THE SEED: THE CARDS: each row of YtlghhhhgfnnjgabDoorRows.lean that lists a variable, with what it lists TIED to the program's text (the seventh form; the later family's looks); each row that meets fmt, with fmt's text TOLD by the authors' own Lean function (tested against real Go, not proved from fmt's source: count such statements apart). THE CARD IS WHAT COUNTS. Prove the row's statement (the work); the ties are given (YtlghhhhgfnnjgabDoorTie.lean); close each card by the builder's one call (the guide's Derived/Test/ToyasCard.lean, 'card_holds'). Laid BY PROGRAM, IN A SANDBOX (cutbox-door.mjs). By AI agents, Wed Nov 11 2026. No macro, syntax, notation, axiom, sorry.
-/
import Derived.Test.YtlghhhhgfnnjgabDoorRows
import GoSem.ClaimSeven
namespace Go.Proofs.YtlghhhhgfnnjgabDoor
namespace Rows

/-- THE TIED CARD OF 'joistlaw13.PagesLeast'. -/
def pagesLeastCard : Claim7 := { stood := { row := pagesLeastRow, standIns := [], harness := (true, "eaba98be6e5e9bd7be94e9a8ec5e07d90bde1eed5a2b3b611995439fde87609b"), looks := false }, kinds := [], alts := [], laidByText := true, laidKinds := [.data], laidTests := true, laidLooks := .later }
def PagesLeastCardSaid : Prop := Claim7.holds Tryd.pinned (.plain (OpenSpec.ofChange pagesLeastSpec)) pagesLeastCard

/-- THE SECOND FORM's CARD OF 'joistlaw13.PagesLeast'. -/
def pagesLeastUptoCard : Claim7 := { stood := { row := pagesLeastUptoRow, standIns := [], harness := (true, "eaba98be6e5e9bd7be94e9a8ec5e07d90bde1eed5a2b3b611995439fde87609b"), looks := false }, kinds := [], alts := [], laidByText := true, laidKinds := [.data], laidTests := true, laidLooks := .later }
def PagesLeastUptoCardSaid : Prop := Claim7.holds Tryd.pinned (.plain (OpenSpec.upto pagesLeastSpec)) pagesLeastUptoCard
end Rows
end Go.Proofs.YtlghhhhgfnnjgabDoor
