/-
  DERIVED. GIVEN WITH THE SEED: THE CARDS: each row of YtlghhhhgfnnjgaaDoorRows.lean that lists a variable, with what it lists TIED to the program's text (the seventh form; the later family's looks); each row that meets fmt, with fmt's text TOLD by the authors' own Lean function (tested against real Go, not proved from fmt's source: count such statements apart). THE CARD IS WHAT COUNTS. Prove the row's statement (the work); the ties are given (YtlghhhhgfnnjgaaDoorTie.lean); close each card by the builder's one call (the guide's Derived/Test/ToyasCard.lean, 'card_holds'). Laid BY PROGRAM, IN A SANDBOX (cutbox-door.mjs). By AI agents, Wed Nov 11 2026. No macro, syntax, notation, axiom, sorry.
-/
import Derived.Test.YtlghhhhgfnnjgaaDoorRows
import GoSem.ClaimSeven
namespace Go.Proofs.YtlghhhhgfnnjgaaDoor
namespace Rows

/-- THE TIED CARD OF 'joistlaw13.PagesTells'. -/
def pagesTellsCard : Claim7 := { stood := { row := pagesTellsRow, standIns := [], harness := (true, "4106bd6154e24acd6d9c3d7d5e13eb8dff2f85cbd8a18394c842bd99b29e2b58"), looks := false }, kinds := [], alts := [], laidByText := true, laidKinds := [.data], laidTests := true, laidLooks := .later }
def PagesTellsCardSaid : Prop := Claim7.holds Tryd.pinned (.plain (OpenSpec.ofChange pagesTellsSpec)) pagesTellsCard

/-- THE TIED CARD OF 'joistlaw13.PagesRuns'. -/
def pagesRunsCard : Claim7 := { stood := { row := pagesRunsRow, standIns := [], harness := (true, "4106bd6154e24acd6d9c3d7d5e13eb8dff2f85cbd8a18394c842bd99b29e2b58"), looks := false }, kinds := [], alts := [], laidByText := true, laidKinds := [.data], laidTests := true, laidLooks := .later }
def PagesRunsCardSaid : Prop := Claim7.holds Tryd.pinned (.plain (OpenSpec.ofChange pagesRunsSpec)) pagesRunsCard

/-- THE TIED CARD OF 'joistlaw13.PagesPlaces'. -/
def pagesPlacesCard : Claim7 := { stood := { row := pagesPlacesRow, standIns := [], harness := (true, "4106bd6154e24acd6d9c3d7d5e13eb8dff2f85cbd8a18394c842bd99b29e2b58"), looks := false }, kinds := [], alts := [], laidByText := true, laidKinds := [.data], laidTests := true, laidLooks := .later }
def PagesPlacesCardSaid : Prop := Claim7.holds Tryd.pinned (.plain (OpenSpec.ofChange pagesPlacesSpec)) pagesPlacesCard

/-- THE TIED CARD OF 'joistlaw13.PagesFull'. -/
def pagesFullCard : Claim7 := { stood := { row := pagesFullRow, standIns := [], harness := (true, "4106bd6154e24acd6d9c3d7d5e13eb8dff2f85cbd8a18394c842bd99b29e2b58"), looks := false }, kinds := [], alts := [], laidByText := true, laidKinds := [.data], laidTests := true, laidLooks := .later }
def PagesFullCardSaid : Prop := Claim7.holds Tryd.pinned (.plain (OpenSpec.ofChange pagesFullSpec)) pagesFullCard

/-- THE TIED CARD OF 'joistlaw13.PagesMates'. -/
def pagesMatesCard : Claim7 := { stood := { row := pagesMatesRow, standIns := [], harness := (true, "4106bd6154e24acd6d9c3d7d5e13eb8dff2f85cbd8a18394c842bd99b29e2b58"), looks := false }, kinds := [], alts := [], laidByText := true, laidKinds := [.data], laidTests := true, laidLooks := .later }
def PagesMatesCardSaid : Prop := Claim7.holds Tryd.pinned (.plain (OpenSpec.ofChange pagesMatesSpec)) pagesMatesCard

/-- THE TIED CARD OF 'joistlaw13.PagesFills'. -/
def pagesFillsCard : Claim7 := { stood := { row := pagesFillsRow, standIns := [], harness := (true, "4106bd6154e24acd6d9c3d7d5e13eb8dff2f85cbd8a18394c842bd99b29e2b58"), looks := false }, kinds := [], alts := [], laidByText := true, laidKinds := [.data], laidTests := true, laidLooks := .later }
def PagesFillsCardSaid : Prop := Claim7.holds Tryd.pinned (.plain (OpenSpec.ofChange pagesFillsSpec)) pagesFillsCard

/-- THE SECOND FORM's CARD OF 'joistlaw13.PagesTells'. -/
def pagesTellsUptoCard : Claim7 := { stood := { row := pagesTellsUptoRow, standIns := [], harness := (true, "4106bd6154e24acd6d9c3d7d5e13eb8dff2f85cbd8a18394c842bd99b29e2b58"), looks := false }, kinds := [], alts := [], laidByText := true, laidKinds := [.data], laidTests := true, laidLooks := .later }
def PagesTellsUptoCardSaid : Prop := Claim7.holds Tryd.pinned (.plain (OpenSpec.upto pagesTellsSpec)) pagesTellsUptoCard

/-- THE SECOND FORM's CARD OF 'joistlaw13.PagesRuns'. -/
def pagesRunsUptoCard : Claim7 := { stood := { row := pagesRunsUptoRow, standIns := [], harness := (true, "4106bd6154e24acd6d9c3d7d5e13eb8dff2f85cbd8a18394c842bd99b29e2b58"), looks := false }, kinds := [], alts := [], laidByText := true, laidKinds := [.data], laidTests := true, laidLooks := .later }
def PagesRunsUptoCardSaid : Prop := Claim7.holds Tryd.pinned (.plain (OpenSpec.upto pagesRunsSpec)) pagesRunsUptoCard

/-- THE SECOND FORM's CARD OF 'joistlaw13.PagesPlaces'. -/
def pagesPlacesUptoCard : Claim7 := { stood := { row := pagesPlacesUptoRow, standIns := [], harness := (true, "4106bd6154e24acd6d9c3d7d5e13eb8dff2f85cbd8a18394c842bd99b29e2b58"), looks := false }, kinds := [], alts := [], laidByText := true, laidKinds := [.data], laidTests := true, laidLooks := .later }
def PagesPlacesUptoCardSaid : Prop := Claim7.holds Tryd.pinned (.plain (OpenSpec.upto pagesPlacesSpec)) pagesPlacesUptoCard

/-- THE SECOND FORM's CARD OF 'joistlaw13.PagesFull'. -/
def pagesFullUptoCard : Claim7 := { stood := { row := pagesFullUptoRow, standIns := [], harness := (true, "4106bd6154e24acd6d9c3d7d5e13eb8dff2f85cbd8a18394c842bd99b29e2b58"), looks := false }, kinds := [], alts := [], laidByText := true, laidKinds := [.data], laidTests := true, laidLooks := .later }
def PagesFullUptoCardSaid : Prop := Claim7.holds Tryd.pinned (.plain (OpenSpec.upto pagesFullSpec)) pagesFullUptoCard

/-- THE SECOND FORM's CARD OF 'joistlaw13.PagesMates'. -/
def pagesMatesUptoCard : Claim7 := { stood := { row := pagesMatesUptoRow, standIns := [], harness := (true, "4106bd6154e24acd6d9c3d7d5e13eb8dff2f85cbd8a18394c842bd99b29e2b58"), looks := false }, kinds := [], alts := [], laidByText := true, laidKinds := [.data], laidTests := true, laidLooks := .later }
def PagesMatesUptoCardSaid : Prop := Claim7.holds Tryd.pinned (.plain (OpenSpec.upto pagesMatesSpec)) pagesMatesUptoCard

/-- THE SECOND FORM's CARD OF 'joistlaw13.PagesFills'. -/
def pagesFillsUptoCard : Claim7 := { stood := { row := pagesFillsUptoRow, standIns := [], harness := (true, "4106bd6154e24acd6d9c3d7d5e13eb8dff2f85cbd8a18394c842bd99b29e2b58"), looks := false }, kinds := [], alts := [], laidByText := true, laidKinds := [.data], laidTests := true, laidLooks := .later }
def PagesFillsUptoCardSaid : Prop := Claim7.holds Tryd.pinned (.plain (OpenSpec.upto pagesFillsSpec)) pagesFillsUptoCard
end Rows
end Go.Proofs.YtlghhhhgfnnjgaaDoor
