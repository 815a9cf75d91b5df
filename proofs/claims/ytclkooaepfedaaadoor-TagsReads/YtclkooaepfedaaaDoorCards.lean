/-
  DERIVED. GIVEN WITH THE SEED: THE CARDS: each row of YtclkooaepfedaaaDoorRows.lean that lists a variable, with what it lists TIED to the program's text (the seventh form; the later family's looks); each row that meets fmt, with fmt's text TOLD by the authors' own Lean function (tested against real Go, not proved from fmt's source: count such statements apart). THE CARD IS WHAT COUNTS. Prove the row's statement (the work); the ties are given (YtclkooaepfedaaaDoorTie.lean); close each card by the builder's one call (the guide's Derived/Test/ToyasCard.lean, 'card_holds'). Laid BY PROGRAM, IN A SANDBOX (cutbox-door.mjs). By AI agents, Wed Nov 11 2026. No macro, syntax, notation, axiom, sorry.
-/
import Derived.Test.YtclkooaepfedaaaDoorRows
import GoSem.ClaimSeven
namespace Go.Proofs.YtclkooaepfedaaaDoor
namespace Rows

/-- THE TIED CARD OF 'joistlaw11.TagsWrites'. -/
def tagsWritesCard : Claim7 := { stood := { row := tagsWritesRow, standIns := [], harness := (true, "5bc0af45e807d9c13abc12602da89be9273df0586d519817fd2e5c3d746a36fb"), looks := false }, kinds := [], alts := [], laidByText := true, laidKinds := [.data], laidTests := true, laidLooks := .later }
def TagsWritesCardSaid : Prop := Claim7.holds Tryd.pinned (.plain (OpenSpec.ofChange tagsWritesSpec)) tagsWritesCard

/-- THE TIED CARD OF 'joistlaw11.TagsReads'. -/
def tagsReadsCard : Claim7 := { stood := { row := tagsReadsRow, standIns := [], harness := (true, "5bc0af45e807d9c13abc12602da89be9273df0586d519817fd2e5c3d746a36fb"), looks := false }, kinds := [], alts := [], laidByText := true, laidKinds := [.data], laidTests := true, laidLooks := .later }
def TagsReadsCardSaid : Prop := Claim7.holds Tryd.pinned (.plain (OpenSpec.ofChange tagsReadsSpec)) tagsReadsCard

/-- THE TIED CARD OF 'joistlaw11.TagsBack'. -/
def tagsBackCard : Claim7 := { stood := { row := tagsBackRow, standIns := [], harness := (true, "5bc0af45e807d9c13abc12602da89be9273df0586d519817fd2e5c3d746a36fb"), looks := false }, kinds := [], alts := [], laidByText := true, laidKinds := [.data], laidTests := true, laidLooks := .later }
def TagsBackCardSaid : Prop := Claim7.holds Tryd.pinned (.plain (OpenSpec.ofChange tagsBackSpec)) tagsBackCard

/-- THE TIED CARD OF 'joistlaw11.TagsWalks'. -/
def tagsWalksCard : Claim7 := { stood := { row := tagsWalksRow, standIns := [], harness := (true, "5bc0af45e807d9c13abc12602da89be9273df0586d519817fd2e5c3d746a36fb"), looks := false }, kinds := [], alts := [], laidByText := true, laidKinds := [.data], laidTests := true, laidLooks := .later }
def TagsWalksCardSaid : Prop := Claim7.holds Tryd.pinned (.plain (OpenSpec.ofChange tagsWalksSpec)) tagsWalksCard

/-- THE TIED CARD OF 'joistlaw11.TagsLists'. -/
def tagsListsCard : Claim7 := { stood := { row := tagsListsRow, standIns := [], harness := (true, "5bc0af45e807d9c13abc12602da89be9273df0586d519817fd2e5c3d746a36fb"), looks := false }, kinds := [], alts := [], laidByText := true, laidKinds := [.data], laidTests := true, laidLooks := .later }
def TagsListsCardSaid : Prop := Claim7.holds Tryd.pinned (.plain (OpenSpec.ofChange tagsListsSpec)) tagsListsCard

/-- THE SECOND FORM's CARD OF 'joistlaw11.TagsWrites'. -/
def tagsWritesUptoCard : Claim7 := { stood := { row := tagsWritesUptoRow, standIns := [], harness := (true, "5bc0af45e807d9c13abc12602da89be9273df0586d519817fd2e5c3d746a36fb"), looks := false }, kinds := [], alts := [], laidByText := true, laidKinds := [.data], laidTests := true, laidLooks := .later }
def TagsWritesUptoCardSaid : Prop := Claim7.holds Tryd.pinned (.plain (OpenSpec.upto tagsWritesSpec)) tagsWritesUptoCard

/-- THE SECOND FORM's CARD OF 'joistlaw11.TagsReads'. -/
def tagsReadsUptoCard : Claim7 := { stood := { row := tagsReadsUptoRow, standIns := [], harness := (true, "5bc0af45e807d9c13abc12602da89be9273df0586d519817fd2e5c3d746a36fb"), looks := false }, kinds := [], alts := [], laidByText := true, laidKinds := [.data], laidTests := true, laidLooks := .later }
def TagsReadsUptoCardSaid : Prop := Claim7.holds Tryd.pinned (.plain (OpenSpec.upto tagsReadsSpec)) tagsReadsUptoCard

/-- THE SECOND FORM's CARD OF 'joistlaw11.TagsBack'. -/
def tagsBackUptoCard : Claim7 := { stood := { row := tagsBackUptoRow, standIns := [], harness := (true, "5bc0af45e807d9c13abc12602da89be9273df0586d519817fd2e5c3d746a36fb"), looks := false }, kinds := [], alts := [], laidByText := true, laidKinds := [.data], laidTests := true, laidLooks := .later }
def TagsBackUptoCardSaid : Prop := Claim7.holds Tryd.pinned (.plain (OpenSpec.upto tagsBackSpec)) tagsBackUptoCard

/-- THE SECOND FORM's CARD OF 'joistlaw11.TagsWalks'. -/
def tagsWalksUptoCard : Claim7 := { stood := { row := tagsWalksUptoRow, standIns := [], harness := (true, "5bc0af45e807d9c13abc12602da89be9273df0586d519817fd2e5c3d746a36fb"), looks := false }, kinds := [], alts := [], laidByText := true, laidKinds := [.data], laidTests := true, laidLooks := .later }
def TagsWalksUptoCardSaid : Prop := Claim7.holds Tryd.pinned (.plain (OpenSpec.upto tagsWalksSpec)) tagsWalksUptoCard

/-- THE SECOND FORM's CARD OF 'joistlaw11.TagsLists'. -/
def tagsListsUptoCard : Claim7 := { stood := { row := tagsListsUptoRow, standIns := [], harness := (true, "5bc0af45e807d9c13abc12602da89be9273df0586d519817fd2e5c3d746a36fb"), looks := false }, kinds := [], alts := [], laidByText := true, laidKinds := [.data], laidTests := true, laidLooks := .later }
def TagsListsUptoCardSaid : Prop := Claim7.holds Tryd.pinned (.plain (OpenSpec.upto tagsListsSpec)) tagsListsUptoCard
end Rows
end Go.Proofs.YtclkooaepfedaaaDoor
