/-
  DERIVED. GIVEN WITH THE SEED: THE CARDS: each row of YtdlljmkmegineaaDoorRows.lean that lists a variable, with what it lists TIED to the program's text (the seventh form; the later family's looks); each row that meets fmt, with fmt's text TOLD by the authors' own Lean function (tested against real Go, not proved from fmt's source: count such statements apart). THE CARD IS WHAT COUNTS. Prove the row's statement (the work); the ties are given (YtdlljmkmegineaaDoorTie.lean); close each card by the builder's one call (the guide's Derived/Test/ToyasCard.lean, 'card_holds'). Laid BY PROGRAM, IN A SANDBOX (cutbox-door.mjs). By AI agents, Wed Nov 11 2026. No macro, syntax, notation, axiom, sorry.
-/
import Derived.Test.YtdlljmkmegineaaDoorRows
import GoSem.ClaimSeven
namespace Go.Proofs.YtdlljmkmegineaaDoor
namespace Rows

/-- THE TIED CARD OF 'joistlaw06.NamesTells'. -/
def namesTellsCard : Claim7 := { stood := { row := namesTellsRow, standIns := [], harness := (true, "4f5438e5e3064eda343b8723794526f0b87bc7b39624b4521f84182a9ebe1790"), looks := false }, kinds := [], alts := [], laidByText := true, laidKinds := [.data, .pinned], laidTests := true, laidLooks := .later }
def NamesTellsCardSaid : Prop := Claim7.holds Tryd.pinned (.plain (OpenSpec.ofChange namesTellsSpec)) namesTellsCard

/-- THE TIED CARD OF 'joistlaw06.NamesCodes'. -/
def namesCodesCard : Claim7 := { stood := { row := namesCodesRow, standIns := [], harness := (true, "4f5438e5e3064eda343b8723794526f0b87bc7b39624b4521f84182a9ebe1790"), looks := false }, kinds := [], alts := [], laidByText := true, laidKinds := [.data, .pinned], laidTests := true, laidLooks := .later }
def NamesCodesCardSaid : Prop := Claim7.holds Tryd.pinned (.plain (OpenSpec.ofChange namesCodesSpec)) namesCodesCard

/-- THE TIED CARD OF 'joistlaw06.NamesBack'. -/
def namesBackCard : Claim7 := { stood := { row := namesBackRow, standIns := [], harness := (true, "4f5438e5e3064eda343b8723794526f0b87bc7b39624b4521f84182a9ebe1790"), looks := false }, kinds := [], alts := [], laidByText := true, laidKinds := [.data, .pinned], laidTests := true, laidLooks := .later }
def NamesBackCardSaid : Prop := Claim7.holds Tryd.pinned (.plain (OpenSpec.ofChange namesBackSpec)) namesBackCard

/-- THE TIED CARD OF 'joistlaw06.NamesFolds'. -/
def namesFoldsCard : Claim7 := { stood := { row := namesFoldsRow, standIns := [], harness := (true, "4f5438e5e3064eda343b8723794526f0b87bc7b39624b4521f84182a9ebe1790"), looks := false }, kinds := [], alts := [], laidByText := true, laidKinds := [.data, .pinned], laidTests := true, laidLooks := .later }
def NamesFoldsCardSaid : Prop := Claim7.holds Tryd.pinned (.plain (OpenSpec.ofChange namesFoldsSpec)) namesFoldsCard

/-- THE TIED CARD OF 'joistlaw06.NamesLengths'. -/
def namesLengthsCard : Claim7 := { stood := { row := namesLengthsRow, standIns := [], harness := (true, "4f5438e5e3064eda343b8723794526f0b87bc7b39624b4521f84182a9ebe1790"), looks := false }, kinds := [], alts := [], laidByText := true, laidKinds := [.data, .pinned], laidTests := true, laidLooks := .later }
def NamesLengthsCardSaid : Prop := Claim7.holds Tryd.pinned (.plain (OpenSpec.ofChange namesLengthsSpec)) namesLengthsCard

/-- THE SECOND FORM's CARD OF 'joistlaw06.NamesTells'. -/
def namesTellsUptoCard : Claim7 := { stood := { row := namesTellsUptoRow, standIns := [], harness := (true, "4f5438e5e3064eda343b8723794526f0b87bc7b39624b4521f84182a9ebe1790"), looks := false }, kinds := [], alts := [], laidByText := true, laidKinds := [.data, .pinned], laidTests := true, laidLooks := .later }
def NamesTellsUptoCardSaid : Prop := Claim7.holds Tryd.pinned (.plain (OpenSpec.upto namesTellsSpec)) namesTellsUptoCard

/-- THE SECOND FORM's CARD OF 'joistlaw06.NamesCodes'. -/
def namesCodesUptoCard : Claim7 := { stood := { row := namesCodesUptoRow, standIns := [], harness := (true, "4f5438e5e3064eda343b8723794526f0b87bc7b39624b4521f84182a9ebe1790"), looks := false }, kinds := [], alts := [], laidByText := true, laidKinds := [.data, .pinned], laidTests := true, laidLooks := .later }
def NamesCodesUptoCardSaid : Prop := Claim7.holds Tryd.pinned (.plain (OpenSpec.upto namesCodesSpec)) namesCodesUptoCard

/-- THE SECOND FORM's CARD OF 'joistlaw06.NamesBack'. -/
def namesBackUptoCard : Claim7 := { stood := { row := namesBackUptoRow, standIns := [], harness := (true, "4f5438e5e3064eda343b8723794526f0b87bc7b39624b4521f84182a9ebe1790"), looks := false }, kinds := [], alts := [], laidByText := true, laidKinds := [.data, .pinned], laidTests := true, laidLooks := .later }
def NamesBackUptoCardSaid : Prop := Claim7.holds Tryd.pinned (.plain (OpenSpec.upto namesBackSpec)) namesBackUptoCard

/-- THE SECOND FORM's CARD OF 'joistlaw06.NamesFolds'. -/
def namesFoldsUptoCard : Claim7 := { stood := { row := namesFoldsUptoRow, standIns := [], harness := (true, "4f5438e5e3064eda343b8723794526f0b87bc7b39624b4521f84182a9ebe1790"), looks := false }, kinds := [], alts := [], laidByText := true, laidKinds := [.data, .pinned], laidTests := true, laidLooks := .later }
def NamesFoldsUptoCardSaid : Prop := Claim7.holds Tryd.pinned (.plain (OpenSpec.upto namesFoldsSpec)) namesFoldsUptoCard

/-- THE SECOND FORM's CARD OF 'joistlaw06.NamesLengths'. -/
def namesLengthsUptoCard : Claim7 := { stood := { row := namesLengthsUptoRow, standIns := [], harness := (true, "4f5438e5e3064eda343b8723794526f0b87bc7b39624b4521f84182a9ebe1790"), looks := false }, kinds := [], alts := [], laidByText := true, laidKinds := [.data, .pinned], laidTests := true, laidLooks := .later }
def NamesLengthsUptoCardSaid : Prop := Claim7.holds Tryd.pinned (.plain (OpenSpec.upto namesLengthsSpec)) namesLengthsUptoCard
end Rows
end Go.Proofs.YtdlljmkmegineaaDoor
