/-
  DERIVED. GIVEN WITH THE SEED: THE CARDS: each row of YtfnnelkipdajiaaDoorRows.lean that lists a variable, with what it lists TIED to the program's text (the seventh form; the later family's looks); each row that meets fmt, with fmt's text TOLD by the authors' own Lean function (tested against real Go, not proved from fmt's source: count such statements apart). THE CARD IS WHAT COUNTS. Prove the row's statement (the work); the ties are given (YtfnnelkipdajiaaDoorTie.lean); close each card by the builder's one call (the guide's Derived/Test/ToyasCard.lean, 'card_holds'). Laid BY PROGRAM, IN A SANDBOX (cutbox-door.mjs). By AI agents, Wed Nov 11 2026. No macro, syntax, notation, axiom, sorry.
-/
import Derived.Test.YtfnnelkipdajiaaDoorRows
import GoSem.ClaimSeven
namespace Go.Proofs.YtfnnelkipdajiaaDoor
namespace Rows

/-- THE TIED CARD OF 'joistlaw15.SlabWrites'. -/
def slabWritesCard : Claim7 := { stood := { row := slabWritesRow, standIns := [], harness := (true, "fe4937fffc78f5134954eb9ecc44aff70c586b09b90d4bd046fdb88a5fc8f151"), looks := false }, kinds := [], alts := [], laidByText := true, laidKinds := [.data], laidTests := true, laidLooks := .later }
def SlabWritesCardSaid : Prop := Claim7.holds Tryd.pinned (.plain (OpenSpec.ofChange slabWritesSpec)) slabWritesCard

/-- THE TIED CARD OF 'joistlaw15.SlabReads'. -/
def slabReadsCard : Claim7 := { stood := { row := slabReadsRow, standIns := [], harness := (true, "fe4937fffc78f5134954eb9ecc44aff70c586b09b90d4bd046fdb88a5fc8f151"), looks := false }, kinds := [], alts := [], laidByText := true, laidKinds := [.data], laidTests := true, laidLooks := .later }
def SlabReadsCardSaid : Prop := Claim7.holds Tryd.pinned (.plain (OpenSpec.ofChange slabReadsSpec)) slabReadsCard

/-- THE TIED CARD OF 'joistlaw15.SlabBack'. -/
def slabBackCard : Claim7 := { stood := { row := slabBackRow, standIns := [], harness := (true, "fe4937fffc78f5134954eb9ecc44aff70c586b09b90d4bd046fdb88a5fc8f151"), looks := false }, kinds := [], alts := [], laidByText := true, laidKinds := [.data], laidTests := true, laidLooks := .later }
def SlabBackCardSaid : Prop := Claim7.holds Tryd.pinned (.plain (OpenSpec.ofChange slabBackSpec)) slabBackCard

/-- THE TIED CARD OF 'joistlaw15.SlabCells'. -/
def slabCellsCard : Claim7 := { stood := { row := slabCellsRow, standIns := [], harness := (true, "fe4937fffc78f5134954eb9ecc44aff70c586b09b90d4bd046fdb88a5fc8f151"), looks := false }, kinds := [], alts := [], laidByText := true, laidKinds := [.data], laidTests := true, laidLooks := .later }
def SlabCellsCardSaid : Prop := Claim7.holds Tryd.pinned (.plain (OpenSpec.ofChange slabCellsSpec)) slabCellsCard

/-- THE TIED CARD OF 'joistlaw15.SlabBits'. -/
def slabBitsCard : Claim7 := { stood := { row := slabBitsRow, standIns := [], harness := (true, "fe4937fffc78f5134954eb9ecc44aff70c586b09b90d4bd046fdb88a5fc8f151"), looks := false }, kinds := [], alts := [], laidByText := true, laidKinds := [.data], laidTests := true, laidLooks := .later }
def SlabBitsCardSaid : Prop := Claim7.holds Tryd.pinned (.plain (OpenSpec.ofChange slabBitsSpec)) slabBitsCard

/-- THE SECOND FORM's CARD OF 'joistlaw15.SlabWrites'. -/
def slabWritesUptoCard : Claim7 := { stood := { row := slabWritesUptoRow, standIns := [], harness := (true, "fe4937fffc78f5134954eb9ecc44aff70c586b09b90d4bd046fdb88a5fc8f151"), looks := false }, kinds := [], alts := [], laidByText := true, laidKinds := [.data], laidTests := true, laidLooks := .later }
def SlabWritesUptoCardSaid : Prop := Claim7.holds Tryd.pinned (.plain (OpenSpec.upto slabWritesSpec)) slabWritesUptoCard

/-- THE SECOND FORM's CARD OF 'joistlaw15.SlabReads'. -/
def slabReadsUptoCard : Claim7 := { stood := { row := slabReadsUptoRow, standIns := [], harness := (true, "fe4937fffc78f5134954eb9ecc44aff70c586b09b90d4bd046fdb88a5fc8f151"), looks := false }, kinds := [], alts := [], laidByText := true, laidKinds := [.data], laidTests := true, laidLooks := .later }
def SlabReadsUptoCardSaid : Prop := Claim7.holds Tryd.pinned (.plain (OpenSpec.upto slabReadsSpec)) slabReadsUptoCard

/-- THE SECOND FORM's CARD OF 'joistlaw15.SlabBack'. -/
def slabBackUptoCard : Claim7 := { stood := { row := slabBackUptoRow, standIns := [], harness := (true, "fe4937fffc78f5134954eb9ecc44aff70c586b09b90d4bd046fdb88a5fc8f151"), looks := false }, kinds := [], alts := [], laidByText := true, laidKinds := [.data], laidTests := true, laidLooks := .later }
def SlabBackUptoCardSaid : Prop := Claim7.holds Tryd.pinned (.plain (OpenSpec.upto slabBackSpec)) slabBackUptoCard

/-- THE SECOND FORM's CARD OF 'joistlaw15.SlabCells'. -/
def slabCellsUptoCard : Claim7 := { stood := { row := slabCellsUptoRow, standIns := [], harness := (true, "fe4937fffc78f5134954eb9ecc44aff70c586b09b90d4bd046fdb88a5fc8f151"), looks := false }, kinds := [], alts := [], laidByText := true, laidKinds := [.data], laidTests := true, laidLooks := .later }
def SlabCellsUptoCardSaid : Prop := Claim7.holds Tryd.pinned (.plain (OpenSpec.upto slabCellsSpec)) slabCellsUptoCard

/-- THE SECOND FORM's CARD OF 'joistlaw15.SlabBits'. -/
def slabBitsUptoCard : Claim7 := { stood := { row := slabBitsUptoRow, standIns := [], harness := (true, "fe4937fffc78f5134954eb9ecc44aff70c586b09b90d4bd046fdb88a5fc8f151"), looks := false }, kinds := [], alts := [], laidByText := true, laidKinds := [.data], laidTests := true, laidLooks := .later }
def SlabBitsUptoCardSaid : Prop := Claim7.holds Tryd.pinned (.plain (OpenSpec.upto slabBitsSpec)) slabBitsUptoCard
end Rows
end Go.Proofs.YtfnnelkipdajiaaDoor
